import PyProof.Rows.All
import Wide.All
import OpenK.AllK
import Wide.FinOn
import Lean
import PyProof.EqAt
import PyProof.EqKinds
import PyProof.TupleCall
import PyProof.Rows.TupTab
import PyProof.DictRoadsH
import PyProof.ZipIter
import PyProof.EnumMake
import PyProof.Rows.FactsT2
import PyProof.Rows.EnumRows
import PyProof.P3In
import PyProof.NeData
import KE.KUnpack
import PyProof.Rows.TupDisplay
import PyProof.Rows.SumAny
import PyProof.Rows.MinMaxN
import PyProof.Rows.ListRangeD
import PyProof.Rows.Range3
import PyProof.Rows.RuleM_int
import PyProof.Rows.SortShell
import PyProof.DictWalks
import PyProof.ListRange
import PyProof.Rows.SetFrom
import PyProof.CollectIter
import PyProof.SetRoads
import PySem.Challenge.RW_heapstill_k65_whole_two_sides
set_option Elab.async false
set_option linter.all false
set_option maxRecDepth 100000
def Za:= @Option.bind_some
def Zb:= @PySem.Heap.get?_push_of_some
def Zc:= @List.mem_cons_of_mem
def Zd:= @List.getElem?_eq_some_iff
def Ze:= @List.mem_append_right
def Zf:= @Option.map_eq_some_iff
def Zg:= @List.length_map
def Zh:= @Nat.le_refl
def Zi:= @List.mem_cons_self
def Zj:= @List.map_cons
def Zk:= @Bool.and_eq_true
def Zl:= @List.mem_range
def Zm:= @List.getElem?_set_ne
def Zn:= @List.mem_append_left
def Zo:= @PySem.Heap.get?_push_size
def Zp:= @List.getElem?_map
def Zq:= @List.mem_cons
def Zr:= @PySem.Heap.lt_size
def Zs:= @List.map_congr_left
def Zt:= @List.size_toArray
def Zu:= @List.length_append
def Zv:= @List.mem_singleton
def Zw:= @List.lookup_cons
def Zx:= @Nat.le_trans
def Zy:= @List.getElem?_set_self
def Zz:= @List.getElem?_eq_none
def ZA:= @Nat.lt_of_lt_of_le
def ZC:= @Int.emod_lt_of_pos
def ZD:= @Classical.byContradiction
def ZE:= @List.mem_filter
def ZF:= @List.sum_cons
def ZG:= @List.mem_append
def ZH:= @Int.emod_nonneg
def ZI:= @List.length_cons
def ZJ:= @Nat.pow_le_pow_right
def ZK:= @Nat.ne_of_lt
def ZL:= @List.mem_of_getElem?
def ZM:= @List.length_range
def ZN:= @List.mem_map
def ZO:= @Int.zero_mul
def ZP:= @Option.map_some
def ZQ:= @List.getElem?_eq_getElem
def ZR:= @List.map_map
def ZS:= @PyProof.Rows.callWith_type1
def ZT:= @Int.toNat_natCast
def ZU:= @Int.add_mul
def ZV:= @List.getElem?_range
def ZW:= @Int.mul_le_mul_of_nonneg_left
def ZX:= @Nat.lt_irrefl
def ZY:= @Array.length_toList
def ZZ:= @Int.mul_le_mul_of_nonneg_right
def Zaa:= @List.map_append
def Zab:= @List.count_eq_zero
def Zac:= @Nat.zero_le
def Zad:= @PySem.Heap.size_push
def Zae:= @List.getD_eq_getElem?_getD
def Zaf:= @List.eq_nil_of_length_eq_zero
def Zag:= @Bool.false_ne_true
def Zah:= @List.nodup_cons
def Zai:= @PySem.mem_of_lookup
def Zaj:= @List.replicate_succ
def Zak:= @Int.le_refl
def Zal:= @List.getElem?_append_left
def Zam:= @List.drop_eq_getElem_cons
def Zan:= @List.flatten_cons
def Zao:= @List.count_append
def Zap:= @Int.one_mul
def Zaq:= @Int.neg_mul
def Zar:= @Int.mul_assoc
def Zas:= @Int.mul_nonneg
def Zat:= @Int.mul_comm
def Zau:= @List.length_take
def Zav:= @List.all_eq_true
def Zaw:= @Nat.lt_succ_of_lt
def Zax:= @Int.mul_zero
def Zay:= @List.append_nil
def Zaz:= @List.getElem?_zip_eq_some
def ZaA:= @Array.getElem?_eq_getElem
def ZaB:= @Array.getElem?_toList
def ZaC:= @List.length_drop
def ZaD:= @List.count_pos_iff
def ZaE:= @List.nodup_nil
def ZaF:= @List.nodup_iff_count
def ZaG:= @Nat.mul_le_mul_right
def ZaH:= @Bool.not_eq_true'
def ZaI:= @List.eraseIdx_cons_succ
def ZaJ:= @PySem.Heap.get?_update_other
def ZaK:= @Nat.succ_mul
def ZaL:= @Nat.lt_succ_self
def ZaM:= @Nat.lt_of_le_of_lt
def ZaN:= @PySem.Heap.get?_update_self
def ZaO:= @List.take_append_drop
def ZaP:= @List.set_eq_take_append_cons_drop
def ZaQ:= @List.count_cons
def ZaR:= @List.ext_getElem?
def ZaS:= @PySem.F.plainAttrs_list
def ZaT:= @List.nodup_range
def ZaU:= @Int.mul_one
def ZaV:= @Int.mul_neg
def ZaW:= @Nat.ne_of_gt
def ZaX:= @List.length_set
def ZaY:= @PySem.W.kia_one
def ZaZ:= @Int.ediv_nonneg
def Zba:= @List.length_singleton
def Zbb:= @List.length_filter_le
def Zbc:= @Int.natAbs_dvd_natAbs
def Zbd:= @List.append_assoc
def Zbe:= @List.getElem?_append_right
def Zbf:= @Int.mul_add
def Zbg:= @List.map_nil
def Zbh:= @Int.add_zero
def Zbi:= @Int.zero_sub
def Zbj:= @Int.eq_of_mul_eq_mul_left
def Zbk:= @List.filterMap_cons
def Zbl:= @List.map_eq_nil_iff
def Zbm:= @List.sum_append_int
def Zbn:= @PySem.Paired.length
def Zbo:= @PyProof.noPylong_of_log2
def Zbp:= @Int.natCast_add
def Zbq:= @List.sum_append
def Zbr:= @List.mem_filterMap
def Zbs:= @Nat.eq_zero_or_pos
def Zbt:= @Nat.add_sub_cancel
def Zbu:= @Int.sub_eq_add_neg
def Zbv:= @PyProof.Rows.boot_tuple
def Zbw:= @List.nodup_append
def Zbx:= @List.take_of_length_le
def Zby:= @List.range_succ_eq_map
def Zbz:= @List.contains_iff_mem
def ZbA:= @Int.emod_add_mul_ediv
def ZbB:= @Nat.le_of_ble_eq_true
def ZbC:= @List.cons_append
def ZbD:= @List.mem_flatten
def ZbE:= @List.take_length
def ZbF:= @Prod.fst_swap
def ZbG:= @Nat.le_succ
def ZbH:= @List.count_singleton
def ZbI:= @Nat.add_le_add_right
def ZbJ:= @List.forIn_cons
def ZbK:= @PySem.F.slot_zip_next
def ZbL:= @List.nil_append
def ZbM:= @List.take_succ_cons
def ZbN:= @List.filter_eq_self
def ZbO:= @Int.fdiv_eq_ediv_of_nonneg
def ZbP:= @List.nodup_iff_pairwise_ne
def ZbQ:= @Int.natAbs_mul
def ZbR:= @List.getElem?_eq_none_iff
def ZbS:= @List.take_add_one
def ZbT:= @Int.mul_left_comm
def ZbU:= @Option.isSome_iff_exists
def ZbV:= @PySem.F.slot_list_append
def ZbW:= @PySem.F.type_list_append
def ZbX:= @Prod.snd_swap
def ZbY:= @Nat.le_of_dvd
def ZbZ:= @List.getElem?_replicate
def Zca:= @List.filter_cons
def Zcb:= @Nat.le_add_right
def Zcc:= @PySem.Heap.IsList.push
def Zcd:= @List.foldlM_cons
def Zce:= @Int.dvd_mul_of_dvd_left
def Zcf:= @PySem.W.cellsFrom_some
def Zcg:= @PyProof.Rows.boot_list
def Zch:= @List.append_eq_nil_iff
def Zci:= @Int.fmod_nonneg_of_pos
def Zcj:= @List.of_mem_zip
def Zck:= @Bool.or_eq_true
def Zcl:= @List.range_succ
def Zcm:= @List.forIn_nil
def Zcn:= @Nat.log2_lt
def Zco:= @Int.mul_le_mul
def Zcp:= @Int.neg_neg
def Zcq:= @List.any_cons
def Zcr:= @PySem.W.mg_of
def Zcs:= @Int.add_assoc
namespace L2
open PySem PySem.Spec PyProof.Rows
noncomputable abbrev Key:=Sum Int Str
noncomputable def Qhb:Key->Value->Bool
 | .inl k,v=>Value.isInt k v
 | .inr x,v=>Value.isStrOf x v
noncomputable def Qzg(w:World):Key->Int
 | .inl k=>hashInt k
 | .inr x=>hashStr w x
theorem QaX:∀{k:Key}{v:Value},Qhb k v=true->(∃i t,k=Sum.inl i/\v=Value.int i t)∨(∃x t,k=Sum.inr x/\v=Value.str x t)
 | .inl i,v,h=>by
  obtain⟨t,e⟩:=Value.isInt_shape (k:=i) (v:=v) h
  exact .inl ⟨i,t,rfl,e⟩
 | .inr x,v,h=>by
  obtain⟨t,e⟩:=Value.isStrOf_shape (x:=x) (v:=v) h
  exact .inr ⟨x,t,rfl,e⟩
theorem Qqp(i:Int)(t:Tok):Qhb (.inl i) (.int i t)=true:=by simp[Qhb,Value.isInt]
theorem QqJ(x:Str)(t:Tok):Qhb (.inr x) (.str x t)=true:=by simp[Qhb,Value.isStrOf]
theorem Qxg(a b:Int):decide ((Sum.inl a:Key)=Sum.inl b)=(a == b):=by
 by_cases e:a=b
 ·subst e;simp
 ·have h:¬(Sum.inl a:Key)=Sum.inl b:=λq=>e (Sum.inl.inj q)
  rw[decide_eq_false h]
  exact(beq_eq_false_iff_ne.mpr e).symm
theorem Qw5(a b:Str):decide ((Sum.inr a:Key)=Sum.inr b)=decide (a=b):=by
 by_cases e:a=b
 ·subst e;simp
 ·have h:¬(Sum.inr a:Key)=Sum.inr b:=λq=>e (Sum.inr.inj q)
  rw[decide_eq_false h,decide_eq_false e]
theorem QvM(a:Int)(b:Str):decide ((Sum.inl a:Key)=Sum.inr b)=false:=decide_eq_false (λq=>nomatch q)
theorem QwL(a:Str)(b:Int):decide ((Sum.inr a:Key)=Sum.inl b)=false:=decide_eq_false (λq=>nomatch q)
noncomputable def QaR(prog:Program)(w:World):PySem.KeyKind prog w Key where
 is:=Qhb
 hash:=Qzg w
 inj:=λv a b ha hb=>by
  rcases QaX ha with⟨i,t,rfl,rfl⟩ | ⟨x,t,rfl,rfl⟩
  ·rcases QaX hb with⟨j,u,rfl,e⟩ | ⟨y,u,rfl,e⟩
   ·injection e with e1 _;rw[e1]
   ·exact nomatch e
  ·rcases QaX hb with⟨j,u,rfl,e⟩ | ⟨y,u,rfl,e⟩
   ·exact nomatch e
   ·injection e with e1 _;rw[e1]
 byValue:=λk v h=>by
  rcases QaX h with⟨i,t,rfl,rfl⟩ | ⟨x,t,rfl,rfl⟩<;>rfl
 pyHash:=λhv h=>by
  rcases QaX hv with⟨i,t,rfl,rfl⟩ | ⟨x,t,rfl,rfl⟩
  ·exact wpAny_pyHash_int h
  ·exact wpAny_pyHash_str h
 eqBool:=λhu hv h=>by
  rcases QaX hu with⟨i,t,rfl,rfl⟩ | ⟨x,t,rfl,rfl⟩
  ·rcases QaX hv with⟨j,u,rfl,rfl⟩ | ⟨y,u,rfl,rfl⟩
   ·rw[Qxg]at h;exact wpAny_eqBool_int h
   ·rw[QvM]at h;exact SeqAt.EqAt.int_str i t y u _ _ _ _ h
  ·rcases QaX hv with⟨j,u,rfl,rfl⟩ | ⟨y,u,rfl,rfl⟩
   ·rw[QwL]at h;exact SeqAt.EqAt.str_int x t j u _ _ _ _ h
   ·rw[Qw5]at h;exact wpAny_eqBool_str h
 «strs» :=λk x t v h=>by
  rcases QaX h with⟨i,u,rfl,e⟩ | ⟨y,u,rfl,e⟩
  ·exact nomatch e
  ·injection e with e1 _
   subst e1
   cases v<;>rfl
theorem Qny(prog:Program)(w:World)(i:Int)(t:Tok):(QaR prog w).is (.inl i) (.int i t)=true:=Qqp i t
theorem Qnp(prog:Program)(w:World)(x:Str)(t:Tok):(QaR prog w).is (.inr x) (.str x t)=true:=QqJ x t
end L2
namespace L2
open PySem PySem.Spec PyProof.Rows
inductive V where
 | non | bl (b:Bool) | int (i:Int) | str (x:Str) | byt (b:Array UInt8) | flt (b:UInt64) | ref (a:Addr) | ty (n:String)
 deriving DecidableEq
noncomputable def RelV:V->Value->Prop
 | .non,u=>u=Value.none
 | .bl b,u=>u=Value.bool b
 | .int i,u=>∃t,u=Value.int i t
 | .str x,u=>∃t,u=Value.str x t
 | .byt b,u=>∃t,u=Value.bytes b t
 | .flt b,u=>∃t,u=Value.float b t
 | .ref a,u=>u=Value.ref a
 | .ty n,u=>u=Value.type n
noncomputable abbrev Qw:List V->List Value->Prop:=Paired RelV
theorem Qw.length{xs:List V}{us:List Value}(r:Qw xs us):xs.length=us.length:=Zbn r
theorem Qw.get:∀{xs:List V}{us:List Value}{i:Nat}{x:V},Qw xs us->xs[i]? =some x->∃u,us[i]? =some u/\RelV x u
 | _,_,_,_,.nil,e=>by simp at e
 | _,_,0,_,.cons r _,e=>by simp at e;subst e;exact⟨_,rfl,r⟩
 | _,_,i+1,x,.cons _ t,e=>by
  obtain⟨u,h1,h2⟩:=Qw.get (i:=i) (x:=x) t (by simpa using e)
  exact⟨u,by simpa using h1,h2⟩
theorem Qw.set{x:V}{u:Value}(r:RelV x u):∀{xs:List V}{us:List Value}(i:Nat),Qw xs us->Qw (xs.set i x) (us.set i u)
 | _,_,_,.nil=> .nil
 | _,_,0,.cons _ t=> .cons r t
 | _,_,i+1,.cons q t=> .cons q (Qw.set r i t)
theorem exK{α β γ δ:Type}{P Q R:α->β->γ->δ->Prop}{G:Prop}(k:∀a b c d,P a b c d->Q a b c d->R a b c d->G)(h:∃a b c d,P a b c d/\Q a b c d/\R a b c d):G:=let ⟨a,b,c,d,p,q,r⟩:=h;k a b c d p q r
theorem exJ{α β:Type}{P Q R:α->β->Prop}{G:Prop}(k:∀a b,P a b->Q a b->R a b->G)(h:∃a b,P a b/\Q a b/\R a b):G:=let ⟨a,b,p,q,r⟩:=h;k a b p q r
theorem Qw.append{xs ys:List V}{us ws:List Value}(h:Qw xs us)(s:Qw ys ws):Qw (xs++ys) (us++ws):=by
 induction h with
 | nil=>exact s
 | cons r t ih=>exact .cons r ih
theorem Qw.take:∀{xs:List V}{us:List Value}(n:Nat),Qw xs us->Qw (xs.take n) (us.take n)
 | _,_,0,_=> .nil
 | _,_,_+1,.nil=> .nil
 | _,_,n+1,.cons r t=> .cons r (Qw.take n t)
theorem Qw.drop:∀{xs:List V}{us:List Value}(n:Nat),Qw xs us->Qw (xs.drop n) (us.drop n)
 | _,_,0,r=>r
 | _,_,_+1,.nil=> .nil
 | _,_,n+1,.cons _ t=>Qw.drop n t
theorem Qw.none_of:∀{xs:List V}{us:List Value}{i:Nat},Qw xs us->xs[i]? =none->us[i]? =none:=λ{xs us i} r e=>by
 have h1:=r.length
 have h2:xs.length<=i:=ZbR.mp e
 exact ZbR.mpr (by omega)
noncomputable def Qd5:Option V->Option Value->Prop
 | some v,some u=>RelV v u
 | none,none=>True
 | _,_=>False
noncomputable def KV{κ:Type}:List (κ×V)->List (κ×Value)->Prop:=Paired λ(p:κ×V) (q:κ×Value)=>p.1=q.1/\RelV p.2 q.2
noncomputable def kV:Key->V
 | .inl i=> .int i
 | .inr x=> .str x
inductive HO where
 | lst (xs:List V)
 | tup (xs:List V)
 | dK (kvs:List (Key×V)) | dT (kvs:List (List Key×V))
 | set (S:Int->Bool) (n:Nat)
 | ins (C dx:Addr) (fs:List (Str×V))
 | own (x:Addr)
 | xd (fs:List (Str×V))
 | met (f x:Addr)
 | rng (lo hi:Int)
 | frz (o:Obj) (u:HO)
 | tbl (ps:Array Value)
 | ext (φ:Heap->Prop)
noncomputable abbrev Hp:=Addr->Option HO
noncomputable def upd(H:Hp)(a:Addr)(o:HO):Hp:=λb=>if b=a then some o else H b
theorem Q9{H:Hp}{a:Addr}{o:HO}:upd H a o a=some o:=by unfold upd;rw[if_pos rfl]
theorem QD{H:Hp}{a b:Addr}{o:HO}(h:b≠a):upd H a o b=H b:=by unfold upd;rw[if_neg h]
theorem QdS{H:Hp}{a b:Addr}{o u:HO}(h:H a=some o)(h':H b=some u)(d:o≠u):a≠b:=by
 intro e;subst e;rw[h]at h';exact d (Option.some.inj h')
theorem Qbs{H:Hp}{a b:Addr}{o:HO}(h:H a=some o)(h':H b=none):a≠b:=by
 intro e;subst e;rw[h]at h';cases h'
section
variable (P:Program) (w:World)
noncomputable def QaM(H:Hp)(h:Heap)(a:Addr):HO->Prop
 | .lst xs=>xs.length<=sizeLine/\∃(its:List Value) (n:Nat),Qw xs its/\h.get? a=some {cls:= .type "list",data:= .seq its.toArray n}
 | .tup xs=>xs.length<=sizeLine/\∃its:List Value,Qw xs its/\IsTup h a its.toArray
 | .dK kvs=>kvs.length<=sizeLine/\(a == sysModules)=false/\∃vs,KV kvs vs/\h.DictOf (QaR P w) a vs
 | .dT kvs=>kvs.length<=sizeLine/\(a == sysModules)=false/\∃xs:List (List Key×Addr×Value),
   Paired (λ(p:List Key×V) (q:List Key×Addr×Value)=>p.1=q.1/\H q.2.1=some (.tup (p.1.map kV))/\RelV p.2 q.2.2) kvs xs∧
   ∃o es ep,h.get? a=some o/\o.ExactDict/\o.data= .dict es ep/\es.toList=xs.map (entryOfKey (tupleKind (QaR P w)))/\(xs.map (·.1)).Nodup
 | .set S n=>h.SetOf (intKind P w) a S n
 | .ins C dx fs=>H dx=some (.own a)/\fs.length<=1000/\dx≠a/\h.get? a=some (PySem.W.instObj C dx)∧
   ∃mA,h.Ns1 dx mA/\(∀f,Qd5 (fs.lookup f) (mA f))/\PySem.Within mA (fs.map (·.1))
 | .own _=>∃o,h.get? a=some o
 | .xd fs=>∃mA,h.Ns1 a mA/\∀f,Qd5 (fs.lookup f) (mA f)
 | .rng lo hi=>∃t u v,h.get? a=some {cls:= .type "range",data:= .fields #[.int lo t,.int hi u,.int 1 v]}
 | .frz o u=>h.get? a=some o/\QaM H h a u
 | .tbl ps=>h.get? a=some {cls:= .none,data:= .fields ps}
 | .met f x=>h.get? a=some (PySem.W.methodObj (.ref f) (.ref x))
 | .ext φ=>φ h/\(∃o,h.get? a=some o)/\∀h1 h2:Heap,φ h1->(∀o,h1.get? a=some o->h2.get? a=some o)->φ h2
def HOk(H:Hp)(h:Heap):Prop:=∀a o,H a=some o->QaM P w H h a o
end
section
variable {P:Program}{w:World}{H H':Hp}{h h':Heap}{a:Addr}{o:HO}
theorem QaM.lt(x:QaM P w H h a o):a<h.objs.size:=by
 cases o with
 | lst xs=>obtain⟨_,_,_,_,e⟩:=x;exact Zr e
 | tup xs=>obtain⟨_,_,_,p⟩:=x;exact p.lt
 | dK kvs=>obtain⟨_,_,_,_,o,_,_,e,_⟩:=x;exact Zr e
 | dT kvs=>obtain⟨_,_,_,_,o,_,_,e,_⟩:=x;exact Zr e
 | set S n=>obtain⟨o,_,_,_,e,_⟩:=x;exact Zr e
 | ins C dx fs=>obtain⟨_,_,_,e,_⟩:=x;exact Zr e
 | own y=>obtain⟨_,e⟩:=x;exact Zr e
 | xd fs=>obtain⟨_,⟨_,_,_,e,_⟩,_⟩:=x;exact Zr e
 | rng lo hi=>obtain⟨_,_,_,e⟩:=x;exact Zr e
 | frz ob u=>obtain⟨e,_⟩:=x;exact Zr e
 | tbl ps=>exact Zr (show h.get? a=some _ from x)
 | met f y=>exact Zr (show h.get? a=some _ from x)
 | ext φ=>obtain⟨_,⟨_,e⟩,_⟩:=x;exact Zr e
theorem Paired.QsZ{α β:Type}{F G:α->β->Prop}:∀{l₁:List α}{l₂:List β},Paired F l₁ l₂->(∀a b,F a b->G a b)->Paired G l₁ l₂
 | _,_,.nil,_=> .nil
 | _,_,.cons r t,f=> .cons (f _ _ r) (Paired.QsZ t f)
theorem QaM.QgL(x:QaM P w H h a o)(k:∀b u,(b=a∨H b=some (.own a))->h.get? b=some u->h'.get? b=some u)
  (ho:∀b,H b=some (.own a)->H' b=some (.own a)) (ht:∀b xs,H b=some (.tup xs)->H' b=some (.tup xs)):QaM P w H' h' a o:=by
 induction o with
 | lst xs=>obtain⟨z,its,n,r,e⟩:=x;exact⟨z,its,n,r,k _ _ (.inl rfl) e⟩
 | tup xs=>obtain⟨z,its,r,ob,e,c⟩:=x;exact⟨z,its,r,ob,k _ _ (.inl rfl) e,c⟩
 | dK kvs=>obtain⟨z,y,vs,r,ob,es,ep,e,c⟩:=x;exact⟨z,y,vs,r,ob,es,ep,k _ _ (.inl rfl) e,c⟩
 | dT kvs=>
  obtain⟨z,y,xs,r,ob,es,ep,e,c⟩:=x
  exact⟨z,y,xs,Paired.QsZ r λp q z=>⟨z.1,ht _ _ z.2.1,z.2.2⟩,ob,es,ep,k _ _ (.inl rfl) e,c⟩
 | set S n=>obtain⟨ob,es,ep,t,e,c⟩:=x;exact⟨ob,es,ep,t,k _ _ (.inl rfl) e,c⟩
 | ins C dx fs=>
  obtain⟨d,z,ne,e,mA,⟨od,es,ep,e2,c⟩,r⟩:=x
  exact⟨ho _ d,z,ne,k _ _ (.inl rfl) e,mA,⟨od,es,ep,k _ _ (.inr d) e2,c⟩,r⟩
 | own y=>obtain⟨ob,e⟩:=x;exact⟨ob,k _ _ (.inl rfl) e⟩
 | xd fs=>obtain⟨mA,⟨od,es,ep,e,c⟩,r⟩:=x;exact⟨mA,⟨od,es,ep,k _ _ (.inl rfl) e,c⟩,r⟩
 | rng lo hi=>obtain⟨t,u,v,e⟩:=x;exact⟨t,u,v,k _ _ (.inl rfl) e⟩
 | frz ob u ih=>obtain⟨e,q⟩:=x;exact⟨k _ _ (.inl rfl) e,ih q⟩
 | tbl ps=>
  have e:h.get? a=some {cls:= .none,data:= .fields ps}:=x
  show h'.get? a=some {cls:= .none,data:= .fields ps}
  exact k a _ (.inl rfl) e
 | met f y=>
  have e:h.get? a=some (PySem.W.methodObj (.ref f) (.ref y)):=x
  show h'.get? a=some (PySem.W.methodObj (.ref f) (.ref y))
  exact k a _ (.inl rfl) e
 | ext φ=>obtain⟨p,⟨o,e⟩,st⟩:=x;exact⟨st _ _ p λo q=>k _ _ (.inl rfl) q,⟨o,k _ _ (.inl rfl) e⟩,st⟩
theorem HOk.lt(x:HOk P w H h)(e:H a=some o):a<h.objs.size:=(x a o e).lt
theorem HOk.fresh(x:HOk P w H h)(e:h.objs.size<=a):H a=none:=by
 cases q:H a with
 | none=>rfl
 | some u=>exact absurd (ZA (x.lt q) e) (ZX _)
theorem HOk.kept(x:HOk P w H h)(k:∀b u,h.get? b=some u->h'.get? b=some u):HOk P w H h':=λa o e=>
 (x a o e).QgL (λb u _ q=>k b u q) (λ_ q=>q) λ_ _ q=>q
theorem HOk.laid(x:HOk P w H h)(k:∀b u,h.get? b=some u->h'.get? b=some u)(hp:h.objs.size<=a)(new:QaM P w (upd H a o) h' a o):HOk P w (upd H a o) h':=λb u e=>by
 have hn:=x.fresh hp
 by_cases hb:b=a
 ·subst hb;rw[Q9]at e;cases e;exact new
 ·rw[QD hb]at e
  exact(x b u e).QgL (λc v _ q=>k c v q) (λc q=>by rw[QD (Qbs q hn)];exact q) λc xs q=>by rw[QD (Qbs q hn)];exact q
end
def Rd(H:Hp)(a:Addr)(u:HO):Prop:=H a=some u∨∃o,H a=some (.frz o u)
theorem Rd.of{H:Hp}{a:Addr}{u:HO}(h:H a=some u):Rd H a u:= .inl h
theorem Rd.ok{P:Program}{w:World}{H:Hp}{h:Heap}{a:Addr}{u:HO}(r:Rd H a u)(x:HOk P w H h):QaM P w H h a u:=by
 rcases r with r | ⟨o,r⟩
 ·exact x a u r
 ·obtain⟨_,q⟩:=x a _ r
  exact q
noncomputable def Mut:Option HO->Prop
 | some (.lst _)=>True
 | some (.dK _)=>True
 | some (.dT _)=>True
 | some (.set _ _)=>True
 | some (.ins _ _ _)=>True
 | some (.ext _)=>True
 | _=>False
section
variable {P:Program}{w:World}{H:Hp}{h h':Heap}{x e:Addr}{o':HO}
theorem HOk.write(ok:HOk P w H h)(mu:Mut (H x))(he:e=x∨H e=some (.own x))(k:∀b u,b≠e->h.get? b=some u->h'.get? b=some u)(heo:∃u,h'.get? e=some u)
  (new:QaM P w (upd H x o') h' x o'):HOk P w (upd H x o') h':=λb u q=>by
 have nown:∀c y,H c=some (.own y)->c≠x:=λc y r z=>by subst z;rw[r]at mu;exact mu
 have ntup:∀c xs,H c=some (.tup xs)->c≠x:=λc xs r z=>by subst z;rw[r]at mu;exact mu
 by_cases hb:b=x
 ·subst hb;rw[Q9]at q;cases q;exact new
 ·rw[QD hb]at q
  by_cases hbe:b=e
  ·have q':H b=some (.own x):=by
    rcases he with z | z
    ·exact absurd (hbe.trans z) hb
    ·rw[hbe];exact z
   rw[q]at q';cases q'
   obtain⟨v,hv⟩:=heo
   exact⟨v,by rw[hbe];exact hv⟩
  ·refine(ok b u q).QgL (λc v hc r=>k c v ?_ r) (λc r=>by rw[QD (nown c b r)];exact r) λc xs r=>by rw[QD (ntup c xs r)];exact r
   rcases hc with rfl | hc
   ·exact hbe
   ·rintro rfl
    rcases he with z | z
    ·exact nown c b hc z
    ·rw[hc]at z;cases z;exact hb rfl
end
structure Un (fs ex:List Addr) (H H':Hp) (h h':Heap):Prop where
 keep:∀b o,h.get? b=some o->H b=none->b∉fs->b∉ex->h'.get? b=some o
 slot:∀b o,h.get? b=some o->H b=none->b∈fs->b∉ex->∃sl,h'.get? b=some {o with slots:=sl}
 free:∀b o,h.get? b=some o->H b=none->b∉ex->H' b=none
 there:∀b o,h.get? b=some o->b∉ex->∃o',h'.get? b=some o'
 tups:∀b xs,H b=some (.tup xs)->H' b=some (.tup xs)
 frzs:∀b o u,H b=some (.frz o u)->H' b=some (.frz o u)
 tbls:∀b ps,H b=some (.tbl ps)->∃more,H' b=some (.tbl (ps++more))
section
variable {fs fs' ex ex':List Addr}{H H1 H2:Hp}{h h1 h2 h':Heap}{a x e:Addr}{o:HO}
theorem Un.any(u:Un fs ex H H1 h h1){b:Addr}{ob:Obj}(q:h.get? b=some ob)(n:H b=none)(hx:b∉ex):∃sl,h1.get? b=some {ob with slots:=sl}:=by
 by_cases hb:b∈fs
 ·exact u.slot b ob q n hb hx
 ·exact⟨ob.slots,u.keep b ob q n hb hx⟩
theorem Un.trans(a:Un fs ex H H1 h h1)(b:Un fs ex H1 H2 h1 h2):Un fs ex H H2 h h2 where
 keep:=λc ob q n hc hx=>b.keep c ob (a.keep c ob q n hc hx) (a.free c ob q n hx) hc hx
 slot:=λc ob q n hc hx=>by
  obtain⟨sl,e1⟩:=a.slot c ob q n hc hx
  obtain⟨sl',e2⟩:=b.slot c _ e1 (a.free c ob q n hx) hc hx
  exact⟨sl',e2⟩
 free:=λc ob q n hx=>by
  obtain⟨o',e1⟩:=a.there c ob q hx
  exact b.free c o' e1 (a.free c ob q n hx) hx
 there:=λc ob q hx=>by
  obtain⟨o',e1⟩:=a.there c ob q hx
  exact b.there c o' e1 hx
 tups:=λc xs q=>b.tups c xs (a.tups c xs q)
 frzs:=λc ob xs q=>b.frzs c ob xs (a.frzs c ob xs q)
 tbls:=λc ps q=>by
  obtain⟨m1,e1⟩:=a.tbls c ps q
  obtain⟨m2,e2⟩:=b.tbls c _ e1
  exact⟨m1++m2,by rw[e2,Array.append_assoc]⟩
theorem Un.kept(k:∀b u,h.get? b=some u->h'.get? b=some u):Un fs ex H H h h':=
 ⟨λb ob q _ _ _=>k b ob q,λb ob q _ _ _=>⟨ob.slots,k b ob q⟩,λ_ _ _ n _=>n,λb ob q _=>⟨ob,k b ob q⟩,λ_ _ q=>q,λ_ _ _ q=>q,λ_ ps q=>⟨#[],by rw[q];simp⟩⟩
theorem Un.refl:Un fs ex H H h h:=Un.kept λ_ _ q=>q
theorem Un.laid(k:∀b u,h.get? b=some u->h'.get? b=some u)(hp:h.objs.size<=a)(hn:H a=none):Un fs ex H (upd H a o) h h' where
 keep:=λb u q _ _ _=>k b u q
 slot:=λb u q _ _ _=>⟨u.slots,k b u q⟩
 free:=λb u q n _=>by rw[QD (ZK (ZA (Zr q) hp))];exact n
 there:=λb u q _=>⟨u,k b u q⟩
 tups:=λb xs q=>by rw[QD (Qbs q hn)];exact q
 frzs:=λb u xs q=>by rw[QD (Qbs q hn)];exact q
 tbls:=λb ps q=>⟨#[],by rw[QD (Qbs q hn),q];simp⟩
theorem Un.write(mu:Mut (H x))(he:e=x∨H e=some (.own x))(k:∀b u,b≠e->h.get? b=some u->h'.get? b=some u)(heo:∃u,h'.get? e=some u):Un fs ex H (upd H x o) h h':=by
 have hx:∀b,H b=none->b≠x:=λb n z=>by subst z;rw[n]at mu;exact mu
 have hb:∀b,H b=none->b≠e:=λb n z=>by
  subst z
  rcases he with r | r
  ·exact hx b n r
  ·rw[n]at r;cases r
 have hm:∀b u,H b=some u->¬Mut (some u)->b≠x:=λb u q nm z=>by subst z;rw[q]at mu;exact nm mu
 refine⟨λb u q n _ _=>k b u (hb b n) q,λb u q n _ _=>⟨u.slots,k b u (hb b n) q⟩,λb u q n _=>by rw[QD (hx b n)];exact n,λb u q _=>?_,
  λb xs q=>by rw[QD (hm b _ q λz=>z)];exact q,λb u xs q=>by rw[QD (hm b _ q λz=>z)];exact q,λb ps q=>⟨#[],by rw[QD (hm b _ q λz=>z),q];simp⟩⟩
 by_cases hbe:b=e
 ·subst hbe;exact heo
 ·exact⟨u,k b u hbe q⟩
theorem Un.mono(u:Un fs ex H H1 h h1)(hs:∀b∈fs,b∈fs')(hx:∀b∈ex,b∈ex'):Un fs' ex' H H1 h h1:=
 ⟨λb ob q n hb he=>u.keep b ob q n (λz=>hb (hs b z)) λz=>he (hx b z),λ_ _ q n _ he=>u.any q n λz=>he (hx _ z),λb ob q n he=>u.free b ob q n λz=>he (hx b z),λb ob q he=>u.there b ob q λz=>he (hx b z),u.tups,u.frzs,u.tbls⟩
end
noncomputable def trk(h:Heap)(H:Hp):List Addr:=(List.range h.objs.size).filter λa=>(H a).isSome
noncomputable def QfJ(h:Heap)(H:Hp):Heap:=PySem.W.hideAll h (trk h H)
theorem QqR(h:Heap)(H:Hp):(QfJ h H).objs.size=h.objs.size:=PySem.W.hideAll_size _ _
theorem QrN{h:Heap}{H:Hp}{b:Addr}{o:Obj}(e:h.get? b=some o)(n:H b=none):(QfJ h H).get? b=some o:=
 PySem.W.hideAll_get _ e λhm=>by
  have q:(H b).isSome=true:=(ZE.mp hm).2
  rw[n]at q;simp at q
theorem QuA{h:Heap}{H:Hp}{b:Addr}{o:Obj}(e:(QfJ h H).get? b=some o):h.get? b=some o/\H b=none:=by
 have e':h.get? b=some o:=PySem.W.of_hideAll (trk h H) e
 refine⟨e',?_⟩
 cases q:H b with
 | none=>rfl
 | some x=>
  have hm:b∈trk h H:=ZE.mpr ⟨Zl.mpr (Zr e'),by simp[q]⟩
  have z:(QfJ h H).get? b=none:=PySem.W.hideAll_none (trk h H) hm
  rw[z]at e;cases e
noncomputable def Quq(g h:Heap)(L:Addr):List (Addr×Obj):=(List.range h.objs.size).filterMap λa=>if a=L∨(g.get? a).isSome=true then none else(h.get? a).map λo=>(a,o)
noncomputable def rest(g h:Heap)(L d:Addr):List (Addr×Obj):=(Quq g h L).filter λp=>decide (p.1≠d)
end L2
namespace L2
open PySem PySem.Spec PyProof.Rows
structure Mod (K:PySem.W.Frag) (mg:Str->Option Value) (base:Heap):Prop where
 kin:K.In base
 glob:base.Ns mainGlobals mg
 blt:∃mb,base.Ns builtinsNs mb/\∀x:Str,x≠ "__name__" ->mb x=bootBuiltins x
 nolimit:base.NoLimit
structure Cx where
 prog:Program
 w:World
 K:PySem.W.Frag
 mg:Str->Option Value
 base:Heap
 A:Around
 N:List Str
 s₀:Shared
 H₀:Hp
 env:Env
 outer:List Env
 stack:List Env
 ex:List Addr
 fn:Str->Bool
 calm:Bool
 pn:List (Addr×Obj)
 xe:Value->Shared->Prop
noncomputable def frs(l:List Env):List Addr:=l.filterMap (·.frame)
noncomputable abbrev Cx.fs(X:Cx):List Addr:=frs X.outer
def Vis(sc:Scope)(x:Str):Prop:=sc.names.lookup x=some .local ∨sc.names.lookup x=some .cell∨sc.names.lookup x=some .free
def Loc(sc:Scope)(x:Str):Prop:=sc.names.lookup x=some .local ∨sc.names.lookup x=some .cell
def Look(env:Env)(h:Heap)(m:Str->Option Value)(x:Str)(u:Value):Prop:=
 (env.kindOf x=some .local /\m x=some u)∨((env.kindOf x=some .cell∨env.kindOf x=some .free)/\∃c,env.cells.lookup x=some c/\h.IsCell c (some u))
structure Cx.Ok (X:Cx):Prop where
 mod:Mod X.K X.mg X.base
 kind:X.env.scope.kind= .function
 glob:X.env.globals=mainGlobals
 blt:X.env.builtins=builtinsNs
 above:X.s₀.heap.objs.size<=X.env.locals
 inj:∀x y c,X.env.cells.lookup x=some c->X.env.cells.lookup y=some c->x=y
 has:∀x,(X.env.kindOf x=some .cell∨X.env.kindOf x=some .free)->∃c,X.env.cells.lookup x=some c
 cab:∀x c,X.fn x=true->X.env.cells.lookup x=some c->X.s₀.heap.objs.size<=c
 hd:X.calm=true->X.A.handled=none
 frames:X.A.frames=some X.stack
 stk:X.stack=X.outer∨(X.stack=X.env::X.outer/\X.env.frame=some X.env.locals)
 exf:∀b∈X.ex,b≠X.env.locals/\∀x c,X.env.cells.lookup x=some c->c≠b
 bs:∀b o,X.base.get? b=some o->X.s₀.heap.get? b=some o/\X.H₀ b=none
 bsz:X.base.objs.size<=X.s₀.heap.objs.size
 noex:∀b o,X.base.get? b=some o->b∉X.ex
 exfs:∀b∈X.ex,b∉X.fs
 QdE:X.s₀.heap.FunFrames X.base X.outer
 frf:∀b∈X.fs,X.H₀ b=none
structure Inv (X:Cx) (pins:List (Addr×Obj)) (σ:List (Option V)) (H:Hp) (s:Shared):Prop where
 ok:X.Ok
 os:s.os=X.s₀.os
 bare:AllBare s.gens
 base:Un X.fs X.ex X.H₀ H X.s₀.heap s.heap
 loc:∃m,s.heap.Ns X.env.locals m/\∀(i:Nat) (x:Str) (v:V),X.N[i]? =some x->σ[i]? =some (some v)->Vis X.env.scope x->∃u,RelV v u/\Look X.env s.heap m x u
 cell:∀x c,X.env.cells.lookup x=some c->∃v,s.heap.IsCell c v
 free:H X.env.locals=none
 freeC:∀x c,X.env.cells.lookup x=some c->H c=none
 pin:∀p∈X.pn++pins,s.heap.get? p.1=some p.2/\H p.1=none/\p.1≠X.env.locals/\p.1∉X.fs/\∀v,p.2.data≠ .cell v
 hok:HOk X.prog X.w H s.heap
 len:σ.length=X.N.length
section
variable {X:Cx}{pins:List (Addr×Obj)}{σ:List (Option V)}{H H':Hp}{s:Shared}{h':Heap}
theorem Cx.Ok.Qze(ok:X.Ok){b:Addr}{o:Obj}(e:X.base.get? b=some o):b∉X.fs:=λhb=>by
 have:=(ok.QdE.mem hb).1
 rw[e]at this;cases this
theorem Inv.bs(I:Inv X pins σ H s):∀b o,X.base.get? b=some o->s.heap.get? b=some o/\H b=none:=λb o e=>
 ⟨I.base.keep b o (I.ok.bs b o e).1 (I.ok.bs b o e).2 (I.ok.Qze e) (I.ok.noex b o e),I.base.free b o (I.ok.bs b o e).1 (I.ok.bs b o e).2 (I.ok.noex b o e)⟩
theorem Inv.bk(I:Inv X pins σ H s):∀b o,X.base.get? b=some o->s.heap.get? b=some o:=λb o e=>(I.bs b o e).1
theorem Inv.mod(I:Inv X pins σ H s):Mod X.K X.mg X.base:=I.ok.mod
theorem Inv.kIn(I:Inv X pins σ H s):X.K.In s.heap:=I.ok.mod.kin.keeps I.bk
theorem Inv.nolimit(I:Inv X pins σ H s):s.heap.NoLimit:=I.ok.mod.nolimit.keeps I.bk
theorem Inv.fr(I:Inv X pins σ H s):∃m,Fr X.base X.env.locals s.heap m:=
 let ⟨m,hn,_⟩:=I.loc
 ⟨m,hn,I.bk,Zx I.ok.bsz I.ok.above⟩
theorem Inv.lt(I:Inv X pins σ H s):X.env.locals<s.heap.objs.size:=let ⟨_,hn,_⟩:=I.loc;hn.lt
theorem Inv.sz(I:Inv X pins σ H s):X.s₀.heap.objs.size<=s.heap.objs.size:=Zx I.ok.above (Nat.le_of_lt I.lt)
theorem Inv.Qzj(I:Inv X pins σ H s){a:Addr}(h:s.heap.objs.size<=a):a∉X.fs:=λhb=>by
 obtain⟨_,o,ho,_⟩:=I.ok.QdE.mem hb
 exact absurd (ZA (Zr ho) (Zx I.sz h)) (ZX _)
theorem Inv.cne(I:Inv X pins σ H s):∀x c,X.env.cells.lookup x=some c->c≠X.env.locals:=λx c e z=>by
 obtain⟨v,o,ho,hd⟩:=I.cell x c e
 obtain⟨m,⟨o',es,ep,ho',hd',_⟩,_⟩:=I.loc
 rw[z,ho']at ho;cases ho;rw[hd']at hd;cases hd
theorem Inv.QdE(I:Inv X pins σ H s):s.heap.FunFrames X.base X.outer:=by
 have all:∀(l:List Env),(∀b∈frs l,b∈X.fs)->X.s₀.heap.FunFrames X.base l->s.heap.FunFrames X.base l:=by
  intro l
  induction l with
  | nil=>intro _ _;trivial
  | cons env r ih=>
   intro hs hl
   obtain⟨hk,⟨L,o,hf,hn,ho,hd⟩,hr⟩:=hl
   have hL:L∈X.fs:=hs L (by unfold frs;rw[Zbk,hf];exact Zi)
   obtain⟨sl,e⟩:=I.base.slot L o ho (I.ok.frf L hL) hL λz=>I.ok.exfs L z hL
   exact⟨hk,⟨L,_,hf,hn,e,hd⟩,ih (λb hb=>hs b (by unfold frs;rw[Zbk,hf];exact Zc _ hb)) hr⟩
 exact all X.outer (λ_ hb=>hb) I.ok.QdE
theorem Inv.stack(I:Inv X pins σ H s):s.heap.FunFrames X.base X.stack:=by
 rcases I.ok.stk with e | ⟨e,hf⟩
 ·rw[e];exact I.QdE
 ·rw[e]
  obtain⟨m,hn,_⟩:=I.loc
  refine .cons (by rw[I.ok.kind];decide) hf hn ?_ I.QdE
  exact Heap.get?_none_of_le (Zx I.ok.bsz I.ok.above)
theorem Inv.Qi3(I:Inv X pins σ H s):∀b∈frs X.stack,b∈X.env.locals::X.fs:=λb hb=>by
 rcases I.ok.stk with e | ⟨e,hf⟩
 ·rw[e]at hb;exact Zc _ hb
 ·rw[e]at hb
  unfold frs at hb
  rw[Zbk,hf]at hb
  exact hb
theorem Inv.Qox(I:Inv X pins σ H s):∀b∈frs X.stack,H b=none:=λb hb=>by
 rcases Zq.mp (I.Qi3 b hb)with e | hb
 ·rw[e];exact I.free
 ·obtain⟨_,o,ho,_⟩:=I.ok.QdE.mem hb
  exact I.base.free b o ho (I.ok.frf b hb) λz=>I.ok.exfs b z hb
theorem Inv.step{g':Array GenState}{t':Nat}{d':Drawn}{ch:List Addr}(I:Inv X pins σ H s)
  (hch:∀b∈ch,(b∈X.ex∨X.s₀.heap.objs.size<=b)/\b≠X.env.locals/\(∀x c,X.env.cells.lookup x=some c->c≠b)/\∀p∈X.pn++pins,p.1≠b)
  (keep:∀b o,b≠X.env.locals->b∉X.fs->b∉ch->s.heap.get? b=some o->H b=none->h'.get? b=some o)
  (slot:∀b o,b≠X.env.locals->b∈X.fs->b∉ch->s.heap.get? b=some o->H b=none->∃sl,h'.get? b=some {o with slots:=sl}) (free:∀b o,b∉ch->s.heap.get? b=some o->H b=none->H' b=none)
  (there:∀b o,b∉ch->s.heap.get? b=some o->∃o',h'.get? b=some o')
  (tups:∀b xs,H b=some (.tup xs)->H' b=some (.tup xs)) (frzs:∀b o u,H b=some (.frz o u)->H' b=some (.frz o u)) (tbls:∀b ps,H b=some (.tbl ps)->∃more,H' b=some (.tbl (ps++more)))
  (ns:∀m,s.heap.Ns X.env.locals m->h'.Ns X.env.locals m) (hok:HOk X.prog X.w H' h') (hg:AllBare g'):
  Inv X pins σ H' {s with heap:=h',gens:=g',drawn:=d',toks:=t'}:=by
 have neL:∀b o,X.s₀.heap.get? b=some o->b≠X.env.locals:=λb o e=>ZK (ZA (Zr e) I.ok.above)
 have neC:∀b o,X.s₀.heap.get? b=some o->b∉X.ex->b∉ch:=λb o e hx hb=>by
  rcases(hch b hb).1 with z | z
  ·exact hx z
  ·exact absurd (ZA (Zr e) z) (ZX _)
 have cellK:∀x c,X.env.cells.lookup x=some c->∀v,s.heap.IsCell c v->h'.IsCell c v:=λx c e v hpt=>by
  obtain⟨o,ho,hd⟩:=hpt
  have nch:c∉ch:=λz=>(hch c z).2.2.1 x c e rfl
  by_cases hc:c∈X.fs
  ·obtain⟨sl,q⟩:=slot c o (I.cne x c e) hc nch ho (I.freeC x c e)
   exact⟨_,q,hd⟩
  ·exact⟨o,keep c o (I.cne x c e) hc nch ho (I.freeC x c e),hd⟩
 refine⟨I.ok,I.os,hg,⟨λb o e n hb hx=>?_,λb o e n hb hx=>?_,λb o e n hx=>?_,λb o e hx=>?_,λb xs e=>tups b xs (I.base.tups b xs e),λb o xs e=>frzs b o xs (I.base.frzs b o xs e),λb ps e=>?_⟩,?_,λx c e=>?_,?_,λx c e=>?_,λp hp=>?_,hok,I.len⟩
 ·exact keep b o (neL b o e) hb (neC b o e hx) (I.base.keep b o e n hb hx) (I.base.free b o e n hx)
 ·obtain⟨sl,e1⟩:=I.base.slot b o e n hb hx
  obtain⟨sl',e2⟩:=slot b _ (neL b o e) hb (neC b o e hx) e1 (I.base.free b o e n hx)
  exact⟨sl',e2⟩
 ·obtain⟨o',e1⟩:=I.base.there b o e hx
  exact free b o' (neC b o e hx) e1 (I.base.free b o e n hx)
 ·obtain⟨o',e1⟩:=I.base.there b o e hx
  exact there b o' (neC b o e hx) e1
 ·obtain⟨m1,e1⟩:=I.base.tbls b ps e
  obtain⟨m2,e2⟩:=tbls b _ e1
  exact⟨m1++m2,by rw[e2,Array.append_assoc]⟩
 ·obtain⟨m,hn,hl⟩:=I.loc
  refine⟨m,ns m hn,λi x v e1 e2 e3=>?_⟩
  obtain⟨u,r,l⟩:=hl i x v e1 e2 e3
  refine⟨u,r,?_⟩
  rcases l with l | ⟨k,c,e,z⟩
  ·exact .inl l
  ·exact .inr ⟨k,c,e,cellK x c e _ z⟩
 ·obtain⟨v,z⟩:=I.cell x c e
  exact⟨v,cellK x c e v z⟩
 ·obtain⟨m,⟨o,_,_,ho,_⟩,_⟩:=I.loc
  exact free _ o (λz=>(hch _ z).2.1 rfl) ho I.free
 ·obtain⟨v,o,ho,hd⟩:=I.cell x c e
  exact free c o (λz=>(hch c z).2.2.1 x c e rfl) ho (I.freeC x c e)
 ·obtain⟨e,n,ne,nf,d⟩:=I.pin p hp
  have nch:p.1∉ch:=λz=>(hch p.1 z).2.2.2 p hp rfl
  exact⟨keep p.1 p.2 ne nf nch e n,free p.1 p.2 nch e n,ne,nf,d⟩
theorem Inv.un{t':Nat}(I:Inv X pins σ H s)(u:Un X.fs [] H H' s.heap h')(hok:HOk X.prog X.w H' h'):Inv X pins σ H' {s with heap:=h',toks:=t'}:=by
 obtain⟨m,⟨o,es,ep,ho,r⟩,_⟩:=id I.loc
 obtain⟨sl,hL⟩:=u.any ho I.free (by simp)
 exact I.step (g':=s.gens) (d':=s.drawn) (ch:=[]) (λ_ z=>nomatch z) (λb o _ hb _ e n=>u.keep b o e n hb (by simp)) (λb o _ hb _ e n=>u.slot b o e n hb (by simp)) (λb o _ e n=>u.free b o e n (by simp)) (λb o _ e=>u.there b o e (by simp)) u.tups u.frzs u.tbls (λm' hm=>by
  obtain⟨o',es',ep',ho',r'⟩:=hm
  rw[ho]at ho';cases ho'
  exact⟨_,es',ep',hL,r'⟩) hok I.bare
theorem Inv.call{g':Array GenState}{t':Nat}{d':Drawn}{ch:List Addr}(I:Inv X pins σ H s)(u:Un (frs X.stack) ch H H' s.heap h')(hok:HOk X.prog X.w H' h')(hg:AllBare g')
  (hch:∀b∈ch,(b∈X.ex∨X.s₀.heap.objs.size<=b)/\b≠X.env.locals/\(∀x c,X.env.cells.lookup x=some c->c≠b)/\∀p∈X.pn++pins,p.1≠b):
  Inv X pins σ H' {s with heap:=h',gens:=g',drawn:=d',toks:=t'}:=by
 obtain⟨m,⟨o,es,ep,ho,r⟩,_⟩:=id I.loc
 obtain⟨sl,hL⟩:=u.any ho I.free λz=>(hch _ z).2.1 rfl
 exact I.step (ch:=ch) hch (λb o hL hb hc e n=>u.keep b o e n (λz=>(Zq.mp (I.Qi3 b z)).elim hL hb) hc) (λb o _ _ hc e n=>u.any e n hc) (λb o hc e n=>u.free b o e n hc) (λb o hc e=>u.there b o e hc) u.tups u.frzs u.tbls (λm' hm=>by
  obtain⟨o',es',ep',ho',r'⟩:=hm
  rw[ho]at ho';cases ho'
  exact⟨_,es',ep',hL,r'⟩) hok hg
theorem Inv.turned{t':Nat}{it:Addr}(I:Inv X pins σ H s)(k:∀b o,b≠it->s.heap.get? b=some o->h'.get? b=some o)(hn:H it=none)(hL:it≠X.env.locals)
  (h1:it∈X.ex∨X.s₀.heap.objs.size<=it) (h2:∀x c,X.env.cells.lookup x=some c->c≠it) (h3:∀p∈X.pn++pins,p.1≠it):Inv X pins σ H {s with heap:=h',toks:=t'}:=by
 have nit:∀b u,H b=some u->b≠it:=λb u e z=>by rw[z,hn]at e;cases e
 refine I.step (g':=s.gens) (d':=s.drawn) (ch:=[it]) (λb hb=>?_) (λb o _ _ hc e _=>k b o (λz=>hc (by simp[z])) e) (λb o _ _ hc e _=>⟨o.slots,k b o (λz=>hc (by simp[z])) e⟩) (λ_ _ _ _ n=>n)
  (λb o hc e=>⟨o,k b o (λz=>hc (by simp[z])) e⟩) (λ_ _ e=>e) (λ_ _ _ e=>e) (λb ps e=>⟨#[],by rw[e];simp⟩) (λm hm=>?_) (λb u e=>?_) I.bare
 ·have e:b=it:=by simpa using hb
  subst e
  exact⟨h1,hL,h2,h3⟩
 ·obtain⟨o,es,ep,ho,r⟩:=hm
  exact⟨o,es,ep,k _ o (Ne.symm hL) ho,r⟩
 ·refine(I.hok b u e).QgL (λc v hc q=>k c v ?_ q) (λ_ q=>q) λ_ _ q=>q
  rcases hc with z | z
  ·rw[z];exact nit b u e
  ·exact nit c _ z
theorem Inv.tok(I:Inv X pins σ H s)(t:Nat):Inv X pins σ H {s with toks:=t}:=I.un (h':=s.heap) (t':=t) Un.refl I.hok
theorem Inv.kept{t':Nat}(I:Inv X pins σ H s)(k:∀b u,s.heap.get? b=some u->h'.get? b=some u):Inv X pins σ H {s with heap:=h',toks:=t'}:=I.un (Un.kept k) (I.hok.kept k)
theorem Inv.laid{a:Addr}{o:HO}{t':Nat}(I:Inv X pins σ H s)(k:∀b u,s.heap.get? b=some u->h'.get? b=some u)(hp:s.heap.objs.size<=a)(new:QaM X.prog X.w (upd H a o) h' a o):
  Inv X pins σ (upd H a o) {s with heap:=h',toks:=t'}:=I.un (Un.laid k hp (I.hok.fresh hp)) (I.hok.laid k hp new)
theorem Inv.write{x e:Addr}{o:HO}{t':Nat}(I:Inv X pins σ H s)(mu:Mut (H x))(he:e=x∨H e=some (.own x))(k:∀b u,b≠e->s.heap.get? b=some u->h'.get? b=some u)(heo:∃u,h'.get? e=some u)
  (new:QaM X.prog X.w (upd H x o) h' x o):Inv X pins σ (upd H x o) {s with heap:=h',toks:=t'}:=I.un (Un.write mu he k heo) (I.hok.write mu he k heo new)
theorem Inv.weak{σ':List (Option V)}(I:Inv X pins σ H s)(hl:σ'.length=σ.length)(w:∀(i:Nat) v,σ'[i]? =some (some v)->σ[i]? =some (some v)):Inv X pins σ' H s:=
 ⟨I.ok,I.os,I.bare,I.base,let ⟨m,hn,hl'⟩:=I.loc;⟨m,hn,λi x v e1 e2 e3=>hl' i x v e1 (w i v e2) e3⟩,I.cell,I.free,I.freeC,I.pin,I.hok,hl.trans I.len⟩
theorem Inv.Qot{pins':List (Addr×Obj)}(I:Inv X pins σ H s)(h:∀p∈pins',s.heap.get? p.1=some p.2/\H p.1=none/\p.1≠X.env.locals/\p.1∉X.fs/\∀v,p.2.data≠ .cell v):Inv X pins' σ H s:=
 ⟨I.ok,I.os,I.bare,I.base,I.loc,I.cell,I.free,I.freeC,λp hp=>(ZG.mp hp).elim (λz=>I.pin p (Zn _ z)) (h p),I.hok,I.len⟩
theorem QlX{N:List Str}(hN:N.Nodup){i j:Nat}{x:Str}(a:N[i]? =some x)(b:N[j]? =some x):i=j:=by
 obtain⟨h1,e1⟩:=Zd.mp a
 obtain⟨h2,e2⟩:=Zd.mp b
 exact(List.getElem_inj hN).mp (e1.trans e2.symm)
theorem Qkz{M:Model}{A:Around}{E:Value->Shared->Prop}{i:Nat}{x:Str}{v:V}{u:Value}{Q:Unit->Shared->Prop}(I:Inv X pins σ H s)(hN:X.N.Nodup)(hi:X.N[i]? =some x)(hx:Loc X.env.scope x)(r:RelV v u)
  (h:∀s',Inv X pins (σ.set i (some v)) H s'->(∃a,Heap.SameBut a s.heap s'.heap/\(a=X.env.locals∨X.env.cells.lookup x=some a))->Q () s') (hf:X.fn x=true∨X.env.scope.names.lookup x=some .local :=by first | exact .inl rfl | exact .inr rfl | assumption):wpAny M A (storeName X.env x u) Q E s:=by
 obtain⟨m,hn,hl⟩:=id I.loc
 have hcls:(X.env.scope.kind == .class || (X.env.scope.kind == .module && X.env.locals != X.env.globals))=false:=by rw[I.ok.kind];rfl
 have hiσ:i<σ.length:=by rw[I.len];exact(Zd.mp hi).1
 have cne:=I.cne
 have tracked:∀{a:Addr}{h':Heap},(∃o,s.heap.get? a=some o/\H a=none)->Heap.SameBut a s.heap h'->HOk X.prog X.w H h':=λ{a h'} ha hs b ob e=>by
  obtain⟨_,_,hfree⟩:=ha
  refine(I.hok b ob e).QgL (λc w' hc q=>(hs.2 c ?_).trans q) (λ_ q=>q) λ_ _ q=>q
  rintro rfl
  rcases hc with rfl | hc
  ·rw[hfree]at e;cases e
  ·rw[hfree]at hc;cases hc
 rcases hx with hk | hk
 ·refine wpAny_storeName_local hk hn (λh' hn' hs=>?_) hcls
  obtain⟨oL,_,_,hoL,_⟩:=id hn
  refine h _ ⟨I.ok,I.os,I.bare,⟨λb o e n hb hx=>?_,λb o e n hb hx=>?_,I.base.free,λb o e hx=>?_,I.base.tups,I.base.frzs,I.base.tbls⟩,⟨_,hn',λj y v' e1 e2 e3=>?_⟩,λy c e=>?_,I.free,I.freeC,λp hp=>?_,tracked ⟨oL,hoL,I.free⟩ hs,by simpa using I.len⟩ ⟨_,hs,.inl rfl⟩
  ·exact(hs.2 b (ZK (ZA (Zr e) I.ok.above))).trans (I.base.keep b o e n hb hx)
  ·obtain⟨sl,e1⟩:=I.base.slot b o e n hb hx
   exact⟨sl,(hs.2 b (ZK (ZA (Zr e) I.ok.above))).trans e1⟩
  ·obtain⟨o',e1⟩:=I.base.there b o e hx
   exact⟨o',(hs.2 b (ZK (ZA (Zr e) I.ok.above))).trans e1⟩
  ·by_cases hj:j=i
   ·subst hj
    rw[hi]at e1;cases e1
    rw[Zy hiσ]at e2
    cases e2
    exact⟨u,r,.inl ⟨hk,by simp⟩⟩
   ·rw[Zm (Ne.symm hj)]at e2
    obtain⟨u',r',q⟩:=hl j y v' e1 e2 e3
    refine⟨u',r',?_⟩
    rcases q with⟨k,e⟩ | ⟨k,c,e,z⟩
    ·refine .inl ⟨k,?_⟩
     have:y≠x:=λe=>hj (QlX hN e1 (e▸hi))
     simp[this,e]
    ·exact .inr ⟨k,c,e,z.sameBut hs (cne y c e)⟩
  ·obtain⟨w',z⟩:=I.cell y c e
   exact⟨w',z.sameBut hs (cne y c e)⟩
  ·obtain⟨e,n,ne,nf,d⟩:=I.pin p hp
   exact⟨(hs.2 p.1 ne).trans e,n,ne,nf,d⟩
 ·have hfn:X.fn x=true:=by
   rcases hf with z | z
   ·exact z
   ·rw[z]at hk;cases hk
  obtain⟨c,hc⟩:=I.ok.has x (.inl hk)
  obtain⟨w',z⟩:=I.cell x c hc
  refine wpAny_storeName_cell I.ok.kind hk hc z (λh' hc' hs=>?_)
  obtain⟨oc,hoc,hocd⟩:=id z
  refine h {s with heap:=h'} ⟨I.ok,I.os,I.bare,⟨λb o e n hb hx=>?_,λb o e n hb hx=>?_,I.base.free,λb o e hx=>?_,I.base.tups,I.base.frzs,I.base.tbls⟩,⟨m,hn.sameBut hs (Ne.symm (cne x c hc)),λj y v' e1 e2 e3=>?_⟩,λy c' e=>?_,I.free,I.freeC,λp hp=>?_,tracked ⟨oc,hoc,I.freeC x c hc⟩ hs,by simpa using I.len⟩ ⟨c,hs,.inr hc⟩
  ·exact(hs.2 b (ZK (ZA (Zr e) (I.ok.cab x c hfn hc)))).trans (I.base.keep b o e n hb hx)
  ·obtain⟨sl,e1⟩:=I.base.slot b o e n hb hx
   exact⟨sl,(hs.2 b (ZK (ZA (Zr e) (I.ok.cab x c hfn hc)))).trans e1⟩
  ·obtain⟨o',e1⟩:=I.base.there b o e hx
   exact⟨o',(hs.2 b (ZK (ZA (Zr e) (I.ok.cab x c hfn hc)))).trans e1⟩
  ·by_cases hj:j=i
   ·subst hj
    rw[hi]at e1;cases e1
    rw[Zy hiσ]at e2
    cases e2
    exact⟨u,r,.inr ⟨.inl hk,c,hc,hc'⟩⟩
   ·rw[Zm (Ne.symm hj)]at e2
    obtain⟨u',r',q⟩:=hl j y v' e1 e2 e3
    refine⟨u',r',?_⟩
    rcases q with q | ⟨k,c',e,z'⟩
    ·exact .inl q
    ·refine .inr ⟨k,c',e,z'.sameBut hs ?_⟩
     rintro rfl
     exact hj (QlX hN e1 (I.ok.inj _ _ _ e hc▸hi))
  ·by_cases hcc:c'=c
   ·subst hcc;exact⟨_,hc'⟩
   ·obtain⟨w2,z2⟩:=I.cell y c' e
    exact⟨w2,z2.sameBut hs hcc⟩
  ·obtain⟨e,n,ne,nf,d⟩:=I.pin p hp
   refine⟨(hs.2 p.1 ?_).trans e,n,ne,nf,d⟩
   intro q
   rw[q,hoc]at e
   have q':oc=p.2:=Option.some.inj e
   exact d w' (by rw[← q'];exact hocd)
theorem QhZ{M:Model}{A:Around}{E:Value->Shared->Prop}{i:Nat}{x:Str}{v:V}{u:Value}{Q:Unit->Shared->Prop}(I:Inv X pins σ H s)(hN:X.N.Nodup)(hi:X.N[i]? =some x)(hx:Loc X.env.scope x)(r:RelV v u)
  (h:∀s',Inv X pins (σ.set i (some v)) H s'->Q () s') (hf:X.fn x=true∨X.env.scope.names.lookup x=some .local :=by first | exact .inl rfl | exact .inr rfl | assumption):wpAny M A (storeName X.env x u) Q E s:=
 Qkz I hN hi hx r (λs' I' _=>h s' I') hf
theorem Inv.Qyd{s':Shared}{ch:List Addr}(I:Inv X pins σ H s)(ho:s'.os=s.os)(u:Un (frs X.stack) ch H H' s.heap s'.heap)(hok:HOk X.prog X.w H' s'.heap)(hg:AllBare s'.gens)
  (hch:∀b∈ch,(b∈X.ex∨X.s₀.heap.objs.size<=b)/\b≠X.env.locals/\(∀x c,X.env.cells.lookup x=some c->c≠b)/\∀p∈X.pn++pins,p.1≠b):Inv X pins σ H' s':=by
 obtain⟨h',g',d',t',o'⟩:=s'
 have e:o'=s.os:=ho
 subst e
 exact I.call (g':=g') (t':=t') (d':=d') u hok hg hch
end
noncomputable abbrev XK:=Value->Option Addr->Hp->Prop
noncomputable abbrev St:=List (Option V)
noncomputable abbrev VK:=V->Hp->Prop
noncomputable abbrev TE:=St->Hp->VK->Prop
noncomputable abbrev TT:=St->Hp->(Bool->Hp->Prop)->Prop
noncomputable abbrev TA:=St->Hp->(List V->Hp->Prop)->Prop
structure Ends where
 nx:St->Hp->Prop
 rt:VK
 bk:St->Hp->Prop:=λ_ _=>False
 ct:St->Hp->Prop:=λ_ _=>False
noncomputable abbrev TS:=Ends->St->Hp->Prop
def EP(X:Cx)(pins:List (Addr×Obj))(σ:St)(Q:VK)(u:Value)(s':Shared):Prop:=∃v H',Inv X pins σ H' s'/\RelV v u/\Q v H'
def TP(X:Cx)(pins:List (Addr×Obj))(σ:St)(Q:Bool->Hp->Prop)(b:Bool)(s':Shared):Prop:=∃H',Inv X pins σ H' s'/\Q b H'
def AP(X:Cx)(pins:List (Addr×Obj))(σ:St)(Q:List V->Hp->Prop)(us:List Value)(s':Shared):Prop:=∃vs H',Inv X pins σ H' s'/\Qw vs us/\Q vs H'
def SP(X:Cx)(pins:List (Addr×Obj))(D:Ends)(f:Flow)(s':Shared):Prop:=
 match f with
 | .next=>∃σ' H',Inv X pins σ' H' s'/\D.nx σ' H'
 | .brk=>∃σ' H',Inv X pins σ' H' s'/\D.bk σ' H'
 | .cont=>∃σ' H',Inv X pins σ' H' s'/\D.ct σ' H'
 | .ret u=>∃v σ' H',Inv X pins σ' H' s'/\RelV v u/\D.rt v H'
def PE(X:Cx)(e:Expr)(t:TE):Prop:=
 ∀(pins:List (Addr×Obj)) (s:Shared) (σ:St) (H:Hp) (Q:VK),Inv X pins σ H s->t σ H Q->wpAny (model X.prog X.w) X.A (eval e X.env) (EP X pins σ Q) X.xe s
def PT(X:Cx)(e:Expr)(t:TT):Prop:=
 ∀(pins:List (Addr×Obj)) (s:Shared) (σ:St) (H:Hp) (Q:Bool->Hp->Prop),Inv X pins σ H s->t σ H Q->wpAny (model X.prog X.w) X.A (isTrue e X.env (eval e X.env)) (TP X pins σ Q) X.xe s
def PW(X:Cx)(e:Expr)(t:TT):Prop:=
 ∀(whole:Sem Value) (pins:List (Addr×Obj)) (s:Shared) (σ:St) (H:Hp) (Q:Bool->Hp->Prop),Inv X pins σ H s->t σ H Q->wpAny (model X.prog X.w) X.A (isTrue e X.env whole) (TP X pins σ Q) X.xe s
theorem PW.pt{X:Cx}{e:Expr}{t:TT}(h:PW X e t):PT X e t:=h _
def PA(X:Cx)(es:List Expr)(t:TA):Prop:=
 ∀(pos:Pos) (pins:List (Addr×Obj)) (s:Shared) (σ:St) (H:Hp) (Q:List V->Hp->Prop),Inv X pins σ H s->t σ H Q->wpAny (model X.prog X.w) X.A (spliced (backTo pos (starEach es X.env))) (AP X pins σ Q) X.xe s
def PS(X:Cx)(st:Stmt)(t:TS):Prop:=
 ∀(pins:List (Addr×Obj)) (s:Shared) (σ:St) (H:Hp) (D:Ends),Inv X pins σ H s->t D σ H->wpAny (model X.prog X.w) X.A (exec st X.env) (SP X pins D) X.xe s
def PSs(X:Cx)(st:List Stmt)(t:TS):Prop:=
 ∀(pins:List (Addr×Obj)) (s:Shared) (σ:St) (H:Hp) (D:Ends),Inv X pins σ H s->t D σ H->wpAny (model X.prog X.w) X.A (execs st X.env) (SP X pins D) X.xe s
theorem thn{α:Type}{t:Sem α}{Q Q':α->Shared->Prop}{M:Model}{A:Around}{E:Value->Shared->Prop}{s:Shared}(h:wpAny M A t Q E s)(hQ:∀a s,Q a s->Q' a s):wpAny M A t Q' E s:=wpAny_mono h hQ λ_ _ x=>x
end L2
namespace L2
open PySem PySem.Spec PyProof.Rows
section
variable {X:Cx}
noncomputable def QjE(i:Nat):TE:=λσ H Q=>∃v,σ[i]? =some (some v)/\Q v H
noncomputable def tC(v:V):TE:=λ_ H Q=>Q v H
theorem QqQ{i:Nat}{x:Str}{pos:Pos}(hN:X.N[i]? =some x)(hv:Vis X.env.scope x)(hd:(x == ("__debug__" :Str))=false:=by decide)(hcd:(x == ("__classdict__" :Str))=false:=by decide):PE X (.Name x pos) (QjE i):=by
 intro pins s σ H Q I h
 obtain⟨v,e,h⟩:=h
 obtain⟨m,hn,hl⟩:=I.loc
 obtain⟨u,r,l⟩:=hl i x v hN e hv
 have fin:EP X pins σ Q u s:=⟨v,H,I,r,h⟩
 rcases l with⟨hk,hm⟩ | ⟨hk,c,hc,hcell⟩
 ·exact wpAny_Name (wpAny_loadName_local I.ok.kind hk hn hm fin) hd
 ·rcases hk with hk | hk
  ·exact wpAny_Name (wpAny_loadName_cell I.ok.kind hk hc hcell fin) hd
  ·exact wpAny_Name (wpAny_loadName_free I.ok.kind hk hc hcell fin hcd) hd
theorem QvS{i j pos}:PE X (.Constant (.int i) j pos) (tC (.int i)):=λ_ _ _ H _ I h=>wpAny_Constant_int ⟨.int i,H,I.tok _,⟨_,rfl⟩,h⟩
theorem QoY{b j pos}:PE X (.Constant (.bool b) j pos) (tC (.bl b)):=λ_ _ _ H _ I h=>Constant_bool ⟨.bl b,H,I,rfl,h⟩
theorem QvW{j pos}:PE X (.Constant .none j pos) (tC .non):=λ_ _ _ H _ I h=>Constant_none ⟨.non,H,I,rfl,h⟩
theorem Qwy{x j pos}:PE X (.Constant (.str x) j pos) (tC (.str x)):=λ_ _ _ H _ I h=>Calls.Constant_str ⟨.str x,H,I.tok _,⟨_,rfl⟩,h⟩
def Gl(X:Cx)(x:Str):Prop:=X.env.kindOf x=some .globalImplicit
theorem Qj9{E:Value->Shared->Prop}{pins:List (Addr×Obj)}{s:Shared}{σ:St}{H:Hp}{x:Str}{u:Value}{pos:Pos}{Q:Value->Shared->Prop}(I:Inv X pins σ H s)(hg:Gl X x)(hm:X.mg x=some u)(h:Q u s)
  (hd:(x == ("__debug__" :Str))=false:=by decide):wpAny (model X.prog X.w) X.A (eval (.Name x pos) X.env) Q E s:=
 Calls.Name_function_global I.ok.kind hg (Calls.loadGlobal_global (by rw[I.ok.glob];exact I.mod.glob.keeps I.bk) hm h) hd
theorem QcF{E:Value->Shared->Prop}{pins:List (Addr×Obj)}{s:Shared}{σ:St}{H:Hp}{x:Str}{u:Value}{pos:Pos}{Q:Value->Shared->Prop}(I:Inv X pins σ H s)(hg:Gl X x)(hm:X.mg x=none)(hv:bootBuiltins x=some u)(h:Q u s)
  (hn:x≠ "__name__" :=by decide) (hd:(x == ("__debug__" :Str))=false:=by decide):wpAny (model X.prog X.w) X.A (eval (.Name x pos) X.env) Q E s:=by
 obtain⟨mb,h1,h2⟩:=I.mod.blt
 exact Calls.Name_function_global I.ok.kind hg (Calls.loadGlobal_builtin (by rw[I.ok.glob];exact I.mod.glob.keeps I.bk) hm (by rw[I.ok.blt];exact h1.keeps I.bk) ((h2 x hn).trans hv) h) hd
theorem Qvu{x:Str}{v:V}{u:Value}{pos:Pos}(hg:Gl X x)(hm:X.mg x=some u)(r:RelV v u)(hd:(x == ("__debug__" :Str))=false:=by decide):PE X (.Name x pos) (tC v):=
 λ_ _ _ H _ I h=>Qj9 I hg hm ⟨v,H,I,r,h⟩ hd
theorem Qfq{x:Str}{v:V}{u:Value}{pos:Pos}(hg:Gl X x)(hm:X.mg x=none)(hv:bootBuiltins x=some u)(r:RelV v u)(hn:x≠ "__name__" :=by decide)(hd:(x == ("__debug__" :Str))=false:=by decide):PE X (.Name x pos) (tC v):=
 λ_ _ _ H _ I h=>QcF I hg hm hv ⟨v,H,I,r,h⟩ hn hd
variable {a b:Expr}{ta tb:TE}{pos:Pos}
variable {tA tB':TT}{rest:List Expr}
noncomputable def Qzz(t u:TT):TT:=λσ H Q=>t σ H λc H1=>if c=true then u σ H1 Q else Q false H1
noncomputable def tOr(t u:TT):TT:=λσ H Q=>t σ H λc H1=>if c=true then Q true H1 else u σ H1 Q
noncomputable def Qzv(t:TT):TT:=λσ H Q=>t σ H λc H1=>Q (!c) H1
theorem QvG(ha:PT X a tA):PW X (.BoolOp .And [a] pos) tA:=by
 intro wh pins s σ H Q I h
 refine isTrue_and (thn (ha pins s σ H Q I h) λc s1 e=>?_)
 cases c with
 | true=>exact isTrue_and_nil e
 | false=>exact e
theorem Qwo(ha:PT X a tA):PW X (.BoolOp .Or [a] pos) tA:=by
 intro wh pins s σ H Q I h
 refine isTrue_or (thn (ha pins s σ H Q I h) λc s1 e=>?_)
 cases c with
 | false=>exact isTrue_or_nil e
 | true=>exact e
theorem QwN(ha:PT X a tA)(hb:PW X (.BoolOp .And (b::rest) pos) tB'):PW X (.BoolOp .And (a::b::rest) pos) (Qzz tA tB'):=by
 intro wh pins s σ H Q I h
 refine isTrue_and (thn (ha pins s σ H _ I h) λc s1 hpt=>?_)
 obtain⟨H1,I1,q1⟩:=hpt
 cases c with
 | true=>exact hb wh pins s1 σ H1 Q I1 q1
 | false=>exact⟨H1,I1,q1⟩
theorem QxV(ha:PT X a tA)(hb:PW X (.BoolOp .Or (b::rest) pos) tB'):PW X (.BoolOp .Or (a::b::rest) pos) (tOr tA tB'):=by
 intro wh pins s σ H Q I h
 refine isTrue_or (thn (ha pins s σ H _ I h) λc s1 hpt=>?_)
 obtain⟨H1,I1,q1⟩:=hpt
 cases c with
 | true=>exact⟨H1,I1,q1⟩
 | false=>exact hb wh pins s1 σ H1 Q I1 q1
theorem QvL(ha:PT X a tA):PT X (.UnaryOp .Not a pos) (Qzv tA):=by
 intro pins s σ H Q I h
 exact isTrue_not (ha pins s σ H (λc H1=>Q (!c) H1) I h)
theorem Qxn{op}{t:TE}(h:PE X a t):PE X (.BoolOp op [a] pos) t:=λpins s σ H Q I hw=>BoolOp_one (h pins s σ H Q I hw)
end
end L2
namespace L2
open PySem PySem.Spec PyProof.Rows
def SqL(K:PySem.W.Frag)(H:Hp)(a:Addr)(xs:List V):Prop:=
 Rd H a (.lst xs)∨
  ∃(o:Obj) (its:Array Value) (n:Nat),K.lookup a=some o/\o.cls= .type "list" /\o.dict=none/\o.data= .seq its n/\its.size<=sizeLine/\Qw xs its.toList
def SqT(K:PySem.W.Frag)(H:Hp)(a:Addr)(xs:List V):Prop:=
 Rd H a (.tup xs)∨
  ∃(o:Obj) (its:Array Value) (n:Nat),K.lookup a=some o/\o.cls= .type "tuple" /\o.data= .seq its n/\its.size<=sizeLine/\Qw xs its.toList
noncomputable def QzI:Value->Option V
 | .none=>some .non
 | .bool b=>some (.bl b)
 | .int i _=>some (.int i)
 | .str x _=>some (.str x)
 | .bytes b _=>some (.byt b)
 | .float b _=>some (.flt b)
 | .ref a=>some (.ref a)
 | .type n=>some (.ty n)
 | _=>none
theorem RelV.abs{x:V}{u:Value}(r:RelV x u):QzI u=some x:=by
 cases x with
 | non=>cases r;rfl
 | bl _=>cases r;rfl
 | int _=>obtain⟨t,rfl⟩:=r;rfl
 | str _=>obtain⟨t,rfl⟩:=r;rfl
 | byt _=>obtain⟨t,rfl⟩:=r;rfl
 | flt _=>obtain⟨t,rfl⟩:=r;rfl
 | ref _=>cases r;rfl
 | ty _=>cases r;rfl
theorem RelV.inj{x y:V}{u:Value}(r:RelV x u)(q:RelV y u):x=y:=Option.some.inj (r.abs.symm.trans q.abs)
theorem Qw.inj:∀{xs ys:List V}{us:List Value},Qw xs us->Qw ys us->xs=ys
 | _,_,_,.nil,.nil=>rfl
 | _,_,_,.cons r t,.cons r' t'=>by rw[r.inj r',Qw.inj t t']
section
variable {X:Cx}{pins:List (Addr×Obj)}{σ:St}{H:Hp}{s:Shared}{a:Addr}{xs ys:List V}
theorem SqL.of{K:PySem.W.Frag}(h:H a=some (.lst xs)):SqL K H a xs:= .inl (.inl h)
theorem SqT.of{K:PySem.W.Frag}(h:H a=some (.tup xs)):SqT K H a xs:= .inl (.inl h)
theorem Inv.list(I:Inv X pins σ H s)(h:SqL X.K H a xs):∃its:List Value,Qw xs its/\PlainL s.heap a its.toArray/\xs.length<=sizeLine:=by
 rcases h with h | ⟨o,its,n,hk,hc,hd,hs,hz,r⟩
 ·obtain⟨z,its,n,r,e⟩:=h.ok I.hok
  exact⟨its,r,⟨_,n,e,rfl,rfl,rfl⟩,z⟩
 ·refine⟨its.toList,r,⟨o,n,I.kIn a o hk,hc,hd,by simpa using hs⟩,?_⟩
  have e:=r.length
  simp only[ZY]at e
  omega
theorem Inv.tuple(I:Inv X pins σ H s)(h:SqT X.K H a xs):∃its:List Value,Qw xs its/\IsTup s.heap a its.toArray/\xs.length<=sizeLine:=by
 rcases h with h | ⟨o,its,n,hk,hc,hs,hz,r⟩
 ·obtain⟨z,its,r,p⟩:=h.ok I.hok
  exact⟨its,r,p,z⟩
 ·refine⟨its.toList,r,⟨o,I.kIn a o hk,hc,n,by simpa using hs⟩,?_⟩
  have e:=r.length
  simp only[ZY]at e
  omega
theorem Inv.Qda(I:Inv X pins σ H s)(h:SqL X.K H a xs)(h':SqL X.K H a ys):xs=ys:=by
 obtain⟨its,r,⟨o,n,e,_,_,d⟩,_⟩:=I.list h
 obtain⟨its',r',⟨o',n',e',_,_,d'⟩,_⟩:=I.list h'
 rw[e]at e';cases e'
 rw[d]at d'
 injection d' with d1 _
 have:its=its':=by simpa using congrArg Array.toList d1
 subst this
 exact r.inj r'
theorem Inv.Qqx(I:Inv X pins σ H s)(h:SqT X.K H a xs)(h':SqT X.K H a ys):xs=ys:=by
 obtain⟨its,r,⟨o,e,_,n,d⟩,_⟩:=I.tuple h
 obtain⟨its',r',⟨o',e',_,n',d'⟩,_⟩:=I.tuple h'
 rw[e]at e';cases e'
 rw[d]at d'
 injection d' with d1 _
 have:its=its':=by simpa using congrArg Array.toList d1
 subst this
 exact r.inj r'
end
noncomputable abbrev Cx.QdJ(X:Cx)(E:Value->Shared->Prop):Cx:={X with xe:=E}
noncomputable abbrev Cx.nox(X:Cx):Cx:=X.QdJ λ_ _=>False
theorem Cx.Ok.QdJ{X:Cx}(ok:X.Ok)(E:Value->Shared->Prop):(X.QdJ E).Ok:=
 ⟨ok.mod,ok.kind,ok.glob,ok.blt,ok.above,ok.inj,ok.has,ok.cab,ok.hd,ok.frames,ok.stk,ok.exf,ok.bs,ok.bsz,ok.noex,ok.exfs,ok.QdE,ok.frf⟩
theorem Cx.Ok.Qc4{X:Cx}{E:Value->Shared->Prop}(ok:(X.QdJ E).Ok):X.Ok:=
 ⟨ok.mod,ok.kind,ok.glob,ok.blt,ok.above,ok.inj,ok.has,ok.cab,ok.hd,ok.frames,ok.stk,ok.exf,ok.bs,ok.bsz,ok.noex,ok.exfs,ok.QdE,ok.frf⟩
section
variable {X:Cx}{pins:List (Addr×Obj)}{σ:St}{H:Hp}{s:Shared}{E:Value->Shared->Prop}
theorem Inv.QdJ(I:Inv X pins σ H s)(E:Value->Shared->Prop):Inv (X.QdJ E) pins σ H s:=⟨I.ok.QdJ E,I.os,I.bare,I.base,I.loc,I.cell,I.free,I.freeC,I.pin,I.hok,I.len⟩
theorem Inv.Qc4(I:Inv (X.QdJ E) pins σ H s):Inv X pins σ H s:=⟨I.ok.Qc4,I.os,I.bare,I.base,I.loc,I.cell,I.free,I.freeC,I.pin,I.hok,I.len⟩
theorem SP.Qc4{D:Ends}{f:Flow}{s':Shared}(h:SP (X.QdJ E) pins D f s'):SP X pins D f s':=by
 cases f with
 | next=>obtain⟨σ',H',I,q⟩:=h;exact⟨σ',H',I.Qc4,q⟩
 | brk=>obtain⟨σ',H',I,q⟩:=h;exact⟨σ',H',I.Qc4,q⟩
 | cont=>obtain⟨σ',H',I,q⟩:=h;exact⟨σ',H',I.Qc4,q⟩
 | ret u=>obtain⟨v,σ',H',I,r,q⟩:=h;exact⟨v,σ',H',I.Qc4,r,q⟩
theorem PE.nox{e:Expr}{t:TE}(h:PE X.nox e t):PE X e t:=λpins s σ H Q I hw=>
 wpAny_mono (h pins s σ H Q (I.QdJ _) hw) (λ_ _ ⟨v,H',I',r,q⟩=>⟨v,H',I'.Qc4,r,q⟩) λ_ _ z=>False.elim z
theorem PT.nox{e:Expr}{t:TT}(h:PT X.nox e t):PT X e t:=λpins s σ H Q I hw=>
 wpAny_mono (h pins s σ H Q (I.QdJ _) hw) (λ_ _ ⟨H',I',q⟩=>⟨H',I'.Qc4,q⟩) λ_ _ z=>False.elim z
theorem PSs.nox{st:List Stmt}{t:TS}(h:PSs X.nox st t):PSs X st t:=λpins s σ H D I hw=>
 wpAny_mono (h pins s σ H D (I.QdJ _) hw) (λ_ _ q=>q.Qc4) λ_ _ z=>False.elim z
end
section
variable {X:Cx}{st:Stmt}{rest:List Stmt}{t u:TS}{e:Expr}{te:TE}{pos:Pos}
noncomputable def QoD:TS:=λD σ H=>D.nx σ H
noncomputable def Qzl(t u:TS):TS:=λD σ H=>t {D with nx:=u D} σ H
theorem QuI:PSs X [] QoD:=λ_ _ σ H _ I h=>wpAny_execs_nil ⟨σ,H,I,h⟩
theorem Qtm(h1:PS X st t)(h2:PSs X rest u):PSs X (st::rest) (Qzl t u):=by
 intro pins s σ H D I h
 refine wpAny_execs_cons (thn (h1 pins s σ H {D with nx:=u D} I h) λf s1 q=>?_)
 cases f with
 | next=>
  obtain⟨σ',H',I',q⟩:=q
  exact h2 pins s1 σ' H' D I' q
 | ret v=>exact q
 | brk=>exact q
 | cont=>exact q
noncomputable def QxT:TS:=λD σ H=>D.bk σ H
noncomputable def Qyr:TS:=λD σ H=>D.ct σ H
theorem Quk:PS X (.Pass pos) QoD:=λ_ _ σ H _ I h=>wpAny_Pass ⟨σ,H,I,h⟩
theorem Qs8:PS X (.Break pos) QxT:=λ_ _ σ H _ I h=>wpAny_Break ⟨σ,H,I,h⟩
theorem Qnj:PS X (.Continue pos) Qyr:=λ_ _ σ H _ I h=>wpAny_Continue ⟨σ,H,I,h⟩
theorem Inv.quiet{pins:List (Addr×Obj)}{σ:St}{H:Hp}{s:Shared}(I:Inv X pins σ H s):interactive X.env=false:=by simp[interactive,I.ok.kind]
theorem Qwb{x j pos pos'}:PS X (.Expr (.Constant (.str x) j pos) pos') QoD:=λ_ s σ H _ I h=>wpAny_Expr (Calls.Constant_str (show SP X _ _ .next {s with toks:=s.toks+1}from⟨σ,H,I.tok _,h⟩)) I.quiet
noncomputable def QiN(te:TE):TS:=λD σ H=>te σ H λ_ H1=>D.nx σ H1
theorem Qg7(he:PE X e te)(hs:swapsWith e none pos.line X.env=pure false:=by rfl):PS X (.Expr e pos) (QiN te):=by
 intro pins s σ H D I h
 exact wpAny_Expr_any (thn (he pins s σ H _ I h) λv s1 ⟨x,H1,I1,r1,q1⟩=>⟨σ,H1,I1,q1⟩) I.quiet hs
noncomputable def Qzn(te:TE):TS:=λD σ H=>te σ H D.rt
theorem QwM(he:PE X e te):PS X (.Return (some e) pos) (Qzn te):=by
 intro pins s σ H D I h
 exact wpAny_Return_some (thn (he pins s σ H _ I h) λv s1 ⟨x,H1,I1,r1,q1⟩=>⟨x,σ,H1,I1,r1,q1⟩)
noncomputable def Qzo(c:TT)(t u:TS):TS:=λD σ H=>c σ H λb H1=>if b=true then t D σ H1 else u D σ H1
theorem Qx0{c:Expr}{a b:List Stmt}{tc:TT}(hc:PT X c tc)(ha:PSs X a t)(hb:PSs X b u):PS X (.If c a b pos) (Qzo tc t u):=by
 intro pins s σ H D I h
 refine wpAny_If (thn (hc pins s σ H _ I h) λd s1 hpt=>?_)
 obtain⟨H1,I1,q1⟩:=hpt
 cases d with
 | true=>exact ha pins s1 σ H1 D I1 q1
 | false=>exact hb pins s1 σ H1 D I1 q1
noncomputable def Qv9:TS:=λ_ _ _=>False
theorem Qtu:PS X st Qv9:=λ_ _ _ _ _ _ h=>h.elim
end
noncomputable abbrev TG:=V->St->Hp->(St->Hp->Prop)->Prop
noncomputable abbrev TGs:=List V->St->Hp->(St->Hp->Prop)->Prop
def PG(X:Cx)(target:Expr)(t:TG):Prop:=
 ∀(pins:List (Addr×Obj)) (s:Shared) (σ:St) (H:Hp) (v:V) (u:Value) (Q:St->Hp->Prop),Inv X pins σ H s->RelV v u->t v σ H Q→
  wpAny (model X.prog X.w) X.A (assign target X.env u) (λ_ s'=>∃σ' H',Inv X pins σ' H' s'/\Q σ' H') X.xe s
def PGs(X:Cx)(ts:List Expr)(t:TGs):Prop:=
 ∀(pins:List (Addr×Obj)) (s:Shared) (σ:St) (H:Hp) (vs:List V) (us:List Value) (Q:St->Hp->Prop),Inv X pins σ H s->Qw vs us->t vs σ H Q→
  wpAny (model X.prog X.w) X.A (assignInOrder ((assignEach ts X.env).map (·.2)) us) (λ_ s'=>∃σ' H',Inv X pins σ' H' s'/\Q σ' H') X.xe s
noncomputable abbrev Qma:=V->V->V->Hp->(Hp->Prop)->Prop
def Qsi(X:Cx)(t:Qma):Prop:=
 ∀(pins:List (Addr×Obj)) (s:Shared) (σ:St) (H:Hp) (o i v:V) (ov iv u:Value) (Q:Hp->Prop),Inv X pins σ H s->RelV o ov->RelV i iv->RelV v u->t o i v H Q→
  wpAny (model X.prog X.w) X.A (setItem ov iv u) (λ_ s'=>∃H',Inv X pins σ H' s'/\Q H') X.xe s
noncomputable abbrev TIp:=V->V->Hp->VK->Prop
def PIp(X:Cx)(op:Operator)(t:TIp):Prop:=
 ∀(pins:List (Addr×Obj)) (s:Shared) (σ:St) (H:Hp) (x y:V) (v u:Value) (Q:VK),Inv X pins σ H s->RelV x v->RelV y u->t x y H Q→
  wpAny (model X.prog X.w) X.A (inplaceOp op v u) (EP X pins σ Q) X.xe s
section
variable {X:Cx}{pos:Pos}
noncomputable def Qg8(i:Nat):TG:=λv σ H Q=>Q (σ.set i (some v)) H
theorem QnT{i:Nat}{x:Str}(hN:X.N.Nodup)(hi:X.N[i]? =some x)(hx:Loc X.env.scope x)(hf:X.fn x=true∨X.env.scope.names.lookup x=some .local :=by first | exact .inl rfl | exact .inr rfl | assumption):PG X (.Name x pos) (Qg8 i):=by
 intro pins s σ H v u Q I r h
 exact wpAny_assign_Name (QhZ I hN hi hx r (λs' I'=>⟨_,H,I',h⟩) hf)
noncomputable def QxM:TGs:=λvs σ H Q=>vs=[]/\Q σ H
noncomputable def QtP(t:TG)(u:TGs):TGs:=λvs σ H Q=>∃v r,vs=v::r/\t v σ H λσ' H'=>u r σ' H' Q
theorem QvI:PGs X [] QxM:=by
 intro pins s σ H vs us Q I r h
 obtain⟨e,h⟩:=h
 subst e
 cases r
 exact assignInOrder_nil ⟨σ,H,I,h⟩
theorem QrT{e:Expr}{es:List Expr}{t:TG}{u:TGs}(h1:PG X e t)(h2:PGs X es u)
  (hs:(assignEach (e::es) X.env).map (·.2)=assign e X.env::(assignEach es X.env).map (·.2):=by rfl):PGs X (e::es) (QtP t u):=by
 intro pins s σ H vs us Q I r h
 obtain⟨v,vr,e1,h⟩:=h
 subst e1
 cases r with
 | cons r rr=>
  rw[hs]
  refine assignInOrder_cons (thn (h1 pins s σ H _ _ _ I r h) λ_ s1 hpt=>?_)
  obtain⟨σ1,H1,I1,q1⟩:=hpt
  exact h2 pins s1 σ1 H1 _ _ Q I1 rr q1
noncomputable def QzE(K:PySem.W.Frag)(n:Nat)(t:TGs):TG:=λv σ H Q=>∃a xs,v= .ref a/\SqT K H a xs/\xs.length=n/\t xs σ H Q
theorem QwY{es:List Expr}{k:Nat}{t:TGs}{n:Nat}(hc:X.calm=true)(h:PGs X es t)
  (hn:(assignEach es X.env).length=n:=by rfl) (hst:(assignEach es X.env).findIdx? (·.1)=none:=by rfl):PG X (.Tuple es k pos) (QzE X.K n t):=by
 intro pins s σ H v u Q I r hw
 obtain⟨a,xs,e1,hq,hl,hw⟩:=hw
 subst e1
 cases r
 obtain⟨its,rv,ht,hz⟩:=I.tuple hq
 refine assign_Tuple_tuple (I.ok.hd hc) ht (by simp[hn,← hl,rv.length]) hst λh' hx=>?_
 have I1:Inv X pins σ H {s with heap:=h'}:=I.kept (t':=s.toks) λb o e=>hx b o (ZK (Zr e)) e
 exact h pins _ σ H xs _ Q I1 (by simpa using rv) hw
noncomputable def Qam(to ti:TE)(t:Qma):TG:=λv σ H Q=>to σ H λo H1=>ti σ H1 λi H2=>t o i v H2 λH3=>Q σ H3
theorem QxB{o i:Expr}{to ti:TE}{t:Qma}(ho:PE X o to)(hi:PE X i ti)(hs:Qsi X t)
  (ha:∀v,assign (.Subscript o i pos) X.env v=(do
   let ov ← holding [v] (eval o X.env)
   let iv ← holding [v,ov] (eval i X.env)
   standAt pos
   holding [v,ov,iv] (setItem ov iv v)
   release [v,ov,iv] []):=by intro _;rfl):PG X (.Subscript o i pos) (Qam to ti t):=by
 intro pins s σ H v u Q I r h
 rw[ha]
 refine wpAny_bind (wpAny_holding (thn (ho pins s σ H _ I h) λov s1=>exJ λx H1 I1 r1 q1=>?_))
 refine wpAny_bind (wpAny_holding (thn (hi pins s1 σ H1 _ I1 q1) λiv s2=>exJ λy H2 I2 r2 q2=>?_))
 refine wpAny_bind (wpAny_standAt (wpAny_bind (wpAny_holding (thn (hs pins s2 σ H2 x y v ov iv u _ I2 r1 r2 r q2) λ_ s3 hpt=>?_))))
 obtain⟨H3,I3,q3⟩:=hpt
 exact wpAny_release ⟨σ,H3,I3,q3⟩
noncomputable def Qm2(te:TE)(g:TG):TS:=λD σ H=>te σ H λx H1=>g x σ H1 D.nx
theorem Qqz{tg e:Expr}{te:TE}{g:TG}(he:PE X e te)(hg:PG X tg g)(hs:swapsWithSole [tg] e pos.line X.env=pure false:=by rfl)(hw:swappedStores [tg] e X.env=pure none:=by rfl)
  (h1:(assignEach [tg] X.env).map (·.2)=[assign tg X.env]:=by rfl):PS X (.Assign [tg] e pos) (Qm2 te g):=by
 intro pins s σ H D I h
 refine wpAny_Assign_stores (thn (he pins s σ H _ I h) λv s1 ⟨x,H1,I1,r1,q1⟩=>?_) hs hw
 rw[h1]
 exact thn (hg pins s1 σ H1 x v _ I1 r1 q1) λ_ s2 q=>q
theorem QmS{i:Nat}{x:Str}{e:Expr}{te:TE}{pos':Pos}(hN:X.N.Nodup)(hi:X.N[i]? =some x)(hx:Loc X.env.scope x)(he:PE X e te)(hs:swapsWith e (some (.Name x pos')) pos.line X.env=pure false:=by rfl)(hf:X.fn x=true∨X.env.scope.names.lookup x=some .local :=by first | exact .inl rfl | exact .inr rfl | assumption):
  PS X (.Assign [.Name x pos'] e pos) (Qm2 te (Qg8 i)):=by
 intro pins s σ H D I h
 refine wpAny_Assign_Name (thn (he pins s σ H _ I h) λv s1 ⟨y,H1,I1,r1,q1⟩=>?_) hs
 exact QhZ I1 hN hi hx r1 (λs2 I2=>⟨_,H1,I2,q1⟩) hf
noncomputable def Qwt(i:Nat)(te:TE)(ti:TIp):TS:=λD σ H=>∃x,σ[i]? =some (some x)/\te σ H λy H1=>ti x y H1 λz H2=>D.nx (σ.set i (some z)) H2
theorem QxO{i:Nat}{x:Str}{e:Expr}{te:TE}{op:Operator}{ti:TIp}{pos':Pos}(hN:X.N.Nodup)(hi:X.N[i]? =some x)(hx:Loc X.env.scope x)(he:PE X e te)(ho:PIp X op ti)(hf:X.fn x=true∨X.env.scope.names.lookup x=some .local :=by first | exact .inl rfl | exact .inr rfl | assumption):
  PS X (.AugAssign (.Name x pos') op e pos) (Qwt i te ti):=by
 intro pins s σ H D I h
 obtain⟨v,e1,h⟩:=h
 obtain⟨m,hn,hl⟩:=I.loc
 have vis:Vis X.env.scope x:=by rcases hx with k | k;exact .inl k;exact .inr (.inl k)
 obtain⟨u,r,l⟩:=hl i x v hi e1 vis
 refine wpAny_AugAssign_Name ?_
 have go:wpAny (model X.prog X.w) X.A (eval e X.env) (λw s₂=>wpAny (model X.prog X.w) X.A (inplaceOp op u w) (λr s₃=>wpAny (model X.prog X.w) X.A (storeName X.env x r) (λ_=>SP X pins D .next) X.xe s₃) X.xe s₂) X.xe s:=by
  refine thn (he pins s σ H _ I h) λw s1=>exJ λy H1 I1 r1 q1=>?_
  refine thn (ho pins s1 σ H1 v y u w _ I1 r r1 q1) λz s2=>exJ λzv H2 I2 r2 q2=>?_
  exact QhZ I2 hN hi hx r2 (λs3 I3=>⟨_,H2,I3,q2⟩) hf
 rcases l with⟨hk,hm⟩ | ⟨hk,c,hc,hcell⟩
 ·exact wpAny_loadName_local I.ok.kind hk hn hm go
 ·rcases hk with hk | hk
  ·exact wpAny_loadName_cell I.ok.kind hk hc hcell go
  ·rcases hx with k | k
   ·have:X.env.scope.names.lookup x=some .free:=hk
    rw[k]at this;cases this
   ·have:X.env.scope.names.lookup x=some .free:=hk
    rw[k]at this;cases this
noncomputable def QyQ(to ti te:TE)(tget:V->V->Hp->VK->Prop)(tip:TIp)(tset:Qma):TS:=λD σ H=>to σ H λo H1=>ti σ H1 λi H2=>tget o i H2 λx H3=>te σ H3 λy H4=>tip x y H4 λz H5=>tset o i z H5 λH6=>D.nx σ H6
def Qwx(X:Cx)(t:V->V->Hp->VK->Prop):Prop:=
 ∀(pins:List (Addr×Obj)) (s:Shared) (σ:St) (H:Hp) (o i:V) (ov iv:Value) (Q:VK),Inv X pins σ H s->RelV o ov->RelV i iv->t o i H Q→
  wpAny (model X.prog X.w) X.A (getItem ov iv) (EP X pins σ Q) X.xe s
theorem QtZ{o i e:Expr}{to ti te:TE}{tget:V->V->Hp->VK->Prop}{tip:TIp}{tset:Qma}{op:Operator}{tpos:Pos}(ho:PE X o to)(hi:PE X i ti)(hg:Qwx X tget)(he:PE X e te)(hp:PIp X op tip)(hs:Qsi X tset)
  (ha:∀ov iv new,augStore i ov iv new=(do holding [new,ov,iv] (setItem ov iv new);release [new,ov,iv] [];pure .next):=by intros;rfl):PS X (.AugAssign (.Subscript o i tpos) op e pos) (QyQ to ti te tget tip tset):=by
 intro pins s σ H D I h
 refine wpAny_AugAssign_SubscriptAny (thn (ho pins s σ H _ I h) λov s1 ⟨x1,H1,I1,r1,q1⟩=>?_) ha
 refine thn (hi pins s1 σ H1 _ I1 q1) λiv s2=>exJ λx2 H2 I2 r2 q2=>?_
 refine thn (hg pins s2 σ H2 x1 x2 ov iv _ I2 r1 r2 q2) λold s3=>exJ λx3 H3 I3 r3 q3=>?_
 refine thn (he pins s3 σ H3 _ I3 q3) λv s4=>exJ λx4 H4 I4 r4 q4=>?_
 refine thn (hp pins s4 σ H4 x3 x4 old v _ I4 r3 r4 q4) λnew s5=>exJ λx5 H5 I5 r5 q5=>?_
 exact thn (hs pins s5 σ H5 x1 x2 x5 ov iv new _ I5 r1 r2 r5 q5) λ_ s6 ⟨H6,I6,q6⟩=>⟨σ,H6,I6,q6⟩
end
section
variable {X:Cx}{pos:Pos}
noncomputable def Qwf(c:TT)(tb:TS):TS:=λD σ H=>∃W:Nat->St->Hp->Prop,(∃m,W m σ H)/\∀m σ H,W m σ H→
 c σ H λb H1=>if b=true then ∃N:St->Hp->Prop,(∀σ' H',N σ' H'->∃m',m'<m/\W m' σ' H')/\tb {D with nx:=N,ct:=N,bk:=D.nx} σ H1 else D.nx σ H1
theorem QrX{c:Expr}{body:List Stmt}{tc:TT}{tb:TS}(hp:PassesOwn (model X.prog X.w) X.A X.env X.xe)(hc:PT X c tc)(hb:PSs X body tb):PS X (.While c body [] pos) (Qwf tc tb):=by
 intro pins s σ H D I h
 obtain⟨W,⟨m0,w0⟩,turn⟩:=h
 refine wpAny_While (codeAny_whileLoop (λn s'=>∃σ' H',Inv X pins σ' H' s'/\W n σ' H') ?_ m0 ⟨σ,H,I,w0⟩)
 rintro n s1 ⟨σ1,H1,I1,w1⟩
 refine wpAny_passesOwn hp (thn (hc pins s1 σ1 H1 _ I1 (turn n σ1 H1 w1)) λb s2 hpt=>?_)
 obtain⟨H2,I2,q2⟩:=hpt
 cases b with
 | true=>
  obtain⟨N,hN,q2⟩:=q2
  rw[if_pos rfl]
  refine wpAny_passesOwn hp (thn (hb pins s2 σ1 H2 _ I2 q2) λf s3 q3=>?_)
  cases f with
  | next=>
   obtain⟨σ3,H3,I3,n3⟩:=q3
   obtain⟨m',hm,w3⟩:=hN σ3 H3 n3
   exact⟨m',hm,σ3,H3,I3,w3⟩
  | cont=>
   obtain⟨σ3,H3,I3,n3⟩:=q3
   obtain⟨m',hm,w3⟩:=hN σ3 H3 n3
   exact⟨m',hm,σ3,H3,I3,w3⟩
  | brk=>exact q3
  | ret v=>exact q3
 | false=>
  rw[if_neg Zag]
  exact wpAny_execs_nil ⟨σ1,H2,I2,q2⟩
end
structure It where
 go:Nat->Hp->Prop
 yld:Nat->Hp->V->Hp->Prop
 stop:Nat->Hp->Prop
def Qdu(X:Cx)(pins:List (Addr×Obj))(H:Hp)(b:Addr):Prop:=
 H b=none/\b≠X.env.locals/\b∉X.fs/\(b∈X.ex∨X.s₀.heap.objs.size<=b)/\(∀x c,X.env.cells.lookup x=some c->c≠b)/\∀p∈X.pn++pins,p.1≠b
theorem Inv.Qh2{X:Cx}{pins:List (Addr×Obj)}{σ:St}{H H':Hp}{s:Shared}{b:Addr}(I:Inv X pins σ H s)(hb:s.heap.objs.size<=b)(hn:H' b=none):Qdu X pins H' b:=by
 refine⟨hn,ZaW (ZA I.lt hb),I.Qzj hb,.inr (Zx I.sz hb),λx c e z=>?_,λp hp z=>?_⟩
 ·obtain⟨v,q⟩:=I.cell x c e
  exact absurd (ZA q.lt (by rw[z];exact hb)) (ZX _)
 ·exact absurd (ZA (Zr (I.pin p hp).1) (by rw[z];exact hb)) (ZX _)
structure Turn (P:Program) (w:World) (K:PySem.W.Frag) (tg:Expr) (J:It) (fp:List Addr) (it:Addr) (tn:Nat->Heap->Prop):Prop where
 mem:it∈fp
 obj:∀i h,tn i h->∀b∈fp,∃o,h.get? b=some o/\∀v,o.data≠ .cell v
 keep:∀i h h',tn i h->(∀b∈fp,∀o,h.get? b=some o->h'.get? b=some o)->tn i h'
 item:∀(X:Cx),X.prog=P->X.w=w->X.K=K->X.calm=true->∀(i:Nat) (pins:List (Addr×Obj)) (s:Shared) (σ:St) (H:Hp) (E:Value->Shared->Prop),Inv X pins σ H s->(∀b∈fp,Qdu X pins H b)->tn i s.heap->J.go i H→
  wpAny (model P w) X.A (pyNext (.ref it)) (λr s1=>∃u,r=some u∧
   wpAny (model P w) X.A (letOwnedTupleGo tg (.ref it) u) (λ_ s2=>∃x H',Inv X pins σ H' s2/\RelV x u/\J.yld i H x H'/\tn (i+1) s2.heap/\∀b∈fp,H' b=none) E s1) E s
 done:∀(X:Cx),X.prog=P->X.w=w->X.K=K->X.calm=true->∀(i:Nat) (pins:List (Addr×Obj)) (s:Shared) (σ:St) (H:Hp) (E:Value->Shared->Prop),Inv X pins σ H s->(∀b∈fp,Qdu X pins H b)->tn i s.heap->J.stop i H→
  wpAny (model P w) X.A (pyNext (.ref it)) (λr s1=>r=none/\Inv X pins σ H s1) E s
 self:∀(A:Around) (i:Nat) (s:Shared) (Q:Value->Shared->Prop) (E:Value->Shared->Prop),tn i s.heap->Q (.ref it) s->wpAny (model P w) A (pyIter (.ref it)) Q E s
noncomputable abbrev TI:=St->Hp->(It->Hp->Prop)->Prop
def PIE(X:Cx)(pins:List (Addr×Obj))(σ:St)(tg:Expr)(R:It->Hp->Prop)(itv:Value)(s2:Shared):Prop:=
 ∃(it:Addr) (fp:List Addr) (tn:Nat->Heap->Prop) (J:It) (H':Hp),itv= .ref it/\Inv X pins σ H' s2/\Turn X.prog X.w X.K tg J fp it tn/\tn 0 s2.heap/\(∀b∈fp,Qdu X pins H' b)/\R J H'
def PI(X:Cx)(tg iter:Expr)(wi:TI):Prop:=
 ∀(pins:List (Addr×Obj)) (s:Shared) (σ:St) (H:Hp) (R:It->Hp->Prop),Inv X pins σ H s->wi σ H R→
  wpAny (model X.prog X.w) X.A (eval iter X.env) (λv s1=>wpAny (model X.prog X.w) X.A (pyIter v) (PIE X pins σ tg R) X.xe s1) X.xe s
theorem Qle{M:Model}{A:Around}{E:Value->Shared->Prop}{s:Shared}{tg:Expr}{it:Addr}{u:Value}{o:Obj}{n:String}{vs:Array Value}{Q:Unit->Shared->Prop}(ho:s.heap.get? it=some o)(hc:o.cls= .type n)(hd:o.data= .fields vs)
    (hn:["enumerate","zip","dict_itemiterator","dict_reverseitemiterator","odict_iterator","itertools.zip_longest","itertools.pairwise"].contains n=false) (hQ:Q () s):wpAny M A (letOwnedTupleGo tg (.ref it) u) Q E s:=by
  unfold letOwnedTupleGo
  cases tg<;>first
    | exact wpAny_pure hQ
    | (cases u<;>first
        | exact wpAny_pure hQ
        | (refine wpAny_bind (wpAny_load ho ?_)
           rw[hc,hd]
           show wpAny M A (if(["enumerate","zip","dict_itemiterator","dict_reverseitemiterator","odict_iterator","itertools.zip_longest","itertools.pairwise"].contains n && vs[0]? == some (rawInt _))=true then _ else _) Q E s
           rw[if_neg (by intro h;rw[hn,Bool.false_and]at h;cases h)]
           exact wpAny_pure hQ))
noncomputable def Itl(K:PySem.W.Frag)(a:Addr):It:=
 ⟨λi H=>∃xs x,SqL K H a xs/\xs[i]? =some x,λi H x H'=>H'=H/\∀xs,SqL K H a xs->xs[i]? =some x,λi H=>∃xs,SqL K H a xs/\xs.length<=i⟩
noncomputable def Itt(K:PySem.W.Frag)(a:Addr):It:=
 ⟨λi H=>∃xs x,SqT K H a xs/\xs[i]? =some x,λi H x H'=>H'=H/\∀xs,SqT K H a xs->xs[i]? =some x,λi H=>∃xs,SqT K H a xs/\xs.length<=i⟩
noncomputable def Itr(lo:Int)(n:Nat):It:=⟨λi _=>i<n,λi H x H'=>H'=H/\x= .int (lo+i),λi _=>n<=i⟩
theorem QpW{P:Program}{w:World}{K:PySem.W.Frag}{tg:Expr}(a it:Addr):Turn P w K tg (Itl K a) [it] it (λi h=>h.IsListIter it a i) where
 mem:=by simp
 obj:=λi h st b hb=>by
  have e:b=it:=by simpa using hb
  subst e
  obtain⟨o,e,c,d⟩:=st
  exact⟨o,e,λv z=>by rw[d]at z;cases z⟩
 keep:=λi h h' st k=>st.at λo e=>k it (by simp) o e
 item:=by
  intro X hP hw hK hc i pins s σ H E I hf st hg
  subst hP hw hK
  obtain⟨xs,x,hq,hx⟩:=hg
  obtain⟨its,rv,p,hz⟩:=I.list hq
  obtain⟨u,hu,ru⟩:=rv.get hx
  obtain⟨f0,f1,f2,f3,f4,f5⟩:=hf it (by simp)
  refine wpAny_pyNext_list_item st p.isList (x:=u) (by simpa using hu) λh' st' sb=>?_
  have I1:Inv X pins σ H {s with heap:=h'}:=I.turned (t':=s.toks) (λb o hb e=>(sb.2 b hb).trans e) f0 f1 f3 f4 f5
  obtain⟨o,e,c,d⟩:=id st'
  exact⟨u,rfl,Qle (s:={s with heap:=h'}) e c d (by decide) ⟨x,H,I1,ru,⟨rfl,λys hy=>by rw[I.Qda hy hq];exact hx⟩,st',λb hb=>(hf b hb).1⟩⟩
 done:=by
  intro X hP hw hK hc i pins s σ H E I hf st hg
  subst hP hw hK
  obtain⟨xs,hq,hx⟩:=hg
  obtain⟨its,rv,p,hz⟩:=I.list hq
  obtain⟨f0,f1,f2,f3,f4,f5⟩:=hf it (by simp)
  have hl:=rv.length
  exact wpAny_pyNext_list_end (I.ok.hd hc) st p.isList (by simp;omega) λh' eb=>⟨rfl,I.turned (t':=s.toks) (λb o hb e=>eb b o hb e) f0 f1 f3 f4 f5⟩
 self:=λ_ _ _ _ _ st h=>wpAny_pyIter_listiter st h
theorem Qoz{P:Program}{w:World}{K:PySem.W.Frag}{tg:Expr}(a it:Addr):Turn P w K tg (Itt K a) [it] it (λi h=>h.IsTupleIter it a i) where
 mem:=by simp
 obj:=λi h st b hb=>by
  have e:b=it:=by simpa using hb
  subst e
  obtain⟨o,e,c,d⟩:=st
  exact⟨o,e,λv z=>by rw[d]at z;cases z⟩
 keep:=λi h h' st k=>st.at λo e=>k it (by simp) o e
 item:=by
  intro X hP hw hK hc i pins s σ H E I hf st hg
  subst hP hw hK
  obtain⟨xs,x,hq,hx⟩:=hg
  obtain⟨its,rv,p,hz⟩:=I.tuple hq
  obtain⟨u,hu,ru⟩:=rv.get hx
  obtain⟨f0,f1,f2,f3,f4,f5⟩:=hf it (by simp)
  refine wpAny_pyNext_tuple_item st (show s.heap.IsTuple a its.toArray from p) (x:=u) (by simpa using hu) λh' st' sb=>?_
  have I1:Inv X pins σ H {s with heap:=h'}:=I.turned (t':=s.toks) (λb o hb e=>(sb.2 b hb).trans e) f0 f1 f3 f4 f5
  obtain⟨o,e,c,d⟩:=id st'
  exact⟨u,rfl,Qle (s:={s with heap:=h'}) e c d (by decide) ⟨x,H,I1,ru,⟨rfl,λys hy=>by rw[I.Qqx hy hq];exact hx⟩,st',λb hb=>(hf b hb).1⟩⟩
 done:=by
  intro X hP hw hK hc i pins s σ H E I hf st hg
  subst hP hw hK
  obtain⟨xs,hq,hx⟩:=hg
  obtain⟨its,rv,p,hz⟩:=I.tuple hq
  obtain⟨f0,f1,f2,f3,f4,f5⟩:=hf it (by simp)
  have hl:=rv.length
  exact wpAny_pyNext_tuple_end (I.ok.hd hc) st (show s.heap.IsTuple a its.toArray from p) (by simp;omega) λh' eb=>⟨rfl,I.turned (t':=s.toks) (λb o hb e=>eb b o hb e) f0 f1 f3 f4 f5⟩
 self:=λ_ _ _ _ _ st h=>wpAny_pyIter_tupleiter st h
theorem QoW{P:Program}{w:World}{K:PySem.W.Frag}{tg:Expr}(it:Addr)(lo:Int)(n:Nat):Turn P w K tg (Itr lo n) [it] it (λi h=>IsRangeIter h it (lo+(i:Nat)*1) ((n:Int)-(i:Nat)) 1) where
 mem:=by simp
 obj:=λi h st b hb=>by
  have e:b=it:=by simpa using hb
  subst e
  exact⟨_,st,λv z=>by
   have z':Data.fields _=Data.cell v:=z
   cases z'⟩
 keep:=λi h h' st k=>k it (by simp) _ st
 item:=by
  intro X hP hw hK hc i pins s σ H E I hf st hg
  subst hP hw hK
  obtain⟨f0,f1,f2,f3,f4,f5⟩:=hf it (by simp)
  have W:=Walks.range (prog:=X.prog) (w:=X.w) (I.ok.hd hc) it lo 1 n
  refine W.item i s _ _ hg st λv h' tk hv st' kk=>?_
  obtain⟨t,rfl⟩:=hv
  have I1:Inv X pins σ H {s with heap:=h',toks:=tk}:=I.turned (λb o hb e=>kk b o (by simpa using hb) e) f0 f1 f3 f4 f5
  refine⟨_,rfl,Qle (s:={s with heap:=h',toks:=tk}) (n:= "range_iterator") st' rfl rfl (by decide) ⟨.int (lo+i),H,I1,⟨t,?_⟩,⟨rfl,rfl⟩,st',λb hb=>(hf b hb).1⟩⟩
  rw[ZaU]
 done:=by
  intro X hP hw hK hc i pins s σ H E I hf st hg
  subst hP hw hK
  obtain⟨f0,f1,f2,f3,f4,f5⟩:=hf it (by simp)
  exact wpAny_pyNext_range_end (I.ok.hd hc) st (by have:n<=i:=hg;omega) λh' eb=>⟨rfl,I.turned (t':=s.toks) (λb o hb e=>eb b o hb e) f0 f1 f3 f4 f5⟩
 self:=λ_ _ _ _ _ st h=>wpAny_pyIter_rangeiter st h
end L2
namespace L2
open PySem PySem.Spec PyProof.Rows
section
variable {X:Cx}{tg:Expr}
theorem QmO{pins:List (Addr×Obj)}{σ:St}{H:Hp}{s:Shared}{R:It->Hp->Prop}{E:Value->Shared->Prop}{lo hi:Int}{t u v:Tok}{tk:Nat}(I:Inv X pins σ H s)(h1: -(2^62)<=lo)(h2:lo<2^62)(h3: -(2^62)<=hi)(h4:hi<2^62)
  (q:R (Itr lo (hi-lo).toNat) H):wpAny (model X.prog X.w) X.A (pyIter (.ref s.heap.objs.size)) (PIE X pins σ tg R) E {s with heap:=s.heap.push {cls:= .type "range",data:= .fields #[.int lo t,.int hi u,.int 1 v]},toks:=tk}:=by
 refine wpAny_pyIter_range (IsRange.new ..) (small_one h1 h2 h3 h4) ?_
 have I1:Inv X pins σ H {s with heap:=s.heap.push {cls:= .type "range",data:= .fields #[.int lo t,.int hi u,.int 1 v]},toks:=tk}:=I.kept λb o e=>Zb _ e
 refine⟨(s.heap.push {cls:= .type "range",data:= .fields #[.int lo t,.int hi u,.int 1 v]}).objs.size,[(s.heap.push {cls:= .type "range",data:= .fields #[.int lo t,.int hi u,.int 1 v]}).objs.size],_,_,H,rfl,
  I1.kept (t':=tk) λb o e=>Zb _ e,QoW _ lo (hi-lo).toNat,?_,λb hb=>?_,q⟩
 ·have e1:lo+((0:Nat):Int)*1=lo:=by simp
  have e2:(((hi-lo).toNat:Nat):Int)-((0:Nat):Int)=Builtin.Range.rangeSize lo hi 1:=by rw[rangeSize_one];split<;>omega
  show IsRangeIter _ _ (lo+((0:Nat):Int)*1) ((((hi-lo).toNat:Nat):Int)-((0:Nat):Int)) 1
  rw[e1,e2]
  exact Zo _ rfl
 ·have e:b=(s.heap.push {cls:= .type "range",data:= .fields #[.int lo t,.int hi u,.int 1 v]}).objs.size:=by simpa using hb
  subst e
  exact I1.Qh2 (Zh _) (I1.hok.fresh (Zh _))
noncomputable def QyC(ta:TA):TI:=λσ H R=>ta σ H λvs H1=>∃j:Int,vs=[.int j]/\ -(2^62)<=j/\j<2^62/\R (Itr 0 j.toNat) H1
noncomputable def QxZ(ta:TA):TI:=λσ H R=>ta σ H λvs H1=>∃i j:Int,vs=[.int i,.int j]/\(-(2^62)<=i/\i<2^62/\ -(2^62)<=j/\j<2^62)/\R (Itr i (j-i).toNat) H1
theorem Qrb{a:Expr}{ta:TA}{p pos:Pos}(hg:Gl X "range")(hm:X.mg "range" =none)(ha:PA X [a] ta)(hs:starEach [a] X.env=[(false,eval a X.env)]:=by rfl):PI X tg (.Call (.Name "range" p) [a] [] pos) (QyC ta):=by
 intro pins s σ H R I h
 refine Call_ (QcF I hg hm boot_range (ZS (thn (ha pos pins s σ H _ I h) λus s1 ⟨vs,H1,I1,r1,q1⟩=>?_) hs rfl))
 obtain⟨j,e,q1,q2,q⟩:=q1
 subst e
 cases r1 with
 | cons r rr=>
  cases rr
  obtain⟨t,rfl⟩:=r
  exact call_range_1 (QmO I1 (by omega) (by omega) q1 q2 (by simpa using q))
theorem QqF{a b:Expr}{ta:TA}{p pos:Pos}(hg:Gl X "range")(hm:X.mg "range" =none)(ha:PA X [a,b] ta)(hs:starEach [a,b] X.env=[(false,eval a X.env),(false,eval b X.env)]:=by rfl)(hs2:starEach [b] X.env=[(false,eval b X.env)]:=by rfl):
  PI X tg (.Call (.Name "range" p) [a,b] [] pos) (QxZ ta):=by
 intro pins s σ H R I h
 refine Call_ (QcF I hg hm boot_range (ZS (thn (ha pos pins s σ H _ I h) λus s1 ⟨vs,H1,I1,r1,q1⟩=>?_) (by rw[hs,hs2]) (by rw[hs2];rfl)))
 obtain⟨i,j,e,⟨q1,q2,q3,q4⟩,q⟩:=q1
 subst e
 cases r1 with
 | cons r rr=>
  cases rr with
  | cons r' rr=>
   cases rr
   obtain⟨t,rfl⟩:=r
   obtain⟨t',rfl⟩:=r'
   exact call_range_2 (QmO I1 q1 q2 q3 q4 q)
noncomputable def Qzm(wi:TI)(g:TG)(tb:TS):TS:=λD σ H=>wi σ H λJ H1=>∃W:Nat->Nat->St->Hp->Prop,(∃m,W 0 m σ H1)/\∀i m σ H,W i m σ H→
 (J.stop i H/\D.nx σ H)∨(J.go i H/\∃N:St->Hp->Prop,(∀σ' H',N σ' H'->∃m',m'<m/\W (i+1) m' σ' H')/\∀x H',J.yld i H x H'->g x σ H' λσ2 H2=>tb {D with nx:=N,ct:=N,bk:=D.nx} σ2 H2)
noncomputable def Qgr(fp:List Addr)(h:Heap):List (Addr×Obj):=fp.filterMap λb=>(h.get? b).map λo=>(b,o)
theorem QfR{fp:List Addr}{h:Heap}{b:Addr}{o:Obj}(hb:b∈fp)(e:h.get? b=some o):(b,o)∈Qgr fp h:=Zbr.mpr ⟨b,hb,by rw[e];rfl⟩
theorem QpC{fp:List Addr}{h:Heap}{p:Addr×Obj}(hp:p∈Qgr fp h):p.1∈fp/\h.get? p.1=some p.2:=by
 obtain⟨b,hb,e⟩:=Zbr.mp hp
 cases q:h.get? b with
 | none=>rw[q]at e;cases e
 | some o=>
  rw[q]at e
  have e':(b,o)=p:=Option.some.inj e
  subst e'
  exact⟨hb,q⟩
theorem Inv.pinned{pins:List (Addr×Obj)}{σ:St}{H:Hp}{s:Shared}{fp:List Addr}(I:Inv X pins σ H s)(hf:∀b∈fp,Qdu X pins H b)(ho:∀b∈fp,∃o,s.heap.get? b=some o/\∀v,o.data≠ .cell v):Inv X (pins++Qgr fp s.heap) σ H s:=
 I.Qot λp hp=>(ZG.mp hp).elim (λz=>I.pin p (Ze _ z)) λz=>by
  obtain⟨hb,e⟩:=QpC z
  obtain⟨f0,f1,f2,_⟩:=hf p.1 hb
  obtain⟨o,e',d⟩:=ho p.1 hb
  rw[e]at e';cases e'
  exact⟨e,f0,f1,f2,d⟩
theorem Inv.QfI{pins pl:List (Addr×Obj)}{σ:St}{H:Hp}{s:Shared}(I:Inv X (pins++pl) σ H s):Inv X pins σ H s:=I.Qot λp hp=>I.pin p (Ze _ (Zn _ hp))
theorem Qxj{iter:Expr}{body:List Stmt}{wi:TI}{g:TG}{tb:TS}{pos:Pos}(hp:PassesOwn (model X.prog X.w) X.A X.env X.xe)(hc:X.calm=true)(hi:PI X tg iter wi)(hg:PG X tg g)(hb:PSs X body tb)
  (hs:∀x,foldedSetIterable iter X.env x=pure x:=by intro _;rfl):PS X (.For tg iter body [] pos) (Qzm wi g tb):=by
 intro pins s σ H D I h
 refine wpAny_For (thn (hi pins s σ H _ I h) λv s1 h1=>thn h1 λitv s2 h2=>?_) hs
 obtain⟨it,fp,tn,J,H2,e,I2,T,st2,f2,W,⟨m0,w0⟩,turn⟩:=h2
 subst e
 have stat:∀{H':Hp},(∀b∈fp,H' b=none)->∀b∈fp,Qdu X pins H' b:=λhn b hb=>⟨hn b hb,(f2 b hb).2⟩
 refine codeAny_forLoop_any (λn s'=>∃i σ' H',Inv X pins σ' H' s'/\tn i s'.heap/\(∀b∈fp,H' b=none)/\W i n σ' H') ?_ m0 ⟨0,σ,H2,I2,st2,λb hb=>(f2 b hb).1,w0⟩
 rintro n s3 ⟨i,σ3,H3,I3,st3,fr3,w3⟩
 rcases turn i n σ3 H3 w3 with⟨stop,qn⟩ | ⟨go,N,hN,step⟩
 ·refine wpAny_passesOwn hp (thn (T.done X rfl rfl rfl hc i pins s3 σ3 H3 X.xe I3 (stat fr3) st3 stop) λr s4 hpt=>?_)
  obtain⟨hr,I4⟩:=hpt
  subst hr
  exact wpAny_execs_nil ⟨σ3,H3,I4,qn⟩
 ·refine wpAny_passesOwn hp (thn (T.item X rfl rfl rfl hc i pins s3 σ3 H3 X.xe I3 (stat fr3) st3 go) λr s4 hpt=>?_)
  obtain⟨u,hr,h4⟩:=hpt
  subst hr
  refine wpAny_passesOwn hp (thn h4 λ_ s5 hpt=>?_)
  obtain⟨x,H5,I5,r5,y5,st5,fr5⟩:=hpt
  have I5':=I5.pinned (stat fr5) (T.obj _ _ st5)
  refine wpAny_passesOwn hp (thn (hg _ s5 σ3 H5 x u _ I5' r5 (step x H5 y5)) λ_ s6 hpt=>?_)
  obtain⟨σ6,H6,I6,q6⟩:=hpt
  refine wpAny_passesOwn hp (thn (hb _ s6 σ6 H6 _ I6 q6) λf s7 q7=>?_)
  have again:∀{σ7:St}{H7:Hp},Inv X (pins++Qgr fp s5.heap) σ7 H7 s7->N σ7 H7->∃m,m<n/\∃i σ' H',Inv X pins σ' H' s7/\tn i s7.heap/\(∀b∈fp,H' b=none)/\W i m σ' H':=λ{σ7 H7} I7 n7=>by
   obtain⟨m',hm,w7⟩:=hN σ7 H7 n7
   refine⟨m',hm,i+1,σ7,H7,I7.QfI,T.keep _ _ _ st5 λb hb o e=>(I7.pin (b,o) (Ze _ (Ze _ (QfR hb e)))).1,λb hb=>?_,w7⟩
   obtain⟨o,e,d⟩:=T.obj _ _ st5 b hb
   exact(I7.pin (b,o) (Ze _ (Ze _ (QfR hb e)))).2.1
  cases f with
  | next=>obtain⟨σ7,H7,I7,n7⟩:=q7;exact again I7 n7
  | cont=>obtain⟨σ7,H7,I7,n7⟩:=q7;exact again I7 n7
  | brk=>obtain⟨σ7,H7,I7,q7⟩:=q7;exact⟨σ7,H7,I7.QfI,q7⟩
  | ret v=>obtain⟨x7,σ7,H7,I7,r7,q7⟩:=q7;exact⟨x7,σ7,H7,I7.QfI,r7,q7⟩
end
end L2
namespace L2
open PySem PySem.Spec PyProof.Rows
noncomputable abbrev R2:=V->V->Hp->VK->Prop
def OpR(X:Cx)(f:Value->Value->Sem Value)(r:R2):Prop:=
 ∀(pins:List (Addr×Obj)) (s:Shared) (σ:St) (H:Hp) (x y:V) (v u:Value) (Q:VK),Inv X pins σ H s->RelV x v->RelV y u->r x y H Q→
  wpAny (model X.prog X.w) X.A (f v u) (EP X pins σ Q) X.xe s
def UnR(X:Cx)(f:Value->Sem Value)(r:V->Hp->VK->Prop):Prop:=
 ∀(pins:List (Addr×Obj)) (s:Shared) (σ:St) (H:Hp) (x:V) (v:Value) (Q:VK),Inv X pins σ H s->RelV x v->r x H Q→
  wpAny (model X.prog X.w) X.A (f v) (EP X pins σ Q) X.xe s
def Qa3(X:Cx)(f:Value)(r:List V->Hp->VK->Prop):Prop:=
 ∀(pins:List (Addr×Obj)) (s:Shared) (σ:St) (H:Hp) (xs:List V) (us:List Value) (Q:VK),Inv X pins σ H s->Qw xs us->r xs H Q→
  wpAny (model X.prog X.w) X.A (call f us) (EP X pins σ Q) X.xe s
def QzC(X:Cx)(r:V->Hp->(Bool->Hp->Prop)->Prop):Prop:=
 ∀(pins:List (Addr×Obj)) (s:Shared) (σ:St) (H:Hp) (x:V) (v:Value) (Q:Bool->Hp->Prop),Inv X pins σ H s->RelV x v->r x H Q→
  wpAny (model X.prog X.w) X.A (truthy v) (TP X pins σ Q) X.xe s
noncomputable def tOp(r:R2)(ta tb:TE):TE:=λσ H Q=>ta σ H λx H1=>tb σ H1 λy H2=>r x y H2 Q
noncomputable def tUn(r:V->Hp->VK->Prop)(ta:TE):TE:=λσ H Q=>ta σ H λx H1=>r x H1 Q
noncomputable def rI(C:Int->Int->Prop)(g:Int->Int->V):R2:=λx y H Q=>∃i j,x= .int i/\y= .int j/\C i j/\Q (g i j) H
noncomputable def rI0(g:Int->Int->V):R2:=λx y H Q=>∃i j,x= .int i/\y= .int j/\Q (g i j) H
noncomputable def rU(g:Int->V):V->Hp->VK->Prop:=λx H Q=>∃i,x= .int i/\Q (g i) H
section
variable {X:Cx}{a b c:Expr}{ta tb tc:TE}{pos:Pos}
theorem QrV(ha:PE X a ta)(hb:PE X b tb){pins:List (Addr×Obj)}{s:Shared}{σ:St}{H:Hp}{R:V->V->Hp->Prop}(I:Inv X pins σ H s)
  (h:ta σ H λx H1=>tb σ H1 λy H2=>R x y H2) {Q:Value->Shared->Prop}{f:Value->Value->Sem Value}
  (hf:∀v u s2 x y H2,Inv X pins σ H2 s2->RelV x v->RelV y u->R x y H2->wpAny (model X.prog X.w) X.A (f v u) Q X.xe s2):
  wpAny (model X.prog X.w) X.A (eval a X.env) (λv s₁=>wpAny (model X.prog X.w) X.A (eval b X.env) (λu s₂=>wpAny (model X.prog X.w) X.A (f v u) Q X.xe s₂) X.xe s₁) X.xe s:=by
 refine thn (ha pins s σ H _ I h) λv s1=>exJ λx H1 I1 r1 q1=>?_
 refine thn (hb pins s1 σ H1 _ I1 q1) λu s2=>exJ λy H2 I2 r2 q2=>?_
 exact hf v u s2 x y H2 I2 r1 r2 q2
theorem Qpu{op:Operator}{r:R2}(ho:OpR X (binaryOp op) r)(ha:PE X a ta)(hb:PE X b tb):PE X (.BinOp a op b pos) (tOp r ta tb):=by
 intro pins s σ H Q I h
 exact wpAny_BinOp (QrV ha hb I h λv u s2 x y H2 I2 rx ry q=>ho pins s2 σ H2 x y v u Q I2 rx ry q)
theorem Qx6{op:UnaryOp}{r:V->Hp->VK->Prop}(ho:UnR X (unaryOp op) r)(ha:PE X a ta):PE X (.UnaryOp op a pos) (tUn r ta):=by
 intro pins s σ H Q I h
 exact UnaryOp_ (thn (ha pins s σ H _ I h) λv s1 ⟨x,H1,I1,r1,q1⟩=>ho pins s1 σ H1 x v Q I1 r1 q1)
theorem QwR{op:Operator}{r:R2}(ho:OpR X (inplaceOp op) r){pins:List (Addr×Obj)}{s:Shared}{σ:St}{H:Hp}{x y:V}{v u:Value}{Q:VK}(I:Inv X pins σ H s)
  (rx:RelV x v) (ry:RelV y u) (q:r x y H Q):wpAny (model X.prog X.w) X.A (inplaceOp op v u) (EP X pins σ Q) X.xe s:=ho pins s σ H x y v u Q I rx ry q
theorem opI{f:Value->Value->Sem Value}{C:Int->Int->Prop}{g:Int->Int->Int}
  (rule:∀(i j:Int) (t u:Tok) (s:Shared) (Q:Value->Shared->Prop) (E:Value->Shared->Prop),C i j->Q (.int (g i j) s.toks) {s with toks:=s.toks+1}->wpAny (model X.prog X.w) X.A (f (.int i t) (.int j u)) Q E s):
  OpR X f (rI C λi j=> .int (g i j)):=by
 intro pins s σ H x y v u Q I rx ry h
 obtain⟨i,j,rfl,rfl,hc,q⟩:=h
 obtain⟨t,rfl⟩:=rx
 obtain⟨t',rfl⟩:=ry
 exact rule i j t t' s _ _ hc ⟨.int (g i j),H,I.tok _,⟨_,rfl⟩,q⟩
theorem QoG{f:Value->Value->Sem Value}{g:Int->Int->Int}
  (rule:∀(i j:Int) (t u:Tok) (s:Shared) (Q:Value->Shared->Prop) (E:Value->Shared->Prop),Q (.int (g i j) s.toks) {s with toks:=s.toks+1}->wpAny (model X.prog X.w) X.A (f (.int i t) (.int j u)) Q E s):
  OpR X f (rI0 λi j=> .int (g i j)):=by
 intro pins s σ H x y v u Q I rx ry h
 obtain⟨i,j,rfl,rfl,q⟩:=h
 obtain⟨t,rfl⟩:=rx
 obtain⟨t',rfl⟩:=ry
 exact rule i j t t' s _ _ ⟨.int (g i j),H,I.tok _,⟨_,rfl⟩,q⟩
theorem Qph{f:Value->Value->Sem Value}{g:Int->Int->Bool}
  (rule:∀(i j:Int) (t u:Tok) (s:Shared) (Q:Value->Shared->Prop) (E:Value->Shared->Prop),Q (.bool (g i j)) s->wpAny (model X.prog X.w) X.A (f (.int i t) (.int j u)) Q E s):
  OpR X f (rI0 λi j=> .bl (g i j)):=by
 intro pins s σ H x y v u Q I rx ry h
 obtain⟨i,j,rfl,rfl,q⟩:=h
 obtain⟨t,rfl⟩:=rx
 obtain⟨t',rfl⟩:=ry
 exact rule i j t t' s _ _ ⟨.bl (g i j),H,I,rfl,q⟩
def QwQ(i j:Int):Prop:=(-(2^64)<i/\i<2^64)∨(-(2^64)<j/\j<2^64)
theorem QwQ.ok{i j:Int}(h:QwQ i j):IntMulOk i j:=by
 rcases h with⟨h1,h2⟩ | ⟨h1,h2⟩
 ·exact .of_left (intBits_le_64 h1 h2)
 ·exact .of_right (intBits_le_64 h1 h2)
theorem Qo3(k:Nat):(0:Int)<=2^k:=by
 rw[two_pow_cast]
 exact Int.natCast_nonneg _
theorem Qxl:OpR X (binaryOp .Add) (rI0 λi j=> .int (i+j)):=QoG λ_ _ _ _ _ _ _ q=>add_int q
theorem Qxr:OpR X (binaryOp .Sub) (rI0 λi j=> .int (i-j)):=QoG λ_ _ _ _ _ _ _ q=>sub_int q
theorem QwD:OpR X (binaryOp .RShift) (rI (λ_ j=>0<=j) λi j=> .int (i / 2^j.toNat)):=opI λi j _ _ _ _ _ hc q=>
 rshift_int hc (by rw[ZbO i (Qo3 _)];exact q)
theorem Qua:OpR X (inplaceOp .Add) (rI0 λi j=> .int (i+j)):=QoG λ_ _ _ _ _ _ _ q=>iadd_int q
theorem Qvq:OpR X (inplaceOp .Sub) (rI0 λi j=> .int (i-j)):=QoG λ_ _ _ _ _ _ _ q=>isub_int q
theorem unI{f:Value->Sem Value}{g:Int->Int}
  (rule:∀(i:Int) (t:Tok) (s:Shared) (Q:Value->Shared->Prop) (E:Value->Shared->Prop),Q (.int (g i) s.toks) {s with toks:=s.toks+1}->wpAny (model X.prog X.w) X.A (f (.int i t)) Q E s):
  UnR X f (rU λi=> .int (g i)):=by
 intro pins s σ H x v Q I rx h
 obtain⟨i,rfl,q⟩:=h
 obtain⟨t,rfl⟩:=rx
 exact rule i t s _ _ ⟨.int (g i),H,I.tok _,⟨_,rfl⟩,q⟩
theorem QxJ:UnR X (unaryOp .USub) (rU λi=> .int (-i)):=unI λ_ _ _ _ _ q=>neg_int q
end
section
variable {X:Cx}{a b c:Expr}{ta tb tc:TE}{pos:Pos}
theorem Qjk{pins:List (Addr×Obj)}{σ:St}{H:Hp}{s:Shared}{Q:VK}{k k':Bool}(I:Inv X pins σ H s)(q:Q (.bl k) H)(e:k=k'):EP X pins σ Q (.bool k') s:=by
 subst e
 exact⟨.bl k,H,I,rfl,q⟩
theorem QyG:OpR X (compareOp .Lt) (rI0 λi j=> .bl (decide (i<j))):=Qph λ_ _ _ _ _ _ _ q=>lt_int q
theorem Qyn:OpR X (compareOp .LtE) (rI0 λi j=> .bl (decide (i<=j))):=Qph λ_ _ _ _ _ _ _ q=>le_int q
theorem QxW:OpR X (compareOp .Gt) (rI0 λi j=> .bl (decide (j<i))):=Qph λ_ _ _ _ _ _ _ q=>gt_int q
theorem QyT:OpR X (compareOp .GtE) (rI0 λi j=> .bl (decide (j<=i))):=Qph λ_ _ _ _ _ _ _ q=>ge_int q
theorem Qw9:OpR X (compareOp .Is) (λx y H Q=>y= .non/\Q (.bl (decide (x= .non))) H):=by
 intro pins s σ H x y v u Q I rx ry h
 obtain⟨rfl,q⟩:=h
 cases ry
 refine is_none_gen (Qjk I q ?_)
 cases x<;>first
  | (cases rx;rfl)
  | (obtain⟨t,rfl⟩:=rx;rfl)
theorem Quc:OpR X (compareOp .IsNot) (λx y H Q=>y= .non/\Q (.bl (!decide (x= .non))) H):=by
 intro pins s σ H x y v u Q I rx ry h
 obtain⟨rfl,q⟩:=h
 cases ry
 refine isnot_none_gen (Qjk I q ?_)
 cases x<;>first
  | (cases rx;rfl)
  | (obtain⟨t,rfl⟩:=rx;rfl)
theorem OpR.or{f:Value->Value->Sem Value}{r r':R2}(h:OpR X f r)(h':OpR X f r'):OpR X f (λx y H Q=>r x y H Q∨r' x y H Q):=by
 intro pins s σ H x y v u Q I rx ry q
 rcases q with q | q
 ·exact h pins s σ H x y v u Q I rx ry q
 ·exact h' pins s σ H x y v u Q I rx ry q
theorem QzP(b:Expr){op:CmpOp}(h:op≠ .In:=by decide)(h2:op≠ .NotIn:=by decide):behindInMarks op b=false:=by
 have e1:(op == CmpOp.In)=false:=by cases op<;>first | rfl | exact absurd rfl h
 have e2:(op == CmpOp.NotIn)=false:=by cases op<;>first | rfl | exact absurd rfl h2
 cases b<;>simp[behindInMarks,e1,e2]
theorem QvJ{op:CmpOp}{r:R2}(ho:OpR X (compareOp op) r)(ha:PE X a ta)(hb:PE X b tb)(hm:behindInMarks op b=false):PE X (.Compare a [op] [b] pos) (tOp r ta tb):=by
 intro pins s σ H Q I h
 exact wpAny_Compare1 (QrV ha hb I h λv u s2 x y H2 I2 rx ry q=>ho pins s2 σ H2 x y v u Q I2 rx ry q) hm
noncomputable def Qyu(t:TE):TT:=λσ H Q=>t σ H λx H'=>∃k,x= .bl k/\Q k H'
theorem Qve{op:CmpOp}{r:R2}(ho:OpR X (compareOp op) r)(ha:PE X a ta)(hb:PE X b tb)(hm:behindInMarks op b=false):PT X (.Compare a [op] [b] pos) (Qyu (tOp r ta tb)):=by
 intro pins s σ H Q I h
 refine wpAny_isTrue_Compare1 (thn (ha pins s σ H _ I h) λv s1 ⟨x,H1,I1,r1,q1⟩=>thn (hb pins s1 σ H1 _ I1 q1) λu s2 ⟨y,H2,I2,r2,q2⟩=>
  thn (ho pins s2 σ H2 x y v u _ I2 r1 r2 q2) λc s3 ⟨z,H3,I3,r3,k,e,q3⟩=>?_) hm
 subst e
 cases r3
 exact wpAny_truthy_bool ⟨H3,I3,q3⟩
def Qr1(K:PySem.W.Frag)(x:V)(H:Hp)(k:Bool):Prop:=
 match x with
 | .non=>k=false
 | .bl b=>k=b
 | .int i=>k=(i != 0)
 | .str y=>y.length<=sizeLine/\k=((y.length:Int) != 0)
 | .byt y=>y.size<=sizeLine/\k=((y.size:Int) != 0)
 | .ref p=>(∃xs,SqL K H p xs/\k= !xs.isEmpty)∨(∃xs,SqT K H p xs/\k= !xs.isEmpty)∨∃kvs,H p=some (.dK kvs)/\k= !kvs.isEmpty
 | _=>False
theorem Qo7{κ:Type}{kvs:List (κ×V)}{vs:List (κ×Value)}(r:KV kvs vs):(!vs.isEmpty)= !kvs.isEmpty:=by
 cases r<;>rfl
theorem QiQ{xs:List V}{its:List Value}(r:Qw xs its):(!its.toArray.isEmpty)= !xs.isEmpty:=by
 cases r<;>simp
theorem Qfo:(sizeLine:Nat)<2^63:=by rw[sizeLine_eq];decide
theorem QiZ:QzC X (λx H Q=>∃k,Qr1 X.K x H k/\Q k H):=by
 intro pins s σ H x v Q I rx h
 obtain⟨k,e,q⟩:=h
 have hl:=Qfo
 have hs:sizeLine=16777216:=sizeLine_eq
 cases x with
 | non=>
  cases rx
  have e':k=false:=e
  subst e'
  exact truthy_none ⟨H,I,q⟩
 | bl b=>
  cases rx
  have e':k=b:=e
  subst e'
  exact wpAny_truthy_bool ⟨H,I,q⟩
 | int i=>
  obtain⟨t,rfl⟩:=rx
  have e':k=(i != 0):=e
  subst e'
  exact PySem.P.truthy_int ⟨H,I,q⟩
 | str y=>
  obtain⟨t,rfl⟩:=rx
  obtain⟨hy,e'⟩:y.length<=sizeLine/\k=((y.length:Int) != 0):=e
  subst e'
  exact PySem.P.truthy_str (by omega) ⟨H,I.tok _,q⟩
 | byt y=>
  obtain⟨t,rfl⟩:=rx
  obtain⟨hy,e'⟩:y.size<=sizeLine/\k=((y.size:Int) != 0):=e
  subst e'
  exact PySem.W.truthy_bytes (by omega) ⟨H,I.tok _,q⟩
 | ref p=>
  cases rx
  have e':(∃xs,SqL X.K H p xs/\k= !xs.isEmpty)∨(∃xs,SqT X.K H p xs/\k= !xs.isEmpty)∨∃kvs,H p=some (.dK kvs)/\k= !kvs.isEmpty:=e
  rcases e' with⟨xs,hx,e'⟩ | ⟨xs,hx,e'⟩ | ⟨kvs,hx,e'⟩
  ·subst e'
   obtain⟨its,r,pl,hz⟩:=I.list hx
   have hlen:=r.length
   exact wpAny_truthy_list pl.isList (by simp only[Zt];omega) ⟨H,I.tok _,by rw[QiQ r];exact q⟩
  ·subst e'
   obtain⟨its,r,pl,hz⟩:=I.tuple hx
   have hlen:=r.length
   exact truthy_tuple pl (by simp only[Zt];omega) ⟨H,I.tok _,by rw[QiQ r];exact q⟩
  ·subst e'
   obtain⟨hz,hS,vs,r,m⟩:kvs.length<=sizeLine/\(p == sysModules)=false/\∃vs,KV kvs vs/\s.heap.DictOf (QaR X.prog X.w) p vs:=I.hok p _ hx
   have hlen:kvs.length=vs.length:=Zbn r
   exact wpAny_truthy_dict hS m (by omega) ⟨H,I.tok _,by rw[Qo7 r];exact q⟩
 | _=>exact(show False from e).elim
theorem Qsy(ha:PE X a ta)(he:∀whole,isTrue a X.env whole=(do let v ← whole;standAt a.pos;holding [v] (truthy v))):
  PT X a (λσ H Q=>ta σ H λx H'=>∃k,Qr1 X.K x H' k/\Q k H'):=by
 intro pins s σ H Q I h
 exact isTrue_plain (thn (ha pins s σ H _ I h) λv s1 ⟨x,H1,I1,r1,q1⟩=>QiZ pins s1 σ H1 x v Q I1 r1 q1) (he _)
theorem vals1{x:V}{us:List Value}(r:Qw [x] us):∃u,us=[u]/\RelV x u:=by
 cases r with
 | cons r1 r2=>cases r2;exact⟨_,rfl,r1⟩
theorem vals2{x y:V}{us:List Value}(r:Qw [x,y] us):∃u w',us=[u,w']/\RelV x u/\RelV y w':=by
 cases r with
 | cons r1 r2=>
  cases r2 with
  | cons r3 r4=>cases r4;exact⟨_,_,rfl,r1,r3⟩
theorem Qsl:Qa3 X (.builtin "abs") (λxs H Q=>∃i,xs=[.int i]/\Q (.int (if i<0 then-i else i)) H):=by
 intro pins s σ H xs us Q I r h
 obtain⟨i,rfl,q⟩:=h
 obtain⟨u,rfl,t,rfl⟩:=vals1 r
 exact call_abs_int λu tk=>⟨.int (if i<0 then-i else i),H,I.tok _,⟨_,rfl⟩,q⟩
theorem Qrs(hc:X.calm=true):Qa3 X (.builtin "max") (λxs H Q=>∃i j,xs=[.int i,.int j]/\Q (.int (if j>i then j else i)) H):=by
 intro pins s σ H xs us Q I r h
 obtain⟨i,j,rfl,q⟩:=h
 obtain⟨u,w',rfl,⟨t,rfl⟩,⟨t',rfl⟩⟩:=vals2 r
 refine max_two_ints (I.ok.hd hc) λh' tk k=>⟨_,H,I.kept k,?_,q⟩
 by_cases hj:j>i
 ·rw[if_pos hj,if_pos hj];exact⟨_,rfl⟩
 ·rw[if_neg hj,if_neg hj];exact⟨_,rfl⟩
theorem Qqb(hc:X.calm=true):Qa3 X (.builtin "min") (λxs H Q=>∃i j,xs=[.int i,.int j]/\Q (.int (if j<i then j else i)) H):=by
 intro pins s σ H xs us Q I r h
 obtain⟨i,j,rfl,q⟩:=h
 obtain⟨u,w',rfl,⟨t,rfl⟩,⟨t',rfl⟩⟩:=vals2 r
 refine min_two_ints (I.ok.hd hc) λh' tk k=>⟨_,H,I.kept k,?_,q⟩
 by_cases hj:j<i
 ·rw[if_pos hj,if_pos hj];exact⟨_,rfl⟩
 ·rw[if_neg hj,if_neg hj];exact⟨_,rfl⟩
end
end L2
namespace L2
open PySem PySem.Spec PyProof.Rows
structure QwG (h:Heap) (x dx C:Addr) (mA:Str->Option Value):Prop where
 obj:h.get? x=some (PySem.W.instObj C dx)
 ns:h.Ns1 dx mA
 ne:dx≠x
theorem Qp6{h:Heap}{dx:Addr}{mA:Str->Option Value}(n:h.Ns1 dx mA):∃od,h.get? dx=some od/\∀name,PySem.W.lookIn name od=some (mA name):=by
 obtain⟨o,es,ep,ho,hd,hk,_,hm⟩:=n
 refine⟨o,ho,λname=>?_⟩
 have e:=hm name
 unfold nsFind findBy at e
 rw[← Array.find?_toList]at e
 unfold PySem.W.lookIn
 rw[hd]
 dsimp only
 split
 ·rename_i y q
  rw[q]at e
  exact congrArg some e
 ·rename_i q
  rw[q]at e
  have a:es.toList.any (·.refKey)=false:=by
   rw[List.any_eq_false]
   intro y hy
   obtain⟨z,t,hkey⟩:=hk y (Array.mem_toList_iff.mp hy)
   simp[DictEntry.refKey,hkey]
  have a':¬es.toList.any (·.refKey)=true:=by rw[a];exact Zag
  rw[if_neg a']
  exact congrArg some e
theorem QwG.look{h:Heap}{x dx C:Addr}{mA:Str->Option Value}(I:QwG h x dx C mA):∃od,PySem.W.InstAt h x (PySem.W.instObj C dx) C (some od)/\∀name,PySem.W.lookIn name od=some (mA name):=
 let ⟨od,ho,hl⟩:=Qp6 I.ns
 ⟨od,⟨I.obj,rfl,rfl,ho⟩,hl⟩
section
variable {prog:Program}{w:World}{A:Around}{E:Value->Shared->Prop}{s:Shared}{K:PySem.W.Frag}{x dx C f:Addr}{mA:Str->Option Value}{name:Str}{v:Value}
end
theorem Qd5.some_of{v:V}{o:Option Value}(r:Qd5 (some v) o):∃u,o=some u/\RelV v u:=by
 cases o with
 | none=>exact(show False from r).elim
 | some u=>exact⟨u,rfl,r⟩
theorem Qd5.none_of{o:Option Value}(r:Qd5 none o):o=none:=by
 cases o with
 | none=>rfl
 | some u=>exact(show False from r).elim
section
variable {P:Program}{w:World}{H H':Hp}{h h':Heap}{a C dx:Addr}{fs fs':List (Str×V)}
end
structure Cls (K:PySem.W.Frag) (C:Addr):Prop where
 pg:PySem.W.plainGet K C Str.empty=true
 hd:PySem.W.hasDictIn K C=true
 po:PySem.W.plainOver K C=true
 sa:PySem.W.findIn K (.ref C) "__setattr__" =some (some (.builtin "object.__setattr__"))
theorem Cls.get{K:PySem.W.Frag}{C:Addr}(c:Cls K C)(f:Str):PySem.W.plainGet K C f=true:=c.pg
structure Con (K:PySem.W.Frag) (C:Addr) (f:Str) (v:V) (u:Value):Prop where
 at_:PySem.W.findIn K (.ref C) f=some (some u)
 rel:RelV v u
 get:PySem.W.specialIn K u "__get__" =some none
 cp:PySem.W.copiedNames.contains f=false
structure QzT (K:PySem.W.Frag) (C:Addr) (m:Str) (f:Addr):Prop where
 at_:PySem.W.findIn K (.ref C) m=some (some (.ref f))
 fn:PySem.W.isFn K (.ref f)=true
 kp:PySem.W.keepIn K (.ref f)=true
section
variable {X:Cx}{pins:List (Addr×Obj)}{σ:St}{H:Hp}{s:Shared}{a C dx:Addr}{fs:List (Str×V)}{f:Str}{v:V}{A:Around}{E:Value->Shared->Prop}
theorem Inv.made(I:Inv X pins σ H s):Inv X pins σ (upd (upd H s.heap.objs.size (.own (s.heap.objs.size+1))) (s.heap.objs.size+1) (.ins C s.heap.objs.size []))
  {s with heap:=(s.heap.push PySem.W.emptyDict).push (PySem.W.instObj C s.heap.objs.size)}:=by
 have e1:(s.heap.push PySem.W.emptyDict).get? s.heap.objs.size=some PySem.W.emptyDict:=Zo s.heap rfl
 have e2:((s.heap.push PySem.W.emptyDict).push (PySem.W.instObj C s.heap.objs.size)).get? (s.heap.objs.size+1)=some (PySem.W.instObj C s.heap.objs.size):=by
  have:=Zo (s.heap.push PySem.W.emptyDict) (o:=PySem.W.instObj C s.heap.objs.size) rfl
  rwa[Zad]at this
 have e3:(s.heap.push PySem.W.emptyDict).Ns s.heap.objs.size (λ_=>none):=⟨PySem.W.emptyDict,#[],_,e1,rfl,(λe he=>absurd he (by simp)),λ_=>rfl⟩
 have I1:=I.laid (a:=s.heap.objs.size) (o:= .own (s.heap.objs.size+1)) (h':=s.heap.push PySem.W.emptyDict) (t':=s.toks) (λb u q=>Zb _ q) (Zh _) ⟨_,e1⟩
 refine I1.laid (a:=s.heap.objs.size+1) (o:= .ins C s.heap.objs.size []) (t':=s.toks) (λb u q=>Zb _ q) (Nat.le_of_eq (Zad _ _)) ?_
 have ne:s.heap.objs.size≠s.heap.objs.size+1:=ZK (ZaL _)
 refine⟨by rw[QD ne,Q9],Zac _,ne,e2,λ_=>none,(Heap.Ns1.of_empty e3).at λo q=>Zb _ q,λ_=>True.intro,λy hy=>absurd rfl hy⟩
end
section
variable {X:Cx}{o e value:Expr}{f:Str}{pos pos' tpos:Pos}{ta tv:TE}
end
section
variable {X:Cx}{pins:List (Addr×Obj)}{σ:St}{H:Hp}{s:Shared}{A:Around}{E:Value->Shared->Prop}{Q:Value->Shared->Prop}{c:Value}{b:Bool}
end
end L2
namespace L2
open PySem PySem.Spec PyProof.Rows
structure QaI (k:Nat) (A:Around):Prop where
 hd:A.handled=none
 dp:A.depth+3*k+5<recursionLimit
 un:A.units+16*k+200<cLine
theorem QaI.mono{j k:Nat}{A:Around}(r:QaI k A)(h:j<=k):QaI j A:=⟨r.hd,by have:=r.dp;omega,by have:=r.un;omega⟩
theorem QaI.deeper{k:Nat}{A:Around}(r:QaI (k+1) A)(env:Env):QaI k (A.deeper env):=
 ⟨r.hd,by have:=r.dp;show A.depth+1+3*k+5<_;omega,by have:=r.un;show A.units+3+16*k+200<_;omega⟩
theorem QaI.in1{k:Nat}{A:Around}(r:QaI (k+1) A):QaI k A.in1:=
 ⟨r.hd,by have:=r.dp;show A.depth+3*k+5<_;omega,by have:=r.un;show A.units+1+16*k+200<_;omega⟩
theorem Qpj{A:Around}{C:Addr}{us:List Value}{kw:List (Str×Value)}:(A.under (.builtin "type.__call__" ⟨.ref C::us,kw⟩)).depth=A.depth+1:=by
 first | rfl | simp[Around.under,Code.weight,Code.isCreation,Code.isGuard,Code.isCaller,Code.frames,Code.isFrame,guardIds]
theorem QoS{A:Around}{C:Addr}{us:List Value}{kw:List (Str×Value)}:(A.under (.builtin "type.__call__" ⟨.ref C::us,kw⟩)).units=A.units+1:=by
 first | rfl | simp[Around.under,Code.cUnits,Code.frames,Code.isFrame]
theorem QaI.make{k:Nat}{A:Around}(r:QaI (k+1) A)(C:Addr)(us:List Value)(kw:List (Str×Value)):QaI k (A.under (.builtin "type.__call__" ⟨.ref C::us,kw⟩)):=
 ⟨r.hd,by have:=r.dp;rw[Qpj];omega,by have:=r.un;rw[QoS];omega⟩
theorem QaI.depth{k:Nat}{A:Around}(r:QaI k A):A.depth<recursionLimit:=by have:=r.dp;omega
theorem QaI.units{k:Nat}{A:Around}(r:QaI k A):A.units+64<cLine:=by have:=r.un;omega
noncomputable def Qff:TA:=λ_ H Q=>Q [] H
noncomputable def Qdv(ta:TE)(tr:TA):TA:=λσ H Q=>ta σ H λx H1=>tr σ H1 λxs H2=>Q (x::xs) H2
section
variable {X:Cx}{e:Expr}{es:List Expr}{te:TE}{t:TA}{pos:Pos}
theorem QbJ:PA X [] Qff:=λ_ _ _ _ H Q I h=>Calls.spliced_nil ⟨[],H,I,.nil,h⟩
theorem Qaf(ha:PE X e te)(hr:PA X es t)(hs:starEach (e::es) X.env=(false,eval e X.env)::starEach es X.env:=by rfl):PA X (e::es) (Qdv te t):=by
 intro pos pins s σ H Q I h
 rw[hs]
 show wpAny _ _ (spliced ((false,eval e X.env)::backTo pos (starEach es X.env))) _ _ s
 refine Calls.spliced_cons (thn (ha pins s σ H _ I h) λu s1=>exJ λx H1 I1 r1 q1=>?_)
 exact thn (hr pos pins s1 σ H1 _ I1 q1) λus s2 ⟨xs,H2,I2,r2,q2⟩=>⟨x::xs,H2,I2,.cons r1 r2,q2⟩
noncomputable def Qzw(t:TA):TE:=λσ H Q=>t σ H λxs H1=>xs.length<=sizeLine/\∀p,H1 p=none->Q (.ref p) (upd H1 p (.tup xs))
noncomputable def QzG(t:TA):TE:=λσ H Q=>t σ H λxs H1=>xs.length<=sizeLine/\∀p,H1 p=none->Q (.ref p) (upd H1 p (.lst xs))
theorem QwF{x1}(h:PA X es t):PE X (.Tuple es x1 pos) (Qzw t):=by
 intro pins s σ H Q I hq
 refine wpAny_Tuple_spliced (thn (h pos pins s σ H _ I hq) λus s1 ⟨xs,H1,I1,r,z,q⟩=>⟨by rw[← r.length];exact z,?_⟩)
 have hf:H1 s1.heap.objs.size=none:=I1.hok.fresh (Zh _)
 refine⟨.ref s1.heap.objs.size,upd H1 s1.heap.objs.size (.tup xs),I1.laid (t':=s1.toks) (λb u e=>Zb _ e) (Zh _) ?_,rfl,q _ hf⟩
 exact⟨z,us,r,⟨_,Zo _ rfl,rfl,_,rfl⟩⟩
theorem Qwm(h:PA X es t):PE X (.List es pos) (QzG t):=by
 intro pins s σ H Q I hq
 refine wpAny_List_spliced (thn (h pos pins s σ H _ I hq) λus s1 ⟨xs,H1,I1,r,z,q⟩=>⟨by rw[← r.length];exact z,?_⟩)
 have hf:H1 s1.heap.objs.size=none:=I1.hok.fresh (Zh _)
 refine⟨.ref s1.heap.objs.size,upd H1 s1.heap.objs.size (.lst xs),I1.laid (t':=s1.toks) (λb u e=>Zb _ e) (Zh _) ?_,rfl,q _ hf⟩
 exact⟨z,us,0,r,Zo _ rfl⟩
end
noncomputable abbrev Sp:=List V->Hp->VK->XK->Prop
noncomputable abbrev CXT:=List Env->Hp->Shared->XK->Value->Shared->Prop
structure Qe3 (P:Program) (w:World) (K:PySem.W.Frag) (mg:Str->Option Value) (base:Heap) (A:Around) (outer:List Env) (s:Shared) (H:Hp):Prop where
 frames:A.frames=some outer
 mod:Mod K mg base
 bs:∀b o,base.get? b=some o->s.heap.get? b=some o/\H b=none
 bsz:base.objs.size<=s.heap.objs.size
 QdE:s.heap.FunFrames base outer
 frf:∀b∈frs outer,H b=none
 hok:HOk P w H s.heap
 bare:AllBare s.gens
def CE(outer:List Env)(P:Program)(w:World)(H:Hp)(s:Shared)(Q:VK)(u:Value)(s':Shared):Prop:=
 ∃v H',s'.os=s.os/\AllBare s'.gens/\Un (frs outer) [] H H' s.heap s'.heap/\HOk P w H' s'.heap/\RelV v u/\Q v H'
def CR(CX:CXT)(outer:List Env)(P:Program)(w:World)(H:Hp)(s:Shared)(Q:VK)(E:XK)(r:Result)(s':Shared):Prop:=
 match r with
 | .ok (.ret u)=>CE outer P w H s Q u s'
 | .ok _=>False
 | .error e=>CX outer H s E e s'
structure QbV (P:Program) (w:World) (K:PySem.W.Frag) (mg:Str->Option Value) (base:Heap) (CX:CXT) (k:Nat) (f:Addr) (fd:FuncData) (ps:List Str) (sp:Sp):Prop where
 len:∀vs H Q E,sp vs H Q E->vs.length=ps.length
 run:∀(A:Around) (outer:List Env) (s:Shared) (H:Hp) (args:Args) (us:List Value) (vs:List V) (Q:VK) (E:XK),QaI k A->Qe3 P w K mg base A outer s H->BindsTo s fd args (ps.zip us)->Qw vs us->sp vs H Q E→
  codeAny (model P w) A (.call (.ref f) args) (CR CX outer P w H s Q E) s
theorem QbV.mono{P:Program}{w:World}{K:PySem.W.Frag}{mg:Str->Option Value}{base:Heap}{CX:CXT}{j k:Nat}{f:Addr}{fd:FuncData}{ps:List Str}{sp:Sp}(F:QbV P w K mg base CX j f fd ps sp)(h:j<=k):
  QbV P w K mg base CX k f fd ps sp:=⟨F.len,λA outer s H args us vs Q E hr=>F.run A outer s H args us vs Q E (hr.mono h)⟩
theorem QbV.imp{P:Program}{w:World}{K:PySem.W.Frag}{mg:Str->Option Value}{base:Heap}{CX:CXT}{k:Nat}{f:Addr}{fd:FuncData}{ps:List Str}{sp sp':Sp}(F:QbV P w K mg base CX k f fd ps sp)
  (h:∀vs H Q E,sp' vs H Q E->sp vs H Q E):QbV P w K mg base CX k f fd ps sp':=
 ⟨λvs H Q E q=>F.len vs H Q E (h _ _ _ _ q),λA outer s H args us vs Q E hr he hb hv hs=>F.run A outer s H args us vs Q E hr he hb hv (h _ _ _ _ hs)⟩
theorem Qe3.make{P:Program}{w:World}{K:PySem.W.Frag}{mg:Str->Option Value}{base:Heap}{A:Around}{outer:List Env}{s:Shared}{H:Hp}(e:Qe3 P w K mg base A outer s H)(C:Addr)(us:List Value)(kw:List (Str×Value)):
  Qe3 P w K mg base (A.under (.builtin "type.__call__" ⟨.ref C::us,kw⟩)) outer s H:=⟨by first | exact e.frames | (simpa[Around.under,Code.envs,Code.isFrame,pushEnvs]using e.frames),e.mod,e.bs,e.bsz,e.QdE,e.frf,e.hok,e.bare⟩
theorem Qe3.in1{P:Program}{w:World}{K:PySem.W.Frag}{mg:Str->Option Value}{base:Heap}{A:Around}{outer:List Env}{s:Shared}{H:Hp}(e:Qe3 P w K mg base A outer s H):
  Qe3 P w K mg base A.in1 outer s H:=⟨e.frames,e.mod,e.bs,e.bsz,e.QdE,e.frf,e.hok,e.bare⟩
section
variable {X:Cx}{pins:List (Addr×Obj)}{σ:St}{H:Hp}{s s':Shared}
theorem Inv.Qy6(I:Inv X pins σ H s):Qe3 X.prog X.w X.K X.mg X.base X.A X.stack s H:=
 ⟨I.ok.frames,I.ok.mod,I.bs,Zx I.ok.bsz I.sz,I.stack,I.Qox,I.hok,I.bare⟩
theorem Inv.after{Q:VK}{u:Value}(I:Inv X pins σ H s)(h:CE X.stack X.prog X.w H s Q u s'):EP X pins σ Q u s':=by
 obtain⟨v,H',os,bare,un,hok,r,q⟩:=h
 obtain⟨hh,g,d,t,os'⟩:=s'
 obtain rfl:os'=s.os:=os
 exact⟨v,H',I.call (h':=hh) (g':=g) (d':=d) (t':=t) (ch:=[]) un hok bare (λb z=>absurd z (by simp)),r,q⟩
end
noncomputable def QoK(sp:Sp)(dvs:List V)(E:XK)(t:TA):TE:=λσ H Q=>t σ H λvs H1=>sp (vs++dvs) H1 Q E
def Binds(K:PySem.W.Frag)(fd:FuncData)(ps:List Str)(ds:List Value):Prop:=
 ∀(s:Shared) (us:List Value),K.In s.heap->(us++ds).length=ps.length->BindsTo s fd ⟨us,[]⟩ (ps.zip (us++ds))
theorem Binds.all{K:PySem.W.Frag}{fd:FuncData}{ps:List Str}(h:∀us:List Value,us.length=ps.length->bindArgs fd ⟨us,[]⟩=pure (ps.zip us)):Binds K fd ps []:=λs us _ hl=>by
 rw[Zay]at hl ⊢
 exact .of_eq (h us hl)
def QiO(CX:CXT)(X:Cx)(E:XK):Prop:=∀(pins:List (Addr×Obj)) (σ:St) (H:Hp) (s:Shared) (e:Value) (s':Shared),Inv X pins σ H s->CX X.stack H s E e s'->X.xe e s'
section
variable {X:Cx}{CX:CXT}{k:Nat}{f C:Addr}{fd:FuncData}{ps:List Str}{sp:Sp}{dvs:List V}{ds:List Value}{E:XK}{x m:Str}{p pos apos:Pos}{e o:Expr}{es:List Expr}{ta:TE}{t:TA}
theorem Qp8{pins:List (Addr×Obj)}{σ:St}{H:Hp}{s:Shared}{Q:VK}{us:List Value}{vs:List V}(F:QbV X.prog X.w X.K X.mg X.base CX k f fd ps sp)(hr:QaI k X.A)(hb:Binds X.K fd ps ds)(hd:Qw dvs ds)(hx:QiO CX X E)
  (I:Inv X pins σ H s) (r:Qw vs us) (h:sp (vs++dvs) H Q E):wpAny (model X.prog X.w) X.A (call (.ref f) us) (EP X pins σ Q) X.xe s:=by
 have r2:Qw (vs++dvs) (us++ds):=r.append hd
 have hl:(us++ds).length=ps.length:=by rw[← r2.length];exact F.len _ _ _ _ h
 refine wpAny_call (codeAny_mono (F.run X.A X.stack s H ⟨us,[]⟩ (us++ds) (vs++dvs) Q E hr I.Qy6 (hb s us I.kIn hl) r2 h) λr s' hq=>?_)
 cases r with
 | error e=>exact hx pins σ H s e s' I hq
 | ok fl=>
  cases fl with
  | ret u=>exact I.after hq
  | next=>exact False.elim hq
  | brk=>exact False.elim hq
  | cont=>exact False.elim hq
theorem Qvr(F:QbV X.prog X.w X.K X.mg X.base CX k f fd ps sp)(hr:QaI k X.A)(hg:Gl X x)(hm:X.mg x=some (.ref f))(hk:PySem.W.keepIn X.K (.ref f)=true)(hb:Binds X.K fd ps ds)(hd:Qw dvs ds)(hx:QiO CX X E)
  (ha:PA X (e::es) t) (hdb:(x == ("__debug__" :Str))=false:=by decide) (he:starEach (e::es) X.env=(false,eval e X.env)::starEach es X.env:=by rfl) (hpl:(backTo pos (starEach es X.env)).any (·.1)=false:=by rfl):
  PE X (.Call (.Name x p) (e::es) [] pos) (QoK sp dvs E t):=by
 intro pins s σ H Q I h
 refine wpAny_Call_Name_kw (Qj9 I hg hm ?_ hdb)
 refine PySem.W.callWith_K (h₀:=X.base) I.ok.mod.kin hk (thn (ha pos pins s σ H _ I h) λus s1 ⟨vs,H1,I1,r,q⟩=>⟨I1.kIn,?_⟩) he hpl
 exact Qp8 F hr hb hd hx I1 r q
theorem Qs6(F:QbV X.prog X.w X.K X.mg X.base CX k f fd ps sp)(hr:QaI k X.A)(hg:Gl X x)(hm:X.mg x=some (.ref f))(hk:PySem.W.keepIn X.K (.ref f)=true)(hb:Binds X.K fd ps ds)(hd:Qw dvs ds)(hx:QiO CX X E)
  (hdb:(x == ("__debug__" :Str))=false:=by decide):PE X (.Call (.Name x p) [] [] pos) (QoK sp dvs E Qff):=by
 intro pins s σ H Q I h
 refine wpAny_Call_Name_kw (Qj9 I hg hm ?_ hdb)
 exact PySem.W.callWith_K0 I.kIn hk (Qp8 (us:=[]) F hr hb hd hx I .nil h)
structure Mk (K:PySem.W.Frag) (C f:Addr):Prop where
 makes:PySem.W.makesIn K C=true
 init:PySem.W.findIn K (.ref C) "__init__" =some (some (.ref f))
 fn:PySem.W.isFn K (.ref f)=true
 kp:PySem.W.keepIn K (.ref C)=true
end
section
variable {X:Cx}{CX:CXT}{k:Nat}{f C:Addr}{fd:FuncData}{ps ks:List Str}{sp:Sp}{E:XK}{x m:Str}{p pos apos kpos:Pos}{e o:Expr}{es:List Expr}{kws:List Keyword}{te ta:TE}{t tk:TA}{nm:Option Str}
structure QzQ (K:PySem.W.Frag) (fd:FuncData) (ps ks:List Str) (g:List Value->List Value->List Value) (gV:List V->List V->List V):Prop where
 to:∀(s:Shared) (us ws:List Value),K.In s.heap->(g us ws).length=ps.length->BindsTo s fd ⟨us,ks.zip ws⟩ (ps.zip (g us ws))
 rel:∀{vs:List V}{us:List Value}{zs:List V}{ws:List Value},Qw vs us->Qw zs ws->Qw (gV vs zs) (g us ws)
variable {g:List Value->List Value->List Value}{gV:List V->List V->List V}
end
structure QcY (N P:List Str) (sc:Scope):Prop where
 kind:sc.kind= .function
 co:sc.isCoroutine=false
 gen:sc.isGenerator=false
 nd:N.Nodup
 pre:N.take P.length=P
 par:∀x∈P,sc.names.lookup x=some .local ∨sc.names.lookup x=some .cell
 nofree:∀y∈sc.names,y.2≠ .free
theorem Qkn{kindOf:Str->Option NameKind}{x:Str}:∀{binds:List (Str×Value)}{m:Str->Option Value},(∀v,(x,v)∉binds)->bindL kindOf binds m x=m x
 | [],_,_=>rfl
 | (n,v)::r,m,h=>by
  unfold bindL
  rw[Qkn λw hw=>h w (Zc _ hw)]
  split
  ·have:x≠n:=by rintro rfl;exact h v Zi
   simp[this]
  ·rfl
theorem Qkw{kindOf:Str->Option NameKind}{x:Str}:∀{binds:List (Str×Value)}{m:Str->Option Value},(∀v,(x,v)∉binds)->bindC kindOf binds m x=m x
 | [],_,_=>rfl
 | (n,v)::r,m,h=>by
  unfold bindC
  rw[Qkw λw hw=>h w (Zc _ hw)]
  split
  ·rfl
  ·have:x≠n:=by rintro rfl;exact h v Zi
   simp[this]
theorem QkI{kindOf:Str->Option NameKind}{x:Str}{v:Value}:∀{P:List Str}{vs:List Value}{i:Nat}{m:Str->Option Value},P.Nodup->P[i]? =some x->vs[i]? =some v->kindOf x=some .local →
  bindL kindOf (P.zip vs) m x=some v
 | [],_,_,_,_,h,_,_=>by simp at h
 | _::_,[],_,_,_,_,h,_=>by simp at h
 | p::P,w::vs,0,m,nd,h1,h2,hk=>by
  simp at h1 h2;subst h1;subst h2
  show bindL kindOf ((p,w)::P.zip vs) m p=_
  unfold bindL
  rw[Qkn λv hv=>(Zah.mp nd).1 (Zcj hv).1,if_pos hk]
  simp
 | p::P,w::vs,i+1,m,nd,h1,h2,hk=>by
  show bindL kindOf ((p,w)::P.zip vs) m x=_
  unfold bindL
  exact QkI (i:=i) (Zah.mp nd).2 (by simpa using h1) (by simpa using h2) hk
theorem QkN{kindOf:Str->Option NameKind}{x:Str}{v:Value}:∀{P:List Str}{vs:List Value}{i:Nat}{m:Str->Option Value},P.Nodup->P[i]? =some x->vs[i]? =some v->kindOf x≠some .local →
  bindC kindOf (P.zip vs) m x=some v
 | [],_,_,_,_,h,_,_=>by simp at h
 | _::_,[],_,_,_,_,h,_=>by simp at h
 | p::P,w::vs,0,m,nd,h1,h2,hk=>by
  simp at h1 h2;subst h1;subst h2
  show bindC kindOf ((p,w)::P.zip vs) m p=_
  unfold bindC
  rw[Qkw λv hv=>(Zah.mp nd).1 (Zcj hv).1,if_neg hk]
  simp
 | p::P,w::vs,i+1,m,nd,h1,h2,hk=>by
  show bindC kindOf ((p,w)::P.zip vs) m x=_
  unfold bindC
  exact QkN (i:=i) (Zah.mp nd).2 (by simpa using h1) (by simpa using h2) hk
noncomputable def start(N:List Str)(vs:List V):St:=vs.map some++List.replicate (N.length-vs.length) none
noncomputable def Qgn(CX:CXT)(P:Program)(w:World)(K:PySem.W.Frag)(mg:Str->Option Value)(base:Heap)(N:List Str)(qual:Str)(scope:Scope)(f:Addr)(cd:Value)(A:Around)(outer:List Env)(s:Shared)(H:Hp)(E:XK):Cx where
 prog:=P
 w:=w
 K:=K
 mg:=mg
 base:=base
 A:=A.deeper (envOfC qual scope s.heap.objs.size f cd)
 N:=N
 s₀:=s
 H₀:=H
 env:=envOfC qual scope s.heap.objs.size f cd
 outer:=outer
 stack:=envOfC qual scope s.heap.objs.size f cd::outer
 ex:=[]
 calm:=decide (A.handled=none)
 fn:=λ_=>true
 pn:=[]
 xe:=λe s'=>wpAny (model P w) (A.deeper (envOfC qual scope s.heap.objs.size f cd)) (leaving (envOfC qual scope s.heap.objs.size f cd) e) (λ_ s''=>CX outer H s E e s'') (λe' s''=>CX outer H s E e' s'') s'
theorem Qln{sc:Scope}{n:Nat}{x:Str}(h:sc.names.lookup x=some .cell):∃c,(cellsFrom n sc.names []).lookup x=some c:=by
 have q:=Zcf sc.names n [] (.inl h)
 exact ZbU.mp q
theorem Qp0{CX:CXT}{P:Program}{w:World}{K:PySem.W.Frag}{mg:Str->Option Value}{base:Heap}{N ps:List Str}{qual:Str}{scope:Scope}{f:Addr}{cd:Value}{A:Around}{outer:List Env}{s s1:Shared}{H:Hp}{E:XK}{us:List Value}{vs:List V}
  (S:QcY N ps scope) (e0:Qe3 P w K mg base A outer s H) (hl:vs.length=ps.length) (r:Qw vs us)
  (x:InCallC s s.heap.objs.size (bindL (envOfC qual scope s.heap.objs.size f cd).kindOf (ps.zip us) λ_=>none) (cellsFrom (s.heap.objs.size+1) scope.names []) (bindC (envOfC qual scope s.heap.objs.size f cd).kindOf (ps.zip us) λ_=>none) s1):
  Inv (Qgn CX P w K mg base N qual scope f cd A outer s H E) [] (start N vs) H s1:=by
 have hpl:ps.length<=N.length:=by have:=congrArg List.length S.pre;rw[Zau]at this;omega
 obtain⟨h1,tk,rfl,hk⟩:=x.done
 have noA:∀b:Addr,b∉(Qgn CX P w K mg base N qual scope f cd A outer s H E).ex:=λb z=>absurd (show b∈([]:List Addr)from z) (by simp)
 refine⟨⟨e0.mod,S.kind,rfl,rfl,Zh _,λy z c h1 h2=>?_,λy hy=>?_,λy c _ h=>?_,λh=>of_decide_eq_true h,Around.frames_deeper e0.frames,.inr ⟨rfl,rfl⟩,λb z=>absurd z (noA b),e0.bs,e0.bsz,λb _ _=>noA b,λb z=>absurd z (noA b),e0.QdE,e0.frf⟩,
  rfl,e0.bare,Un.kept hk,⟨_,x.toInCall.ns,λi y v h1 h2 h3=>?_⟩,λy c h=>⟨_,x.cell y c h⟩,e0.hok.fresh (Zh _),λy c h=>?_,λp hp=>absurd (show p∈([]:List (Addr×Obj))from hp) (by simp),e0.hok.kept hk,?_⟩
 ·exact name_of_addr x.apart (Zai h1) (Zai h2)
 ·have hy:scope.names.lookup y=some .cell∨scope.names.lookup y=some .free:=hy
  rcases hy with hy | hy
  ·exact Qln hy
  ·exact absurd rfl (S.nofree _ (Zai hy))
 ·exact Nat.le_of_lt (x.above y c (Zai h))
 ·have hi:i<vs.length:=by
   unfold start at h2
   by_cases hi:i<vs.length
   ·exact hi
   ·rw[Zbe (by simpa using hi)]at h2
    rw[ZbZ]at h2
    split at h2<;>cases h2
  have ha:vs[i]? =some v:=by
   unfold start at h2
   rw[Zal (by simpa using hi),Zp]at h2
   cases e:vs[i]? with
   | none=>rw[e]at h2;cases h2
   | some a=>rw[e]at h2;cases h2;rfl
  obtain⟨u,hu,rv⟩:=r.get ha
  have hp:ps[i]? =some y:=by
   rw[← S.pre,List.getElem?_take_of_lt (by omega)];exact h1
  have ndP:ps.Nodup:=by rw[← S.pre];exact S.nd.sublist (List.take_sublist _ _)
  refine⟨u,rv,?_⟩
  rcases S.par y (ZL hp)with k | k
  ·exact .inl ⟨k,QkI ndP hp hu k⟩
  ·obtain⟨c,e⟩:=Qln (n:=s.heap.objs.size+1) k
   refine .inr ⟨.inl k,c,e,?_⟩
   have q:=x.cell y c e
   rw[QkN ndP hp hu (by show scope.names.lookup y≠_;rw[k];decide)]at q
   exact q
 ·exact e0.hok.fresh (Nat.le_of_lt (x.above y c (Zai h)))
 ·unfold start
  show _=N.length
  rw[Zu,Zg,List.length_replicate]
  omega
theorem Qyy{CX:CXT}{P:Program}{w:World}{K:PySem.W.Frag}{mg:Str->Option Value}{base:Heap}{k:Nat}{f:Addr}{name qual:Str}{params:Arguments}{body:List Stmt}{scope:Scope}{dV kV doc pm cdv ct oc:Value}{an od:Option Addr}
  {osl:Array (Option Value)}{N ps:List Str}{sp:Sp}(lk:K.lookup f=some ⟨oc,od,.func (PySem.W.fnOf name qual params body scope dV kV doc pm an cdv ct),osl⟩) (hcd:PySem.W.codeIn K cdv qual=true) (S:QcY N ps scope)
  (len:∀vs H Q E,sp vs H Q E->vs.length=ps.length)
  (hbody:∀(A:Around) (outer:List Env) (s:Shared) (H:Hp) (vs:List V) (Q:VK) (E:XK),QaI k (A.deeper (envOfC qual scope s.heap.objs.size f cdv))->sp vs H Q E→
   ∃t,PSs (Qgn CX P w K mg base N qual scope f cdv A outer s H E) body t/\t {nx:=λ_ H'=>Q .non H',rt:=Q} (start N vs) H):
  QbV P w K mg base CX (k+1) f (PySem.W.fnOf name qual params body scope dV kV doc pm an cdv ct) ps sp:=by
 refine⟨len,λA outer s H args us vs Q E hr e0 hb r hsp=>?_⟩
 have hl:=len _ _ _ _ hsp
 have KX:K.In s.heap:=e0.mod.kin.keeps λb o e=>(e0.bs b o e).1
 have lim:s.heap.NoLimit:=e0.mod.nolimit.keeps λb o e=>(e0.bs b o e).1
 have hkind:∀y∈ps.zip us,scope.names.lookup y.1=some .local ∨(scope.names.lookup y.1=some .cell/\((cellsFrom (s.heap.objs.size+1) scope.names []).lookup y.1).isSome=true):=λhpt hy=>by
  obtain⟨n,v⟩:=hpt
  rcases S.par n (Zcj hy).1 with q | q
  ·exact .inl q
  ·exact .inr ⟨q,Zcf _ _ _ (.inl q)⟩
 refine codeAny_call_function hr.depth (KX _ _ lk) rfl S.co S.gen rfl (PySem.W.codeRec_of KX hcd) (hb _ _ _ _ ?_)
 refine wpAny_newFunctionEnv_cells S.kind hkind λenv he s1 x=>?_
 subst he
 refine⟨lim.keeps x.toInCall.keep,codeAny_func ?_⟩
 obtain⟨t,ht,hq⟩:=hbody A outer s H vs Q E (hr.deeper _) hsp
 have I:Inv (Qgn CX P w K mg base N qual scope f cdv A outer s H E) [] (start N vs) H s1:=Qp0 S e0 hl r x
 refine wpAny_mono (ht [] s1 (start N vs) H _ I hq) (λfl s' hs=>?_) λe s' hs=>hs
 have fin:∀{σ':St}{H':Hp}{v:V}{u:Value},Inv (Qgn CX P w K mg base N qual scope f cdv A outer s H E) [] σ' H' s'->RelV v u->Q v H'->CE outer P w H s Q u s':=
  λ{σ' H' v u} J rv q=>⟨v,H',J.os,J.bare,J.base,J.hok,rv,q⟩
 cases fl with
 | ret u=>
  obtain⟨v,σ',H',J,rv,q⟩:=hs
  exact fin J rv q
 | next=>
  obtain⟨σ',H',J,q⟩:=hs
  exact fin (v:=V.non) (u:=Value.none) J rfl q
 | brk=>
  obtain⟨_,_,_,q⟩:=hs
  exact False.elim q
 | cont=>
  obtain⟨_,_,_,q⟩:=hs
  exact False.elim q
end L2
namespace L2
open PySem PySem.Spec PyProof.Rows
section
variable {X:Cx}{x:Str}{p pos:Pos}{e:Expr}{es:List Expr}{t:TA}{id T:String}{r:List V->Hp->VK->Prop}
noncomputable def tCB(r:List V->Hp->VK->Prop)(t:TA):TE:=λσ H Q=>t σ H λvs H1=>r vs H1 Q
theorem Qiw(hc:Qa3 X (.builtin id) r)(hg:Gl X x)(hm:X.mg x=none)(hv:bootBuiltins x=some (.builtin id))(ha:PA X (e::es) t)(hn:x≠ "__name__" :=by decide)(hdb:(x == ("__debug__" :Str))=false:=by decide)
  (he:starEach (e::es) X.env=(false,eval e X.env)::starEach es X.env:=by rfl) (hpl:(backTo pos (starEach es X.env)).any (·.1)=false:=by rfl):PE X (.Call (.Name x p) (e::es) [] pos) (tCB r t):=by
 intro pins s σ H Q I h
 refine wpAny_Call_Name_kw (QcF I hg hm hv ?_ hn hdb)
 exact PyProof.Rows.callWith_builtin1 (thn (ha pos pins s σ H _ I h) λus s1 ⟨vs,H1,I1,r1,q1⟩=>hc pins s1 σ H1 vs us Q I1 r1 q1) he hpl
theorem Qgs(hc:Qa3 X (.type T) r)(hg:Gl X x)(hm:X.mg x=none)(hv:bootBuiltins x=some (.type T))(ha:PA X (e::es) t)(hn:x≠ "__name__" :=by decide)(hdb:(x == ("__debug__" :Str))=false:=by decide)
  (he:starEach (e::es) X.env=(false,eval e X.env)::starEach es X.env:=by rfl) (hpl:(backTo pos (starEach es X.env)).any (·.1)=false:=by rfl):PE X (.Call (.Name x p) (e::es) [] pos) (tCB r t):=by
 intro pins s σ H Q I h
 refine wpAny_Call_Name_kw (QcF I hg hm hv ?_ hn hdb)
 exact ZS (thn (ha pos pins s σ H _ I h) λus s1 ⟨vs,H1,I1,r1,q1⟩=>hc pins s1 σ H1 vs us Q I1 r1 q1) he hpl
end
end L2
namespace HT
open PySem PyProof.Rows
section
open PySem.SeqAt
open PySem.AutoSeq1 (wpAny_loadPart')
open PySem.MeetsSeq PySem.MeetsSeq2 PySem.MeetsSeq3
end
section
variable {prog:Program}{w:World}{A:Around}{E:Value->Shared->Prop}{s:Shared}
noncomputable def sIx(n d:Nat):Option Int->Nat
 | none=>d
 | some v=>if v<0 then(v+(n:Int)).toNat else min v.toNat n
theorem QvH(n d k:Nat):sIx n d (some (k:Int))=min k n:=by
 show(if(k:Int)<0 then((k:Int)+(n:Int)).toNat else min (k:Int).toNat n)=min k n
 rw[if_neg (by omega),ZT]
end
end HT
namespace L2
open PySem PySem.Spec PyProof.Rows
noncomputable abbrev TO:=St->Hp->(Option Int->Hp->Prop)->Prop
def PO(X:Cx)(e:Option Expr)(t:TO):Prop:=
 ∀(pins:List (Addr×Obj)) (s:Shared) (σ:St) (H:Hp) (Q:Option Int->Hp->Prop),Inv X pins σ H s->t σ H Q→
  wpAny (model X.prog X.w) X.A (evalPart e X.env) (λu s'=>∃o H',Inv X pins σ H' s'/\IsPart u o/\Q o H') X.xe s
noncomputable def Qt0:TO:=λ_ H Q=>Q none H
noncomputable def Qyi(t:TE):TO:=λσ H Q=>t σ H λx H1=>∃i,x= .int i/\Q (some i) H1
theorem intsAre_of{ns:List Int}:∀{us:List Value},Qw (ns.map V.int) us->IntsAre us ns:=by
 induction ns with
 | nil=>intro us r;rw[Zbg]at r;cases r;exact .nil
 | cons n ns ih=>
  intro us r
  rw[Zj]at r
  cases r with
  | cons r1 r2=>
   obtain⟨t,e⟩:=r1
   subst e
   exact .cons n t (ih r2)
section
variable {X:Cx}{e:Expr}{te:TE}{lo hi:Option Expr}{tl th:TO}{pos p2:Pos}
theorem Qvk:PO X none Qt0:=by
 intro pins s σ H Q I h
 rw[evalPart_none]
 exact wpAny_pure ⟨none,H,I,.none,h⟩
theorem Qu5(h:PE X e te):PO X (some e) (Qyi te):=by
 intro pins s σ H Q I hw
 rw[evalPart_some]
 refine thn (h pins s σ H _ I hw) λu s1=>exJ λx H1 I1 r1 q1=>?_
 obtain⟨i,rfl,q⟩:=q1
 obtain⟨t,rfl⟩:=r1
 exact⟨some i,H1,I1,.int i t,q⟩
def SlR(X:Cx)(r:V->Option Int->Option Int->Hp->VK->Prop):Prop:=
 ∀(pins:List (Addr×Obj)) (s:Shared) (σ:St) (H:Hp) (x:V) (v vl vu:Value) (lo hi:Option Int) (sl:Addr) (Q:VK),Inv X pins σ H s->RelV x v->s.heap.IsSliceOf sl vl vu .none->IsPart vl lo->IsPart vu hi->r x lo hi H Q→
  ∃T id,typeLookup (.type T) "__getitem__" =pure (some (.builtin id))/\s.TypeIs v T/\wpAny (model X.prog X.w) X.A (getItem v (.ref sl)) (EP X pins σ Q) X.xe s
theorem SlR.or{r r':V->Option Int->Option Int->Hp->VK->Prop}(h:SlR X r)(h':SlR X r'):SlR X (λx lo hi H Q=>r x lo hi H Q∨r' x lo hi H Q):=by
 intro pins s σ H x v vl vu lo hi sl Q I rx hs pl pu q
 rcases q with q | q
 ·exact h pins s σ H x v vl vu lo hi sl Q I rx hs pl pu q
 ·exact h' pins s σ H x v vl vu lo hi sl Q I rx hs pl pu q
noncomputable def tSl(r:V->Option Int->Option Int->Hp->VK->Prop)(te:TE)(tl th:TO):TE:=λσ H Q=>te σ H λx H1=>tl σ H1 λl H2=>th σ H2 λu H3=>r x l u H3 Q
theorem Qsc{r:V->Option Int->Option Int->Hp->VK->Prop}(hr:SlR X r)(he:PE X e te)(hl:PO X lo tl)(hu:PO X hi th):PE X (.Subscript e (.Slice lo hi none p2) pos) (tSl r te tl th):=by
 intro pins s σ H Q I h
 refine Subscript_ (thn (he pins s σ H _ I h) λv s1=>exJ λx H1 I1 r1 q1=>?_)
 refine wpAny_Slice (thn (hl pins s1 σ H1 _ I1 q1) λvl s2 ⟨l,H2,I2,pl,q2⟩=>thn (hu pins s2 σ H2 _ I2 q2) λvu s3=>exJ λu H3 I3 pu q3=>?_)
 rw[evalPart_none]
 refine wpAny_pure ?_
 have I4:Inv X pins σ H3 {s3 with heap:=s3.heap.push {cls:= .type "slice",data:= .fields #[vl,vu,.none]}}:=I3.kept (t':=s3.toks) λb ob q=>Zb _ q
 obtain⟨T,id,hT,ht,hg⟩:=hr pins {s3 with heap:=s3.heap.push {cls:= .type "slice",data:= .fields #[vl,vu,.none]}} σ H3 x v vl vu l u s3.heap.objs.size Q I4 r1 (Heap.IsSliceOf.new ..) pl pu q3
 show wpAny (model X.prog X.w) X.A (subscriptTail e (.Slice lo hi none p2) v (.ref s3.heap.objs.size)) (EP X pins σ Q) X.xe {s3 with heap:=s3.heap.push {cls:= .type "slice",data:= .fields #[vl,vu,.none]}}
 exact tail_any (ops:=[.ref s3.heap.objs.size,v]) ht hT hg (by with_unfolding_all rfl)
noncomputable def QjW(xs:List V)(lo hi:Option Int):List V:=(xs.drop (HT.sIx xs.length 0 lo)).take (HT.sIx xs.length xs.length hi-HT.sIx xs.length 0 lo)
theorem Qni(xs:List V)(lo hi:Option Int):(QjW xs lo hi).length<=xs.length:=by
 unfold QjW
 rw[Zau,ZaC]
 omega
end
end L2
namespace L2
open PySem PySem.Spec PyProof.Rows
noncomputable def ixN(n:Nat)(i:Int):Option Nat:=if 0<=i then(if i<n then some i.toNat else none)else if-(n:Int)<=i then some (i+n).toNat else none
noncomputable def atI{α:Type}(xs:List α)(i:Int):Option α:=(ixN xs.length i).bind λj=>xs[j]?
theorem Qft{n:Nat}{i:Int}{j:Nat}(h:ixN n i=some j):seqIndex? i n=some j/\j<n/\ -(n:Int)<=i/\i<n:=by
 unfold ixN at h
 by_cases h0:0<=i
 ·rw[if_pos h0]at h
  by_cases h1:i<n
  ·rw[if_pos h1]at h
   have e:i.toNat=j:=Option.some.inj h
   exact⟨by rw[seqIndex_of h0 h1,e],by omega,by omega,h1⟩
  ·rw[if_neg h1]at h;cases h
 ·rw[if_neg h0]at h
  by_cases h1: -(n:Int)<=i
  ·rw[if_pos h1]at h
   have e:(i+n).toNat=j:=Option.some.inj h
   exact⟨by rw[seqIndex_neg (by omega) h1,e],by omega,h1,by omega⟩
  ·rw[if_neg h1]at h;cases h
theorem QjY{α:Type}{xs:List α}{i:Int}{v:α}(h:atI xs i=some v):∃j,seqIndex? i xs.length=some j/\xs[j]? =some v/\j<xs.length/\ -(xs.length:Int)<=i/\i<xs.length:=by
 unfold atI at h
 cases e:ixN xs.length i with
 | none=>rw[e]at h;cases h
 | some j=>
  rw[e]at h
  obtain⟨h1,h2,h3,h4⟩:=Qft e
  exact⟨j,h1,h,h2,h3,h4⟩
def Qhf(b:Expr):Prop:=∀o i,subscripted b false o i=operate [o,i] (getItem o i)
def IxR(X:Cx)(r:R2):Prop:=
 ∀(value slice:Expr) (pins:List (Addr×Obj)) (s:Shared) (σ:St) (H:Hp) (x y:V) (v u:Value) (Q:VK),Inv X pins σ H s->RelV x v->RelV y u->r x y H Q→
  subscripted slice false v u=operate [v,u] (getItem v u)->wpAny (model X.prog X.w) X.A (subscriptTail value slice v u) (EP X pins σ Q) X.xe s
def MtR(X:Cx)(id:String)(r:V->List V->Hp->VK->Prop):Prop:=
 ∀(pins:List (Addr×Obj)) (s:Shared) (σ:St) (H:Hp) (x:V) (xs:List V) (v:Value) (us:List Value) (Q:VK),Inv X pins σ H s->RelV x v->Qw xs us->r x xs H Q→
  wpAny (model X.prog X.w) X.A (call (.builtin id) (v::us)) (EP X pins σ Q) X.xe s
section
variable {X:Cx}{a b:Expr}{ta tb:TE}{pos:Pos}
theorem IxR.or{r r':R2}(h:IxR X r)(h':IxR X r'):IxR X (λx y H Q=>r x y H Q∨r' x y H Q):=by
 intro value slice pins s σ H x y v u Q I rx ry q hs
 rcases q with q | q
 ·exact h value slice pins s σ H x y v u Q I rx ry q hs
 ·exact h' value slice pins s σ H x y v u Q I rx ry q hs
theorem MtR.or{id:String}{r r':V->List V->Hp->VK->Prop}(h:MtR X id r)(h':MtR X id r'):MtR X id (λx xs H Q=>r x xs H Q∨r' x xs H Q):=by
 intro pins s σ H x xs v us Q I rx rs q
 rcases q with q | q
 ·exact h pins s σ H x xs v us Q I rx rs q
 ·exact h' pins s σ H x xs v us Q I rx rs q
theorem Qtz{r:R2}(hr:IxR X r)(ha:PE X a ta)(hb:PE X b tb)(hs:Qhf b):PE X (.Subscript a b pos) (tOp r ta tb):=by
 intro pins s σ H Q I h
 exact Subscript_ (QrV ha hb I h λv u s2 x y H2 I2 rx ry q=>hr a b pins s2 σ H2 x y v u Q I2 rx ry q (hs _ _))
noncomputable def Qwc(K:PySem.W.Frag):R2:=λx y H Q=>∃p xs i v,x= .ref p/\y= .int i/\SqL K H p xs/\atI xs i=some v/\Q v H
noncomputable def QzJ(K:PySem.W.Frag):R2:=λx y H Q=>∃p xs i v,x= .ref p/\y= .int i/\SqT K H p xs/\atI xs i=some v/\Q v H
theorem QnS:IxR X (Qwc X.K):=by
 intro value slice pins s σ H x y v u Q I rx ry h hs
 obtain⟨p,xs,i,z,rfl,rfl,hq,he,q⟩:=h
 cases rx
 obtain⟨t,rfl⟩:=ry
 obtain⟨its,r,pl,hz⟩:=I.list hq
 obtain⟨j,h1,h2,h3,h4,h5⟩:=QjY he
 obtain⟨w,ew,rw'⟩:=r.get h2
 have hl:=r.length
 have hn:=Qfo
 have fin:EP X pins σ Q w s:=⟨z,H,I,rw',q⟩
 by_cases h0:0<=i
 ·have hj:i.toNat=j:=by
   rw[seqIndex_of h0 h5]at h1
   exact Option.some.inj h1
  exact item_listR pl.isList h0 (by omega) (by rw[hj];simpa using ew) fin hs
 ·have hj:(i+(its.toArray.size:Int)).toNat=j:=by
   rw[seqIndex_neg (by omega) h4]at h1
   rw[Zt,← hl]
   exact Option.some.inj h1
  exact subscriptTail_builtinR (x:=w) pl.isList.typeIs slot_list_getitem.lookup
   (wpAny_getItem_list_neg (Q:=λr s'=>r=w/\EP X pins σ Q r s') pl.isList (by omega) (by rw[Zt]<;>omega) (by omega) (by rw[hj];simpa using ew) ⟨rfl,fin⟩) hs
theorem Qqv:IxR X (QzJ X.K):=by
 intro value slice pins s σ H x y v u Q I rx ry h hs
 obtain⟨p,xs,i,z,rfl,rfl,hq,he,q⟩:=h
 cases rx
 obtain⟨t,rfl⟩:=ry
 obtain⟨its,r,pl,hz⟩:=I.tuple hq
 obtain⟨j,h1,h2,h3,h4,h5⟩:=QjY he
 obtain⟨w,ew,rw'⟩:=r.get h2
 have hl:=r.length
 have hn:=Qfo
 have fin:EP X pins σ Q w s:=⟨z,H,I,rw',q⟩
 exact subscriptTail_builtinR (x:=w) pl.typeIs slot_tuple_getitem.lookup
  (getItem_tuple (j:=j) (Q:=λr s'=>r=w/\EP X pins σ Q r s') pl (by omega) (by omega) (by rw[Zt,← hl];exact h1) (by simpa using ew) ⟨rfl,fin⟩) hs
theorem QoO(its:List Value)(n j:Nat)(u:Value):Obj.mapSeq (·.setIfInBounds j u) {cls:= .type "list",data:= .seq its.toArray n}={cls:= .type "list",data:= .seq (its.set j u).toArray n}:=by
 simp[Obj.mapSeq]
theorem Inv.lst{pins:List (Addr×Obj)}{σ:St}{H:Hp}{s:Shared}{p:Addr}{xs:List V}(I:Inv X pins σ H s)(h:H p=some (.lst xs)):
  ∃(its:List Value) (n:Nat),Qw xs its/\s.heap.get? p=some {cls:= .type "list",data:= .seq its.toArray n}/\xs.length<=sizeLine:=by
 obtain⟨z,its,n,r,e⟩:=I.hok p _ h
 exact⟨its,n,r,e,z⟩
theorem Inv.Qwr{pins:List (Addr×Obj)}{σ:St}{H:Hp}{s:Shared}{p:Addr}{xs ys:List V}{its its':List Value}{n n':Nat}{f:Obj->Obj}(I:Inv X pins σ H s)(h:H p=some (.lst xs))
  (ho:s.heap.get? p=some {cls:= .type "list",data:= .seq its.toArray n}) (hf:f {cls:= .type "list",data:= .seq its.toArray n}={cls:= .type "list",data:= .seq its'.toArray n'}) (r:Qw ys its') (hz:ys.length<=sizeLine) (t:Nat):
  Inv X pins σ (upd H p (.lst ys)) {s with heap:=s.heap.update p f,toks:=t}:=by
 have e:(s.heap.update p f).get? p=some {cls:= .type "list",data:= .seq its'.toArray n'}:=by
  rw[ZaN f ho (by rw[hf]<;>rfl),hf]
 refine I.write (x:=p) (e:=p) (by rw[h];trivial) (.inl rfl) (λb u hb q=>(ZaJ _ _ (Ne.symm hb)).trans q) ⟨_,e⟩ ?_
 exact⟨hz,its',n',r,e⟩
noncomputable def QtO:V->V->V->Hp->(Hp->Prop)->Prop:=λo i v H Q=>∃p xs k j,o= .ref p/\i= .int k/\H p=some (.lst xs)/\ixN xs.length k=some j/\Q (upd H p (.lst (xs.set j v)))
theorem set_list:Qsi X QtO:=by
 intro pins s σ H o i v ov iv u Q I ro ri rv h
 obtain⟨p,xs,k,j,rfl,rfl,hp,hj,q⟩:=h
 cases ro
 obtain⟨t,rfl⟩:=ri
 obtain⟨its,n,r,ho,hz⟩:=I.lst hp
 obtain⟨h1,h2,h3,h4⟩:=Qft hj
 have hl:=r.length
 have hn:=Qfo
 have I':Inv X pins σ (upd H p (.lst (xs.set j v))) {s with heap:=s.heap.update p (Obj.mapSeq (·.setIfInBounds j u))}:=
  I.Qwr hp ho (QoO its n j u) (r.set rv j) (by rw[ZaX];exact hz) s.toks
 by_cases h0:0<=k
 ·have hk:k.toNat=j:=by
   rw[seqIndex_of h0 h4]at h1
   exact Option.some.inj h1
  exact PySem.W.ki_setAt ho h0 (by omega) (by rw[Zt,← hl];exact h4) (by rw[hk];exact⟨_,I',q⟩)
 ·have hk:(k+(its.toArray.size:Int)).toNat=j:=by
   rw[seqIndex_neg (by omega) h3]at h1
   rw[Zt,← hl]
   exact Option.some.inj h1
  exact PySem.W.ki_setBack ho (by omega) (by rw[Zt,← hl];exact h3) (by omega) (by rw[hk];exact⟨_,I',q⟩)
theorem QlR(lo hi:Option Int)(n:Nat):(sliceBounds lo hi none n).1=((HT.sIx n 0 lo:Nat):Int)/\(sliceBounds lo hi none n).2.1=((HT.sIx n n hi:Nat):Int)/\(sliceBounds lo hi none n).2.2=1:=by
 refine⟨?_,?_,rfl⟩
 ·cases lo with
  | none=>simp[sliceBounds,HT.sIx]
  | some i=>
   simp only[sliceBounds,HT.sIx,Option.getD_none,show(1:Int)>0 by decide,if_true]
   by_cases h:i<0
   ·simp only[h,if_true]<;>omega
   ·simp only[h,if_false]<;>omega
 ·cases hi with
  | none=>simp[sliceBounds,HT.sIx]
  | some i=>
   simp only[sliceBounds,HT.sIx,Option.getD_none,show(1:Int)>0 by decide,if_true]
   by_cases h:i<0
   ·simp only[h,if_true]<;>omega
   ·simp only[h,if_false]<;>omega
theorem Qk3(its:List Value)(lo hi:Option Int):slicePick its.toArray lo hi none=((its.drop (HT.sIx its.length 0 lo)).take (HT.sIx its.length its.length hi-HT.sIx its.length 0 lo)).toArray:=by
 obtain⟨h1,h2,h3⟩:=QlR lo hi its.toArray.size
 unfold slicePick
 rw[h1,h2,h3]
 simp only[sliceRange_one,pick_run,Zt]<;>rfl
noncomputable def Qzb(K:PySem.W.Frag):V->Option Int->Option Int->Hp->VK->Prop:=λx lo hi H Q=>∃a xs,x= .ref a/\SqL K H a xs/\∀p,H p=none->Q (.ref p) (upd H p (.lst (QjW xs lo hi)))
theorem QuS:SlR X (Qzb X.K):=by
 intro pins s σ H x v vl vu lo hi sl Q I rx hs pl pu h
 obtain⟨a,xs,rfl,hx,q⟩:=h
 cases rx
 obtain⟨its,r,ht,hz⟩:=I.list hx
 have hlen:=r.length
 refine⟨"list",_,slot_list_getitem.lookup,ht.isList.typeIs,?_⟩
 refine wpAny_getItem_list_slice ht.isList hs pl pu .none (by simp) ?_ (by rw[Zt]<;>omega)
 rw[Qk3,← hlen]
 refine⟨.ref s.heap.objs.size,_,I.laid (t':=s.toks) (o:= .lst (QjW xs lo hi)) (λb ob q=>Zb _ q) (Zh _) ?_,rfl,q _ (I.hok.fresh (Zh _))⟩
 exact⟨Zx (Qni xs lo hi) hz,_,0,(r.drop (HT.sIx xs.length 0 lo)).take (HT.sIx xs.length xs.length hi-HT.sIx xs.length 0 lo),Zo _ rfl⟩
theorem Qlr:Qa3 X (.builtin "len") (λxs H Q=>∃p ys,xs=[.ref p]/\(SqL X.K H p ys∨SqT X.K H p ys)/\Q (.int ys.length) H):=by
 intro pins s σ H xs us Q I r h
 obtain⟨p,ys,rfl,hq,q⟩:=h
 obtain⟨u,rfl,rx⟩:=vals1 r
 cases rx
 have hn:=Qfo
 rcases hq with hq | hq
 ·obtain⟨its,r',pl,hz⟩:=I.list hq
  have hlen:=r'.length
  exact Calls.call_len_list pl.isList (by simp only[Zt]<;>omega) ⟨.int ys.length,H,I.tok _,⟨s.toks+1,by rw[Zt,hlen]⟩,q⟩
 ·obtain⟨its,r',pl,hz⟩:=I.tuple hq
  have hlen:=r'.length
  exact len_tuple pl (by simp only[Zt]<;>omega) ⟨.int ys.length,H,I.tok _,⟨s.toks+1,by rw[Zt,hlen]⟩,q⟩
theorem Qa3.or{f:Value}{r r':List V->Hp->VK->Prop}(h:Qa3 X f r)(h':Qa3 X f r'):Qa3 X f (λxs H Q=>r xs H Q∨r' xs H Q):=by
 intro pins s σ H xs us Q I rs q
 rcases q with q | q
 ·exact h pins s σ H xs us Q I rs q
 ·exact h' pins s σ H xs us Q I rs q
theorem QmJ:Qa3 X (.type "list") (λxs H Q=>∃p ys,xs=[.ref p]/\(SqL X.K H p ys∨SqT X.K H p ys)/\∀l,H l=none->Q (.ref l) (upd H l (.lst ys))):=by
 intro pins s σ H xs us Q I r h
 obtain⟨p,ys,rfl,hq,q⟩:=h
 obtain⟨u,rfl,rx⟩:=vals1 r
 cases rx
 have fin:∀(its:List Value),Qw ys its->ys.length<=sizeLine->∀(h':Heap) (c':Nat),(∀b o',s.heap.get? b=some o'->h'.get? b=some o')→
   h'.get? s.heap.objs.size=some {cls:= .type "list",dict:=none,data:= .seq its.toArray c',slots:= #[]}->EP X pins σ Q (.ref s.heap.objs.size) {s with heap:=h'}:=λits r' hz h' c' kp e=>
  ⟨.ref s.heap.objs.size,_,I.laid (t':=s.toks) kp (Zh _) (show QaM X.prog X.w _ h' _ (.lst ys)from⟨hz,its,c',r',e⟩),rfl,q _ (I.hok.fresh (Zh _))⟩
 rcases hq with hq | hq
 ·obtain⟨its,r',pl,hz⟩:=I.list hq
  have hlen:=r'.length
  obtain⟨o,ho,hc,n,hd⟩:=pl.isList
  exact call_list_seq p (.inl rfl) ho hc hd (λh' c' kp e=>fin its r' hz h' c' kp e) (by simp only[Zt]<;>omega)
 ·obtain⟨its,r',pl,hz⟩:=I.tuple hq
  have hlen:=r'.length
  obtain⟨o,ho,hc,n,hd⟩:=pl
  exact call_list_seq p (.inr rfl) ho hc hd (λh' c' kp e=>fin its r' hz h' c' kp e) (by simp only[Zt]<;>omega)
theorem Qf9:Qa3 X (.type "tuple") (λxs H Q=>∃p ys,xs=[.ref p]/\((SqL X.K H p ys/\∀l,H l=none->Q (.ref l) (upd H l (.tup ys)))∨(SqT X.K H p ys/\Q (.ref p) H))):=by
 intro pins s σ H xs us Q I r h
 obtain⟨p,ys,rfl,h⟩:=h
 obtain⟨u,rfl,rx⟩:=vals1 r
 cases rx
 rcases h with⟨hq,q⟩ | ⟨hq,q⟩
 ·obtain⟨its,r',pl,hz⟩:=I.list hq
  have hlen:=r'.length
  refine call_tuple_list pl.isList (λh' kp=>?_) (by simp only[Zt]<;>omega)
  have I1:Inv X pins σ H {s with heap:=h'}:=I.kept (t':=s.toks) kp
  have I2:Inv X pins σ (upd H h'.objs.size (.tup ys)) {s with heap:=h'.push {cls:= .type "tuple",data:= .seq its.toArray}}:=
   I1.laid (t':=s.toks) (λb o e=>Zb _ e) (Zh _) (show QaM X.prog X.w _ _ _ (.tup ys)from⟨hz,its,r',IsTup.new _ _⟩)
  exact⟨.ref h'.objs.size,_,I2,rfl,q _ (I1.hok.fresh (Zh _))⟩
 ·obtain⟨its,r',pl,hz⟩:=I.tuple hq
  exact call_tuple_same pl ⟨.ref p,H,I,rfl,q⟩
def tyV(K:PySem.W.Frag)(T:String)(x:V)(H:Hp):Prop:=match x with
 | .str _=>T= "str"
 | .int _=>T= "int"
 | .ref p=>(T= "list" /\∃xs,SqL K H p xs)∨(T= "tuple" /\∃o,K.lookup p=some o/\o.cls= .type "tuple" /\o.dict=none)∨
   (T= "dict" /\((∃kvs,H p=some (.dK kvs))∨∃kvs,H p=some (.dT kvs)))∨(T= "set" /\∃S n,H p=some (.set S n))
 | _=>False
theorem QqW{pins:List (Addr×Obj)}{σ:St}{H:Hp}{s:Shared}{T:String}{x:V}{v:Value}(I:Inv X pins σ H s)(r:RelV x v)(ty:tyV X.K T x H):
  s.TypeIs v T/\∀a,v= .ref a->∃ob,s.heap.get? a=some ob/\ob.dict=none:=by
 cases x with
 | str z=>
  obtain⟨t,rfl⟩:=r
  cases(show T= "str" from ty)
  exact⟨typeIs_str s z t,λ_ e=>nomatch e⟩
 | int i=>
  obtain⟨t,rfl⟩:=r
  cases(show T= "int" from ty)
  exact⟨typeIs_int s i t,λ_ e=>nomatch e⟩
 | ref p=>
  cases r
  rcases ty with⟨rfl,xs,hq⟩ | ⟨rfl,o,hk,hc,hd⟩ | ⟨rfl,hk⟩ | ⟨rfl,S,n,hk⟩
  ·obtain⟨its,_,pl,_⟩:=I.list hq
   refine⟨pl.isList.typeIs,λa e=>?_⟩
   cases e
   obtain⟨o,n,e,c,hd,_⟩:=pl
   exact⟨o,e,hd⟩
  ·refine⟨⟨o,I.kIn p o hk,hc⟩,λa e=>?_⟩
   cases e
   exact⟨o,I.kIn _ o hk,hd⟩
  ·have z:∃o,s.heap.get? p=some o/\o.ExactDict:=by
    rcases hk with⟨kvs,hk⟩ | ⟨kvs,hk⟩
    ·obtain⟨_,_,_,_,o,_,_,e,ex,_⟩:=I.hok p _ hk
     exact⟨o,e,ex⟩
    ·obtain⟨_,_,_,_,o,_,_,e,ex,_⟩:=I.hok p _ hk
     exact⟨o,e,ex⟩
   obtain⟨o,e,ex⟩:=z
   refine⟨⟨o,e,ex.1⟩,λa e2=>?_⟩
   cases e2
   exact⟨o,e,ex.2.1⟩
  ·obtain⟨o,_,_,_,e,ex,_⟩:=I.hok p _ hk
   refine⟨⟨o,e,ex.1⟩,λa e2=>?_⟩
   cases e2
   exact⟨o,e,ex.2.1⟩
 | _=>exact False.elim ty
noncomputable def Qzi(K:PySem.W.Frag)(T:String)(r:V->List V->Hp->VK->Prop)(to:TE):TE:=λσ H Q=>to σ H λx H1=>tyV K T x H1/\r x [] H1 Q
noncomputable def tBM(K:PySem.W.Frag)(T:String)(r:V->List V->Hp->VK->Prop)(to:TE)(t:TA):TE:=λσ H Q=>to σ H λx H1=>tyV K T x H1/\t σ H1 λxs H2=>r x xs H2 Q
variable {o e:Expr}{es:List Expr}{to:TE}{t:TA}{name:Str}{apos cpos:Pos}{T id:String}{r:V->List V->Hp->VK->Prop}
theorem QxD(pa:PlainAttrs T)(slot:Slot T name id)(hty:typeOf (.builtin id)=pure (.type "method_descriptor"))(hm:MtR X id r)(ho:PE X o to)
  (hbase:attributeBase o name X.env (eval o X.env)=eval o X.env:=by rfl) (hline:(apos.endLine == cpos.line)=true:=by rfl):PE X (.Call (.Attribute o name apos) [] [] cpos) (Qzi X.K T r to):=by
 intro pins s σ H Q I h
 refine wpAny_Call_method0_late hbase hline (thn (ho pins s σ H _ I h) λv s1 hpt=>?_)
 obtain⟨x,H1,I1,r1,ty,q1⟩:=hpt
 obtain⟨h1,h2⟩:=QqW I1 r1 ty
 exact⟨T,id,pa,slot,hty,h1,h2,Calls.callWith_builtin rfl (PySem.evalArgs_none (hm pins s1 σ H1 x [] v [] Q I1 r1 .nil q1))⟩
theorem Qlc(pa:PlainAttrs T)(slot:Slot T name id)(hty:typeOf (.builtin id)=pure (.type "method_descriptor"))(hm:MtR X id r)(ho:PE X o to)(ha:PA X (e::es) t)
  (hbase:attributeBase o name X.env (eval o X.env)=eval o X.env:=by rfl)
  (hfew:((backTo cpos (starEach (e::es) X.env)).all (λx=> !x.1) && (backToKw cpos (keywordEach [] X.env)).all (λx=>x.1.isSome)
   && decide ((e::es).length+([]:List Keyword).length+(if([]:List Keyword).isEmpty then 0 else 1)<30))=true:=by rfl)
  (hline:(apos.endLine == cpos.line)=true:=by rfl) (hs:starEach (e::es) X.env=(false,eval e X.env)::starEach es X.env:=by rfl) (hplain:(backTo cpos (starEach es X.env)).any (·.1)=false:=by rfl):
  PE X (.Call (.Attribute o name apos) (e::es) [] cpos) (tBM X.K T r to t):=by
 intro pins s σ H Q I h
 refine wpAny_Call_method_late hbase hfew hline rfl (thn (ho pins s σ H _ I h) λv s1 hpt=>?_)
 obtain⟨x,H1,I1,r1,ty,q1⟩:=hpt
 obtain⟨h1,h2⟩:=QqW I1 r1 ty
 refine⟨T,id,pa,slot,hty,h1,h2,?_⟩
 have hA:=ha cpos pins s1 σ H1 _ I1 q1
 rw[hs]at hA ⊢
 refine Calls.callWith_builtin (by show(false || (backTo cpos (starEach es X.env)).any (·.1))=false;rw[hplain]<;>rfl) (Calls.evalArgs_plain ?_)
 exact thn hA λus s2 ⟨vs,H2,I2,r2,q2⟩=>hm pins s2 σ H2 x vs v us Q I2 r1 r2 q2
end
end L2
namespace L2
open PySem PySem.Spec PyProof.Rows
def MtM(X:Cx)(id:String)(r:V->List V->Hp->VK->Prop):Prop:=
 ∀(pins:List (Addr×Obj)) (s:Shared) (σ:St) (H:Hp) (x:V) (xs:List V) (v:Value) (us:List Value) (Q:VK),Inv X pins σ H s->RelV x v->Qw xs us->r x xs H Q→
  wpAny (model X.prog X.w) X.A (call (.builtin id) (v::us)) (EP X pins σ Q) X.xe s
theorem Qw.one{x:V}{us:List Value}(r:Qw [x] us):∃u,us=[u]/\RelV x u:=vals1 r
theorem Qw.two{x y:V}{us:List Value}(r:Qw [x,y] us):∃u v,us=[u,v]/\RelV x u/\RelV y v:=vals2 r
theorem Qw.zero:∀{us:List Value},Qw [] us->us=[]
 | _,.nil=>rfl
theorem Qw.eraseIdx:∀{xs:List V}{us:List Value}(i:Nat),Qw xs us->Qw (xs.eraseIdx i) (us.eraseIdx i)
 | _,_,_,.nil=> .nil
 | _,_,0,.cons _ t=>t
 | _,_,i+1,.cons r t=> .cons r (Qw.eraseIdx i t)
theorem Qw.reverse{xs:List V}{us:List Value}(h:Qw xs us):Qw xs.reverse us.reverse:=by
 induction h with
 | nil=>exact .nil
 | cons r t ih=>rw[List.reverse_cons,List.reverse_cons];exact Qw.append ih (.cons r .nil)
theorem Qw.rep{xs:List V}{us:List Value}(h:Qw xs us):∀k:Nat,Qw (List.replicate k xs).flatten (List.replicate k us).flatten
 | 0=> .nil
 | k+1=>by
  rw[Zaj,Zaj,Zan,Zan]
  exact Qw.append h (Qw.rep h k)
theorem QkG{α:Type}:∀(l:List α) (i:Nat),(l.eraseIdx i).length<=l.length
 | [],_=>Zh _
 | _::_,0=>ZbG _
 | _::r,i+1=>Nat.succ_le_succ (QkG r i)
theorem foldl_rep(its:List Value):∀(k:Nat) (acc:List Value),
  List.foldl (λx1 x2=>x1++x2) acc.toArray (List.replicate k its.toArray)=(acc++(List.replicate k its).flatten).toArray
 | 0,acc=>by simp
 | k+1,acc=>by
  have e:acc.toArray++its.toArray=(acc++its).toArray:=by simp
  have e2:(acc++its)++(List.replicate k its).flatten=acc++(List.replicate (k+1) its).flatten:=by
   rw[Zaj,Zan,Zbd]
  rw[← e2,← foldl_rep its k (acc++its),← e,Zaj,List.foldl_cons]
section
variable {X:Cx}{pins:List (Addr×Obj)}{σ:St}{H:Hp}{s:Shared}{l b:Addr}{xs ys zs:List V}
theorem Inv.QsF{its its':List Value}{n:Nat}{f:Array Value->Array Value}{t':Nat}(I:Inv X pins σ H s)(hH:H l=some (.lst xs))
  (e:s.heap.get? l=some {cls:= .type "list",data:= .seq its.toArray n}) (hf:f its.toArray=its'.toArray) (hv:Qw ys its') (hz:ys.length<=sizeLine):
  Inv X pins σ (upd H l (.lst ys)) {s with heap:=s.heap.update l (Obj.mapSeq f),toks:=t'}:=by
 have q:=PySem.IsL.update e f
 rw[hf]at q
 refine I.write (x:=l) (e:=l) (by rw[hH];exact trivial) (.inl rfl) (λb' u hb hu=>(ZaJ s.heap (Obj.mapSeq f) (Ne.symm hb)).trans hu) ⟨_,q⟩ ?_
 exact⟨hz,its',_,hv,q⟩
theorem Inv.Qwj{its:List Value}{t':Nat}(I:Inv X pins σ H s)(hv:Qw ys its)(hz:ys.length<=sizeLine):
  Inv X pins σ (upd H s.heap.objs.size (.lst ys)) {s with heap:=s.heap.push {cls:= .type "list",data:= .seq its.toArray},toks:=t'}:=
 I.laid (λ_ _ q=>Zb _ q) (Zh _) ⟨hz,its,0,hv,Zo _ rfl⟩
theorem Inv.fresh(I:Inv X pins σ H s):H s.heap.objs.size=none:=I.hok.fresh (Zh _)
theorem Inv.QoH(I:Inv X pins σ H s)(hH:H l=some (.lst xs)):xs.length<=sizeLine/\∃(its:List Value) (n:Nat),Qw xs its/\xs.length=its.length/\s.heap.get? l=some {cls:= .type "list",data:= .seq its.toArray n}:=by
 obtain⟨z,its,n,r,e⟩:=I.hok l _ hH
 exact⟨z,its,n,r,r.length,e⟩
theorem QsD{n:Nat}(h:n<=sizeLine):Builtin.List.listTooLong n=false:=by
 unfold Builtin.List.listTooLong
 exact decide_eq_false (by omega)
end
section
variable {X:Cx}
noncomputable def Qj1:V->List V->Hp->VK->Prop:=λx vs H Q=>∃l xs y,x= .ref l/\vs=[y]/\H l=some (.lst xs)/\xs.length<sizeLine/\Q .non (upd H l (.lst (xs++[y])))
theorem QgD:MtM X "list.append" Qj1:=by
 intro pins s σ H x vs v us Q I rx rv h
 obtain⟨l,xs,y,rfl,rfl,hH,hz,q⟩:=h
 cases rx
 obtain⟨u,rfl,ru⟩:=rv.one
 obtain⟨z,its,n,r,hl,e⟩:=I.QoH hH
 refine call_meets F.slot_list_append ⟨_,e,rfl⟩ F.entry_list_append (F.args_list_append_2 _ _) (PySem.list_append l its.toArray n u (by rw[Zt];omega)) ⟨e,?_⟩
 refine⟨.non,_,I.QsF (its':=its++[u]) hH e (by simp) (r.append (.cons ru .nil)) ?_,rfl,q⟩
 rw[Zu,Zba]
 omega
noncomputable def QmC:V->List V->Hp->VK->Prop:=λx vs H Q=>∃l xs i k y,x= .ref l/\vs=[.int i]/\H l=some (.lst xs)/\ -(2^63)<=i/\i<2^63/\seqIndex? i xs.length=some k/\xs[k]? =some y/\Q y (upd H l (.lst (xs.eraseIdx k)))
theorem QrO:MtM X "list.pop" QmC:=by
 intro pins s σ H x vs v us Q I rx rv h
 obtain⟨l,xs,i,k,y,rfl,rfl,hH,h1,h2,hk,hy,q⟩:=h
 cases rx
 obtain⟨u,rfl,ru⟩:=rv.one
 obtain⟨t,rfl⟩:=ru
 obtain⟨z,its,n,r,hl,e⟩:=I.QoH hH
 obtain⟨w,hw,rw'⟩:=r.get hy
 refine call_meets F.slot_list_pop ⟨_,e,rfl⟩ F.entry_list_pop (F.args_list_pop_2 _ _)
  (MeetsSeq.list_pop_at l its.toArray n i t k w (fitsIndex_both h1 h2) (by rw[Zt,← hl];exact hk) (by rw[← ZaB];exact hw) (by rw[Zt];omega)) ⟨e,?_⟩
 refine⟨y,_,I.QsF (its':=its.eraseIdx k) hH e ?_ (r.eraseIdx k) ?_,rw',q⟩
 ·show its.toArray.eraseIdxIfInBounds k=(its.eraseIdx k).toArray
  rw[List.eraseIdxIfInBounds_toArray]
 ·have:=QkG xs k
  omega
theorem len_rep{α:Type}(xs:List α)(k:Nat):(List.replicate k xs).flatten.length=k*xs.length:=by
 induction k with
 | zero=>simp
 | succ k ih=>rw[Zaj,Zan,Zu,ih,ZaK,Nat.add_comm]
end
section
variable {prog:Program}{w:World}{A:Around}{E:Value->Shared->Prop}{s:Shared}
end
section
variable {X:Cx}
end
end L2
namespace Att
open PySem PySem.W PySem.Calls PyProof.Rows
theorem QiY{P:Params}{h:Heap}:∀(ns:List Int) (vs:List Value),WellAll P h vs (ns.map WData.int)->IntsAre vs ns:=by
 intro ns
 induction ns with
 | nil=>
  intro vs w
  rw[Zbg]at w
  cases w
  exact .nil
 | cons n ns ih=>
  intro vs w
  rw[Zj]at w
  cases w with
  | cons a b=>
   cases a
   exact .cons _ _ (ih _ b)
theorem QqG{l:OpenLaw}{n:Nat}(hn:l.most=some n){P:Params}{h:Heap}{args:List WData}{vals:List Value}
  (hpre:l.row.toRowW.claim.pre args=true) (hwl:WellAll P h vals args):
  ∃a vs ns,vals=[Value.ref a]/\args=[WData.list (ns.map WData.int)]/\h.get? a=some {cls:= .type "list",data:= .seq vs.toArray}/\IntsAre vs ns/\ns.length<=n:=by
 have hsh:WShape.hasAll [] args [.list .int]=true:=(pre_splitW hpre).1
 have hc:l.pre.holds [] {args:=args}=true:=(pre_splitW hpre).2
 obtain⟨d,r,rfl,h1,h2⟩:=hasAllW_cons hsh
 obtain rfl:=hasAllW_nil h2
 obtain⟨xs,rfl,h3⟩:=hasW_list h1
 obtain⟨ns,rfl⟩:=items_int h3
 have hlen:ns.length<=n:=by
  unfold OpenLaw.pre at hc
  have h4:(WTm.not (.lt (.lit (.int (n:Int))) (.len (.arg 0)))).holds [] {args:=[.list (ns.map .int)]}=true:=by
   have h4:=(holds_andW hc).1
   rw[hn]at h4
   exact h4
  have h5:=condW_of h4 (w_not (w_lt w_lit (w_len_list (w_arg rfl))))
  rw[Zg]at h5
  refine Nat.le_of_not_lt λq=>?_
  have q':(n:Int)<((ns.length:Nat):Int):=by omega
  first
   | (rw[decide_eq_true q']at h5;exact absurd h5 (by decide))
   | (simp at h5;omega)
 cases hwl with
 | cons w1 w2=>
  cases w2
  cases w1 with
  | list ho hall=>exact⟨_,_,ns,rfl,rfl,ho,QiY ns _ hall,hlen⟩
theorem Qrg(l:OpenLaw)(args:List WData):l.row.toRowW.claim.post args (.bool true) args=true:=
 postW_of (r:=l.row.toRowW) (X:=(true == true))
  (show WShape.has [] (.bool true) .bool=true by first | rfl | decide | simp[WShape.has,WShape.arms,WShape.armsAll])
  (show(WTm.eq .res (.lit (.bool true))).value [] {args:=args,res:=some (.bool true),after:=args}=some (.bool (true == true))from w_eq_bool (w_res rfl) w_lit) rfl
theorem QhC{l:OpenLaw}{n:Nat}{q:Program}{loose:List Str}{XP:(Str->Option Value)->Heap->Prop}{YP:World->Heap->Prop}{d:DefRec}
  (hn:l.most=some n) (hdf:d.params.defaults=[])
  (call:∀(w:World) (s₀ s₁:Shared) (mg mb:Str->Option Value) (fa:Addr) (o:Obj) (pm cd doc:Value) (a:Addr) (vs:List Value) (ns:List Int),
   Ground q loose [] XP w s₀ mg mb s₁.heap->YP w s₁.heap→
   s₁.heap.get? fa=some o->o.data= .func (docDef d.name d.params d.body d.scope pm cd doc)->s₁.heap.CodeRec cd d.name->mg d.name=some (.ref fa)→
   s₁.heap.get? a=some {cls:= .type "list",data:= .seq vs.toArray}->IntsAre vs ns->ns.length<=n->s₁.gens= #[]→
   codeAny (model l.prog w) callerA (.call (.ref fa) ⟨[.ref a],[]⟩) (λr s'=>r= .ok (.ret (.bool true))/\OldK s₁.heap s'.heap/\s'.os=s₁.os/\AllBare s'.gens) s₁):
  WalkO q loose XP YP l.row.toRowW d [] (λf vs=>PySem.call f vs):=by
 intro w s₀ s₁ mg mb G Y fa o pm cd doc dV kV ho hd hcd hD hmg hg args vals as hpre hlay hrd hwl hlo
 obtain rfl:dV= .none:=Dflts.none hD hdf
 obtain rfl:kV= .none:=Dflts.noKw hD
 obtain⟨a,vs,ns,rfl,rfl,hobj,hints,hlen⟩:=QqG hn hpre hwl
 refine enter_call (codeAny_mono (call w s₀ s₁ mg mb fa o pm cd doc a vs ns G Y ho (fd_plain hd) hcd hmg hobj hints hlen hg) λr s' hq=>?_)
 obtain⟨rfl,h2,h3,h4⟩:=hq
 exact⟨.inl ⟨.bool true,.bool true,[],rfl,λ_=>rfl,.bool true,Qrg l _,λ_=>⟨List.Pairwise.nil,λ_ hm=>(nomatch hm)⟩⟩,h2,h3,h4⟩
section
variable {prog:Program}{w:World}{A:Around}{E:Value->Shared->Prop}{s:Shared}{K:Frag}
noncomputable def ledger(h:Heap)(L d:Addr):List (Addr×Obj):=(List.range h.objs.size).filterMap λa=>if a=L∨a=d then none else(h.get? a).map λo=>(a,o)
end
end Att
namespace L2
open PySem PySem.Spec PyProof.Rows
theorem Qbr:∀{vs:List Value}{ns:List Int},IntsAre vs ns->Qw (ns.map V.int) vs
 | _,_,.nil=> .nil
 | _,_,.cons n t h=> .cons ⟨t,rfl⟩ (Qbr h)
def QrE(H:Hp):Prop:=∀b,H b=none∨∃o xs,H b=some (.frz o (.lst xs))
theorem Qm4{P:Program}{w:World}{K:PySem.W.Frag}{mg mb:Str->Option Value}{CX:CXT}{k:Nat}{fa a:Addr}{fd:FuncData}{x:Str}{sp:Sp}{s₁:Shared}{vs:List Value}{ns:List Int}
  (KX:K.In s₁.heap) (hns:s₁.heap.Ns mainGlobals mg) (hb:s₁.heap.Ns builtinsNs mb) (hbb:∀x:Str,x≠ "__name__" ->mb x=bootBuiltins x) (hlim:s₁.heap.NoLimit) (hg:s₁.gens= #[])
  (ha:s₁.heap.get? a=some {cls:= .type "list",data:= .seq vs.toArray}) (hi:IntsAre vs ns) (hl:ns.length<=sizeLine) (hr:QaI k callerA)
  (F:∀base:Heap,K.In base->base.Ns mainGlobals mg->QbV P w K mg base CX k fa fd [x] sp) (hbind:∀(s:Shared) (u:Value),BindsTo s fd ⟨[u],[]⟩ [(x,u)])
  (hsp:∀H:Hp,QrE H->SqL K H a (ns.map V.int)->sp [.ref a] H (λv _=>v= .bl true) λ_ _ _=>False)
  (hCX:∀H e s',CX [] H s₁ (λ_ _ _=>False) e s'->False):
  codeAny (model P w) callerA (.call (.ref fa) ⟨[.ref a],[]⟩) (λr s'=>r= .ok (.ret (.bool true))/\OldK s₁.heap s'.heap/\s'.os=s₁.os/\AllBare s'.gens) s₁:=by
 have rv:=Qbr hi
 have lenV:=hi.length
 have core:∀H:Hp,QrE H->SqL K H a (ns.map V.int)->HOk P w H s₁.heap->(∀b,H b≠none->b=a)->(H a≠none->K.lookup a=none)→
   codeAny (model P w) callerA (.call (.ref fa) ⟨[.ref a],[]⟩) (λr s'=>r= .ok (.ret (.bool true))/\OldK s₁.heap s'.heap/\s'.os=s₁.os/\AllBare s'.gens) s₁:=by
  intro H hO hS hok hA hK
  have base_of:∀{b:Addr}{o:Obj},s₁.heap.get? b=some o->H b=none->(QfJ s₁.heap H).get? b=some o:=λe n=>QrN e n
  have noA:∀{b:Addr}{o:Obj}{es:Array DictEntry}{ep:Nat},s₁.heap.get? b=some o->o.data= .dict es ep->H b=none:=λ{b o es ep} e d=>by
   cases q:H b with
   | none=>rfl
   | some u=>
    have e':b=a:=hA b (by rw[q];simp)
    subst e'
    rw[ha]at e;cases e
    have d':Data.seq vs.toArray _=Data.dict es ep:=d
    cases d'
  have nsK:∀{b:Addr}{m:Str->Option Value},s₁.heap.Ns b m->(QfJ s₁.heap H).Ns b m:=λ{b m} ⟨o,es,ep,e,d,r⟩=>⟨o,es,ep,base_of e (noA e d),d,r⟩
  have hKb:K.In (QfJ s₁.heap H):=λb o e=>base_of (KX b o e) (by
   cases q:H b with
   | none=>rfl
   | some u=>
    have e':b=a:=hA b (by rw[q];simp)
    subst e'
    rw[hK (by rw[q];simp)]at e;cases e)
  have hM:Mod K mg (QfJ s₁.heap H):=⟨hKb,nsK hns,⟨mb,nsK hb,hbb⟩,let ⟨mc,h1,h2⟩:=hlim;⟨mc,nsK h1,h2⟩⟩
  have e0:Qe3 P w K mg (QfJ s₁.heap H) callerA [] s₁ H:=⟨rfl,hM,λb o e=>QuA e,Nat.le_of_eq (QqR _ _),trivial,λb hb=>absurd (show b∈([]:List Addr)from hb) (by simp),hok,.of_eq hg⟩
  refine codeAny_mono ((F _ hKb (nsK hns)).run callerA [] s₁ H ⟨[.ref a],[]⟩ [.ref a] [.ref a] _ _ hr e0 (hbind s₁ (.ref a)) (.cons rfl .nil) (hsp H hO hS)) λr s' h=>?_
  cases r with
  | error e=>exact(hCX H e s' h).elim
  | ok fl=>
   cases fl with
   | next=>exact False.elim h
   | brk=>exact False.elim h
   | cont=>exact False.elim h
   | ret u=>
    obtain⟨v,H',os,bare,un,hok',r',q⟩:=h
    have q':v= .bl true:=q
    subst q'
    obtain rfl:u=Value.bool true:=r'
    refine⟨rfl,OldK.of_keep λb o e=>?_,os,bare⟩
    cases q:H b with
    | none=>exact un.keep b o e q (by intro z;exact absurd (show b∈([]:List Addr)from z) (by simp)) (by simp)
    | some u=>
     rcases hO b with z | ⟨ob,xs,z⟩
     ·rw[q]at z;cases z
     ·have z2:=un.frzs b ob _ z
      obtain⟨e1,_⟩:=hok b _ z
      obtain⟨e2,_⟩:=hok' b _ z2
      rw[e]at e1;cases e1
      exact e2
 cases hk:K.lookup a with
 | some o=>
  have e:=KX a o hk
  rw[ha]at e
  cases e
  refine core (λ_=>none) (λ_=> .inl rfl) (.inr ⟨_,vs.toArray,_,hk,rfl,rfl,rfl,by rw[Zt,lenV];exact hl,by simpa using rv⟩) (λb u z=>by have z':(none:Option HO)=some u:=z;cases z') (λb z=>absurd rfl z) λz=>absurd rfl z
 | none=>
  refine core (λb=>if b=a then some (.frz {cls:= .type "list",data:= .seq vs.toArray} (.lst (ns.map V.int)))else none) (λb=>?_) (.inl (.inr ⟨{cls:= .type "list",data:= .seq vs.toArray},if_pos rfl⟩)) (λb u z=>?_) (λb z=>?_) λ_=>hk
  ·by_cases hb:b=a
   ·exact .inr ⟨_,_,if_pos hb⟩
   ·exact .inl (if_neg hb)
  ·by_cases hb:b=a
   ·have z':=(if_pos hb).symm.trans z
    cases z'
    subst hb
    exact⟨ha,by rw[Zg];exact hl,vs,_,rv,ha⟩
   ·have z':=(if_neg hb).symm.trans z
    cases z'
  ·by_cases hb:b=a
   ·exact hb
   ·exact absurd (if_neg hb) z
end L2
namespace L2
open PySem PySem.Spec PyProof.Rows
noncomputable abbrev KOf{K:PySem.W.Frag}{h:Heap}(_:K.In h):PySem.W.Frag:=K
theorem QzO{l:PySem.W.OpenLaw}{n k:Nat}{q:Program}{loose:List Str}{XP:(Str->Option Value)->Heap->Prop}{YP:World->Heap->Prop}{d:DefRec}{K:Params->PySem.W.Frag}{CX:World->CXT}{sp:World->Sp}{x:Str}
  (hn:l.most=some n) (hn2:n<=sizeLine) (hdf:d.params.defaults=[]) (hr:QaI k callerA)
  (hY:∀(w:World) (h:Heap),YP w h->(K w.params).In h)
  (F:∀(w:World) (mg:Str->Option Value) (fa:Addr) (h:Heap),(K w.params).In h->h.Ns mainGlobals mg->mg d.name=some (.ref fa)→
   ∃fd:FuncData,(∀(s:Shared) (u:Value),BindsTo s fd ⟨[u],[]⟩ [(x,u)])∧
    ∀base:Heap,(K w.params).In base->base.Ns mainGlobals mg->QbV l.prog w (K w.params) mg base (CX w) k fa fd [x] (sp w))
  (hsp:∀(w:World) (H:Hp) (a:Addr) (ns:List Int),ns.length<=n->QrE H->SqL (K w.params) H a (ns.map V.int)->sp w [.ref a] H (λv _=>v= .bl true) λ_ _ _=>False)
  (hCX:∀(w:World) (H:Hp) (s:Shared) (e:Value) (s':Shared),CX w [] H s (λ_ _ _=>False) e s'->False):
  PySem.W.WalkO q loose XP YP l.row.toRowW d [] (λf vs=>PySem.call f vs):=by
 refine Att.QhC hn hdf λw s₀ s₁ mg mb fa o pm cd doc a vs ns G Y ho hd hcd hmg hobj hints hlen hg=>?_
 have KX:=hY w _ Y
 obtain⟨fd,hb,hF⟩:=F w mg fa _ KX G.T.g hmg
 exact Qm4 KX G.T.g G.T.b G.T.builtins G.T.nolimit hg hobj hints (Zx hlen hn2) hr hF hb (λH hO hS=>hsp w H a ns hlen hO hS) λH e s'=>hCX w H s₁ e s'
end L2
namespace L2
open PySem PySem.Spec PyProof.Rows
noncomputable def Qes(s:Stmt):Arguments:=match s with
 | .FunctionDef _ a _ _ _ _ _ _ _ _=>a
 | _=>{posonlyargs:=[],args:=[],vararg:=none,kwonlyargs:=[],kw_defaults:=[],kwarg:=none,defaults:=[]}
noncomputable def QbW(s:Stmt):List Stmt:=match s with
 | .FunctionDef _ _ b _ _ _ _ _ _ _=>b
 | _=>[]
noncomputable def QA(s:Stmt):Scope:=match s with
 | .FunctionDef _ _ _ _ _ _ sc _ _ _=>sc
 | _=>{kind:= .function,names:=[],isGenerator:=false,isCoroutine:=false}
noncomputable abbrev CX0:CXT:=λ_ _ _ _ _ _=>False
noncomputable abbrev E0:XK:=λ_ _ _=>False
theorem QtI{X:Cx}:QiO CX0 X E0:=λ_ _ _ _ _ _ _ h=>h.elim
structure Fun (K:PySem.W.Frag) (x qual:Str) (st:Stmt) (f:Addr) (fd:FuncData):Prop where
 ex:∃(oc:Value) (od:Option Addr) (kV doc pm:Value) (an:Option Addr) (cdv ct:Value) (osl:Array (Option Value)),
  fd=PySem.W.fnOf x qual (Qes st) (QbW st) (QA st) .none kV doc pm an cdv ct/\K.lookup f=some ⟨oc,od,.func fd,osl⟩/\PySem.W.codeIn K cdv qual=true
 kp:PySem.W.keepIn K (.ref f)=true
section
variable {P:Program}{w:World}{K:PySem.W.Frag}{mg:Str->Option Value}{base:Heap}
theorem Fun.ok{x qual:Str}{st:Stmt}{f:Addr}{fd:FuncData}{N ps:List Str}{k:Nat}{sp:Sp}(F:Fun K x qual st f fd)(S:QcY N ps (QA st))(len:∀vs H Q E,sp vs H Q E->vs.length=ps.length)
  (hbody:∀(cdv:Value) (A:Around) (outer:List Env) (s:Shared) (H:Hp) (vs:List V) (Q:VK) (E:XK),QaI k (A.deeper (envOfC qual (QA st) s.heap.objs.size f cdv))->sp vs H Q E→
   ∃t,PSs (Qgn CX0 P w K mg base N qual (QA st) f cdv A outer s H E).nox (QbW st) t/\t {nx:=λ_ H'=>Q .non H',rt:=Q} (start N vs) H):QbV P w K mg base CX0 (k+1) f fd ps sp:=by
 obtain⟨oc,od,kV,doc,pm,an,cdv,ct,osl,rfl,lk,hcd⟩:=F.ex
 refine Qyy lk hcd S len λA outer s H vs Q E hr hsp=>?_
 obtain⟨t,h,q⟩:=hbody cdv A outer s H vs Q E hr hsp
 exact⟨t,h.nox,q⟩
theorem Fun.binds{x qual:Str}{st:Stmt}{f:Addr}{fd:FuncData}{ps:List Str}(F:Fun K x qual st f fd)
  (h:∀(kV doc pm:Value) (an:Option Addr) (cdv ct:Value) (us:List Value),us.length=ps.length->bindArgs (PySem.W.fnOf x qual (Qes st) (QbW st) (QA st) .none kV doc pm an cdv ct) ⟨us,[]⟩=pure (ps.zip us)):Binds K fd ps []:=by
 obtain⟨oc,od,kV,doc,pm,an,cdv,ct,osl,rfl,lk,hcd⟩:=F.ex
 exact .all (h kV doc pm an cdv ct)
theorem QvN{x qual:Str}{st:Stmt}{f:Addr}{oc:Value}{od an:Option Addr}{osl:Array (Option Value)}{kV doc pm cdv ct:Value}(l:K.lookup f=some ⟨oc,od,.func (PySem.W.fnOf x qual (Qes st) (QbW st) (QA st) .none kV doc pm an cdv ct),osl⟩)
  (c:PySem.W.codeIn K cdv qual=true) (k:PySem.W.keepIn K (.ref f)=true):Fun K x qual st f (PySem.W.fnOf x qual (Qes st) (QbW st) (QA st) .none kV doc pm an cdv ct):=⟨⟨oc,od,kV,doc,pm,an,cdv,ct,osl,rfl,l,c⟩,k⟩
end
section
variable {X:Cx}
theorem pv(i:Nat){x:Str}{pos:Pos}(hN:X.N[i]? =some x:=by rfl)(hv:Vis X.env.scope x:=by first | exact Or.inl rfl | exact Or.inr (Or.inl rfl) | exact Or.inr (Or.inr rfl))(hd:(x == ("__debug__" :Str))=false:=by decide)
  (hcd:(x == ("__classdict__" :Str))=false:=by decide):PE X (.Name x pos) (QjE i):=QqQ hN hv hd hcd
end
theorem QrH{A B:Prop}(h:B):if false=true then A else B:=by
 rw[if_neg Zag]
 exact h
theorem Qse{A B:Prop}(h:A):if true=true then A else B:=by
 rw[if_pos rfl]
 exact h
def QK(H H':Hp):Prop:=∀b o,H b=some o->H' b=some o
theorem QK.refl(H:Hp):QK H H:=λ_ _ h=>h
theorem QK.trans{H H1 H2:Hp}(a:QK H H1)(b:QK H1 H2):QK H H2:=λc o h=>b c o (a c o h)
theorem QK.free{H H':Hp}(e:QK H H'){l:Addr}(h:H' l=Option.none):H l=Option.none:=by
 cases q:H l with
 | none=>rfl
 | some o=>
  rw[e l o q]at h
  cases h
theorem QK.seq{K:PySem.W.Frag}{H H':Hp}{a:Addr}{xs:List V}(e:QK H H')(h:SqL K H a xs):SqL K H' a xs:=by
 rcases h with(h | ⟨o,h⟩) | h
 ·exact .inl (.inl (e _ _ h))
 ·exact .inl (.inr ⟨o,e _ _ h⟩)
 ·exact .inr h
end L2
namespace L2
open PySem PySem.Spec PyProof.Rows
section
variable {κ:Type} [DecidableEq κ]
noncomputable def Qd9(kvs:List (κ×V))(k:κ):Option V:=(kvs.find? λkv=>decide (kv.1=k)).map (·.2)
noncomputable def putK(kvs:List (κ×V))(k:κ)(v:V):List (κ×V):=
 if(kvs.any λkv=>decide (kv.1=k))=true then kvs.map (λkv=>if kv.1=k then(kv.1,v)else kv)else kvs++[(k,v)]
noncomputable def QtA(kvs:List (κ×V))(k:κ):List (κ×V):=kvs.filter λkv=>decide (kv.1≠k)
theorem Qif{p:κ×V}{r:List (κ×V)}{k:κ}(e:p.1=k):Qd9 (p::r) k=some p.2:=by simp[Qd9,List.find?_cons,e]
theorem Qir{p:κ×V}{r:List (κ×V)}{k:κ}(e:¬p.1=k):Qd9 (p::r) k=Qd9 r k:=by simp[Qd9,List.find?_cons,e]
theorem QmI(k:κ):∀kvs:List (κ×V),(kvs.any λkv=>decide (kv.1=k))=(Qd9 kvs k).isSome
 | []=>rfl
 | p::r=>by
  rw[Zcq]
  by_cases e:p.1=k
  ·simp only[Qif e,decide_eq_true e,Bool.true_or,Option.isSome_some]
  ·rw[Qir e,decide_eq_false e,Bool.false_or];exact QmI k r
theorem QhD(kvs:List (κ×V))(k:κ)(v:V):(putK kvs k v).length<=kvs.length+1:=by
 unfold putK
 split
 ·rw[Zg];omega
 ·rw[Zu,ZI,List.length_nil];omega
theorem Qd5.QpZ{o:Option V}{u:Option Value}(r:Qd5 o u):o.isSome=u.isSome:=by
 cases o with
 | none=>cases u with
  | none=>rfl
  | some _=>exact(show False from r).elim
 | some _=>cases u with
  | none=>exact(show False from r).elim
  | some _=>rfl
theorem Qd5.getD{o:Option V}{u:Option Value}{d:V}{d':Value}(r:Qd5 o u)(rd:RelV d d'):RelV (o.getD d) (u.getD d'):=by
 cases o with
 | none=>cases u with
  | none=>exact rd
  | some _=>exact(show False from r).elim
 | some _=>cases u with
  | none=>exact(show False from r).elim
  | some _=>exact r
theorem KV.val{kvs:List (κ×V)}{vs:List (κ×Value)}(r:KV kvs vs)(k:κ):Qd5 (Qd9 kvs k) (valueAt vs k):=by
 unfold KV at r
 induction r with
 | nil=>exact True.intro
 | @cons p q ps qs h t ih=>
  obtain⟨h1,h2⟩:=h
  by_cases e:p.1=k
  ·have e':q.1=k:=h1.symm.trans e
   have b:valueAt (q::qs) k=some q.2:=by simp[valueAt,List.find?_cons,e']
   rw[Qif e,b];exact h2
  ·have e':¬q.1=k:=λz=>e (h1.trans z)
   have b:valueAt (q::qs) k=valueAt qs k:=by simp[valueAt,List.find?_cons,e']
   rw[Qir e,b];exact ih
theorem KV.any{kvs:List (κ×V)}{vs:List (κ×Value)}(r:KV kvs vs)(k:κ):(kvs.any λkv=>decide (kv.1=k))=vs.any λkv=>decide (kv.1=k):=by
 unfold KV at r
 induction r with
 | nil=>rfl
 | cons h t ih=>rw[Zcq,Zcq,ih,h.1]
theorem KV.QsR{kvs:List (κ×V)}{vs:List (κ×Value)}(r:KV kvs vs)(k:κ){y:V}{u:Value}(ry:RelV y u):
  KV (kvs.map λkv=>if kv.1=k then(kv.1,y)else kv) (vs.map λkv=>if kv.1=k then(kv.1,u)else kv):=by
 unfold KV at r ⊢
 induction r with
 | nil=>exact .nil
 | @cons p q ps qs h t ih=>
  rw[Zj,Zj]
  refine .cons ?_ ih
  obtain⟨h1,h2⟩:=h
  by_cases e:p.1=k
  ·rw[if_pos e,if_pos (h1.symm.trans e)];exact⟨h1,ry⟩
  ·rw[if_neg e,if_neg (λz=>e (h1.trans z))];exact⟨h1,h2⟩
theorem KV.put{kvs:List (κ×V)}{vs:List (κ×Value)}(r:KV kvs vs)(k:κ){y:V}{u:Value}(ry:RelV y u):KV (putK kvs k y) (stored vs k u):=by
 unfold putK stored
 rw[r.any k]
 by_cases e:(vs.any λkv=>decide (kv.1=k))=true
 ·rw[if_pos e,if_pos e];exact r.QsR k ry
 ·rw[if_neg e,if_neg e];exact Paired.snoc r ⟨rfl,ry⟩
theorem KV.drop{kvs:List (κ×V)}{vs:List (κ×Value)}(r:KV kvs vs)(k:κ):KV (QtA kvs k) (without vs k):=by
 unfold KV at r ⊢
 unfold QtA without
 induction r with
 | nil=>exact .nil
 | @cons p q ps qs h t ih=>
  obtain⟨h1,h2⟩:=h
  rw[Zca,Zca]
  by_cases e:p.1=k
  ·have a:¬decide (p.1≠k)=true:=by simp[e]
   have b:¬decide (q.1≠k)=true:=by simp[h1.symm.trans e]
   rw[if_neg a,if_neg b];exact ih
  ·have e':¬q.1=k:=λz=>e (h1.trans z)
   have a:decide (p.1≠k)=true:=by simp[e]
   have b:decide (q.1≠k)=true:=by simp[e']
   rw[if_pos a,if_pos b];exact .cons ⟨h1,h2⟩ ih
theorem KV.keys{kvs:List (κ×V)}{vs:List (κ×Value)}(r:KV kvs vs):kvs.map (·.1)=vs.map (·.1):=by
 unfold KV at r
 induction r with
 | nil=>rfl
 | cons h t ih=>rw[Zj,Zj,ih,h.1]
theorem KV.length{kvs:List (κ×V)}{vs:List (κ×Value)}(r:KV kvs vs):kvs.length=vs.length:=Zbn r
end
theorem QtG{P:Program}{w:World}{k:Key}{u:Value}(r:RelV (kV k) u):(QaR P w).is k u=true:=by
 cases k with
 | inl i=>obtain⟨t,e⟩:=(show ∃t,u=Value.int i t from r);subst e;exact Qny P w i t
 | inr x=>obtain⟨t,e⟩:=(show ∃t,u=Value.str x t from r);subst e;exact Qnp P w x t
theorem QkH{P:Program}{w:World}:∀{ks:List Key}{us:List Value},Qw (ks.map kV) us->ItemsAre (QaR P w) ks us
 | [],_,r=>by rw[Zbg]at r;cases r;exact .nil
 | k::ks,_,r=>by
  rw[Zj]at r
  cases r with
  | cons h t=>exact .cons (QtG h) (QkH t)
noncomputable abbrev KT(H:Hp):List (List Key×V)->List (List Key×Addr×Value)->Prop:=Paired λp q=>p.1=q.1/\H q.2.1=some (.tup (p.1.map kV))/\RelV p.2 q.2.2
theorem KT.val{H:Hp}{kvs:List (List Key×V)}{xs:List (List Key×Addr×Value)}(r:KT H kvs xs)(k:List Key):Qd5 (Qd9 kvs k) ((atKey xs k).map (·.2)):=by
 induction r with
 | nil=>exact True.intro
 | @cons p q ps qs h t ih=>
  obtain⟨h1,_,h2⟩:=h
  by_cases e:p.1=k
  ·have e':q.1=k:=h1.symm.trans e
   have b:atKey (q::qs) k=some q.2:=by simp[atKey,List.find?_cons,e']
   rw[Qif e,b];exact h2
  ·have e':¬q.1=k:=λz=>e (h1.trans z)
   have b:atKey (q::qs) k=atKey qs k:=by simp[atKey,List.find?_cons,e']
   rw[Qir e,b];exact ih
theorem KT.QsR{H:Hp}{kvs:List (List Key×V)}{xs:List (List Key×Addr×Value)}(r:KT H kvs xs)(k:List Key){y:V}{u:Value}(ry:RelV y u):
  KT H (kvs.map λkv=>if kv.1=k then(kv.1,y)else kv) (xs.map (putAt k u)):=by
 induction r with
 | nil=>exact .nil
 | @cons p q ps qs h t ih=>
  rw[Zj,Zj]
  refine .cons ?_ ih
  obtain⟨h1,h2,h3⟩:=h
  unfold putAt
  by_cases e:p.1=k
  ·rw[if_pos e,if_pos (h1.symm.trans e)];exact⟨h1,h2,ry⟩
  ·rw[if_neg e,if_neg (λz=>e (h1.trans z))];exact⟨h1,h2,h3⟩
theorem KT.put{H:Hp}{kvs:List (List Key×V)}{xs:List (List Key×Addr×Value)}(r:KT H kvs xs)(k:List Key){b:Addr}{y:V}{u:Value}(hb:H b=some (.tup (k.map kV)))(ry:RelV y u):
  KT H (putK kvs k y) (storedH xs k b u):=by
 have e:(kvs.any λkv=>decide (kv.1=k))=(atKey xs k).isSome:=by
  rw[QmI,(r.val k).QpZ,Option.isSome_map]
 unfold putK storedH
 rw[e]
 by_cases q:(atKey xs k).isSome=true
 ·rw[if_pos q,if_pos q];exact r.QsR k ry
 ·rw[if_neg q,if_neg q];exact Paired.snoc r ⟨rfl,hb,ry⟩
theorem KT.keeps{H H':Hp}{kvs:List (List Key×V)}{xs:List (List Key×Addr×Value)}(r:KT H kvs xs)(ht:∀b ys,H b=some (.tup ys)->H' b=some (.tup ys)):KT H' kvs xs:=
 Paired.QsZ r λ_ _ z=>⟨z.1,ht _ _ z.2.1,z.2.2⟩
section
variable {P:Program}{w:World}{H:Hp}{h:Heap}{a:Addr}
theorem QtH{u:HO}(ok:HOk P w H h)(e:Rd H a u):QaM P w H h a u:=e.ok ok
theorem QyS{kvs:List (Key×V)}(ok:HOk P w H h)(e:Rd H a (.dK kvs)):kvs.length<=sizeLine/\(a == sysModules)=false/\∃vs,KV kvs vs/\h.DictOf (QaR P w) a vs:=
 show QaM P w H h a (.dK kvs)from QtH ok e
theorem Qx1{kvs:List (Key×V)}(ok:HOk P w H h)(e:H a=some (.dK kvs)):kvs.length<=sizeLine/\(a == sysModules)=false/\∃vs,KV kvs vs/\h.DictOf (QaR P w) a vs:=QyS ok (.inl e)
theorem QmU{ks:List Key}(ok:HOk P w H h)(e:H a=some (.tup (ks.map kV))):(tupleKind (QaR P w)).is h ks a:=by
 obtain⟨_,its,r,o,h1,h2,n,h3⟩:=(show QaM P w H h a (.tup (ks.map kV))from ok a _ e)
 exact⟨o,its.toArray,n,h1,h2,h3,by simpa using QkH r⟩
theorem QyK{kvs:List (List Key×V)}(ok:HOk P w H h)(e:Rd H a (.dT kvs)):kvs.length<=sizeLine/\(a == sysModules)=false∧
  ∃xs,KT H kvs xs/\h.DictOfH (tupleKind (QaR P w)) a xs:=by
 obtain⟨z,y,xs,r,o,es,ep,h1,h2,h3,h4,h5⟩:=(show QaM P w H h a (.dT kvs)from QtH ok e)
 refine⟨z,y,xs,r,o,es,ep,h1,h2,h3,h4,λx hx=>?_,h5⟩
 have all:∀{l:List (List Key×V)}{m:List (List Key×Addr×Value)},KT H l m->∀x∈m,(tupleKind (QaR P w)).is h x.1 x.2.1:=by
  intro l m q
  induction q with
  | nil=>intro x hx;exact nomatch hx
  | @cons p q ps qs hq t ih=>
   intro x hx
   rcases Zq.mp hx with e | hx
   ·subst e
    exact QmU ok (by rw[← hq.1];exact hq.2.1)
   ·exact ih x hx
 exact all r x hx
theorem QoQ{kvs:List (List Key×V)}(ok:HOk P w H h)(e:H a=some (.dT kvs)):kvs.length<=sizeLine/\(a == sysModules)=false∧
  ∃xs,KT H kvs xs/\h.DictOfH (tupleKind (QaR P w)) a xs:=QyK ok (.inl e)
end
def Qpn(H:Hp)(a:Addr)(y:V)(r:Option V):Prop:=
 (∃kvs k,Rd H a (.dK kvs)/\y=kV k/\r=Qd9 kvs k)∨∃kvs k b,Rd H a (.dT kvs)/\y= .ref b/\H b=some (.tup (k.map kV))/\r=Qd9 kvs k
def QhV(H:Hp)(a:Addr)(y v:V)(H':Hp):Prop:=
 (∃kvs k,H a=some (.dK kvs)/\y=kV k/\kvs.length<sizeLine/\H'=upd H a (.dK (putK kvs k v)))∨
 ∃kvs k b,H a=some (.dT kvs)/\y= .ref b/\H b=some (.tup (k.map kV))/\kvs.length<sizeLine/\H'=upd H a (.dT (putK kvs k v))
theorem Qpn.k{H:Hp}{a:Addr}{kvs:List (Key×V)}{k:Key}(e:H a=some (.dK kvs)):Qpn H a (kV k) (Qd9 kvs k):= .inl ⟨kvs,k,.inl e,rfl,rfl⟩
theorem Qpn.t{H:Hp}{a b:Addr}{kvs:List (List Key×V)}{k:List Key}(e:H a=some (.dT kvs))(eb:H b=some (.tup (k.map kV))):Qpn H a (.ref b) (Qd9 kvs k):= .inr ⟨kvs,k,b,.inl e,rfl,eb,rfl⟩
theorem QhV.k{H:Hp}{a:Addr}{kvs:List (Key×V)}{k:Key}{v:V}(e:H a=some (.dK kvs))(hl:kvs.length<sizeLine):QhV H a (kV k) v (upd H a (.dK (putK kvs k v))):= .inl ⟨kvs,k,e,rfl,hl,rfl⟩
theorem QhV.t{H:Hp}{a b:Addr}{kvs:List (List Key×V)}{k:List Key}{v:V}(e:H a=some (.dT kvs))(eb:H b=some (.tup (k.map kV)))(hl:kvs.length<sizeLine):
  QhV H a (.ref b) v (upd H a (.dT (putK kvs k v))):= .inr ⟨kvs,k,b,e,rfl,eb,hl,rfl⟩
section
variable {X:Cx}{pins:List (Addr×Obj)}{σ:St}{H:Hp}{s:Shared}{a:Addr}{y v:V}{u r:Value}{o:Option V}{A:Around}{E:Value->Shared->Prop}
theorem Inv.big(I:Inv X pins σ H s):sysModules<s.heap.objs.size:=by
 have h:mainGlobals<s.heap.objs.size:=(I.mod.glob.keeps I.bk).lt
 exact Nat.lt_trans (by decide) h
theorem QjV{h':Heap}{t':Nat}{ob:HO}(I:Inv X pins σ H s)(mu:Mut (H a))(hs:Heap.SameBut a s.heap h')(he:∃q,h'.get? a=some q)(new:QaM X.prog X.w (upd H a ob) h' a ob):
  Inv X pins σ (upd H a ob) {s with heap:=h',toks:=t'}:=
 I.write (x:=a) (e:=a) mu (.inl rfl) (λb q hb z=>(hs.2 b hb).trans z) he new
theorem Qw8{P:Program}{w:World}{H':Hp}{h':Heap}{kvs:List (Key×V)}{vs:List (Key×Value)}(z:kvs.length<=sizeLine)(hd:(a == sysModules)=false)(rel:KV kvs vs)(dd:h'.DictOf (QaR P w) a vs):
  QaM P w H' h' a (.dK kvs):=⟨z,hd,vs,rel,dd⟩
theorem QqD{H':Hp}{Q:Unit->Shared->Prop}(hu:A.units+1<cLine)(I:Inv X pins σ H s)(g:QhV H a y v H')(ry:RelV y u)(rv:RelV v r)(h:∀s',Inv X pins σ H' s'->Q () s'):
  wpAny (model X.prog X.w) A (setItem (.ref a) u r) Q E s:=by
 rcases g with⟨kvs,k,e,ey,l,eH⟩ | ⟨kvs,k,b,e,ey,eb,l,eH⟩
 ·subst ey eH
  obtain⟨z,hd,vs,rel,dd⟩:=Qx1 I.hok e
  have hz:vs.length<=sizeLine:=by rw[← rel.length];exact z
  have hl:(putK kvs k v).length<=sizeLine:=by have:=QhD kvs k v;omega
  refine wpAny_setItem_pairs (hsz:=hz) (QtG ry) dd λh' dd' hs=>h _ ?_
  have he:∃q,h'.get? a=some q:=let ⟨q,_,_,hq,_⟩:=dd';⟨q,hq⟩
  exact QjV I (by rw[e];exact True.intro) hs he (Qw8 hl hd (rel.put k rv) dd')
 ·subst ey eH
  cases(show u=Value.ref b from ry)
  obtain⟨z,hd,xs,rel,dd⟩:=QoQ I.hok e
  have hz:xs.length<=sizeLine:=by rw[← Zbn rel];exact z
  have hl:(putK kvs k v).length<=sizeLine:=by have:=QhD kvs k v;omega
  refine wpAny_setItem_heap (hsz:=hz) (tupleKind_room_in1 hu) (QmU I.hok eb) dd λh' dd' hs=>h _ ?_
  obtain⟨q,es,ep,hq,h2,h3,h4,_,h5⟩:=dd'
  refine QjV I (by rw[e];exact True.intro) hs ⟨q,hq⟩ ⟨hl,hd,_,(rel.put k eb rv).keeps λc ys ec=>?_,q,es,ep,hq,h2,h3,h4,h5⟩
  rw[QD (QdS ec e (λz=>nomatch z))]
  exact ec
end
section
variable {X:Cx}{pins:List (Addr×Obj)}{σ:St}{H:Hp}{s:Shared}{a:Addr}{kvs:List (Key×V)}{k:Key}{u:Value}{A:Around}{E:Value->Shared->Prop}
end
noncomputable def QyI(td ty tv:TE):TS:=λD σ H=>tv σ H λv H1=>td σ H1 λx H2=>ty σ H2 λy H3=>∃a H4,x= .ref a/\QhV H3 a y v H4/\D.nx σ H4
section
variable {X:Cx}{o i e value:Expr}{pos pos' tpos:Pos}{td ty tv:TE}
theorem QuO(hu:X.A.units+1<cLine)(ho:PE X o td)(hi:PE X i ty)(hv:PE X value tv)(hs:swapsWith value (some (.Subscript o i pos')) pos.line X.env=pure false):
  PS X (.Assign [.Subscript o i pos'] value pos) (QyI td ty tv):=by
 intro pins s σ H D I h
 refine wpAny_Assign_Subscript (thn (hv pins s σ H _ I h) λr s1 ⟨v,H1,I1,rv,q1⟩=>thn (ho pins s1 σ H1 _ I1 q1) λu s2 ⟨x,H2,I2,rx,q2⟩=>thn (hi pins s2 σ H2 _ I2 q2) λiv s3 ⟨y,H3,I3,ry,a,H4,ex,g,q3⟩=>?_) hs
 subst ex
 obtain rfl:u=Value.ref a:=rx
 exact QqD hu I3 g ry rv λs4 I4=>⟨σ,H4,I4,q3⟩
end
theorem QlH{P:Program}{w:World}{H:Hp}(h:Heap)(hb:sysModules<h.objs.size):QaM P w H (h.push {cls:= .type "dict",data:= .dict #[]}) h.objs.size (.dT []):=
 ⟨Zac _,beq_eq_false_iff_ne.mpr (Ne.symm (ZK hb)),[],.nil,_,#[],0,Zo _ rfl,⟨rfl,rfl,rfl⟩,rfl,rfl,ZaE⟩
noncomputable def QwE:TE:=λ_ H Q=>∀p,H p=none->Q (.ref p) (upd H p (.dT []))
section
variable {X:Cx}{pos:Pos}
theorem QrC:PE X (.Dict [] [] pos) QwE:=λpins s σ H Q I h=>
 wpAny_Dict_empty ⟨.ref s.heap.objs.size,_,I.laid (a:=s.heap.objs.size) (o:= .dT []) (t':=s.toks) (λ_ _ q=>Zb _ q) (Zh _) (QlH s.heap I.big),rfl,h _ (I.hok.fresh (Zh _))⟩
end
end L2
namespace L2
open PySem PySem.Spec PyProof.Rows
theorem Qkb(env:Env)(body:Str×NameKind->List (Str×Addr)->Sem (ForInStep (List (Str×Addr))))
  (hb:∀n k cs,body (n,k) cs=if(k == NameKind.free)=true then(do let c ← cellOf env n;pure (ForInStep.yield ((n,c)::cs)))else pure (ForInStep.yield cs)):
  ∀(names:List (Str×NameKind)) (acc:List (Str×Addr)),(∀y∈names,y.2= .free->∃c,env.cells.lookup y.1=some c)->(∀x c,acc.lookup x=some c->env.cells.lookup x=some c)→
   ∃cl,forIn names acc body=(pure cl:Sem _)/\(∀x c,cl.lookup x=some c->env.cells.lookup x=some c)/\(∀x,acc.lookup x≠none->cl.lookup x≠none)/\∀y∈names,y.2= .free->cl.lookup y.1≠none
 | [],acc,_,ha=>⟨acc,rfl,ha,λ_ h=>h,λy hy=>by simp at hy⟩
 | (n,k)::r,acc,hn,ha=>by
  rw[ZbJ,hb]
  have hr:∀y∈r,y.2= .free->∃c,env.cells.lookup y.1=some c:=λy hy=>hn y (Zc _ hy)
  by_cases hk:k= .free
  ·subst hk
   obtain⟨c,hc⟩:=hn (n,.free) Zi rfl
   have hce:cellOf env n=pure c:=by unfold cellOf;rw[show env.cells.lookup n=some c from hc]
   rw[if_pos (by rfl),hce]
   obtain⟨cl,e,h1,h2,h3⟩:=Qkb env body hb r ((n,c)::acc) hr (λx c' e=>by
    rw[Zw]at e
    cases q:x == n with
    | true=>rw[q]at e;cases e;rw[beq_iff_eq]at q;rw[q];exact hc
    | false=>rw[q]at e;exact ha x c' e)
   have hcons:∀x,((n,c)::acc).lookup x≠none->cl.lookup x≠none:=h2
   refine⟨cl,by simpa using e,h1,λx hx=>hcons x ?_,λy hy hf=>?_⟩
   ·rw[Zw];cases x == n with
    | true=>simp
    | false=>exact hx
   ·rcases Zq.mp hy with rfl | hy
    ·exact hcons _ (by simp[Zw])
    ·exact h3 y hy hf
  ·rw[if_neg (by simpa using hk)]
   obtain⟨cl,e,h1,h2,h3⟩:=Qkb env body hb r acc hr ha
   refine⟨cl,by simpa using e,h1,h2,λy hy hf=>?_⟩
   rcases Zq.mp hy with rfl | hy
   ·exact absurd hf hk
   ·exact h3 y hy hf
theorem QuH(h:∀y∈scope.names,y.2= .free->∃c,env.cells.lookup y.1=some c):
  ∃cl,closureFor scope env=pure cl/\(∀x c,cl.lookup x=some c->env.cells.lookup x=some c)/\∀y∈scope.names,y.2= .free->∃c,cl.lookup y.1=some c:=by
 unfold closureFor
 obtain⟨cl,e,h1,_,h3⟩:=Qkb env (λx cs=>match x with | (name,kind)=>if(kind == NameKind.free)=true then(do let c ← cellOf env name;pure (ForInStep.yield ((name,c)::cs)))else pure (ForInStep.yield cs)) (λ_ _ _=>rfl) scope.names [] h (λx c e=>by simp at e)
 refine⟨cl,?_,h1,λy hy hf=>Option.ne_none_iff_exists'.mp (h3 y hy hf)⟩
 show(forIn scope.names [] _ >>= λr=>pure r)=_
 rw[e];rfl
noncomputable def cxc(X:Cx)(N':List Str)(scope:Scope)(cl:List (Str×Addr))(C:Addr)(fp:List Addr)(s3:Shared)(H3:Hp):Cx:=
 {X with N:=N',s₀:=s3,H₀:=H3,env:=compEnvC scope cl C X.env,outer:=X.stack,ex:=fp,fn:=λx=>decide (scope.names.lookup x=some .cell),pn:=[],xe:=λ_ _=>False}
def PTs(X:Cx)(ifs:List Expr)(t:TT):Prop:=
 ∀(pins:List (Addr×Obj)) (s:Shared) (σ:St) (H:Hp) (Q:Bool->Hp->Prop),Inv X pins σ H s->t σ H Q→
  wpAny (model X.prog X.w) X.A (forIn ifs true λc r=>if r=true then do let ok ← isTrue c X.env (eval c X.env);pure (ForInStep.yield ok)else pure (ForInStep.yield r)) (TP X pins σ Q) X.xe s
noncomputable def QzF:TT:=λ_ H Q=>Q true H
theorem Qus:PTs X [] QzF:=λ_ _ _ H _ I h=>wpAny_tests_nil ⟨H,I,h⟩
theorem QuK(h:PT X c t):PTs X [c] t:=λpins s σ H Q I q=>wpAny_tests_one (h pins s σ H Q I q)
def Qjl(X:Cx)(N':List Str)(scope:Scope)(σ σ':St):Prop:=
 σ'.length=N'.length/\∀(j:Nat) (x:Str) (v:V),N'[j]? =some x->σ'[j]? =some (some v)->scope.names.lookup x=some .free/\∃i:Nat,X.N[i]? =some x/\σ[i]? =some (some v)/\(X.env.kindOf x=some .cell∨X.env.kindOf x=some .free)
noncomputable def Qlg(wi:TI)(cap:St->St->Prop)(g:TG)(tc:TT)(te:TE):TE:=λσ H Q=>wi σ H λJ H1=>∃σc,cap σ σc/\∀D,H1 D=none->∃W:Nat->Nat->List V->Hp->Prop,
 (∃m,W 0 m [] (upd H1 D (.lst [])))/\∀i m acc H2,W i m acc H2->(J.stop i H2/\Q (.ref D) H2)∨
  (J.go i H2/\∀x H3,J.yld i H2 x H3->g x σc H3 λσ2 H4=>(∀(j:Nat) v,σc[j]? =some (some v)->σ2[j]? =some (some v))/\tc σ2 H4 λb H5=>if b=true then
   te σ2 H5 λy H6=>H6 D=some (.lst acc)/\acc.length<sizeLine/\∃m',m'<m/\W (i+1) m' (acc++[y]) (upd H6 D (.lst (acc++[y])))
   else ∃m',m'<m/\W (i+1) m' acc H5)
theorem Qcm{env:Env}:∀{names:List (Str×NameKind)}{x:Str},names.lookup x=some .free→
  (names.map λ(n,k)=>if(k == NameKind.free && env.scope.kind == .function && env.kindOf n == some .cell)then(n,NameKind.cell)else(n,k)).lookup x=some .cell∨
  (names.map λ(n,k)=>if(k == NameKind.free && env.scope.kind == .function && env.kindOf n == some .cell)then(n,NameKind.cell)else(n,k)).lookup x=some .free
 | [],_,h=>by simp at h
 | (n,k)::r,x,h=>by
  have ih:= @Qcm env r x
  rw[Zj]
  cases hx:x == n with
  | true=>
   simp only[Zw,hx]at h
   cases h
   dsimp only
   split
   ·left;simp[Zw,hx]
   ·right;simp[Zw,hx]
  | false=>
   simp only[Zw,hx]at h
   dsimp only
   split
   ·simp only[Zw,hx];exact ih h
   ·simp only[Zw,hx];exact ih h
theorem QdX{env:Env}:∀{names:List (Str×NameKind)}{x:Str},
  ((names.map λ(n,k)=>if(k == NameKind.free && env.scope.kind == .function && env.kindOf n == some .cell)then(n,NameKind.cell)else(n,k)).lookup x=some .cell∨
  (names.map λ(n,k)=>if(k == NameKind.free && env.scope.kind == .function && env.kindOf n == some .cell)then(n,NameKind.cell)else(n,k)).lookup x=some .free)→
  ∃k,(x,k)∈names/\(k= .free∨k= .cell)
 | [],_,h=>by simp at h
 | (n,k)::r,x,h=>by
  have ih:= @QdX env r x
  rw[Zj]at h
  cases hx:x == n with
  | true=>
   have hn:x=n:=by simpa using hx
   subst hn
   dsimp only at h
   split at h
   ·rename_i hc
    simp only[Zk]at hc
    refine⟨k,Zi,.inl (by simpa using hc.1.1)⟩
   ·simp only[Zw,hx]at h
    refine⟨k,Zi,?_⟩
    rcases h with h | h
    ·exact .inr (Option.some.inj h)
    ·exact .inl (Option.some.inj h)
  | false=>
   dsimp only at h
   have:∃k,(x,k)∈r/\(k= .free∨k= .cell):=by
    apply ih
    split at h
    ·simpa only[Zw,hx]using h
    ·simpa only[Zw,hx]using h
   obtain⟨k',h1,h2⟩:=this
   exact⟨k',Zc _ h1,h2⟩
theorem Qfn:∀(names:List (Str×NameKind)) (n:Nat) (acc:List (Str×Addr)) (x:Str) (c:Addr),(cellsFrom n names acc).lookup x=some c->acc.lookup x=some c∨(n<=c/\(x,NameKind.cell)∈names)
 | [],_,_,_,_,h=> .inl h
 | (nm,k)::r,n,acc,x,c,h=>by
  unfold cellsFrom at h
  split at h
  ·rename_i hk
   have hk:k= .cell:=by simpa using hk
   rcases Qfn r (n+1) ((nm,n)::acc) x c h with h | ⟨h1,h2⟩
   ·rw[Zw]at h
    cases q:x == nm with
    | true=>
     rw[q]at h
     cases h
     have:x=nm:=by simpa using q
     exact .inr ⟨Zh _,by rw[this,hk];exact Zi⟩
    | false=>rw[q]at h;exact .inl h
   ·exact .inr ⟨by omega,Zc _ h2⟩
  ·rcases Qfn r n acc x c h with h | ⟨h1,h2⟩
   ·exact .inl h
   ·exact .inr ⟨h1,Zc _ h2⟩
theorem Qmw:∀(names:List (Str×NameKind)) (n:Nat) (acc:List (Str×Addr)) (x:Str) (c:Addr),(x,NameKind.cell)∈names->(cellsFrom n names acc).lookup x=some c->n<=c
 | (nm,k)::r,n,acc,x,c,hm,h=>by
  unfold cellsFrom at h
  split at h
  ·by_cases hr:(x,NameKind.cell)∈r
   ·have:=Qmw r (n+1) _ x c hr h
    omega
   ·have hx:x=nm:=by
     rcases Zq.mp hm with e | e
     ·exact(Prod.mk.inj e).1
     ·exact absurd e hr
    rcases Qfn r (n+1) ((nm,n)::acc) x c h with h | ⟨h1,_⟩
    ·rw[Zw,show(x == nm)=true by simpa using hx]at h
     cases h
     exact Zh _
    ·omega
  ·rename_i hk
   rcases Zq.mp hm with e | e
   ·exact absurd (by rw[← (Prod.mk.inj e).2];rfl) hk
   ·exact Qmw r n acc x c e h
theorem Qlm:∀(names:List (Str×NameKind)) (n:Nat) (acc:List (Str×Addr)),(∀x y c,acc.lookup x=some c->acc.lookup y=some c->x=y)->(∀x c,acc.lookup x=some c->c<n)→
  ∀x y c,(cellsFrom n names acc).lookup x=some c->(cellsFrom n names acc).lookup y=some c->x=y
 | [],_,_,hi,_,x,y,c,h1,h2=>hi x y c h1 h2
 | (nm,k)::r,n,acc,hi,hb,x,y,c,h1,h2=>by
  unfold cellsFrom at h1 h2
  split at h1
  ·rename_i hk
   rw[if_pos hk]at h2
   refine Qlm r (n+1) ((nm,n)::acc) (λx y c h1 h2=>?_) (λx c h=>?_) x y c h1 h2
   ·rw[Zw]at h1 h2
    cases qx:x == nm with
    | true=>
     rw[qx]at h1
     cases h1
     cases qy:y == nm with
     | true=>rw[show x=nm by simpa using qx,show y=nm by simpa using qy]
     | false=>rw[qy]at h2;exact absurd (hb y _ h2) (ZX _)
    | false=>
     rw[qx]at h1
     cases qy:y == nm with
     | true=>rw[qy]at h2;cases h2;exact absurd (hb x _ h1) (ZX _)
     | false=>rw[qy]at h2;exact hi x y c h1 h2
   ·rw[Zw]at h
    cases qx:x == nm with
    | true=>rw[qx]at h;cases h;exact ZaL _
    | false=>rw[qx]at h;exact Zaw (hb x c h)
  ·rename_i hk
   rw[if_neg hk]at h2
   exact Qlm r n acc hi hb x y c h1 h2
theorem Qfs:∀(names:List (Str×NameKind)) (n:Nat) (acc:List (Str×Addr)) (x:Str),(∃c,acc.lookup x=some c)->∃c,(cellsFrom n names acc).lookup x=some c
 | [],_,_,_,h=>h
 | (nm,k)::r,n,acc,x,h=>by
  unfold cellsFrom
  split
  ·refine Qfs r (n+1) _ x ?_
   rw[Zw]
   cases x == nm with
   | true=>exact⟨n,rfl⟩
   | false=>exact h
  ·exact Qfs r n acc x h
theorem Qm0:∀(names:List (Str×NameKind)) (n:Nat) (acc:List (Str×Addr)) (x:Str),(x,NameKind.cell)∈names->∃c,(cellsFrom n names acc).lookup x=some c
 | (nm,k)::r,n,acc,x,hm=>by
  unfold cellsFrom
  rcases Zq.mp hm with e | e
  ·obtain⟨e1,e2⟩:=Prod.mk.inj e
   subst e1
   rw[← e2,if_pos (by rfl)]
   exact Qfs r (n+1) _ x ⟨n,by simp[Zw]⟩
  ·split
   ·exact Qm0 r (n+1) _ x e
   ·exact Qm0 r n acc x e
theorem Qj6(lo:Nat):∀(names:List (Str×NameKind)) (h:Heap) (acc:List (Str×Addr)),(∀x c,acc.lookup x=some c->lo<=c->h.IsCell c none)->lo<=h.objs.size→
  ∀x c,(cellsFrom h.objs.size names acc).lookup x=some c->lo<=c->(pushCells h names).IsCell c none
 | [],_,_,ha,_,x,c,e,hl=>ha x c e hl
 | (nm,k)::r,h,acc,ha,hlo,x,c,e,hl=>by
  unfold cellsFrom at e
  unfold pushCells
  split at e
  ·rename_i hk
   rw[if_pos hk]
   have hs:=Zad h {cls:= .type "cell",data:= .cell none}
   refine Qj6 lo r (h.push {cls:= .type "cell",data:= .cell none}) ((nm,h.objs.size)::acc) (λx c e hl=>?_) (by rw[hs];omega) x c (by rw[hs];exact e) hl
   rw[Zw]at e
   cases q:x == nm with
   | true=>rw[q]at e;cases e;exact⟨_,Zo _ rfl,rfl⟩
   | false=>rw[q]at e;exact(ha x c e hl).keeps λb o e=>Zb _ e
  ·rename_i hk
   rw[if_neg hk]
   exact Qj6 lo r h acc ha hlo x c e hl
theorem QoM
  (hQ:∀h':Heap,h'.Ns s.heap.objs.size (λ_=>none)->(∀b o,s.heap.get? b=some o->h'.get? b=some o)->((∀x c,cl.lookup x=some c->c<s.heap.objs.size)->∀x c,(cellsFrom (s.heap.objs.size+1) scope.names cl).lookup x=some c->s.heap.objs.size+1<=c->h'.IsCell c none)→
   Q (newEnv scope s.heap.objs.size globals (cellsFrom (s.heap.objs.size+1) scope.names cl) qual none .none (some env) builtins) {s with heap:=h'}):
  wpAny M A (newFunctionEnv scope globals cl [] qual none .none (some env) builtins) Q E s:=by
 simp only[newFunctionEnv,Option.isSome_some,if_true]
 refine wpAny_bind (wpAny_alloc ?_)
 refine wpAny_bind (wpAny_layCells _ (λname kind cells=>by cases hkc:kind == NameKind.cell<;>simp[hkc]) _ _ _ _ ?_)
 have hs:=Zad s.heap {cls:= .type "dict",data:= .dict #[]}
 rw[show({s with heap:=s.heap.push {cls:= .type "dict",data:= .dict #[]}}:Shared).heap.objs.size=s.heap.objs.size+1 from hs]
 refine wpAny_bind (wpAny_pure (wpAny_pure ?_))
 refine hQ _ ((Heap.Ns.new s.heap (.type "dict")).keeps (pushCells_keeps _ _)) (λb o e=>pushCells_keeps _ _ b o (Zb _ e)) λhb x c e hl=>?_
 refine Qj6 (s.heap.objs.size+1) scope.names (s.heap.push {cls:= .type "dict",data:= .dict #[]}) cl (λx c e hl=>?_) (by rw[hs];exact Zh _) x c (by rw[hs];exact e) hl
 exact absurd (ZA (hb x c e) (Zx (ZbG _) hl)) (ZX _)
section
variable {X:Cx}{tg iter elt:Expr}{ifs:List Expr}{scope:Scope}{N':List Str}{pos:Pos}
structure Qd3 (X:Cx) (N':List Str) (scope:Scope):Prop where
 kind:scope.kind= .function
 own:∀y∈scope.names,y.2= .cell->scope.names.lookup y.1=some .cell
 loc:∀y∈scope.names,y.2= .local ->scope.names.lookup y.1=some .local
 free:∀y∈scope.names,y.2= .free->X.env.kindOf y.1=some .cell∨X.env.kindOf y.1=some .free
theorem Qtl{pins:List (Addr×Obj)}{σ σc:St}{H3:Hp}{s3:Shared}{fp:List Addr}{cl:List (Str×Addr)}{h':Heap}{tk:Nat}(S:Qd3 X N' scope)(I:Inv X pins σ H3 s3)
  (hf:∀b∈fp,Qdu X pins H3 b) (hfl:∀b∈fp,b<s3.heap.objs.size) (hc1:∀x c,cl.lookup x=some c->X.env.cells.lookup x=some c) (hc2:∀y∈scope.names,y.2= .free->∃c,cl.lookup y.1=some c) (cap:Qjl X N' scope σ σc)
  (hns:h'.Ns s3.heap.objs.size (λ_=>none)) (hk:∀b o,s3.heap.get? b=some o->h'.get? b=some o)
  (hown:(∀x c,cl.lookup x=some c->c<s3.heap.objs.size)->∀x c,(cellsFrom (s3.heap.objs.size+1) scope.names cl).lookup x=some c->s3.heap.objs.size+1<=c->h'.IsCell c none):
  Inv (cxc X N' scope (cellsFrom (s3.heap.objs.size+1) scope.names cl) s3.heap.objs.size fp s3 H3) [] σc H3 {s3 with heap:=h',toks:=tk}:=by
 have nold:∀b,b∈fp->b≠s3.heap.objs.size:=λb hb e=>absurd (hfl b hb) (by rw[e];exact ZX _)
 have cellOld:∀x c,cl.lookup x=some c->∃v,s3.heap.IsCell c v:=λx c e=>I.cell x c (hc1 x c e)
 have cellLt:∀x c,cl.lookup x=some c->c<s3.heap.objs.size:=λx c e=>let ⟨v,q⟩:=cellOld x c e;q.lt
 have cellNew:∀c v,s3.heap.IsCell c v->h'.IsCell c v:=λc v ⟨o,ho,hd⟩=>⟨o,hk c o ho,hd⟩
 have hown:=hown cellLt
 have look:∀x c,(cellsFrom (s3.heap.objs.size+1) scope.names cl).lookup x=some c->cl.lookup x=some c∨(s3.heap.objs.size+1<=c/\(x,NameKind.cell)∈scope.names):=Qfn scope.names _ cl
 refine⟨⟨I.ok.mod,S.kind,I.ok.glob,I.ok.blt,Zh _,Qlm scope.names _ cl (λx y c h1 h2=>I.ok.inj x y c (hc1 x c h1) (hc1 y c h2)) (λx c e=>Zaw (cellLt x c e)),λx hx=>?_,λx c e1 e2=>?_,I.ok.hd,I.ok.frames,.inl rfl,λb hb=>⟨nold b hb,λx c e=>?_⟩,
  I.bs,Zx I.ok.bsz I.sz,λb o e hb=>?_,λb hb hs=>?_,I.stack,I.Qox⟩,rfl,I.bare,Un.kept hk,⟨_,hns,λj x v h1 h2 h3=>?_⟩,λx c e=>?_,I.hok.fresh (Zh _),λx c e=>?_,λp hp=>absurd (show p∈([]:List (Addr×Obj))from hp) (by simp),I.hok.kept hk,cap.1⟩
 ·obtain⟨k,hm,hk'⟩:=QdX hx
  rcases hk' with rfl | rfl
  ·exact Qfs scope.names _ cl x (hc2 _ hm rfl)
  ·exact Qm0 scope.names _ cl x hm
 ·have e1:decide (scope.names.lookup x=some .cell)=true:=e1
  have:=Qmw scope.names _ cl x c (Zai (of_decide_eq_true e1)) e2
  exact Zx (ZbG _) this
 ·rcases look x c e with e | ⟨e,_⟩
  ·exact(hf b hb).2.2.2.2.1 x c (hc1 x c e)
  ·intro z
   rw[z]at e
   exact absurd (ZA (hfl b hb) (Zx (ZbG _) e)) (ZX _)
 ·rcases(hf b hb).2.2.2.1 with z | z
  ·exact I.ok.noex b o e z
  ·exact absurd (ZA (Zr e) (Zx I.ok.bsz z)) (ZX _)
 ·rcases Zq.mp (I.Qi3 b hs)with e | z
  ·exact(hf b hb).2.1 e
  ·exact(hf b hb).2.2.1 z
 ·obtain⟨hl,i,e1,e2,e3⟩:=cap.2 j x v h1 h2
  obtain⟨m,hn,look'⟩:=I.loc
  obtain⟨u,r,l⟩:=look' i x v e1 e2 (e3.elim (λz=> .inr (.inl z)) λz=> .inr (.inr z))
  refine⟨u,r,.inr ⟨Qcm hl,?_⟩⟩
  rcases l with⟨k,_⟩ | ⟨_,c,ec,hcell⟩
  ·rcases e3 with z | z<;>(rw[k]at z;cases z)
  ·obtain⟨c',ec'⟩:=Qfs scope.names (s3.heap.objs.size+1) cl x (hc2 (x,.free) (Zai hl) rfl)
   rcases look x c' ec' with q | ⟨_,q⟩
   ·have:=hc1 x c' q
    rw[ec]at this;cases this
    exact⟨c,ec',cellNew c _ hcell⟩
   ·have:=S.own _ q rfl
    rw[hl]at this
    cases this
 ·rcases look x c e with q | ⟨q,_⟩
  ·obtain⟨v,q⟩:=cellOld x c q
   exact⟨v,cellNew c v q⟩
  ·exact⟨none,hown x c e q⟩
 ·rcases look x c e with q | ⟨q,_⟩
  ·exact I.freeC x c (hc1 x c q)
  ·exact I.hok.fresh (by omega)
theorem Qre(J:Nat->Shared->Prop)
  (turn:∀n s,J n s->wpAny (model prog w) A (pyNext it) (λr s1=>match r with
   | none=>R (.ok .next) s1
   | some v=>wpAny (model prog w) A (letOwnedTupleGo tg it v) (λ_ s2=>wpAny (model prog w) A (assign tg env v) (λ_ s3=>
     wpAny (model prog w) A (forIn ifs true λc r=>if r=true then do let ok ← isTrue c env (eval c env);pure (ForInStep.yield ok)else pure (ForInStep.yield r)) (λok s4=>
      if ok=true then wpAny (model prog w) A (eval elt env) (λx s5=>wpAny (model prog w) A (call (.builtin "list.append") [acc,x]) (λ_ s6=>∃m,m<n/\J m s6) (λ_ _=>False) s5) (λ_ _=>False) s4
      else ∃m,m<n/\J m s4) (λ_ _=>False) s3) (λ_ _=>False) s2) (λ_ _=>False) s1) (λ_ _=>False) s)
  (n:Nat) (h:J n s0):codeAny (model prog w) A (.compLoop (.ListComp elt [⟨tg,iter,ifs,0⟩] scope pos) 0 it acc env) R s0:=by
 have up:∀{α:Type}{t:Sem α}{Q:α->Shared->Prop}{E:Value->Shared->Prop}{s:Shared},wpAny (model prog w) A t Q (λ_ _=>False) s->wpAny (model prog w) A t Q E s:=λh=>wpAny_mono h (λ_ _ q=>q) λ_ _ f=>f.elim
 refine codeAny_loop (by rfl) J (λk sk hk=>?_) n h
 show wpAny (model prog w) A ((compTurn (.ListComp elt [⟨tg,iter,ifs,0⟩] scope pos) 0 it acc env).onRaise (λx=>do noteFrame x env;theTreesLotGoes x)) _ _ sk
 refine wpAny_noted (up ?_)
 rw[compTurn_list]
 refine wpAny_bind (wpAny_standAt (wpAny_bind (thn (turn k sk hk) λr s1 h1=>?_)))
 cases r with
 | none=>exact wpAny_pure h1
 | some v=>
  refine wpAny_bind (thn h1 λ_ s2 h2=>wpAny_bind (thn h2 λ_ s3 h3=>wpAny_bind (thn h3 λok s4 h4=>?_)))
  cases ok with
  | false=>exact wpAny_pure ⟨rfl,h4⟩
  | true=>exact wpAny_bind (wpAny_bind (thn h4 λx s5 h5=>wpAny_bind (thn h5 λ_ s6 h6=>wpAny_pure (wpAny_pure ⟨rfl,h6⟩))))
theorem Qr7{it D C:Addr}{fp:List Addr}{tn:Nat->Heap->Prop}{J:It}{cl:List (Str×Addr)}{s3 s4:Shared}{H3:Hp}{σc:St}{g:TG}{tc:TT}{te:TE}{Q:Hp->Prop}(hcalm:X.calm=true)
  (T:Turn X.prog X.w X.K tg J fp it tn)
  (hg:PG (cxc X N' scope cl C fp s3 H3) tg g) (ht:PTs (cxc X N' scope cl C fp s3 H3) ifs tc) (he:PE (cxc X N' scope cl C fp s3 H3) elt te)
  (I:Inv (cxc X N' scope cl C fp s3 H3) [] σc H3 s4) (st:tn 0 s4.heap) (ff:∀b∈fp,Qdu (cxc X N' scope cl C fp s3 H3) [] H3 b)
  (W:Nat->Nat->List V->Hp->Prop) (hw:∃m,W 0 m [] H3)
  (turn:∀i m acc H2,W i m acc H2->(J.stop i H2/\Q H2)∨
   (J.go i H2/\∀x H5,J.yld i H2 x H5->g x σc H5 λσ2 H6=>(∀(j:Nat) v,σc[j]? =some (some v)->σ2[j]? =some (some v))/\tc σ2 H6 λb H7=>if b=true then
    te σ2 H7 λy H8=>H8 D=some (.lst acc)/\acc.length<sizeLine/\∃m',m'<m/\W (i+1) m' (acc++[y]) (upd H8 D (.lst (acc++[y])))
    else ∃m',m'<m/\W (i+1) m' acc H7))
  {R:Result->Shared->Prop}(hR:∀H' s',Inv (cxc X N' scope cl C fp s3 H3) [] σc H' s'->Q H'->R (.ok .next) s'):
  codeAny (model X.prog X.w) X.A (.compStart (.ListComp elt [⟨tg,iter,ifs,0⟩] scope pos) 0 (.ref it) (.ref D) (compEnvC scope cl C X.env)) R s4:=by
 obtain⟨m0,w0⟩:=hw
 have stat:∀{H':Hp},(∀b∈fp,H' b=none)->∀b∈fp,Qdu (cxc X N' scope cl C fp s3 H3) [] H' b:=λhn b hb=>⟨hn b hb,(ff b hb).2⟩
 have loop:codeAny (model X.prog X.w) X.A (.compLoop (.ListComp elt [⟨tg,iter,ifs,0⟩] scope pos) 0 (.ref it) (.ref D) (compEnvC scope cl C X.env)) R s4:=by
  refine Qre (λn s'=>∃i acc H',Inv (cxc X N' scope cl C fp s3 H3) [] σc H' s'/\tn i s'.heap/\(∀b∈fp,H' b=none)/\W i n acc H') ?_ m0 ⟨0,[],H3,I,st,λb hb=>(ff b hb).1,w0⟩
  rintro n s5 ⟨i,acc,H5,I5,st5,fr5,w5⟩
  rcases turn i n acc H5 w5 with⟨stop,q⟩ | ⟨go,step⟩
  ·refine thn (T.done (cxc X N' scope cl C fp s3 H3) rfl rfl rfl hcalm i [] s5 σc H5 _ I5 (stat fr5) st5 stop) λr s6 hpt=>?_
   obtain⟨hr,I6⟩:=hpt
   subst hr
   exact hR H5 s6 I6 q
  ·refine thn (T.item (cxc X N' scope cl C fp s3 H3) rfl rfl rfl hcalm i [] s5 σc H5 _ I5 (stat fr5) st5 go) λr s6 hpt=>?_
   obtain⟨u,hr,h6⟩:=hpt
   subst hr
   refine thn h6 λ_ s7 hpt=>?_
   obtain⟨x,H7,I7,r7,y7,st7,fr7⟩:=hpt
   have I7':=I7.pinned (stat fr7) (T.obj _ _ st7)
   refine thn (hg _ s7 σc H7 x u _ I7' r7 (step x H7 y7)) λ_ s8=>exJ λσ8 H8 I8 k8 q8=>?_
   refine thn (ht _ s8 σ8 H8 _ I8 q8) λok s9 hpt=>?_
   obtain⟨H9,I9,q9⟩:=hpt
   have again:∀{H':Hp}{s':Shared}{acc':List V},Inv (cxc X N' scope cl C fp s3 H3) ([]++Qgr fp s7.heap) σ8 H' s'->(∃m',m'<n/\W (i+1) m' acc' H')→
     ∃m,m<n/\∃i acc H',Inv (cxc X N' scope cl C fp s3 H3) [] σc H' s'/\tn i s'.heap/\(∀b∈fp,H' b=none)/\W i m acc H':=λ{H' s' acc'} I' ⟨m',hm,w'⟩=>by
    have pin:∀b∈fp,∀o,s7.heap.get? b=some o->s'.heap.get? b=some o/\H' b=none:=λb hb o e=>by
     have z:=I'.pin (b,o) (Ze _ (Ze _ (QfR hb e)))
     exact⟨z.1,z.2.1⟩
    refine⟨m',hm,i+1,acc',H',?_,T.keep _ _ _ st7 λb hb o e=>(pin b hb o e).1,λb hb=>?_,w'⟩
    ·exact I'.QfI.weak (I.len.trans I8.len.symm) k8
    ·obtain⟨o,e,_⟩:=T.obj _ _ st7 b hb
     exact(pin b hb o e).2
   cases ok with
   | false=>
    rw[if_neg Zag]at q9 ⊢
    exact again I9 q9
   | true=>
    rw[if_pos rfl]at q9 ⊢
    refine thn (he _ s9 σ8 H9 _ I9 q9) λyv s10 hpt=>?_
    obtain⟨y,H10,I10,r10,e10,l10,q10⟩:=hpt
    refine thn (QgD _ s10 σ8 H10 (.ref D) [y] (.ref D) [yv] (λv H11=>H11=upd H10 D (.lst (acc++[y]))) I10 rfl (.cons r10 .nil) ⟨D,acc,y,rfl,rfl,e10,l10,rfl⟩) λ_ s11 hpt=>?_
    obtain⟨_,H11,I11,_,e11⟩:=hpt
    subst e11
    exact again I11 q10
 exact codeAny_compStart_list loop (T.self _ 0 _ _ _ st loop)
theorem Qmz{wi:TI}{g:TG}{tc:TT}{te:TE}{cp:Pos}{use:Option (Value->Sem Unit)}{pins:List (Addr×Obj)}{s:Shared}{σ:St}{H:Hp}{QV:Value->Shared->Prop}{Q:VK}(hcalm:X.calm=true)(S:Qd3 X N' scope)(hi:PI X tg iter wi)
  (hin:∀cl C fp s3 H3,PG (cxc X N' scope cl C fp s3 H3) tg g/\PTs (cxc X N' scope cl C fp s3 H3) ifs tc/\PE (cxc X N' scope cl C fp s3 H3) elt te)
  (hs:∀x,foldedSetIterable iter X.env x=pure x) (I:Inv X pins σ H s) (h:Qlg wi (Qjl X N' scope) g tc te σ H Q)
  (fin:∀(D C:Addr) (H':Hp) (s':Shared),Inv X pins σ H' s'->H' C=none->C≠X.env.locals->X.s₀.heap.objs.size<=C->(∀x c,X.env.cells.lookup x=some c->c≠C)->(∀p∈X.pn++pins,p.1≠C)->(∃m,s'.heap.Ns C m)->Q (.ref D) H'→
   compPost (model X.prog X.w) X.A X.xe use QV (.ref D) C (.ok .next) s'):
  wpAny (model X.prog X.w) X.A (comprehension (.ListComp elt [⟨tg,iter,ifs,0⟩] scope pos) scope X.env cp (newList []) false (eval iter X.env) use) QV X.xe s:=by
 obtain⟨cl,hcl,hc1,hc2⟩:=QuH λy hy hf=>I.ok.has y.1 (S.free y hy hf)
 refine wpAny_comprehension_free rfl hs hcl S.kind S.loc ?_
 refine thn (hi pins s σ H _ I h) λv s1 h1=>thn h1 λitv s2 h2=>?_
 obtain⟨it,fp,tn,J,H2,e,I2,T,st2,f2,σc,cap,hw⟩:=h2
 subst e
 have hD0:H2 s2.heap.objs.size=none:=I2.hok.fresh (Zh _)
 obtain⟨W,hW0,turn⟩:=hw _ hD0
 have fpl:∀b∈fp,b<s2.heap.objs.size:=λb hb=>let ⟨o,e,_⟩:=T.obj _ _ st2 b hb;Zr e
 have hlist:∀D:Addr,D=s2.heap.objs.size->∃x,x=D:=λD _=>⟨D,rfl⟩
 refine wpAny_newObj_type ?_
 have I3:Inv X pins σ (upd H2 s2.heap.objs.size (.lst [])) {s2 with heap:=s2.heap.push {cls:= .type "list",dict:=none,data:= .seq ([]:List Value).toArray}}:=
  I2.laid (t':=s2.toks) (λb o e=>Zb _ e) (Zh _) ⟨Zac _,[],0,.nil,Zo _ rfl⟩
 generalize hs3:({s2 with heap:=s2.heap.push {cls:= .type "list",dict:=none,data:= .seq ([]:List Value).toArray}}:Shared)=s3 at I3
 have hs3':s3.heap=s2.heap.push {cls:= .type "list",dict:=none,data:= .seq ([]:List Value).toArray}:=by rw[← hs3]
 have sz3:s3.heap.objs.size=s2.heap.objs.size+1:=by rw[hs3',Zad]
 have old3:∀b o,s2.heap.get? b=some o->s3.heap.get? b=some o:=λb o e=>by rw[hs3'];exact Zb _ e
 have f3:∀b∈fp,Qdu X pins (upd H2 s2.heap.objs.size (.lst [])) b:=λb hb=>⟨by rw[QD (ZK (fpl b hb))];exact(f2 b hb).1,(f2 b hb).2⟩
 have fpl3:∀b∈fp,b<s3.heap.objs.size:=λb hb=>by rw[sz3];exact Zaw (fpl b hb)
 refine QoM (λh4 hns4' keep4 hown4=>?_)
 have I4:=Qtl (tk:=s3.toks) S I3 f3 fpl3 hc1 hc2 cap hns4' keep4 hown4
 have hout:∀H' s',Inv (cxc X N' scope (cellsFrom (s3.heap.objs.size+1) scope.names cl) s3.heap.objs.size fp s3 (upd H2 s2.heap.objs.size (.lst []))) [] σc H' s'->Inv X pins σ H' s':=λH' s' J'=>
  I3.Qyd J'.os J'.base J'.hok J'.bare λb hb=>⟨(f3 b hb).2.2.2.1,(f3 b hb).2.1,(f3 b hb).2.2.2.2.1,(f3 b hb).2.2.2.2.2⟩
 obtain⟨hg,ht,he⟩:=hin (cellsFrom (s3.heap.objs.size+1) scope.names cl) s3.heap.objs.size fp s3 (upd H2 s2.heap.objs.size (.lst []))
 have fc:∀b∈fp,Qdu (cxc X N' scope (cellsFrom (s3.heap.objs.size+1) scope.names cl) s3.heap.objs.size fp s3 (upd H2 s2.heap.objs.size (.lst []))) [] (upd H2 s2.heap.objs.size (.lst [])) b:=λb hb=>
  ⟨(f3 b hb).1,ZK (fpl3 b hb),λhs'=>(Zq.mp (I3.Qi3 b hs')).elim (f3 b hb).2.1 (f3 b hb).2.2.1,.inl hb,λx c e=>(by
   rcases Qfn scope.names _ cl x c e with e | ⟨e,_⟩
   ·exact(f3 b hb).2.2.2.2.1 x c (hc1 x c e)
   ·intro z
    rw[z]at e
    exact absurd (ZA (fpl3 b hb) (Zx (ZbG _) e)) (ZX _)),λp hp=>absurd (show p∈([]:List (Addr×Obj))from hp) (by simp)⟩
 have hC1:s3.heap.objs.size≠X.env.locals:=Ne.symm (ZK I3.lt)
 refine Qr7 (W:=W) hcalm T hg ht he I4 (T.keep _ _ _ st2 λb hb o e=>keep4 b o (old3 b o e)) fc hW0 turn λH' s' J' q=>?_
 have O:=hout H' s' J'
 refine fin _ _ H' s' O J'.free hC1 (Zx I3.sz (Zh _)) (λx c e z=>?_) (λp hp z=>?_) (let ⟨m,hn,_⟩:=J'.loc;⟨m,hn⟩) q
 ·obtain⟨v,o,ho,_⟩:=I3.cell x c e
  exact absurd (Zr ho) (by rw[z];exact ZX _)
 ·exact absurd (Zr (I3.pin p hp).1) (by rw[z];exact ZX _)
theorem Inv.QtJ(I:Inv X pins σ H s)(hs:Heap.SameBut C s.heap h')(hn:H C=none)(hL:C≠X.env.locals)(h1:X.s₀.heap.objs.size<=C)
  (h2:∀x c,X.env.cells.lookup x=some c->c≠C) (h3:∀p∈X.pn++pins,p.1≠C):Inv X pins σ H {s with heap:=h'}:=
 I.turned (t':=s.toks) (λb o hb e=>(hs.2 b hb).trans e) hn hL (.inr h1) h2 h3
theorem Qog(hcalm:X.calm=true)(S:Qd3 X N' scope)(hi:PI X tg iter wi)
  (hin:∀cl C fp s3 H3,PG (cxc X N' scope cl C fp s3 H3) tg g/\PTs (cxc X N' scope cl C fp s3 H3) ifs tc/\PE (cxc X N' scope cl C fp s3 H3) elt te)
  (hs:∀x,foldedSetIterable iter X.env x=pure x:=by intro _;rfl):PE X (.ListComp elt [⟨tg,iter,ifs,0⟩] scope pos) (Qlg wi (Qjl X N' scope) g tc te):=by
 intro pins s σ H Q I h
 rw[eval_ListComp]
 refine Qmz hcalm S hi hin hs I h λD C H' s' O h1 h2 h3 h4 h5 hpt q=>?_
 obtain⟨m,hm⟩:=hpt
 exact⟨m,hm,λh' hs'=>⟨.ref D,H',O.QtJ hs' h1 h2 h3 h4 h5,rfl,q⟩⟩
theorem QuP(hN:X.N.Nodup)(hx1:X.N[i]? =some x)(hx:Loc X.env.scope x)(hf:X.fn x=true∨X.env.scope.names.lookup x=some .local)(hcalm:X.calm=true)(S:Qd3 X N' scope)(hi:PI X tg iter wi)
  (hin:∀cl C fp s3 H3,PG (cxc X N' scope cl C fp s3 H3) tg g/\PTs (cxc X N' scope cl C fp s3 H3) ifs tc/\PE (cxc X N' scope cl C fp s3 H3) elt te)
  (hs:∀x,foldedSetIterable iter X.env x=pure x:=by intro _;rfl):
  PS X (.Assign [.Name x pos'] (.ListComp elt [⟨tg,iter,ifs,0⟩] scope pos) spos) (Qm2 (Qlg wi (Qjl X N' scope) g tc te) (Qg8 i)):=by
 have hb:∃b,swapsWith (.ListComp elt [⟨tg,iter,ifs,0⟩] scope pos) (some (.Name x pos')) spos.line X.env=pure b:=⟨_,rfl⟩
 obtain⟨b,hb⟩:=hb
 cases b with
 | false=>exact QmS hN hx1 hx (Qog hcalm S hi hin hs) hb hf
 | true=>
  intro pins s σ H D I h
  rw[exec_Assign_Name_used _ _ _ _ hb]
  refine wpAny_bind (wpAny_standAt (wpAny_bind ?_))
  show wpAny _ X.A (do let _ ← comprehension (.ListComp elt [⟨tg,iter,ifs,0⟩] scope pos) scope X.env _ (newList []) false (eval iter X.env) (some (assign (.Name x pos') X.env))) _ _ s
  refine wpAny_bind (thn (Qmz hcalm S hi hin hs I h λDl C H' s' O h1 h2 h3 h4 h5 ⟨m,hm⟩ q=>?_) λ_ s' hq=>wpAny_pure (wpAny_pure hq))
  refine wpAny_assign_Name (Qkz O hN hx1 hx (v:= .ref Dl) rfl (λs2 I2 hsb=>?_) hf)
  obtain⟨a,sb,ha⟩:=hsb
  have haC:C≠a:=by
   rcases ha with rfl | ha
   ·exact h2
   ·exact Ne.symm (h4 _ _ ha)
  exact⟨m,hm.sameBut sb haC,λh' hs'=>⟨_,H',I2.QtJ hs' h1 h2 h3 h4 h5,q⟩⟩
end
end L2
namespace L2
open PySem PySem.Spec PyProof.Rows
section
theorem Inv.QoV{t':Nat}{ch:List Addr}{T:Addr}{ts:List V}(I:Inv X pins σ H s)(hf:∀b∈ch,Qdu X pins H b)(k:∀b o,b∉ch->s.heap.get? b=some o->h'.get? b=some o)(hp:∀b∈ch,∃o,h'.get? b=some o)
  (hT:s.heap.objs.size<=T) (hnew:ts.length<=sizeLine/\∃its:List Value,Qw ts its/\IsTup h' T its.toArray):Inv X pins σ (upd H T (.tup ts)) {s with heap:=h',toks:=t'}:=by
 have hn:H T=none:=I.hok.fresh hT
 have neT:∀b u,H b=some u->b≠T:=λb u e=>Qbs e hn
 have nch:∀b u,H b=some u->b∉ch:=λb u e hb=>by rw[(hf b hb).1]at e;cases e
 have ltT:∀b o,s.heap.get? b=some o->b≠T:=λb o e=>ZK (ZA (Zr e) hT)
 refine I.step (g':=s.gens) (d':=s.drawn) (ch:=ch) (λb hb=>?_) (λb o _ _ hc e _=>k b o hc e) (λb o _ _ hc e _=>⟨o.slots,k b o hc e⟩) (λb o _ e n=>by rw[QD (ltT b o e)];exact n)
  (λb o hc e=>⟨o,k b o hc e⟩) (λb xs e=>by rw[QD (neT b _ e)];exact e) (λb o u e=>by rw[QD (neT b _ e)];exact e) (λb ps e=>⟨#[],by rw[QD (neT b _ e),e];simp⟩) (λm hm=>?_) (λb u e=>?_) I.bare
 ·obtain⟨f0,f1,f2,f3,f4,f5⟩:=hf b hb
  exact⟨f3,f1,f4,f5⟩
 ·obtain⟨o,es,ep,ho,r⟩:=hm
  exact⟨o,es,ep,k _ o (λz=>(hf _ z).2.1 rfl) ho,r⟩
 ·by_cases hb:b=T
  ·subst hb
   rw[Q9]at e
   cases e
   exact hnew
  ·rw[QD hb]at e
   refine(I.hok b u e).QgL (λc v hc q=>k c v ?_ q) (λc q=>by rw[QD (neT c _ q)];exact q) λc xs q=>by rw[QD (neT c _ q)];exact q
   rcases hc with z | z
   ·rw[z];exact nch b u e
   ·exact nch c _ z
theorem Inv.turns{t':Nat}{ch:List Addr}(I:Inv X pins σ H s)(hf:∀b∈ch,Qdu X pins H b)(k:∀b o,b∉ch->s.heap.get? b=some o->h'.get? b=some o):Inv X pins σ H {s with heap:=h',toks:=t'}:=by
 have nch:∀b u,H b=some u->b∉ch:=λb u e hb=>by rw[(hf b hb).1]at e;cases e
 refine I.step (g':=s.gens) (d':=s.drawn) (ch:=ch) (λb hb=>?_) (λb o _ _ hc e _=>k b o hc e) (λb o _ _ hc e _=>⟨o.slots,k b o hc e⟩) (λb o _ e n=>n)
  (λb o hc e=>⟨o,k b o hc e⟩) (λb xs e=>e) (λb o u e=>e) (λb ps e=>⟨#[],by rw[e];simp⟩) (λm hm=>?_) (λb u e=>?_) I.bare
 ·obtain⟨f0,f1,f2,f3,f4,f5⟩:=hf b hb
  exact⟨f3,f1,f4,f5⟩
 ·obtain⟨o,es,ep,ho,r⟩:=hm
  exact⟨o,es,ep,k _ o (λz=>(hf _ z).2.1 rfl) ho,r⟩
 ·refine(I.hok b u e).QgL (λc v hc q=>k c v ?_ q) (λc q=>q) λc xs q=>q
  rcases hc with z | z
  ·rw[z];exact nch b u e
  ·exact nch c _ z
end
noncomputable def Ite(K:PySem.W.Frag)(a:Addr):It:=
 ⟨λi H=>∃xs x,SqL K H a xs/\xs[i]? =some x,λi H v H'=>∃p x,v= .ref p/\H p=none/\H'=upd H p (.tup [.int i,x])/\∀xs,SqL K H a xs->xs[i]? =some x,λi H=>∃xs,SqL K H a xs/\xs.length<=i⟩
theorem mm0{a:Addr}{l:List Addr}:a∈a::l:= .head _
theorem mm1{a b:Addr}{l:List Addr}:a∈b::a::l:= .tail _ mm0
theorem mm2{a b c:Addr}{l:List Addr}:a∈b::c::a::l:= .tail _ mm1
theorem mm3{a b c d:Addr}{l:List Addr}:a∈b::c::d::a::l:= .tail _ mm2
theorem mm4{a b c d e:Addr}{l:List Addr}:a∈b::c::d::e::a::l:= .tail _ mm3
theorem nmm{a b:Addr}{l:List Addr}(hb:b∉l)(ha:a∈l):b≠a:=λe=>hb (e▸ha)
theorem fa1{p:Addr->Prop}{a:Addr}{l:List Addr}(h:p a)(t:∀x∈l,p x):∀x∈a::l,p x:=List.forall_mem_cons.2 ⟨h,t⟩
def NL(h:Heap)(b:Addr):Prop:=∃o,h.get? b=some o/\o.cls≠ .type "list" /\∀v,o.data≠ .cell v
theorem NL.it{h:Heap}(q:h.IsListIter b l k):NL h b:=by
 obtain⟨o,ho,hc,hd⟩:=q
 exact⟨o,ho,by rw[hc];simp,λv z=>by rw[hd]at z;cases z⟩
theorem NL.zip(hz:IsZip h z T1 T2 x):NL h z:=⟨_,hz,by simp,λv z=>by cases z⟩
theorem NL.tup{h:Heap}(q:h.get? b=some {cls:= .type "tuple",data:= .seq a}):NL h b:=⟨_,q,by simp,λv z=>by cases z⟩
theorem NL.obj(n:NL h b):∃o,h.get? b=some o/\∀v,o.data≠ .cell v:=let ⟨o,e,_,v⟩:=n;⟨o,e,v⟩
theorem NL.ex(n:NL h b):∃o,h.get? b=some o:=let ⟨o,e,_⟩:=n;⟨o,e⟩
theorem NL.lt(n:NL h b):b<h.objs.size:=let ⟨_,e⟩:=n.ex;Zr e
theorem NL.apart{X:Cx}{H:Hp}{s:Shared}(n:NL s.heap b)(I:Inv X pins σ H s)(hn:H b=none)(hq:SqL X.K H l ys):l≠b:=λe=>by
 subst e
 rcases hq with(hq | ⟨_,hq⟩) | ⟨o',its,k,hk,hc',_⟩
 ·rw[hn]at hq;cases hq
 ·rw[hn]at hq;cases hq
 ·obtain⟨o,ho,hc,_⟩:=n
  rw[I.kIn l o' hk]at ho
  exact hc (Option.some.inj ho▸hc')
theorem Qq3{P:Program}{w:World}{K:PySem.W.Frag}{es:List Expr}{tk:Nat}{tpos:Pos}(a e it:Addr)(hne:e≠it):Turn P w K (.Tuple es tk tpos) (Ite K a) [e,it] e (λi h=>∃old,IsEnum h e it (i:Int) old/\h.IsListIter it a i) where
 mem:=mm0
 obj:=λi h st b hb=>by
  obtain⟨old,he,hi⟩:=st
  exact(fa1 (p:=NL h) ⟨_,he,by simp,λv z=>by cases z⟩ (fa1 (.it hi) (List.forall_mem_nil _)) b hb).obj
 keep:=λi h h' st k=>by
  obtain⟨old,he,hi⟩:=st
  exact⟨old,k e mm0 _ he,hi.at (k it mm1)⟩
 item:=by
  intro X hP hw hK hc i pins s σ H E I hf st hg
  subst hP hw hK
  obtain⟨old,he,hi⟩:=st
  obtain⟨xs,x,hq,hx⟩:=hg
  obtain⟨its,rv,p,hz⟩:=I.list hq
  obtain⟨u,hu,ru⟩:=rv.get hx
  refine wpAny_pyNext_enum_item he hi p.isList (x:=u) (by simpa using hu) hne λh1 heo hi1 ht1 hz1 hk1=>?_
  refine⟨.ref s.heap.objs.size,rfl,wpAny_letOwnedTupleGo_enum heo λh2 he2 hs2=>?_⟩
  replace hs2:Heap.SameBut e h1 h2:=hs2
  have helt:e<s.heap.objs.size:=Zr he
  have hilt:it<s.heap.objs.size:=by obtain⟨o,ho,_⟩:=hi;exact Zr ho
  have ht2:IsTup h2 s.heap.objs.size [Value.int i s.toks,u].toArray:=⟨_,(hs2.2 _ (ZaW helt)).trans ht1,rfl,_,rfl⟩
  have hi2:h2.IsListIter it a (i+1):=hi1.extBut hs2.extBut (Ne.symm hne)
  have kk:∀b o,b∉[e,it]->s.heap.get? b=some o->h2.get? b=some o:=λb o hb q=>by
   have h1:b≠e:=λz=>hb (by simp[z])
   have h2:b≠it:=λz=>hb (by simp[z])
   exact hs2.extBut b o h1 (hk1 b o h1 h2 q)
  refine⟨.ref s.heap.objs.size,upd H s.heap.objs.size (.tup [.int i,x]),I.QoV (t':=s.toks+1) hf kk (λb hb=>?_) (Zh _) ⟨by show 2<=sizeLine;decide,_,.cons ⟨_,rfl⟩ (.cons ru .nil),ht2⟩,rfl,
   ⟨_,x,rfl,I.hok.fresh (Zh _),rfl,λys hy=>by rw[I.Qda hy hq];exact hx⟩,⟨u,?_,hi2⟩,λb hb=>?_⟩
  ·have hb:b=e∨b=it:=by simpa using hb
   rcases hb with rfl | rfl
   ·exact⟨_,he2⟩
   ·obtain⟨o,ho,_⟩:=hi2;exact⟨o,ho⟩
  ·have:((i+1:Nat):Int)=(i:Int)+1:=by push_cast;rfl
   rw[this];exact he2
  ·have hb':b=e∨b=it:=by simpa using hb
   have:b≠s.heap.objs.size:=by
    rcases hb' with rfl | rfl
    ·exact ZK helt
    ·exact ZK hilt
   rw[QD this];exact(hf b hb).1
 done:=by
  intro X hP hw hK hc i pins s σ H E I hf st hg
  subst hP hw hK
  obtain⟨old,he,hi⟩:=st
  obtain⟨xs,hq,hx⟩:=hg
  obtain⟨its,rv,p,hz⟩:=I.list hq
  have hl:=rv.length
  refine wpAny_pyNext_enum_end (I.ok.hd hc) he hi p.isList (by simp;omega) λh1 eb=>⟨rfl,?_⟩
  exact I.turns (t':=s.toks) hf λb o hb q=>eb b o (λz=>hb (by simp[z])) q
 self:=λ_ _ _ _ _ st h=>by
  obtain⟨old,he,hi⟩:=st
  exact wpAny_pyIter_enum he h
section
noncomputable def QxY(K:PySem.W.Frag)(ta:TA):TI:=λσ H R=>ta σ H λvs H1=>∃a,vs=[.ref a]/\(∃xs,SqL K H1 a xs)/\R (Ite K a) H1
theorem Qum{a:Expr}{ta:TA}{p pos:Pos}{es:List Expr}{tk:Nat}{tpos:Pos}(hg:Gl X "enumerate")(hm:X.mg "enumerate" =none)(ha:PA X [a] ta)(hs:starEach [a] X.env=[(false,eval a X.env)]):
  PI X (.Tuple es tk tpos) (.Call (.Name "enumerate" p) [a] [] pos) (QxY X.K ta):=by
 intro pins s σ H R I h
 refine Call_ (QcF I hg hm PyProof.Rows.boot_enumerate (ZS (thn (ha pos pins s σ H _ I h) λus s1 ⟨vs,H1,I1,r1,q1⟩=>?_) hs rfl))
 obtain⟨l,e,⟨xs,hq⟩,q⟩:=q1
 subst e
 obtain⟨u,rfl,ru⟩:=vals1 r1
 cases ru
 obtain⟨its,rv,pl,hz⟩:=I1.list hq
 refine call_enumerate_list pl.isList λh2 he2 hi2 hz2 hk2=>?_
 have I2:Inv X pins σ H1 {s1 with heap:=h2}:=I1.kept (t':=s1.toks) hk2
 refine wpAny_pyIter_enum he2 ⟨_,[s1.heap.objs.size+1,s1.heap.objs.size],_,_,H1,rfl,I2,Qq3 l _ _ (Nat.succ_ne_self _),⟨_,he2,hi2⟩,λb hb=>?_,q⟩
 have hb:b=s1.heap.objs.size+1∨b=s1.heap.objs.size:=by simpa using hb
 have hle:s1.heap.objs.size<=b:=by rcases hb with rfl | rfl<;>omega
 exact I1.Qh2 hle (I1.hok.fresh hle)
end
noncomputable def Itz(K:PySem.W.Frag)(a b:Addr):It:=
 ⟨λi H=>∃xs ys x y,SqL K H a xs/\SqL K H b ys/\xs[i]? =some x/\ys[i]? =some y,λi H v H'=>∃p x y,v= .ref p/\H p=none/\H'=upd H p (.tup [x,y])/\(∀xs,SqL K H a xs->xs[i]? =some x)/\∀ys,SqL K H b ys->ys[i]? =some y,
  λi H=>∃xs ys,SqL K H a xs/\SqL K H b ys/\(xs.length<=i∨ys.length<=i)⟩
structure Qn9 (z TI TO i1 i2:Addr):Prop where
 a:TI≠z
 b:TO≠z
 c:i1≠z
 d:i2≠z
 e:TI≠TO
 f:TI≠i1
 g:TI≠i2
 h:TO≠i1
 i:TO≠i2
 j:i1≠i2
theorem QiD{h:Heap}(hz:IsZip h z T1 T2 x)(hA:IsPair h T1 a b)(hB:IsPair h T2 c d)(h1:h.IsListIter i1 l1 k)(h2:h.IsListIter i2 l2 k):∀b∈[z,T1,T2,i1,i2],NL h b:=
 fa1 (.zip hz) (fa1 (.tup hA) (fa1 (.tup hB) (fa1 (.it h1) (fa1 (.it h2) λ_ h=>nomatch h))))
theorem Qqa{X:Cx}{s:Shared}(D:Qn9 z T1 T2 i1 i2)(I:Inv X pins σ H s)(hf:∀b∈[z,T1,T2,i1,i2],Qdu X pins H b)(O:∀b∈[z,T1,T2,i1,i2],NL s.heap b)(hq1:SqL X.K H l1 xs)(hq2:SqL X.K H l2 ys):ZipApart z T1 T2 i1 i2 l1 l2:=by
 have A1:=λb hb=>(O b hb).apart I (hf b hb).1 hq1
 have A2:=λb hb=>(O b hb).apart I (hf b hb).1 hq2
 exact⟨D.a,D.b,D.c,D.d,D.e,D.f,D.g,D.h,D.i,D.j,A1 z mm0,A1 T2 mm2,A1 i1 mm3,A1 i2 mm4,A2 z mm0,A2 T2 mm2,A2 i1 mm3,A2 i2 mm4⟩
theorem Qsq{P:Program}{w:World}{K:PySem.W.Frag}{es:List Expr}{tk:Nat}{tpos:Pos}(l1 l2 z TI TO i1 i2:Addr)(D:Qn9 z TI TO i1 i2):
  Turn P w K (.Tuple es tk tpos) (Itz K l1 l2) [z,TI,TO,i1,i2] z (λi h=>IsZip h z TI TO .none/\IsPair h TI (.ref i1) (.ref i2)/\(∃a b,IsPair h TO a b)/\h.IsListIter i1 l1 i/\h.IsListIter i2 l2 i) where
 mem:=mm0
 obj:=λi h st b hb=>by
  obtain⟨hz,hTI,⟨p,q,hTO⟩,h1,h2⟩:=st
  exact(QiD hz hTI hTO h1 h2 b hb).obj
 keep:=λi h h' st k=>by
  obtain⟨hz,hTI,⟨p,q,hTO⟩,h1,h2⟩:=st
  exact⟨k z mm0 _ hz,k TI mm1 _ hTI,⟨p,q,k TO mm2 _ hTO⟩,h1.at (k i1 mm3),h2.at (k i2 mm4)⟩
 item:=by
  intro X hP hw hK hc i pins s σ H E I hf st hg
  subst hP hw hK
  obtain⟨hz,hTI,⟨a0,b0,hTO⟩,h1,h2⟩:=st
  obtain⟨xs,ys,x,y,hq1,hq2,hx,hy⟩:=hg
  obtain⟨its,rv,p,hzz⟩:=I.list hq1
  obtain⟨its2,rv2,p2,hzz2⟩:=I.list hq2
  obtain⟨u,hu,ru⟩:=rv.get hx
  obtain⟨u2,hu2,ru2⟩:=rv2.get hy
  have O:=QiD hz hTI hTO h1 h2
  refine wpAny_pyNext_zip_item (Qqa D I hf O hq1 hq2) hz hTI hTO h1 h2 p.isList p2.isList (x:=u) (y:=u2) (by simpa using hu) (by simpa using hu2) λh3 z3 TO3 a3 b3 T3 sz3 k3=>?_
  refine⟨.ref s.heap.objs.size,rfl,wpAny_letOwnedTupleGo_zip z3 λh4 z4 hs4=>?_⟩
  replace hs4:Heap.SameBut z h3 h4:=hs4
  have kk:∀b o,b∉[z,TI,TO,i1,i2]->s.heap.get? b=some o->h4.get? b=some o:=λb o hb q=>
   hs4.extBut b o (nmm hb mm0) (k3 b o (nmm hb mm0) (nmm hb mm2) (nmm hb mm3) (nmm hb mm4) q)
  have TI4:IsPair h4 TI (.ref i1) (.ref i2):=hs4.extBut _ _ D.a (k3 _ _ D.a D.e D.f D.g hTI)
  have TO4:IsPair h4 TO u u2:=hs4.extBut _ _ D.b TO3
  have a4:h4.IsListIter i1 l1 (i+1):=a3.extBut hs4.extBut D.c
  have b4:h4.IsListIter i2 l2 (i+1):=b3.extBut hs4.extBut D.d
  exact⟨.ref s.heap.objs.size,upd H s.heap.objs.size (.tup [x,y]),I.QoV (t':=s.toks) hf kk (λb hb=>(QiD z4 TI4 TO4 a4 b4 b hb).ex) (Zh _) ⟨by show 2<=sizeLine;decide,_,.cons ru (.cons ru2 .nil),_,(hs4.2 _ (ZaW (O z mm0).lt)).trans T3,rfl,_,rfl⟩,rfl,
   ⟨_,x,y,rfl,I.hok.fresh (Zh _),rfl,λzs hy'=>by rw[I.Qda hy' hq1];exact hx,λzs hy'=>by rw[I.Qda hy' hq2];exact hy⟩,⟨z4,TI4,⟨_,_,TO4⟩,a4,b4⟩,λb hb=>by rw[QD (ZK (O b hb).lt)];exact(hf b hb).1⟩
 done:=by
  intro X hP hw hK hc i pins s σ H E I hf st hg
  subst hP hw hK
  obtain⟨hz,hTI,⟨a0,b0,hTO⟩,h1,h2⟩:=st
  obtain⟨xs,ys,hq1,hq2,hx⟩:=hg
  obtain⟨its,rv,p,hzz⟩:=I.list hq1
  obtain⟨its2,rv2,p2,hzz2⟩:=I.list hq2
  have hl:=rv.length
  have hl2:=rv2.length
  refine wpAny_pyNext_zip_end (I.ok.hd hc) (Qqa D I hf (QiD hz hTI hTO h1 h2) hq1 hq2) hz hTI hTO h1 h2 p.isList p2.isList (by rcases hx with hx | hx;(left;simp;omega);(right;simp;omega)) λh3 k3=>⟨rfl,?_⟩
  exact I.turns (t':=s.toks) hf λb o hb q=>k3 b o (nmm hb mm0) (nmm hb mm2) (nmm hb mm3) (nmm hb mm4) q
 self:=λ_ _ _ _ _ st h=>wpAny_pyIter_zip st.1 h
section
noncomputable def Qzc(K:PySem.W.Frag)(ta:TA):TI:=λσ H R=>ta σ H λvs H1=>∃a b,vs=[.ref a,.ref b]/\(∃xs,SqL K H1 a xs)/\(∃ys,SqL K H1 b ys)/\R (Itz K a b) H1
theorem QwB{a b:Expr}{ta:TA}{p pos:Pos}{es:List Expr}{tk:Nat}{tpos:Pos}(hg:Gl X "zip")(hm:X.mg "zip" =none)(ha:PA X [a,b] ta)(hs:starEach [a,b] X.env=[(false,eval a X.env),(false,eval b X.env)])(hs2:starEach [b] X.env=[(false,eval b X.env)]):
  PI X (.Tuple es tk tpos) (.Call (.Name "zip" p) [a,b] [] pos) (Qzc X.K ta):=by
 intro pins s σ H R I h
 refine Call_ (QcF I hg hm PyProof.Rows.boot_zip (ZS (thn (ha pos pins s σ H _ I h) λus s1 ⟨vs,H1,I1,r1,q1⟩=>?_) (by rw[hs,hs2]) (by rw[hs2];rfl)))
 obtain⟨l,l2,e,⟨xs,hq⟩,⟨ys,hq2⟩,q⟩:=q1
 subst e
 obtain⟨u,u2,rfl,ru,ru2⟩:=vals2 r1
 cases ru
 cases ru2
 obtain⟨its,rv,pl,hz⟩:=I1.list hq
 obtain⟨its2,rv2,pl2,hz2⟩:=I1.list hq2
 refine call_zip_2 pl.isList pl2.isList λh2 hz hTI hTO h1 h2' hsz hk2=>?_
 have I2:Inv X pins σ H1 {s1 with heap:=h2}:=I1.kept (t':=s1.toks) hk2
 refine wpAny_pyIter_zip hz ⟨_,[s1.heap.objs.size+4,s1.heap.objs.size+2,s1.heap.objs.size+3,s1.heap.objs.size,s1.heap.objs.size+1],_,_,H1,rfl,I2,Qsq l l2 _ _ _ _ _ ⟨?_,?_,?_,?_,?_,?_,?_,?_,?_,?_⟩,⟨hz,hTI,⟨_,_,hTO⟩,h1,h2'⟩,λb hb=>?_,q⟩
 iterate 10 (exact(by intro e;first | (have e':(s1.heap.objs.size:Nat)+_=_:=e;omega) | (have e':(s1.heap.objs.size:Nat)=_:=e;omega)))
 have hle:s1.heap.objs.size<=b:=by
  simp only[Zq,List.not_mem_nil,or_false]at hb
  rcases hb with rfl | rfl | rfl | rfl | rfl<;>first | exact Zh _ | exact Zcb _ _
 exact I1.Qh2 hle (I1.hok.fresh hle)
end
end L2
namespace L2
open PySem PySem.Spec
theorem Qj3(a b c:Value):checkTypeCall "zip" ⟨[a,b,c],[]⟩=pure ():=by kernel_rfl
theorem Qk0(a b c:Value):checkBuiltinCall "zip.__new__" ⟨[.type "zip",a,b,c],[]⟩=pure ():=by kernel_rfl
theorem QgS(a b c d:Value):argsOk "object.__init__" ⟨[a,b,c,d],[]⟩:=by
 unfold argsOk;rw[signature?_of (n:=['_','_','t','i','n','i','_','_']) (by kernel_rfl) F.owner_object];kernel_rfl
abbrev Qac(h:Heap)(T:Addr)(a b c:Value):Prop:=h.get? T=some {cls:= .type "tuple",data:= .seq #[a,b,c]}
section
variable {prog:Program}{w:World}{A:Around}{E:Value->Shared->Prop}{s:Shared}
theorem QdC(hT:Qac s.heap T a b c)
  (h:∀h',h'.get? T=some {cls:= .type "tuple",data:= .seq ((#[a,b,c]:Array Value).setIfInBounds k x)}->Heap.SameBut T s.heap h'->Q () {s with heap:=h'}):
  wpAny (model prog w) A (updateSeq T (·.setIfInBounds k x)) Q E s:=by
 refine wpAny_updateSeq hT rfl (h _ ?_ (Heap.SameBut.update ..))
 rw[ZaN _ hT rfl]
 simp[Obj.mapSeq]
structure Six (z TI TO i1 i2 i3:Addr):Prop where
 TIz:TI≠z
 TOz:TO≠z
 i1z:i1≠z
 i2z:i2≠z
 i3z:i3≠z
 TITO:TI≠TO
 TIi1:TI≠i1
 TIi2:TI≠i2
 TIi3:TI≠i3
 TOi1:TO≠i1
 TOi2:TO≠i2
 TOi3:TO≠i3
 i12:i1≠i2
 i13:i1≠i3
 i23:i2≠i3
def Off(z TO i1 i2 i3 l:Addr):Prop:=l≠z/\l≠TO/\l≠i1/\l≠i2/\l≠i3
theorem QpH{z TI TO i1 i2 i3 l1 l2 l3:Addr}{k:Nat}{xs ys zs:Array Value}{x y u a b c:Value}{Q:Value->Shared->Prop}(D:Six z TI TO i1 i2 i3)(O1:Off z TO i1 i2 i3 l1)(O2:Off z TO i1 i2 i3 l2)(O3:Off z TO i1 i2 i3 l3)
  (hz:IsZip s.heap z TI TO .none) (hTI:Qac s.heap TI (.ref i1) (.ref i2) (.ref i3)) (hTO:Qac s.heap TO a b c)
  (h1:s.heap.IsListIter i1 l1 k) (h2:s.heap.IsListIter i2 l2 k) (h3:s.heap.IsListIter i3 l3 k) (hl1:s.heap.IsList l1 xs) (hl2:s.heap.IsList l2 ys) (hl3:s.heap.IsList l3 zs) (hx:xs[k]? =some x) (hy:ys[k]? =some y) (hu:zs[k]? =some u)
  (hQ:∀h',IsZip h' z TI TO (rawInt s.heap.objs.size)->Qac h' TO x y u->h'.IsListIter i1 l1 (k+1)->h'.IsListIter i2 l2 (k+1)->h'.IsListIter i3 l3 (k+1)->Qac h' s.heap.objs.size x y u->h'.objs.size=s.heap.objs.size+1→
   (∀c o,c≠z->c≠TO->c≠i1->c≠i2->c≠i3->s.heap.get? c=some o->h'.get? c=some o)->Q (.ref s.heap.objs.size) {s with heap:=h'}):
  wpAny (model prog w) A (Builtin.«zip.__next__» ⟨[.ref z],[]⟩) (λfin s'=>∃v,fin= .done (.ret v)/\Q v s') E s:=by
 show wpAny _ _ (field (.ref z) 2 >>= _) _ _ _
 refine wpAny_bind (wpAny_field hz rfl rfl ?_)
 show wpAny _ _ (field (.ref z) 3 >>= _) _ _ _
 refine wpAny_bind (wpAny_field hz rfl rfl ?_)
 refine wpAny_bind (wpAny_seqItems hTI rfl ?_)
 show wpAny _ _ (Builtin.SmallTypes.ownedTupleIsFree (.ref z) >>= _) _ _ _
 refine wpAny_bind ?_
 unfold Builtin.SmallTypes.ownedTupleIsFree
 refine wpAny_bind (wpAny_field hz rfl rfl (wpAny_pure ?_))
 simp only[if_true]
 refine wpAny_bind (wpAny_rule ?_)
 refine wpAny_bind (wpAny_field hz rfl rfl ?_)
 refine wpAny_bind (wpAny_setField_rec hz (by simp) λg1 hz1 s1=>?_)
 replace hz1:IsZip g1 z TI TO .ellipsis:=hz1
 refine wpAny_bind ?_
 simp only[List.zipIdx_cons,List.zipIdx_nil,ZbJ,Zcm]
 refine wpAny_bind (wpAny_bind (wpAny_onRaise ?_))
 show wpAny _ _ (Builtin.SmallTypes.nextOf (.ref i1) >>= _) _ _ _
 have k1:∀e o,e≠z->s.heap.get? e=some o->g1.get? e=some o:=λe o a1 q=>s1.extBut _ _ a1 q
 refine wpAny_bind (wpAny_nextOf_list_item (h1.at λo e=>k1 _ o D.i1z e) (hl1.at λo e=>k1 _ o O1.1 e) hx λg2 m1 s2=>wpAny_pure ?_)
 have k2:∀e o,e≠z->e≠i1->s.heap.get? e=some o->g2.get? e=some o:=λe o a1 a3 q=>s2.extBut _ _ a3 (k1 e o a1 q)
 have t2:Qac g2 TO a b c:=k2 _ _ D.TOz D.TOi1 hTO
 refine wpAny_bind (wpAny_seqItems t2 rfl ?_)
 refine wpAny_bind (QdC t2 λg3 t3 s3=>?_)
 replace t3:Qac g3 TO x b c:=t3
 have k3:∀e o,e≠z->e≠TO->e≠i1->s.heap.get? e=some o->g3.get? e=some o:=λe o a1 a2 a3 q=>s3.extBut _ _ a2 (k2 e o a1 a3 q)
 refine wpAny_bind (wpAny_letGo (wpAny_pure ?_))
 refine wpAny_bind (wpAny_bind (wpAny_onRaise ?_))
 show wpAny _ _ (Builtin.SmallTypes.nextOf (.ref i2) >>= _) _ _ _
 refine wpAny_bind (wpAny_nextOf_list_item (h2.at λo e=>k3 _ o D.i2z D.TOi2.symm D.i12.symm e) (hl2.at λo e=>k3 _ o O2.1 O2.2.1 O2.2.2.1 e) hy λg4 m2 s4=>wpAny_pure ?_)
 have k4:∀e o,e≠z->e≠TO->e≠i1->e≠i2->s.heap.get? e=some o->g4.get? e=some o:=λe o a1 a2 a3 a4 q=>s4.extBut _ _ a4 (k3 e o a1 a2 a3 q)
 have t4:Qac g4 TO x b c:=s4.extBut _ _ D.TOi2 t3
 refine wpAny_bind (wpAny_seqItems t4 rfl ?_)
 refine wpAny_bind (QdC t4 λg5 t5 s5=>?_)
 replace t5:Qac g5 TO x y c:=t5
 have k5:∀e o,e≠z->e≠TO->e≠i1->e≠i2->s.heap.get? e=some o->g5.get? e=some o:=λe o a1 a2 a3 a4 q=>s5.extBut _ _ a2 (k4 e o a1 a2 a3 a4 q)
 refine wpAny_bind (wpAny_letGo (wpAny_pure ?_))
 refine wpAny_bind (wpAny_bind (wpAny_onRaise ?_))
 show wpAny _ _ (Builtin.SmallTypes.nextOf (.ref i3) >>= _) _ _ _
 refine wpAny_bind (wpAny_nextOf_list_item (h3.at λo e=>k5 _ o D.i3z D.TOi3.symm D.i13.symm D.i23.symm e) (hl3.at λo e=>k5 _ o O3.1 O3.2.1 O3.2.2.1 O3.2.2.2.1 e) hu λg6 m3 s6=>wpAny_pure ?_)
 have k6:∀e o,e≠z->e≠TO->e≠i1->e≠i2->e≠i3->s.heap.get? e=some o->g6.get? e=some o:=λe o a1 a2 a3 a4 a5 q=>s6.extBut _ _ a5 (k5 e o a1 a2 a3 a4 q)
 have t6:Qac g6 TO x y c:=s6.extBut _ _ D.TOi3 t5
 refine wpAny_bind (wpAny_seqItems t6 rfl ?_)
 refine wpAny_bind (QdC t6 λg7 t7 s7=>?_)
 replace t7:Qac g7 TO x y u:=t7
 have k7:∀e o,e≠z->e≠TO->e≠i1->e≠i2->e≠i3->s.heap.get? e=some o->g7.get? e=some o:=λe o a1 a2 a3 a4 a5 q=>s7.extBut _ _ a2 (k6 e o a1 a2 a3 a4 a5 q)
 refine wpAny_bind (wpAny_letGo (wpAny_pure (wpAny_pure ?_)))
 refine wpAny_bind (wpAny_seqItems t7 rfl ?_)
 refine wpAny_bind (wpAny_newTuple ?_)
 have hsz:g7.objs.size=s.heap.objs.size:=by rw[s7.1,s6.1,s5.1,s4.1,s3.1,s2.1,s1.1]
 have hz7:IsZip g7 z TI TO .ellipsis:=s7.extBut _ _ D.TOz.symm (s6.extBut _ _ D.i3z.symm (s5.extBut _ _ D.TOz.symm (s4.extBut _ _ D.i2z.symm (s3.extBut _ _ D.TOz.symm (s2.extBut _ _ D.i1z.symm hz1)))))
 have n1:g7.IsListIter i1 l1 (k+1):=((((m1.extBut s3.extBut D.TOi1.symm).extBut s4.extBut D.i12).extBut s5.extBut D.TOi1.symm).extBut s6.extBut D.i13).extBut s7.extBut D.TOi1.symm
 have n2:g7.IsListIter i2 l2 (k+1):=((m2.extBut s5.extBut D.TOi2.symm).extBut s6.extBut D.i23).extBut s7.extBut D.TOi2.symm
 have n3:g7.IsListIter i3 l3 (k+1):=m3.extBut s7.extBut D.TOi3.symm
 have hzlt:z<g7.objs.size:=Zr hz7
 show wpAny _ _ (Builtin.SmallTypes.ownedTupleHandOut (.ref z) (.ref g7.objs.size) >>= _) _ _ _
 refine wpAny_bind ?_
 unfold Builtin.SmallTypes.ownedTupleHandOut
 have hz8:IsZip (g7.push {cls:= .type "tuple",data:= .seq #[x,y,u]}) z TI TO .ellipsis:=Zb _ hz7
 refine wpAny_bind (wpAny_setField_rec hz8 (by simp) λg9 hz9 s9=>?_)
 replace hz9:IsZip g9 z TI TO (rawInt g7.objs.size):=hz9
 refine wpAny_setField_rec hz9 (by simp) λg10 hz10 s10=>?_
 replace hz10:IsZip g10 z TI TO (rawInt g7.objs.size):=hz10
 have up:∀c o,c≠z->g7.get? c=some o->g10.get? c=some o:=λc o c1 e=>s10.extBut _ _ c1 (s9.extBut _ _ c1 (Zb _ e))
 have hT:Qac g10 g7.objs.size x y u:=s10.extBut _ _ (ZaW hzlt) (s9.extBut _ _ (ZaW hzlt) (Zo _ rfl))
 have hz':g10.objs.size=g7.objs.size+1:=by rw[s10.1,s9.1,Zad]
 rw[hsz]at hz10 hT hz'
 refine wpAny_pure ⟨_,rfl,?_⟩
 show Q (.ref g7.objs.size) _
 rw[hsz]
 exact hQ g10 hz10 (up _ _ D.TOz t7) (n1.at λo e=>up _ o D.i1z e) (n2.at λo e=>up _ o D.i2z e) (n3.at λo e=>up _ o D.i3z e) hT hz' λc o c1 c2 c3 c4 c5 e=>up c o c1 (k7 c o c1 c2 c3 c4 c5 e)
theorem Qtk{z TI TO i1 i2 i3 l1:Addr}{k:Nat}{xs:Array Value}{Q:Fin->Shared->Prop}(hh:A.handled=none)(D:Six z TI TO i1 i2 i3)(O1:l1≠z)
  (hz:IsZip s.heap z TI TO .none) (hTI:Qac s.heap TI (.ref i1) (.ref i2) (.ref i3)) (h1:s.heap.IsListIter i1 l1 k) (hl1:s.heap.IsList l1 xs) (hx:xs[k]? =none)
  (hE:∀h' e,(∀c o,c≠z->c≠i1->s.heap.get? c=some o->h'.get? c=some o)->(∃o,h'.get? e=some o/\o.cls= .type "StopIteration")->E (.ref e) {s with heap:=h'}):
  wpAny (model prog w) A (Builtin.«zip.__next__» ⟨[.ref z],[]⟩) Q E s:=by
 show wpAny _ _ (field (.ref z) 2 >>= _) _ _ _
 refine wpAny_bind (wpAny_field hz rfl rfl ?_)
 show wpAny _ _ (field (.ref z) 3 >>= _) _ _ _
 refine wpAny_bind (wpAny_field hz rfl rfl ?_)
 refine wpAny_bind (wpAny_seqItems hTI rfl ?_)
 show wpAny _ _ (Builtin.SmallTypes.ownedTupleIsFree (.ref z) >>= _) _ _ _
 refine wpAny_bind ?_
 unfold Builtin.SmallTypes.ownedTupleIsFree
 refine wpAny_bind (wpAny_field hz rfl rfl (wpAny_pure ?_))
 simp only[if_true]
 refine wpAny_bind (wpAny_rule ?_)
 refine wpAny_bind (wpAny_field hz rfl rfl ?_)
 refine wpAny_bind (wpAny_setField_rec hz (by simp) λg1 hz1 s1=>?_)
 replace hz1:IsZip g1 z TI TO .ellipsis:=hz1
 refine wpAny_bind ?_
 simp only[List.zipIdx_cons,List.zipIdx_nil,ZbJ,Zcm]
 refine wpAny_bind (wpAny_bind (wpAny_onRaise ?_))
 show wpAny _ _ (Builtin.SmallTypes.nextOf (.ref i1) >>= _) _ _ _
 refine wpAny_bind (wpAny_nextOf_list_end hh (h1.extBut s1.extBut D.i1z) (hl1.extBut s1.extBut O1) hx λg2 e s2 he=>?_)
 obtain⟨oe,hoe,hce⟩:=he
 have hz2:IsZip g2 z TI TO .ellipsis:=s2 _ _ D.i1z.symm hz1
 have hez:e≠z:=λx=>by subst x;rw[hz2]at hoe;cases hoe;simp at hce
 refine wpAny_setField_rec hz2 (by simp) λg3 _ s3=>hE g3 e (λc o c1 c3 x=>s3.extBut _ _ c1 (s2 _ _ c3 (s1.extBut _ _ c1 x))) ⟨oe,s3.extBut _ _ hez hoe,hce⟩
theorem Qnd{z TI TO i1 i2 i3 l1 l2 l3:Addr}{k:Nat}{xs ys zs:Array Value}{x y u a b c:Value}{Q:Option Value->Shared->Prop}(D:Six z TI TO i1 i2 i3)(O1:Off z TO i1 i2 i3 l1)(O2:Off z TO i1 i2 i3 l2)(O3:Off z TO i1 i2 i3 l3)
  (hz:IsZip s.heap z TI TO .none) (hTI:Qac s.heap TI (.ref i1) (.ref i2) (.ref i3)) (hTO:Qac s.heap TO a b c)
  (h1:s.heap.IsListIter i1 l1 k) (h2:s.heap.IsListIter i2 l2 k) (h3:s.heap.IsListIter i3 l3 k) (hl1:s.heap.IsList l1 xs) (hl2:s.heap.IsList l2 ys) (hl3:s.heap.IsList l3 zs) (hx:xs[k]? =some x) (hy:ys[k]? =some y) (hu:zs[k]? =some u)
  (hQ:∀h',IsZip h' z TI TO (rawInt s.heap.objs.size)->Qac h' TO x y u->h'.IsListIter i1 l1 (k+1)->h'.IsListIter i2 l2 (k+1)->h'.IsListIter i3 l3 (k+1)->Qac h' s.heap.objs.size x y u->h'.objs.size=s.heap.objs.size+1→
   (∀c o,c≠z->c≠TO->c≠i1->c≠i2->c≠i3->s.heap.get? c=some o->h'.get? c=some o)->Q (some (.ref s.heap.objs.size)) {s with heap:=h'}):
  wpAny (model prog w) A (pyNext (.ref z)) Q E s:=by
 have hT:s.TypeIs (.ref z) "zip" :=⟨_,hz,rfl⟩
 unfold pyNext
 exact wpAny_bind (wpAny_attempt (wpAny_callSpecial?_slot hT ZbK
  (wpAny_call_entry ZbK hT F.entry_zip_next
   (QpH D O1 O2 O3 hz hTI hTO h1 h2 h3 hl1 hl2 hl3 hx hy hu λh' a1 a2 a3 a4 a5 a6 a7 a8=>wpAny_pure (hQ h' a1 a2 a3 a4 a5 a6 a7 a8)) (F.args_zip_next_1 _))))
theorem Qjo{z TI TO i1 i2 i3 l1:Addr}{k:Nat}{xs:Array Value}{Q:Option Value->Shared->Prop}(hh:A.handled=none)(D:Six z TI TO i1 i2 i3)(O1:l1≠z)
  (hz:IsZip s.heap z TI TO .none) (hTI:Qac s.heap TI (.ref i1) (.ref i2) (.ref i3)) (h1:s.heap.IsListIter i1 l1 k) (hl1:s.heap.IsList l1 xs) (hx:xs[k]? =none)
  (hQ:∀h',(∀c o,c≠z->c≠i1->s.heap.get? c=some o->h'.get? c=some o)->Q none {s with heap:=h'}):wpAny (model prog w) A (pyNext (.ref z)) Q E s:=by
 have hT:s.TypeIs (.ref z) "zip" :=⟨_,hz,rfl⟩
 unfold pyNext
 refine wpAny_bind (wpAny_attempt (wpAny_callSpecial?_slot hT ZbK
  (wpAny_call_entry ZbK hT F.entry_zip_next (Qtk hh D O1 hz hTI h1 hl1 hx λh' e hk he=>?_) (F.args_zip_next_1 _))))
 obtain⟨o,ho,hc⟩:=he
 refine wpAny_bind (wpAny_isInstance ⟨o,ho,hc⟩ isSubtype_stop ?_)
 exact wpAny_pure (hQ _ hk)
end
noncomputable abbrev zA(h:Heap)(l1:Addr):Heap:=h.push {cls:= .type "list_iterator",data:= .fields #[.ref l1,.int 0 0]}
noncomputable abbrev zB(h:Heap)(l1 l2:Addr):Heap:=(zA h l1).push {cls:= .type "list_iterator",data:= .fields #[.ref l2,.int 0 0]}
noncomputable abbrev zC(h:Heap)(l1 l2 l3:Addr):Heap:=(zB h l1 l2).push {cls:= .type "list_iterator",data:= .fields #[.ref l3,.int 0 0]}
noncomputable abbrev zD(h:Heap)(l1 l2 l3:Addr):Heap:=(zC h l1 l2 l3).push {cls:= .type "tuple",data:= .seq #[.ref h.objs.size,.ref (zA h l1).objs.size,.ref (zB h l1 l2).objs.size]}
noncomputable abbrev zE(h:Heap)(l1 l2 l3:Addr):Heap:=(zD h l1 l2 l3).push {cls:= .type "tuple",data:= .seq #[.none,.none,.none]}
noncomputable abbrev zF(h:Heap)(l1 l2 l3:Addr):Heap:=(zE h l1 l2 l3).push {cls:= .type "zip",data:= .fields #[.none,.bool false,.bool false,.ref (zC h l1 l2 l3).objs.size,.ref (zD h l1 l2 l3).objs.size]}
theorem QjA(l1 l2 l3:Addr)(xs ys zs:Array Value):
  Meets (Builtin.«zip.__new__» ⟨[.type "zip",.ref l1,.ref l2,.ref l3],[]⟩) (λ_ R s=>s.heap.IsList l1 xs/\s.heap.IsList l2 ys/\s.heap.IsList l3 zs∧
   R (.ok (.ret (.ref (zE s.heap l1 l2 l3).objs.size))) {s with heap:=zF s.heap l1 l2 l3}):=
 .of_wp λprog w A R s h=>by
  obtain⟨hp,g,d,tk,os⟩:=s;obtain⟨hl1,hl2,hl3,h⟩:=h
  have hsub:=sub_zip
  have hL1:Heap.IsList (Shared.heap ⟨hp,g,d,tk,os⟩) l1 xs:=hl1
  have hL2:Heap.IsList (Shared.heap ⟨hp.push {cls:= .type "list_iterator",data:= .fields #[.ref l1,.int 0 0]},g,d,tk,os⟩) l2 ys:=Zcc hl2 _
  have hL3:Heap.IsList (Shared.heap ⟨(hp.push {cls:= .type "list_iterator",data:= .fields #[.ref l1,.int 0 0]}).push {cls:= .type "list_iterator",data:= .fields #[.ref l2,.int 0 0]},g,d,tk,os⟩) l3 zs:=Zcc (Zcc hl3 _) _
  wp_walk using wpAny_pyIter_list hL1,wpAny_pyIter_list hL2,wpAny_pyIter_list hL3
  exact⟨_,rfl,h⟩
section
variable {prog:Program}{w:World}{A:Around}{E:Value->Shared->Prop}{s:Shared}
theorem Qpa(hl1:s.heap.IsList l1 xs)(hl2:s.heap.IsList l2 ys)(hl3:s.heap.IsList l3 zs)
  (h:∀h',IsZip h' (s.heap.objs.size+5) (s.heap.objs.size+3) (s.heap.objs.size+4) .none->Qac h' (s.heap.objs.size+3) (.ref s.heap.objs.size) (.ref (s.heap.objs.size+1)) (.ref (s.heap.objs.size+2))→
   Qac h' (s.heap.objs.size+4) .none .none .none->h'.IsListIter s.heap.objs.size l1 0->h'.IsListIter (s.heap.objs.size+1) l2 0->h'.IsListIter (s.heap.objs.size+2) l3 0→
   (∀c o,s.heap.get? c=some o->h'.get? c=some o)->Q (.ref (s.heap.objs.size+5)) {s with heap:=h'}):
  wpAny (model prog w) A (call (.type "zip") [.ref l1,.ref l2,.ref l3]) Q E s:=by
 refine callType_new F.called_zip (by decide) (Qj3 _ _ _) (Qk0 _ _ _) (λobj=>QgS obj _ _ _) F.entry_zip_new
  (QjA l1 l2 l3 xs ys zs) ⟨hl1,hl2,hl3,?_⟩
 have z1:(zA s.heap l1).objs.size=s.heap.objs.size+1:=Zad ..
 have z2:(zB s.heap l1 l2).objs.size=s.heap.objs.size+2:=by rw[Zad,z1]
 have z3:(zC s.heap l1 l2 l3).objs.size=s.heap.objs.size+3:=by rw[Zad,z2]
 have z4:(zD s.heap l1 l2 l3).objs.size=s.heap.objs.size+4:=by rw[Zad,z3]
 have z5:(zE s.heap l1 l2 l3).objs.size=s.heap.objs.size+5:=by rw[Zad,z4]
 have g6:(zF s.heap l1 l2 l3).get? (zE s.heap l1 l2 l3).objs.size=some _:=Zo _ rfl
 have g5:(zF s.heap l1 l2 l3).get? (zD s.heap l1 l2 l3).objs.size=some _:=Zb _ (Zo _ rfl)
 have g4:(zF s.heap l1 l2 l3).get? (zC s.heap l1 l2 l3).objs.size=some _:=Zb _ (Zb _ (Zo _ rfl))
 have g3:(zF s.heap l1 l2 l3).get? (zB s.heap l1 l2).objs.size=some _:=Zb _ (Zb _ (Zb _ (Zo _ rfl)))
 have g2:(zF s.heap l1 l2 l3).get? (zA s.heap l1).objs.size=some _:=Zb _ (Zb _ (Zb _ (Zb _ (Zo _ rfl))))
 have g1:(zF s.heap l1 l2 l3).get? s.heap.objs.size=some _:=Zb _ (Zb _ (Zb _ (Zb _ (Zb _ (Zo _ rfl)))))
 show _/\_
 rw[z3,z4,z5]at g6
 rw[z1,z2,z3]at g4
 rw[z4]at g5
 rw[z2]at g3
 rw[z1]at g2
 rw[z5]
 exact⟨⟨_,g6,rfl⟩,h _ g6 g4 g5 ⟨_,g1,rfl,rfl⟩ ⟨_,g2,rfl,rfl⟩ ⟨_,g3,rfl,rfl⟩ λc o x=>
  Zb _ (Zb _ (Zb _ (Zb _ (Zb _ (Zb _ x)))))⟩
end
open PyProof.Rows
noncomputable def Qsv(K:PySem.W.Frag)(a b c:Addr):It:=
 ⟨λi H=>∃xs ys zs x y z,SqL K H a xs/\SqL K H b ys/\SqL K H c zs/\xs[i]? =some x/\ys[i]? =some y/\zs[i]? =some z,λi H v H'=>∃p x y z,v= .ref p/\H p=none/\H'=upd H p (.tup [x,y,z])/\(∀xs,SqL K H a xs->xs[i]? =some x)/\(∀ys,SqL K H b ys->ys[i]? =some y)/\∀zs,SqL K H c zs->zs[i]? =some z,
  λi H=>∃xs,SqL K H a xs/\xs.length<=i⟩
theorem mm5{a b c d e f:Addr}{l:List Addr}:a∈b::c::d::e::f::a::l:= .tail _ mm4
theorem Qjv{h:Heap}(hz:IsZip h z T1 T2 x)(hA:Qac h T1 a b c)(hB:Qac h T2 d e f)(h1:h.IsListIter i1 l1 k)(h2:h.IsListIter i2 l2 k)(h3:h.IsListIter i3 l3 k):∀b∈[z,T1,T2,i1,i2,i3],NL h b:=
 fa1 (.zip hz) (fa1 (.tup hA) (fa1 (.tup hB) (fa1 (.it h1) (fa1 (.it h2) (fa1 (.it h3) λ_ h=>nomatch h)))))
theorem Qrf{P:Program}{w:World}{K:PySem.W.Frag}{es:List Expr}{tk:Nat}{tpos:Pos}(l1 l2 l3 z TI TO i1 i2 i3:Addr)(D:Six z TI TO i1 i2 i3):
  Turn P w K (.Tuple es tk tpos) (Qsv K l1 l2 l3) [z,TI,TO,i1,i2,i3] z (λi h=>IsZip h z TI TO .none/\Qac h TI (.ref i1) (.ref i2) (.ref i3)/\(∃a b c,Qac h TO a b c)/\h.IsListIter i1 l1 i/\h.IsListIter i2 l2 i/\h.IsListIter i3 l3 i) where
 mem:=mm0
 obj:=λi h st b hb=>by
  obtain⟨hz,hTI,⟨p,q,r,hTO⟩,h1,h2,h3⟩:=st
  exact(Qjv hz hTI hTO h1 h2 h3 b hb).obj
 keep:=λi h h' st k=>by
  obtain⟨hz,hTI,⟨p,q,r,hTO⟩,h1,h2,h3⟩:=st
  exact⟨k z mm0 _ hz,k TI mm1 _ hTI,⟨p,q,r,k TO mm2 _ hTO⟩,h1.at (k i1 mm3),h2.at (k i2 mm4),h3.at (k i3 mm5)⟩
 item:=by
  intro X hP hw hK hc i pins s σ H E I hf st hg
  subst hP hw hK
  obtain⟨hz,hTI,⟨a0,b0,c0,hTO⟩,h1,h2,h3⟩:=st
  obtain⟨xs,ys,zs,x,y,u,hq1,hq2,hq3,hx,hy,hu⟩:=hg
  obtain⟨its,rv,p,hzz⟩:=I.list hq1
  obtain⟨its2,rv2,p2,hzz2⟩:=I.list hq2
  obtain⟨its3,rv3,p3,hzz3⟩:=I.list hq3
  obtain⟨v1,hv1,r1⟩:=rv.get hx
  obtain⟨v2,hv2,r2⟩:=rv2.get hy
  obtain⟨v3,hv3,r3⟩:=rv3.get hu
  have O:=Qjv hz hTI hTO h1 h2 h3
  have A:=λb hb l ys (hq:SqL X.K H l ys)=>(O b hb).apart I (hf b hb).1 hq
  have off:∀l ys,SqL X.K H l ys->Off z TO i1 i2 i3 l:=λl ys hq=>⟨A z mm0 l ys hq,A TO mm2 l ys hq,A i1 mm3 l ys hq,A i2 mm4 l ys hq,A i3 mm5 l ys hq⟩
  refine Qnd D (off l1 xs hq1) (off l2 ys hq2) (off l3 zs hq3) hz hTI hTO h1 h2 h3 p.isList p2.isList p3.isList (by simpa using hv1) (by simpa using hv2) (by simpa using hv3) λg3 z3 TO3 a3 b3 c3 T3 sz3 k3=>?_
  refine⟨.ref s.heap.objs.size,rfl,wpAny_letOwnedTupleGo_zip z3 λg4 z4 hs4=>?_⟩
  replace hs4:Heap.SameBut z g3 g4:=hs4
  have kk:∀b o,b∉[z,TI,TO,i1,i2,i3]->s.heap.get? b=some o->g4.get? b=some o:=λb o hb q=>
   hs4.extBut b o (nmm hb mm0) (k3 b o (nmm hb mm0) (nmm hb mm2) (nmm hb mm3) (nmm hb mm4) (nmm hb mm5) q)
  have TI4:Qac g4 TI (.ref i1) (.ref i2) (.ref i3):=hs4.extBut _ _ D.TIz (k3 _ _ D.TIz D.TITO D.TIi1 D.TIi2 D.TIi3 hTI)
  have TO4:Qac g4 TO v1 v2 v3:=hs4.extBut _ _ D.TOz TO3
  have a4:g4.IsListIter i1 l1 (i+1):=a3.extBut hs4.extBut D.i1z
  have b4:g4.IsListIter i2 l2 (i+1):=b3.extBut hs4.extBut D.i2z
  have c4:g4.IsListIter i3 l3 (i+1):=c3.extBut hs4.extBut D.i3z
  exact⟨.ref s.heap.objs.size,upd H s.heap.objs.size (.tup [x,y,u]),I.QoV (t':=s.toks) hf kk (λb hb=>(Qjv z4 TI4 TO4 a4 b4 c4 b hb).ex) (Zh _) ⟨by show 3<=sizeLine;decide,_,.cons r1 (.cons r2 (.cons r3 .nil)),_,(hs4.2 _ (ZaW (O z mm0).lt)).trans T3,rfl,_,rfl⟩,rfl,
   ⟨_,x,y,u,rfl,I.hok.fresh (Zh _),rfl,λws hy'=>by rw[I.Qda hy' hq1];exact hx,λws hy'=>by rw[I.Qda hy' hq2];exact hy,λws hy'=>by rw[I.Qda hy' hq3];exact hu⟩,⟨z4,TI4,⟨_,_,_,TO4⟩,a4,b4,c4⟩,λb hb=>by rw[QD (ZK (O b hb).lt)];exact(hf b hb).1⟩
 done:=by
  intro X hP hw hK hc i pins s σ H E I hf st hg
  subst hP hw hK
  obtain⟨hz,hTI,⟨a0,b0,c0,hTO⟩,h1,h2,h3⟩:=st
  obtain⟨xs,hq1,hx⟩:=hg
  obtain⟨its,rv,p,hzz⟩:=I.list hq1
  have hl:=rv.length
  refine Qjo (I.ok.hd hc) D ((NL.zip hz).apart I (hf z mm0).1 hq1) hz hTI h1 p.isList (by simp;omega) λg3 k3=>⟨rfl,?_⟩
  exact I.turns (t':=s.toks) hf λb o hb q=>k3 b o (nmm hb mm0) (nmm hb mm3) q
 self:=λ_ _ _ _ _ st h=>wpAny_pyIter_zip st.1 h
theorem vals3(r:Qw [x,y,z] us):∃u v w',us=[u,v,w']/\RelV x u/\RelV y v/\RelV z w':=by
 cases r with
 | cons r1 r2=>
  obtain⟨v,w',rfl,h1,h2⟩:=vals2 r2
  exact⟨_,_,_,rfl,r1,h1,h2⟩
section
noncomputable def QyN(K:PySem.W.Frag)(ta:TA):TI:=λσ H R=>ta σ H λvs H1=>∃a b c,vs=[.ref a,.ref b,.ref c]/\(∃xs,SqL K H1 a xs)/\(∃ys,SqL K H1 b ys)/\(∃zs,SqL K H1 c zs)/\R (Qsv K a b c) H1
theorem Quy{a b c:Expr}{ta:TA}{p pos:Pos}{es:List Expr}{tk:Nat}{tpos:Pos}(hg:Gl X "zip")(hm:X.mg "zip" =none)(ha:PA X [a,b,c] ta)(hs:starEach [a,b,c] X.env=(false,eval a X.env)::starEach [b,c] X.env)(hs2:(backTo pos (starEach [b,c] X.env)).any (·.1)=false):
  PI X (.Tuple es tk tpos) (.Call (.Name "zip" p) [a,b,c] [] pos) (QyN X.K ta):=by
 intro pins s σ H R I h
 refine Call_ (QcF I hg hm PyProof.Rows.boot_zip (ZS (thn (ha pos pins s σ H _ I h) λus s1 ⟨vs,H1,I1,r1,q1⟩=>?_) hs hs2))
 obtain⟨l,l2,l3,e,⟨xs,hq⟩,⟨ys,hq2⟩,⟨zs,hq3⟩,q⟩:=q1
 subst e
 obtain⟨u,u2,u3,rfl,ru,ru2,ru3⟩:=vals3 r1
 cases ru
 cases ru2
 cases ru3
 obtain⟨its,rv,pl,hz⟩:=I1.list hq
 obtain⟨its2,rv2,pl2,hz2⟩:=I1.list hq2
 obtain⟨its3,rv3,pl3,hz3⟩:=I1.list hq3
 refine Qpa pl.isList pl2.isList pl3.isList λh2 hz hTI hTO h1 h2' h3' hk2=>?_
 have I2:Inv X pins σ H1 {s1 with heap:=h2}:=I1.kept (t':=s1.toks) hk2
 refine wpAny_pyIter_zip hz ⟨_,[s1.heap.objs.size+5,s1.heap.objs.size+3,s1.heap.objs.size+4,s1.heap.objs.size,s1.heap.objs.size+1,s1.heap.objs.size+2],_,_,H1,rfl,I2,Qrf l l2 l3 _ _ _ _ _ _ ⟨?_,?_,?_,?_,?_,?_,?_,?_,?_,?_,?_,?_,?_,?_,?_⟩,⟨hz,hTI,⟨_,_,_,hTO⟩,h1,h2',h3'⟩,λb hb=>?_,q⟩
 iterate 15 (exact(by intro e;first | (have e':(s1.heap.objs.size:Nat)+_=_:=e;omega) | (have e':(s1.heap.objs.size:Nat)=_:=e;omega)))
 have hle:s1.heap.objs.size<=b:=by
  simp only[Zq,List.not_mem_nil,or_false]at hb
  rcases hb with rfl | rfl | rfl | rfl | rfl | rfl<;>first | exact Zh _ | exact Zcb _ _
 exact I1.Qh2 hle (I1.hok.fresh hle)
end
end L2
namespace HS
open PySem PySem.Spec PyProof.Rows L2
inductive D where
 | non | bl (b:Bool) | int (i:Int) | str (x:Str) | tup (xs:List D) | lst (xs:List D) | exc (x:Str) | dk (ks:List (List Int))
mutual
noncomputable def D.flat:D->Bool
 | .lst _=>false
 | .tup xs=>QR xs
 | .non=>true
 | .bl _=>true
 | .int _=>true
 | .str _=>true
 | .exc _=>true
 | .dk _=>false
noncomputable def QR:List D->Bool
 | []=>true
 | d::ds=>d.flat && QR ds
end
mutual
noncomputable def D.nl:D->Nat
 | .lst xs=>nls xs+1
 | .tup xs=>nls xs
 | .non=>0
 | .bl _=>0
 | .int _=>0
 | .str _=>0
 | .exc _=>0
 | .dk _=>1
noncomputable def nls:List D->Nat
 | []=>0
 | d::ds=>d.nl+nls ds
end
mutual
theorem Qc0:∀(d:D),d.flat=true->d.nl=0
 | .non,_=>rfl
 | .bl _,_=>rfl
 | .int _,_=>rfl
 | .str _,_=>rfl
 | .exc _,_=>rfl
 | .dk _,h=>by simp[D.flat]at h
 | .tup xs,h=>by simp only[D.nl];simp only[D.flat]at h;exact QfQ xs h
 | .lst xs,h=>by simp[D.flat]at h
theorem QfQ:∀(ds:List D),QR ds=true->nls ds=0
 | [],_=>rfl
 | d::ds,h=>by simp only[QR,Zk]at h;simp only[nls,Qc0 d h.1,QfQ ds h.2]
end
def Fix(K:PySem.W.Frag)(H:Hp)(a:Addr)(vs:List V):Prop:=
 (∃o,H a=some (.frz o (.lst vs)))∨
  ∃(its:List Value) (n:Nat),K.lookup a=some {cls:= .type "list",data:= .seq its.toArray n}/\vs.length<=sizeLine/\Qw vs its
def Qy7(a C:Addr)(h:Heap):Prop:=∃o vs,h.get? a=some o/\o.cls= .ref C/\o.data= .fields vs
def ExcAt(K:PySem.W.Frag)(H:Hp)(a:Addr)(x:Str):Prop:=∃C,PySem.W.nsIn K mainGlobals x=some (some (.ref C))/\H a=some (.ext (Qy7 a C))
theorem Qpv{K:PySem.W.Frag}{H H':Hp}{a:Addr}{x:Str}(s:QK H H')(h:ExcAt K H a x):ExcAt K H' a x:=by
 obtain⟨C,h1,h2⟩:=h
 exact⟨C,h1,s _ _ h2⟩
theorem Qqy{K:PySem.W.Frag}{H:Hp}{a p:Addr}{x:Str}{zs ys:List V}(hp:H p=some (.lst zs))(h:ExcAt K H a x):ExcAt K (upd H p (.lst ys)) a x:=by
 obtain⟨C,h1,h2⟩:=h
 exact⟨C,h1,by rw[QD (QdS h2 hp (by intro z;cases z))];exact h2⟩
noncomputable def dkC(ks:List (List Int)):List (List Key×V):=ks.map λk=>(k.map Sum.inl,V.bl true)
mutual
noncomputable def Rp(K:PySem.W.Frag)(H:Hp):D->V->List Addr->Prop
 | .non,v,F=>v= .non/\F=[]
 | .bl b,v,F=>v= .bl b/\F=[]
 | .int i,v,F=>v= .int i/\F=[]
 | .str x,v,F=>v= .str x/\F=[]
 | .exc x,v,F=>(∃a,v= .ref a/\ExcAt K H a x)/\F=[]
 | .dk ks,v,F=>∃a,v= .ref a/\F=[a]/\H a=some (.dT (dkC ks))
 | .tup ds,v,F=>∃a vs,v= .ref a/\SqT K H a vs/\Rps K H ds vs F
 | .lst ds,v,F=>ds.length<=sizeLine/\∃a vs,v= .ref a/\((∃G,F=a::G/\H a=some (.lst vs)/\Rps K H ds vs G)∨(Fix K H a vs/\Rps K H ds vs F))
noncomputable def Rps(K:PySem.W.Frag)(H:Hp):List D->List V->List Addr->Prop
 | [],vs,F=>vs=[]/\F=[]
 | d::ds,vs,F=>∃v ws F1 F2,vs=v::ws/\F=F1++F2/\Rp K H d v F1/\Rps K H ds ws F2
end
theorem QlQ{K:PySem.W.Frag}{H H':Hp}{a:Addr}{vs:List V}(s:QK H H')(h:SqT K H a vs):SqT K H' a vs:=by
 rcases h with(h | ⟨o,h⟩) | h
 ·exact .inl (.inl (s _ _ h))
 ·exact .inl (.inr ⟨o,s _ _ h⟩)
 ·exact .inr h
theorem QlU{K:PySem.W.Frag}{H H':Hp}{a:Addr}{vs:List V}(s:QK H H')(h:Fix K H a vs):Fix K H' a vs:=by
 rcases h with⟨o,h⟩ | h
 ·exact .inl ⟨o,s _ _ h⟩
 ·exact .inr h
theorem Qn5{K:PySem.W.Frag}{H:Hp}{a p:Addr}{vs zs ys:List V}(hp:H p=some (.lst zs))(h:SqT K H a vs):SqT K (upd H p (.lst ys)) a vs:=by
 rcases h with(h | ⟨o,h⟩) | h
 ·exact .inl (.inl (by rw[QD (QdS h hp (by intro z;cases z))];exact h))
 ·exact .inl (.inr ⟨o,by rw[QD (QdS h hp (by intro z;cases z))];exact h⟩)
 ·exact .inr h
theorem Qu7{K:PySem.W.Frag}{H:Hp}{a p:Addr}{vs zs ys:List V}(hp:H p=some (.lst zs))(h:Fix K H a vs):Fix K (upd H p (.lst ys)) a vs:=by
 rcases h with⟨o,h⟩ | h
 ·exact .inl ⟨o,by rw[QD (QdS h hp (by intro z;cases z))];exact h⟩
 ·exact .inr h
section
variable {K:PySem.W.Frag}{H H':Hp}
mutual
theorem Rp.same(s:QK H H'):∀{d:D}{v:V}{F:List Addr},Rp K H d v F->Rp K H' d v F
 | .exc _,_,_,h=>by
  simp only[Rp]at h ⊢
  obtain⟨⟨a,e,q⟩,z⟩:=h
  exact⟨⟨a,e,Qpv s q⟩,z⟩
 | .dk _,_,_,h=>by
  simp only[Rp]at h ⊢
  obtain⟨a,e,eF,q⟩:=h
  exact⟨a,e,eF,s _ _ q⟩
 | .non,_,_,h=>h
 | .bl _,_,_,h=>h
 | .int _,_,_,h=>h
 | .str _,_,_,h=>h
 | .tup ds,_,_,h=>by
  simp only[Rp]at h ⊢
  obtain⟨a,vs,e,q,r⟩:=h
  exact⟨a,vs,e,QlQ s q,Rps.same s r⟩
 | .lst ds,_,_,h=>by
  simp only[Rp]at h ⊢
  obtain⟨hz,a,vs,e,⟨G,eF,q,r⟩ | ⟨q,r⟩⟩:=h
  ·exact⟨hz,a,vs,e,.inl ⟨G,eF,s _ _ q,Rps.same s r⟩⟩
  ·exact⟨hz,a,vs,e,.inr ⟨QlU s q,Rps.same s r⟩⟩
theorem Rps.same(s:QK H H'):∀{ds:List D}{vs:List V}{F:List Addr},Rps K H ds vs F->Rps K H' ds vs F
 | [],_,_,h=>h
 | d::ds,_,_,h=>by
  simp only[Rps]at h ⊢
  obtain⟨v,ws,F1,F2,e,eF,r,q⟩:=h
  exact⟨v,ws,F1,F2,e,eF,Rp.same s r,Rps.same s q⟩
end
mutual
theorem Rp.upd{p:Addr}{zs ys:List V}(hp:H p=some (.lst zs)):∀{d:D}{v:V}{F:List Addr},Rp K H d v F->p∉F->Rp K (upd H p (.lst ys)) d v F
 | .exc _,_,_,h,_=>by
  simp only[Rp]at h ⊢
  obtain⟨⟨a,e,q⟩,z⟩:=h
  exact⟨⟨a,e,Qqy hp q⟩,z⟩
 | .dk _,_,_,h,hn=>by
  simp only[Rp]at h ⊢
  obtain⟨a,e,eF,q⟩:=h
  subst eF
  exact⟨a,e,rfl,by rw[QD (λz=>hn (by rw[z];exact Zi))];exact q⟩
 | .non,_,_,h,_=>h
 | .bl _,_,_,h,_=>h
 | .int _,_,_,h,_=>h
 | .str _,_,_,h,_=>h
 | .tup ds,_,_,h,hn=>by
  simp only[Rp]at h ⊢
  obtain⟨a,vs,e,q,r⟩:=h
  exact⟨a,vs,e,Qn5 hp q,Rps.upd hp r hn⟩
 | .lst ds,_,_,h,hn=>by
  simp only[Rp]at h ⊢
  obtain⟨hz,a,vs,e,⟨G,eF,q,r⟩ | ⟨q,r⟩⟩:=h
  ·subst eF
   have h1:a≠p:=λz=>hn (by rw[z];exact Zi)
   exact⟨hz,a,vs,e,.inl ⟨G,rfl,by rw[QD h1];exact q,Rps.upd hp r λz=>hn (Zc _ z)⟩⟩
  ·exact⟨hz,a,vs,e,.inr ⟨Qu7 hp q,Rps.upd hp r hn⟩⟩
theorem Rps.upd{p:Addr}{zs ys:List V}(hp:H p=some (.lst zs)):∀{ds:List D}{vs:List V}{F:List Addr},Rps K H ds vs F->p∉F->Rps K (upd H p (.lst ys)) ds vs F
 | [],_,_,h,_=>h
 | d::ds,_,_,h,hn=>by
  simp only[Rps]at h ⊢
  obtain⟨v,ws,F1,F2,e,eF,r,q⟩:=h
  subst eF
  exact⟨v,ws,F1,F2,e,rfl,Rp.upd hp r λz=>hn (Zn _ z),Rps.upd hp q λz=>hn (Ze _ z)⟩
end
mutual
theorem Rp.mem:∀{d:D}{v:V}{F:List Addr},Rp K H d v F->∀a∈F,∃u,H a=some u
 | .non,_,_,h,a,ha=>by simp only[Rp]at h;rw[h.2]at ha;simp at ha
 | .bl _,_,_,h,a,ha=>by simp only[Rp]at h;rw[h.2]at ha;simp at ha
 | .int _,_,_,h,a,ha=>by simp only[Rp]at h;rw[h.2]at ha;simp at ha
 | .str _,_,_,h,a,ha=>by simp only[Rp]at h;rw[h.2]at ha;simp at ha
 | .exc _,_,_,h,a,ha=>by simp only[Rp]at h;rw[h.2]at ha;simp at ha
 | .dk _,_,_,h,a,ha=>by simp only[Rp]at h;obtain⟨b,e,eF,q⟩:=h;subst eF;rw[Zv.mp ha];exact⟨_,q⟩
 | .tup ds,_,_,h,a,ha=>by
  simp only[Rp]at h
  obtain⟨_,vs,e,q,r⟩:=h
  exact Rps.mem r a ha
 | .lst ds,_,_,h,a,ha=>by
  simp only[Rp]at h
  obtain⟨_,b,vs,e,⟨G,eF,q,r⟩ | ⟨q,r⟩⟩:=h
  ·subst eF
   rcases Zq.mp ha with z | z
   ·exact⟨_,by rw[z];exact q⟩
   ·exact Rps.mem r a z
  ·exact Rps.mem r a ha
theorem Rps.mem:∀{ds:List D}{vs:List V}{F:List Addr},Rps K H ds vs F->∀a∈F,∃u,H a=some u
 | [],_,_,h,a,ha=>by simp only[Rps]at h;rw[h.2]at ha;simp at ha
 | d::ds,_,_,h,a,ha=>by
  simp only[Rps]at h
  obtain⟨v,ws,F1,F2,e,eF,r,q⟩:=h
  subst eF
  rcases ZG.mp ha with z | z
  ·exact Rp.mem r a z
  ·exact Rps.mem q a z
end
mutual
theorem Rp.Qbj:∀{d:D}{v:V}{F:List Addr},Rp K H d v F->d.flat=true->F=[]
 | .non,_,_,h,_=>by simp only[Rp]at h;exact h.2
 | .bl _,_,_,h,_=>by simp only[Rp]at h;exact h.2
 | .int _,_,_,h,_=>by simp only[Rp]at h;exact h.2
 | .str _,_,_,h,_=>by simp only[Rp]at h;exact h.2
 | .exc _,_,_,h,_=>by simp only[Rp]at h;exact h.2
 | .dk _,_,_,h,hf=>by simp[D.flat]at hf
 | .tup ds,_,_,h,hf=>by
  simp only[Rp]at h
  simp only[D.flat]at hf
  obtain⟨_,vs,e,q,r⟩:=h
  exact Rps.Qbj r hf
 | .lst ds,_,_,h,hf=>by simp[D.flat]at hf
theorem Rps.Qbj:∀{ds:List D}{vs:List V}{F:List Addr},Rps K H ds vs F->QR ds=true->F=[]
 | [],_,_,h,_=>by simp only[Rps]at h;exact h.2
 | d::ds,_,_,h,hf=>by
  simp only[Rps]at h
  simp only[QR,Zk]at hf
  obtain⟨v,ws,F1,F2,e,eF,r,q⟩:=h
  rw[eF,Rp.Qbj r hf.1,Rps.Qbj q hf.2];rfl
end
mutual
theorem Rp.QaU:∀{d:D}{v:V}{F:List Addr},Rp K H d v F->F.length<=d.nl
 | .non,_,_,h=>by simp only[Rp]at h;rw[h.2];exact Zac _
 | .bl _,_,_,h=>by simp only[Rp]at h;rw[h.2];exact Zac _
 | .int _,_,_,h=>by simp only[Rp]at h;rw[h.2];exact Zac _
 | .str _,_,_,h=>by simp only[Rp]at h;rw[h.2];exact Zac _
 | .exc _,_,_,h=>by simp only[Rp]at h;rw[h.2];exact Zac _
 | .dk _,_,_,h=>by simp only[Rp]at h;obtain⟨b,e,eF,q⟩:=h;subst eF;exact Zh _
 | .tup ds,_,_,h=>by
  simp only[Rp]at h
  obtain⟨_,vs,e,q,r⟩:=h
  simp only[D.nl]
  exact Rps.QaU r
 | .lst ds,_,_,h=>by
  simp only[Rp]at h
  simp only[D.nl]
  obtain⟨_,b,vs,e,⟨G,eF,q,r⟩ | ⟨q,r⟩⟩:=h
  ·rw[eF,ZI];have:=Rps.QaU r;omega
  ·have:=Rps.QaU r;omega
theorem Rps.QaU:∀{ds:List D}{vs:List V}{F:List Addr},Rps K H ds vs F->F.length<=nls ds
 | [],_,_,h=>by simp only[Rps]at h;rw[h.2];exact Zac _
 | d::ds,_,_,h=>by
  simp only[Rps]at h
  obtain⟨v,ws,F1,F2,e,eF,r,q⟩:=h
  simp only[nls]
  rw[eF,Zu]
  have:=Rp.QaU r
  have:=Rps.QaU q
  omega
end
theorem Rps.length:∀{ds:List D}{vs:List V}{F:List Addr},Rps K H ds vs F->ds.length=vs.length
 | [],_,_,h=>by simp only[Rps]at h;rw[h.1];rfl
 | d::ds,_,_,h=>by
  simp only[Rps]at h
  obtain⟨v,ws,F1,F2,e,eF,r,q⟩:=h
  rw[e,ZI,ZI,Rps.length q]
theorem Rps.append:∀{ds es:List D}{vs ws:List V}{F G:List Addr},Rps K H ds vs F->Rps K H es ws G->Rps K H (ds++es) (vs++ws) (F++G)
 | [],_,_,_,_,_,h,g=>by simp only[Rps]at h;rw[h.1,h.2];exact g
 | d::ds,_,_,_,_,_,h,g=>by
  simp only[Rps,ZbC]at h ⊢
  obtain⟨v,ws,F1,F2,e,eF,r,q⟩:=h
  subst e eF
  exact⟨v,_,F1,_,rfl,by rw[Zbd],r,Rps.append q g⟩
theorem Rps.get:∀{ds:List D}{vs:List V}{F:List Addr}{i:Nat}{d:D},Rps K H ds vs F->ds[i]? =some d->∃v F1 G F2,vs[i]? =some v/\F=F1++(G++F2)/\Rp K H d v G/\(F.length=nls ds->G.length=d.nl)
 | [],_,_,_,_,_,e=>by simp at e
 | d::ds,_,_,0,_,h,e=>by
  simp only[Rps]at h
  obtain⟨v,ws,F1,F2,e1,eF,r,q⟩:=h
  simp at e;subst e e1 eF
  refine⟨v,[],F1,F2,by simp,rfl,r,λhl=>?_⟩
  simp only[nls,Zu]at hl
  have:=Rp.QaU r
  have:=Rps.QaU q
  omega
 | d::ds,_,_,i+1,_,h,e=>by
  simp only[Rps]at h
  obtain⟨v,ws,F1,F2,e1,eF,r,q⟩:=h
  obtain⟨v',G1,G,G2,h1,h2,h3,h4⟩:=Rps.get q (by simpa using e)
  have l1:=Rp.QaU r
  have l2:=Rps.QaU q
  subst e1 eF
  refine⟨v',F1++G1,G,G2,by simpa using h1,by rw[h2,Zbd],h3,λhl=>h4 ?_⟩
  simp only[nls,Zu]at hl
  omega
theorem Fix.sq{K:PySem.W.Frag}{H:Hp}{a:Addr}{vs:List V}(h:Fix K H a vs):SqL K H a vs:=by
 rcases h with⟨o,h⟩ | ⟨its,n,h,hz,r⟩
 ·exact .inl (.inr ⟨o,h⟩)
 ·exact .inr ⟨_,its.toArray,n,h,rfl,rfl,rfl,by rw[Zt,← r.length];exact hz,by simpa using r⟩
theorem _root_.L2.Inv.QlZ(I:Inv X pins σ H s)(h:H a=some (.lst vs)∨Fix X.K H a vs):
  vs.length<=sizeLine/\∃(its:List Value) (n:Nat),Qw vs its/\vs.length=its.length/\s.heap.get? a=some {cls:= .type "list",data:= .seq its.toArray n}:=by
 rcases h with h | ⟨o,h⟩ | ⟨its,n,h,hz,r⟩
 ·exact I.QoH h
 ·obtain⟨e,hz,its,n,r,e2⟩:=I.hok a _ h
  exact⟨hz,its,n,r,r.length,e2⟩
 ·exact⟨hz,its,n,r,r.length,I.kIn _ _ h⟩
theorem Rp.lst_inv{K:PySem.W.Frag}{H:Hp}{ds:List D}{v:V}{F:List Addr}(h:Rp K H (.lst ds) v F):
  ∃a vs G,v= .ref a/\(H a=some (.lst vs)∨Fix K H a vs)/\Rps K H ds vs G/\ds.length<=sizeLine/\(F=a::G∨F=G):=by
 simp only[Rp]at h
 obtain⟨hz,a,vs,e,⟨G,eF,q,r⟩ | ⟨q,r⟩⟩:=h
 ·exact⟨a,vs,G,e,.inl q,r,hz,.inl eF⟩
 ·exact⟨a,vs,F,e,.inr q,r,hz,.inr rfl⟩
theorem QX{K:PySem.W.Frag}{H:Hp}{a:Addr}{vs:List V}(h:H a=some (.lst vs)∨Fix K H a vs):SqL K H a vs:=h.elim (λh=>SqL.of h) Fix.sq
theorem Rp.QaQ{K:PySem.W.Frag}{H:Hp}{ds:List D}{v:V}{F:List Addr}(h:Rp K H (.tup ds) v F):∃a vs,v= .ref a/\SqT K H a vs/\Rps K H ds vs F:=by
 simp only[Rp]at h
 exact h
theorem Rp.QeK{K:PySem.W.Frag}{H:Hp}{ds:List D}{a:Addr}{vs:List V}{G:List Addr}(h:H a=some (.lst vs))(r:Rps K H ds vs G)(hz:ds.length<=sizeLine):Rp K H (.lst ds) (.ref a) (a::G):=by
 simp only[Rp]
 exact⟨hz,a,vs,rfl,.inl ⟨G,rfl,h,r⟩⟩
theorem Rp.QgO{K:PySem.W.Frag}{H:Hp}{ds:List D}{a:Addr}{vs:List V}{G:List Addr}(h:H a=some (.tup vs))(r:Rps K H ds vs G):Rp K H (.tup ds) (.ref a) G:=by
 simp only[Rp]
 exact⟨a,vs,rfl,SqT.of h,r⟩
theorem Rp.int_inv{K:PySem.W.Frag}{H:Hp}{i:Int}{v:V}{F:List Addr}(h:Rp K H (.int i) v F):v= .int i:=by simp only[Rp]at h;exact h.1
theorem Rp.Qb4{K:PySem.W.Frag}{H:Hp}{i:Bool}{v:V}{F:List Addr}(h:Rp K H (.bl i) v F):v= .bl i:=by simp only[Rp]at h;exact h.1
theorem Rp.Qep{K:PySem.W.Frag}{H:Hp}{v:V}{F:List Addr}(h:Rp K H .non v F):v= .non:=by simp only[Rp]at h;exact h.1
theorem Rp.str_inv{K:PySem.W.Frag}{H:Hp}{i:Str}{v:V}{F:List Addr}(h:Rp K H (.str i) v F):v= .str i:=by simp only[Rp]at h;exact h.1
theorem Rp.int_mk{K:PySem.W.Frag}{H:Hp}{i:Int}:Rp K H (.int i) (.int i) []:=by simp[Rp]
theorem Rp.QbC{K:PySem.W.Frag}{H:Hp}{i:Bool}:Rp K H (.bl i) (.bl i) []:=by simp[Rp]
theorem Rp.QmV{K:PySem.W.Frag}{H:Hp}:Rp K H .non .non []:=by simp[Rp]
theorem Rp.str_mk{K:PySem.W.Frag}{H:Hp}{i:Str}:Rp K H (.str i) (.str i) []:=by simp[Rp]
theorem Qay(h:H p=none):QK H (L2.upd H p o):=λb u e=>by rw[QD (Qbs e h)];exact e
end
end HS
namespace HS
open PySem PySem.Spec L2
noncomputable abbrev En:=List (Option (D×Bool))
structure R where
 d:D
 fr:Bool
 M:List Nat
structure RA where
 ds:List D
 fr:Bool
 M:List Nat
noncomputable abbrev DE:=En->Option R
noncomputable abbrev DA:=En->Option RA
noncomputable abbrev DT:=En->Option Bool
structure Rel (K:PySem.W.Frag) (H0:Hp) (A0:List Addr) (hs:List (V×D×List Addr)) (ρ:En) (F:Nat->List Addr) (σ:St) (H:Hp):Prop where
 len:ρ.length=σ.length
 val:∀(i:Nat) d b,ρ[i]? =some (some (d,b))->∃v,σ[i]? =some (some v)/\Rp K H d v (F i)
 own:∀(i:Nat) d,ρ[i]? =some (some (d,true))->(F i).length=d.nl/\(F i).Nodup/\(∀a∈F i,H0 a=none)/\(∀(j:Nat) d' b',j≠i->ρ[j]? =some (some (d',b'))->∀a∈F i,a∉F j)/\∀t∈hs,∀a∈F i,a∉t.2.2
 src:∀(i:Nat) d b,ρ[i]? =some (some (d,b))->∀a∈F i,H0 a=none∨a∈A0
 held:∀t∈hs,Rp K H t.2.1 t.1 t.2.2/\∀a∈t.2.2,H0 a=none∨a∈A0
 same:QK H0 H
def Src(ρ:En)(F:Nat->List Addr)(H:Hp)(M:List Nat)(G:List Addr):Prop:=
 ∀a∈G,H a=none∨∃(i:Nat) (d:D) (b:Bool),ρ[i]? =some (some (d,b))/\a∈F i/\(b=true->i∈M)
noncomputable def nw(H:Hp)(a:Addr):Nat:=match H a with | none=>1 | some _=>0
def Cnt(F:Nat->List Addr)(H:Hp)(M:List Nat)(G:List Addr):Prop:=
 ∀a,G.count a<=nw H a+((M.map F).flatten).count a
def Qa4(ρ:En)(M:List Nat):Prop:=∀i∈M,∃d,ρ[i]? =some (some (d,true))
structure Qaa (K:PySem.W.Frag) (ρ:En) (F:Nat->List Addr) (H H':Hp) (r:R) (v:V) (G:List Addr):Prop where
 same:QK H H'
 rp:Rp K H' r.d v G
 src:Src ρ F H r.M G
 cnt:r.fr=true->Cnt F H r.M G/\G.length=r.d.nl
 own:Qa4 ρ r.M
structure QyU (K:PySem.W.Frag) (ρ:En) (F:Nat->List Addr) (H H':Hp) (r:RA) (vs:List V) (G:List Addr):Prop where
 same:QK H H'
 rp:Rps K H' r.ds vs G
 src:Src ρ F H r.M G
 cnt:r.fr=true->Cnt F H r.M G/\G.length=nls r.ds
 own:Qa4 ρ r.M
noncomputable def tV(K:PySem.W.Frag)(H0:Hp)(A0:List Addr)(f:DE):TE:=λσ H Q=>∃ρ hs F r,Rel K H0 A0 hs ρ F σ H/\f ρ=some r/\∀v H' G,Qaa K ρ F H H' r v G->Q v H'
noncomputable def tVA(K:PySem.W.Frag)(H0:Hp)(A0:List Addr)(f:DA):TA:=λσ H Q=>∃ρ hs F r,Rel K H0 A0 hs ρ F σ H/\f ρ=some r/\∀v H' G,QyU K ρ F H H' r v G->Q v H'
noncomputable def tVT(K:PySem.W.Frag)(H0:Hp)(A0:List Addr)(f:DT):TT:=λσ H Q=>∃ρ hs F b,Rel K H0 A0 hs ρ F σ H/\f ρ=some b/\∀H',QK H H'->Q b H'
def SE(X:Cx)(e:Expr)(f:DE):Prop:=∀H0 A0,PE X e (tV X.K H0 A0 f)
def SA(X:Cx)(es:List Expr)(f:DA):Prop:=∀H0 A0,PA X es (tVA X.K H0 A0 f)
def ST(X:Cx)(e:Expr)(f:DT):Prop:=∀H0 A0,PT X e (tVT X.K H0 A0 f)
theorem _root_.L2.PE.mono(h:PE X e t)(m:∀σ H Q,t' σ H Q->t σ H Q):PE X e t':=λpins s σ H Q I q=>h pins s σ H Q I (m σ H Q q)
theorem _root_.L2.PT.mono(h:PT X e t)(m:∀σ H Q,t' σ H Q->t σ H Q):PT X e t':=λpins s σ H Q I q=>h pins s σ H Q I (m σ H Q q)
theorem _root_.L2.PA.mono(h:PA X e t)(m:∀σ H Q,t' σ H Q->t σ H Q):PA X e t':=λpos pins s σ H Q I q=>h pos pins s σ H Q I (m σ H Q q)
section
theorem Rel.ext(r:Rel K H0 A0 hs ρ F σ H)(s:QK H H'):Rel K H0 A0 hs ρ F σ H' where
 len:=r.len
 val:=λi d b e=>let ⟨v,h1,h2⟩:=r.val i d b e;⟨v,h1,h2.same s⟩
 own:=r.own
 src:=r.src
 held:=λt ht=>⟨(r.held t ht).1.same s,(r.held t ht).2⟩
 same:=r.same.trans s
theorem Rel.mem(r:Rel K H0 A0 hs ρ F σ H)(e:ρ[i]? =some (some (d,b)))(h:a∈F i):∃u,H a=some u:=
 let ⟨_,_,h2⟩:=r.val i d b e;h2.mem a h
theorem QdD(h:H a=some o):nw H a=0:=by simp[nw,h]
theorem QaV(h:H a=none):nw H a=1:=by simp[nw,h]
theorem Rel.fl0(r:Rel K H0 A0 hs ρ F σ H)(ow:Qa4 ρ M)(h:H a=none):((M.map F).flatten).count a=0:=by
 rw[Zab]
 intro hm
 obtain⟨l,hl,ha⟩:=ZbD.mp hm
 obtain⟨i,hi,rfl⟩:=ZN.mp hl
 obtain⟨d,e⟩:=ow i hi
 obtain⟨vs,q⟩:=r.mem e ha
 rw[h]at q;cases q
theorem Cnt.append(r:Rel K H0 A0 hs ρ F σ H)(c1:Cnt F H M1 G1)(c2:Cnt F H1 M2 G2)(s:QK H H1)(m1:∀a∈G1,∃u,H1 a=some u):Cnt F H (M1++M2) (G1++G2):=λa=>by
 rw[Zao,Zaa,List.flatten_append,Zao]
 have h1:=c1 a
 have h2:=c2 a
 cases q:H1 a with
 | some o=>rw[QdD q]at h2;omega
 | none=>
  rw[QaV q]at h2
  have h3:H a=none:=s.free q
  rw[QaV h3]at h1 ⊢
  have h4:G1.count a=0:=Zab.mpr λhm=>by obtain⟨vs,z⟩:=m1 a hm;rw[q]at z;cases z
  omega
theorem Src.append(c1:Src ρ F H M1 G1)(c2:Src ρ F H1 M2 G2)(s:QK H H1):Src ρ F H (M1++M2) (G1++G2):=λa ha=>by
 rcases ZG.mp ha with h | h
 ·rcases c1 a h with z | ⟨i,d,b,e,m,w⟩
  ·exact .inl z
  ·exact .inr ⟨i,d,b,e,m,λhb=>Zn _ (w hb)⟩
 ·rcases c2 a h with z | ⟨i,d,b,e,m,w⟩
  ·exact .inl (s.free z)
  ·exact .inr ⟨i,d,b,e,m,λhb=>Ze _ (w hb)⟩
theorem Qa4.append(h1:Qa4 ρ M1)(h2:Qa4 ρ M2):Qa4 ρ (M1++M2):=λi hi=>(ZG.mp hi).elim (h1 i) (h2 i)
theorem Qa4.nil:Qa4 ρ []:=λi hi=>by simp at hi
theorem Src.nil:Src ρ F H M []:=λa ha=>by simp at ha
theorem Cnt.nil:Cnt F H M []:=λa=>by simp
theorem Qaa.flat(s:QK H H')(r:Rp K H' d v [])(hf:d.flat=true:=by rfl):Qaa K ρ F H H' ⟨d,true,[]⟩ v []:=⟨s,r,Src.nil,λ_=>⟨Cnt.nil,(Qc0 d hf).symm⟩,Qa4.nil⟩
theorem Qaa.sub(p:Qaa K ρ F H H1 r v G)(rp:Rp K H1 d u G')(hs:∀a,G'.count a<=G.count a)(hn:G.length=r.d.nl->G'.length=d.nl):Qaa K ρ F H H1 ⟨d,r.fr,r.M⟩ u G' where
 same:=p.same
 rp:=rp
 src:=λa ha=>p.src a (by
  have:=hs a
  have h1:0<G'.count a:=ZaD.mpr ha
  exact ZaD.mp (by omega))
 cnt:=λh=>⟨λa=>Zx (hs a) ((p.cnt h).1 a),hn (p.cnt h).2⟩
 own:=p.own
noncomputable def R.norm(r:R):R:=if r.d.flat then⟨r.d,true,[]⟩else r
theorem R.Qc3(r:R):r.norm.d=r.d:=by unfold R.norm;split<;>rfl
theorem Qaa.norm(p:Qaa K ρ F H H' r v G):Qaa K ρ F H H' r.norm v G:=by
 unfold R.norm
 split
 ·rename_i h
  have:=p.rp.Qbj h
  subst this
  exact .flat p.same p.rp h
 ·exact p
end
noncomputable def Qa(i:Nat):DE:=λρ=>match ρ[i]? with
 | some (some (d,b))=>if d.flat then some ⟨d,true,[]⟩else if b then some ⟨d,true,[i]⟩else some ⟨d,false,[]⟩
 | _=>none
noncomputable def dC(d:D):DE:=λ_=>some ⟨d,true,[]⟩
section
theorem Qwv(h:PE X (.Name x pos) (QjE i)):SE X (.Name x pos) (Qa i):=λH0 A0=>h.mono λσ H Q=>exK λρ hs F r rel e q=>by
 unfold Qa at e
 split at e
 ·rename_i d b q1
  obtain⟨v,h1,h2⟩:=rel.val i d b q1
  refine⟨v,h1,q v H (F i) ?_⟩
  split at e
  ·rename_i hf
   cases e
   have:=h2.Qbj hf
   rw[this]at h2 ⊢
   exact .flat (QK.refl _) h2 hf
  ·split at e
   ·rename_i hb
    cases e
    subst hb
    exact⟨QK.refl _,h2,λa ha=> .inr ⟨i,d,true,q1,ha,λ_=>by simp⟩,λ_=>⟨λa=>(by simp),(rel.own i d q1).1⟩,λj hj=>by simp at hj;subst hj;exact⟨d,q1⟩⟩
   ·rename_i hb
    cases e
    simp at hb
    subst hb
    exact⟨QK.refl _,h2,λa ha=> .inr ⟨i,d,false,q1,ha,λz=>by cases z⟩,λz=>(by cases z),Qa4.nil⟩
 ·cases e
theorem Qh9(h:PE X e (tC v))(r:∀K H,Rp K H d v [])(hf:d.flat=true):SE X e (dC d):=λH0 A0=>h.mono λσ H Q=>exK λρ hs F r' rel e q=>by
 cases e
 exact q v H [] (.flat (QK.refl _) (r _ _) hf)
theorem two{K:PySem.W.Frag}{H0:Hp}{A0:List Addr}{fa fb:DE}{σ:St}{H:Hp}{hs:List (V×D×List Addr)}{ρ:En}{F:Nat->List Addr}{ra rb:R}{Rr:V->V->Hp->Prop}(rel:Rel K H0 A0 hs ρ F σ H)(ea:fa ρ=some ra)(eb:fb ρ=some rb)
  (k:∀x y H1 H2 G1 G2,Qaa K ρ F H H1 ra x G1->Qaa K ρ F H1 H2 rb y G2->Rr x y H2):tV K H0 A0 fa σ H λx H1=>tV K H0 A0 fb σ H1 λy H2=>Rr x y H2:=
 ⟨ρ,hs,F,ra,rel,ea,λx H1 G1 p1=>⟨ρ,hs,F,rb,rel.ext p1.same,eb,λy H2 G2 p2=>k x y H1 H2 G1 G2 p1 p2⟩⟩
noncomputable def dOp(g:D->D->Option D)(fa fb:DE):DE:=λρ=>(fa ρ).bind λra=>(fb ρ).bind λrb=>(g ra.d rb.d).map λd=>⟨d,true,[]⟩
theorem Qj7(e:dOp g fa fb ρ=some r):∃ra rb d,fa ρ=some ra/\fb ρ=some rb/\g ra.d rb.d=some d/\r=⟨d,true,[]⟩:=by
 unfold dOp at e
 cases h1:fa ρ with
 | none=>rw[h1]at e;cases e
 | some ra=>
  cases h2:fb ρ with
  | none=>rw[h1,h2]at e;cases e
  | some rb=>
   rw[h1,h2]at e
   cases h3:g ra.d rb.d with
   | none=>simp[h3]at e
   | some d=>simp[h3]at e;exact⟨ra,rb,d,rfl,rfl,h3,e.symm⟩
def Qbv(K:PySem.W.Frag)(g:D->D->Option D)(r:R2):Prop:=∀a b d,g a b=some d->d.flat=true/\∀H x y F G (Q:VK),Rp K H a x F->Rp K H b y G->(∀v,(∀H',Rp K H' d v [])->Q v H)->r x y H Q
theorem Qjb(ho:OpR X (binaryOp op) r)(hg:Qbv X.K g r)(ha:SE X a fa)(hb:SE X b fb):SE X (.BinOp a op b pos) (dOp g fa fb):=λH0 A0=>
 (Qpu ho (ha H0 A0) (hb H0 A0)).mono λσ H Q=>exK λρ hs F r' rel e q=>by
  obtain⟨ra,rb,d,ea,eb,eg,rfl⟩:=Qj7 e
  refine two rel ea eb λx y H1 H2 G1 G2 p1 p2=>(hg _ _ _ eg).2 H2 x y G1 G2 Q (p1.rp.same p2.same) p2.rp λv hv=>?_
  exact q v H2 [] (.flat (p1.same.trans p2.same) (hv H2) (hg _ _ _ eg).1)
theorem QxF(ho:OpR X (compareOp op) r)(hg:Qbv X.K g r)(ha:SE X a fa)(hb:SE X b fb)(hm:behindInMarks op b=false):SE X (.Compare a [op] [b] pos) (dOp g fa fb):=λH0 A0=>
 (QvJ ho (ha H0 A0) (hb H0 A0) hm).mono λσ H Q=>exK λρ hs F r' rel e q=>by
  obtain⟨ra,rb,d,ea,eb,eg,rfl⟩:=Qj7 e
  refine two rel ea eb λx y H1 H2 G1 G2 p1 p2=>(hg _ _ _ eg).2 H2 x y G1 G2 Q (p1.rp.same p2.same) p2.rp λv hv=>?_
  exact q v H2 [] (.flat (p1.same.trans p2.same) (hv H2) (hg _ _ _ eg).1)
end
noncomputable def Qc1(i j:Int):Int:=if 0<=j then i / j else i.fdiv j
noncomputable def Qck(i j:Int):Int:=if 0<=j then i % j else i.fmod j
theorem Qhz(i j:Int):Qc1 i j=i.fdiv j:=by
 unfold Qc1;split
 ·rw[ZbO _ (by assumption)]
 ·rfl
theorem Qhw(i j:Int):Qck i j=i.fmod j:=by
 unfold Qck;split
 ·rw[Int.fmod_eq_emod_of_nonneg _ (by assumption)]
 ·rfl
noncomputable def Qdy(i j:Int):Bool:=decide (i.natAbs<2^64) || decide (j.natAbs<2^64) || (decide (Builtin.Int.intBits i<=2^20) && decide (Builtin.Int.intBits j<=2^20))
noncomputable def QbA(j:Int):Bool:=decide (j≠0) && decide (j.natAbs<2^8000)
noncomputable def gI(f:Int->Int->Option D)(a b:D):Option D:=match a,b with
 | .int i,.int j=>f i j
 | _,_=>none
noncomputable def Qam:=gI λi j=>some (.int (i-j))
noncomputable def QeC:=gI λi j=>if QbA j then some (.int (Qc1 i j))else none
noncomputable def Qbb:=gI λi j=>if j≠0 then some (.int (Qck i j))else none
noncomputable def Qex:=gI λi j=>if 0<=j/\j<=1000/\i.natAbs<2^200 then some (.int (i^j.toNat))else none
noncomputable def QlO:=gI λi j=>if 0<=j then some (.int (i / 2^j.toNat))else none
noncomputable def gLt:=gI λi j=>some (.bl (decide (i<j)))
noncomputable def gLe:=gI λi j=>some (.bl (decide (i<=j)))
noncomputable def gGt:=gI λi j=>some (.bl (decide (j<i)))
noncomputable def gGe:=gI λi j=>some (.bl (decide (j<=i)))
theorem QqB(h:gI f a b=some d):∃i j,a= .int i/\b= .int j/\f i j=some d:=by
 unfold gI at h
 split at h
 ·exact⟨_,_,rfl,rfl,h⟩
 ·cases h
section
theorem Qfb(hf:∀i j d,f i j=some d->d.flat=true)(h:∀i j d,f i j=some d->∀H (Q:VK),(∀v,(∀H',Rp K H' d v [])->Q v H)->r (.int i) (.int j) H Q):Qbv K (gI f) r:=λa b d e=>by
 obtain⟨i,j,rfl,rfl,ef⟩:=QqB e
 refine⟨hf i j d ef,λH x y F G Q ha hb q=>?_⟩
 rw[ha.int_inv,hb.int_inv]
 exact h i j d ef H Q q
theorem QqE:Qbv K Qam (rI0 λi j=> .int (i-j)):=Qfb (λi j d e=>by cases e;rfl) λi j d e H Q q=>by cases e;exact⟨i,j,rfl,rfl,q _ λ_=> .int_mk⟩
theorem QsL(h:Qdy i j=true):IntMulOk i j:=by
 have small:∀k:Int,k.natAbs<2^64->Builtin.Int.intBits k<=64:=λk hk=>by
  unfold Builtin.Int.intBits
  split
  ·omega
  ·rename_i h0;have h0':k.natAbs≠0:=λz=>by simp_all
   have:=(Zcn h0').mpr hk;omega
 unfold Qdy at h
 simp only[Zck,Zk,decide_eq_true_eq]at h
 rcases h with(h | h) | ⟨h1,h2⟩
 ·exact .of_left (small i h)
 ·exact .of_right (small j h)
 ·exact .of_bits h1 h2
theorem Qvb:OpR X (binaryOp .Mult) (rI (λi j=>Qdy i j=true) λi j=> .int (i*j)):=opI λ_ _ _ _ _ _ _ hc q=>PyProof.Rows.mul_int q (QsL hc)
theorem Quu:OpR X (binaryOp .FloorDiv) (rI (λi j=>QbA j=true) λi j=> .int (Qc1 i j)):=opI λi j _ _ _ _ _ hc q=>by
 unfold QbA at hc
 simp only[Zk,decide_eq_true_eq]at hc
 rw[Qhz]at q
 refine PyProof.Rows.floordiv_int hc.1 q (.inl (Zbo ?_))
 have h0:j.natAbs≠0:=by omega
 exact Nat.lt_trans ((Zcn h0).mpr hc.2) (by decide)
theorem QuJ:OpR X (binaryOp .Mod) (rI (λi j=>j≠0) λi j=> .int (Qck i j)):=opI λi j _ _ _ _ _ hc q=>by
 rw[Qhw]at q
 exact PyProof.Rows.mod_int' hc q
theorem QvZ:Qbv K QeC (rI (λi j=>QbA j=true) λi j=> .int (Qc1 i j)):=Qfb (λi j d e=>by split at e<;>cases e;rfl) λi j d e H Q q=>by
 split at e
 ·cases e;exact⟨i,j,rfl,rfl,by assumption,q _ λ_=> .int_mk⟩
 ·cases e
theorem Qxz:Qbv K Qbb (rI (λi j=>j≠0) λi j=> .int (Qck i j)):=Qfb (λi j d e=>by split at e<;>cases e;rfl) λi j d e H Q q=>by
 split at e
 ·cases e;exact⟨i,j,rfl,rfl,by assumption,q _ λ_=> .int_mk⟩
 ·cases e
theorem Qvl:OpR X (binaryOp .Pow) (rI (λi j=>0<=j/\j<=1000/\i.natAbs<2^200) λi j=> .int (i^j.toNat)):=opI λi j _ _ _ _ _ hc q=>by
 refine PyProof.Rows.pow_int hc.1 ?_ q
 have hb:Builtin.Int.intBits i<=200:=by
  unfold Builtin.Int.intBits
  split
  ·omega
  ·rename_i h0;have h0':i.natAbs≠0:=λz=>by simp_all
   have:=(Zcn h0').mpr hc.2.2;omega
 have h1:((Builtin.Int.intBits i:Nat):Int)*j<=200*1000:=Zco (by omega) hc.2.1 hc.1 (by decide)
 omega
theorem Qwp:Qbv K Qex (rI (λi j=>0<=j/\j<=1000/\i.natAbs<2^200) λi j=> .int (i^j.toNat)):=Qfb (λi j d e=>by split at e<;>cases e;rfl) λi j d e H Q q=>by
 split at e
 ·rename_i h;cases e;exact⟨i,j,rfl,rfl,h,q _ λ_=> .int_mk⟩
 ·cases e
theorem Qxv:Qbv K QlO (rI (λ_ j=>0<=j) λi j=> .int (i / 2^j.toNat)):=Qfb (λi j d e=>by split at e<;>cases e;rfl) λi j d e H Q q=>by
 split at e
 ·cases e;exact⟨i,j,rfl,rfl,by assumption,q _ λ_=> .int_mk⟩
 ·cases e
theorem Qx2:Qbv K gLt (rI0 λi j=> .bl (decide (i<j))):=Qfb (λi j d e=>by cases e;rfl) λi j d e H Q q=>by cases e;exact⟨i,j,rfl,rfl,q _ λ_=> .QbC⟩
theorem Qyl:Qbv K gLe (rI0 λi j=> .bl (decide (i<=j))):=Qfb (λi j d e=>by cases e;rfl) λi j d e H Q q=>by cases e;exact⟨i,j,rfl,rfl,q _ λ_=> .QbC⟩
theorem QyH:Qbv K gGt (rI0 λi j=> .bl (decide (j<i))):=Qfb (λi j d e=>by cases e;rfl) λi j d e H Q q=>by cases e;exact⟨i,j,rfl,rfl,q _ λ_=> .QbC⟩
theorem Qyb:Qbv K gGe (rI0 λi j=> .bl (decide (j<=i))):=Qfb (λi j d e=>by cases e;rfl) λi j d e H Q q=>by cases e;exact⟨i,j,rfl,rfl,q _ λ_=> .QbC⟩
end
theorem Qcr:∀(xs ys:List D),QR (xs++ys)=(QR xs && QR ys)
 | [],ys=>by simp[QR]
 | x::xs,ys=>by simp[QR,Qcr xs ys,Bool.and_assoc]
noncomputable def QaH(ds:List D)(M:List Nat):R:=if QR ds then⟨.lst ds,true,[]⟩else⟨.lst ds,false,M⟩
section
variable {K:PySem.W.Frag}{H0 H H':Hp}{A0:List Addr}{hs:List (V×D×List Addr)}{ρ:En}{F:Nat->List Addr}{σ:L2.St}
theorem Qaa.QaH(s:QK H H1)(hp:H1 p=none)(r:Rps K H1 ds vs G)(hz:ds.length<=sizeLine)(src:Src ρ F H M G)(ow:Qa4 ρ M):
  Qaa K ρ F H (upd H1 p (.lst vs)) (QaH ds M) (.ref p) (p::G):=by
 have s2:QK H1 (upd H1 p (.lst vs)):=Qay hp
 have rp:Rp K (upd H1 p (.lst vs)) (.lst ds) (.ref p) (p::G):=Rp.QeK Q9 (r.same s2) hz
 have hH:H p=none:=s.free hp
 unfold HS.QaH
 split
 ·rename_i hf
  have:=r.Qbj hf
  subst this
  refine⟨s.trans s2,rp,λa ha=>?_,λ_=>⟨λa=>?_,by simp only[D.nl,QfQ ds hf];rfl⟩,Qa4.nil⟩
  ·have:a=p:=by simpa using ha
   subst this;exact .inl hH
  ·rw[ZbH]
   split
   ·rename_i e;have e':p=a:=by simpa using e
    subst e';rw[QaV hH];omega
   ·omega
 ·refine⟨s.trans s2,rp,λa ha=>?_,λz=>(by cases z),ow⟩
  rcases Zq.mp ha with rfl | h
  ·exact .inl hH
  ·exact src a h
end
noncomputable def QO(fa fb:DE):DE:=λρ=>(fa ρ).bind λra=>(fb ρ).bind λrb=>match ra.d,rb.d with
 | .int i,.int j=>some ⟨.int (i+j),true,[]⟩
 | .lst xs,.lst ys=>if xs.length+ys.length<=sizeLine then some (QaH (xs++ys) (ra.M++rb.M))else none
 | _,_=>none
noncomputable def Qap(fa fb:DE):DE:=λρ=>(fa ρ).bind λra=>(fb ρ).bind λrb=>match ra.d,rb.d with
 | .int i,.int j=>if Qdy i j then some ⟨.int (i*j),true,[]⟩else none
 | .lst xs,.int j=>if xs.length*j.toNat<=sizeLine/\ -(2^63)<=j/\j<2^63/\QR xs=true then some ⟨.lst (List.replicate j.toNat xs).flatten,true,[]⟩else none
 | _,_=>none
theorem Qpi{fa fb:DE}{ρ:En}{k:R->R->Option R}{r:R}(e:((fa ρ).bind λra=>(fb ρ).bind λrb=>k ra rb)=some r):∃ra rb,fa ρ=some ra/\fb ρ=some rb/\k ra rb=some r:=by
 cases h1:fa ρ with
 | none=>rw[h1]at e;cases e
 | some ra=>
  cases h2:fb ρ with
  | none=>rw[h1,h2]at e;cases e
  | some rb=>rw[h1,h2]at e;exact⟨ra,rb,rfl,rfl,e⟩
theorem bind1{α β:Type}{x:Option α}{k:α->Option β}{r:β}(e:x.bind k=some r):∃a,x=some a/\k a=some r:=by
 cases x with
 | none=>cases e
 | some a=>exact⟨a,rfl,e⟩
section
noncomputable def QyV(K:PySem.W.Frag):R2:=λx y H Q=>∃l c xs zs,x= .ref l/\y= .ref c/\(H l=some (.lst xs)∨Fix K H l xs)/\(H c=some (.lst zs)∨Fix K H c zs)/\xs.length+zs.length<=sizeLine/\∀p,H p=none->Q (.ref p) (upd H p (.lst (xs++zs)))
theorem mapR{α γ:Type}{x:Option α}{f:α->γ}{r:γ}{M:γ->Prop}(e:x.map f=some r)(g:∀a,x=some a->M (f a)):M r:=by
 obtain⟨a,h,rfl⟩:=Zf.mp e
 exact g a h
theorem Qk{α β:Type}{x:Option α}{k:α->Option β}{r:β}{G:Prop}(e:x.bind k=some r)(g:∀a,x=some a->k a=some r->G):G:=let ⟨a,h1,h2⟩:=bind1 e;g a h1 h2
theorem QuM:OpR X (binaryOp .Add) (QyV X.K):=by
 intro pins s σ H x y v u Q I rx ry h
 obtain⟨l,c,xs,zs,rfl,rfl,hH,hB,hz,q⟩:=h
 cases rx
 cases ry
 obtain⟨z,its,n,r,hl,e⟩:=I.QlZ hH
 obtain⟨z2,its2,n2,r2,hl2,e2⟩:=I.QlZ hB
 refine PySem.P.add_list e e2 ?_ (by rw[Zt,Zt];omega)
 have ea:its.toArray++its2.toArray=(its++its2).toArray:=by simp
 rw[ea]
 exact⟨.ref _,_,I.Qwj (t':=s.toks) (r.append r2) (by rw[Zu];omega),rfl,q _ I.fresh⟩
theorem Qv3(ha:SE X a fa)(hb:SE X b fb):SE X (.BinOp a .Add b pos) (QO fa fb):=λH0 A0=>
 (Qpu (Qxl.or QuM) (ha H0 A0) (hb H0 A0)).mono λσ H Q=>exK λρ hs F r' rel e q=>by
  obtain⟨ra,rb,ea,eb,ek⟩:=Qpi e
  refine two rel ea eb λx y H1 H2 G1 G2 p1 p2=>?_
  have p1':=p1.rp.same p2.same
  have p2':=p2.rp
  have c1:=p1.src.append p2.src p1.same
  have o1:=p1.own.append p2.own
  revert ek
  revert p1' p2'
  cases ra.d<;>cases rb.d<;>intro p1' p2' ek<;>first | (cases ek;done) | skip
  ·cases ek
   rw[p1'.int_inv,p2'.int_inv]
   exact .inl ⟨_,_,rfl,rfl,q _ H2 [] (.flat (p1.same.trans p2.same) .int_mk)⟩
  ·rename_i xs ys
   dsimp only at ek
   split at ek
   ·rename_i hz
    cases ek
    obtain⟨l,vs,L1,rfl,hl,rl,zl,el⟩:=p1'.lst_inv
    obtain⟨c,ws,L2',rfl,hc,rc,zc,ec⟩:=p2'.lst_inv
    have n1:=rl.length
    have n2:=rc.length
    refine .inr ⟨l,c,vs,ws,rfl,rfl,hl,hc,by omega,λp hp=>?_⟩
    refine q _ _ (p::(L1++L2')) (Qaa.QaH (p1.same.trans p2.same) hp (rl.append rc) (by rw[Zu];exact hz) (λa ha=>c1 a ?_) o1)
    rcases ZG.mp ha with h | h
    ·refine Zn _ ?_
     rcases el with rfl | rfl
     ·exact Zc _ h
     ·exact h
    ·refine Ze _ ?_
     rcases ec with rfl | rfl
     ·exact Zc _ h
     ·exact h
   ·cases ek
noncomputable def QyD(K:PySem.W.Frag):R2:=λx y H Q=>∃l k xs,x= .ref l/\y= .int k/\(H l=some (.lst xs)∨Fix K H l xs)/\ -(2^63)<=k/\k<2^63/\xs.length*k.toNat<=sizeLine∧
 ∀p,H p=none->Q (.ref p) (upd H p (.lst (List.replicate k.toNat xs).flatten))
theorem Qvm:OpR X (binaryOp .Mult) (QyD X.K):=by
 intro pins s σ H x y v u Q I rx ry h
 obtain⟨l,k,xs,rfl,rfl,hH,h1,h2,hz,q⟩:=h
 cases rx
 obtain⟨t,rfl⟩:=ry
 obtain⟨z,its,n,r,hl,e⟩:=I.QlZ hH
 have hlen:its.toArray.size*k.toNat<=sizeLine:=by rw[Zt,← hl];exact hz
 have hcap:¬its.toArray.size*k.toNat>(2^63-1) / 8:=by
  have:(sizeLine:Nat)<=(2^63-1) / 8:=by decide
  omega
 have hfit:¬(!Builtin.List.listFitsIndex k)=true:=by
  rw[fitsIndex_both h1 h2]
  exact Zag
 have hlong:¬Builtin.List.listTooLong (its.toArray.size*k.toNat)=true:=by
  rw[QsD hlen]
  exact Zag
 have hnew:List.foldl (λx1 x2=>x1++x2) #[] (List.replicate (if its.toArray.isEmpty=true then 0 else k.toNat) its.toArray)=(List.replicate k.toNat its).flatten.toArray:=by
  have f0:∀m:Nat,List.foldl (λx1 x2=>x1++x2) #[] (List.replicate m its.toArray)=(List.replicate m its).flatten.toArray:=λm=>by
   have:=foldl_rep its m []
   rw[ZbL]at this
   exact this
  rw[f0]
  cases its with
  | nil=>simp
  | cons a r'=>rw[if_neg (by simp)]
 open PyProof.Rows in
 refine wpAny_binaryOp_repeat_ref (by decide) ⟨_,e,rfl⟩ (λs'=>typeIs_int s' k t) noFill_list_mul F.fills_int_mul F.slot_int_rmul repeat_list F.slot_int_index.lookup
  (call_meets F.slot_int_rmul (typeIs_int s k t) F.entry_int_rmul (F.args_int_rmul_2 _ _) (int___rmul___int_list k t l its.toArray n)
   ⟨e,rfl,⟨_,e,rfl⟩,call_meets F.slot_list_mul ⟨_,e,rfl⟩ F.entry_list_mul (F.args_list_mul_2 _ _) (AutoListH.list___mul___list_int_3 l its.toArray n k t hfit hcap hlong) ⟨e,?_⟩⟩)
 rw[hnew]
 exact⟨.ref _,_,I.Qwj (t':=s.toks) (r.rep k.toNat) (by rw[len_rep,Nat.mul_comm];exact hz),rfl,q _ I.fresh⟩
theorem Qkl(h:QR xs=true):∀n:Nat,QR (List.replicate n xs).flatten=true
 | 0=>by simp[QR]
 | n+1=>by rw[Zaj,Zan,Qcr,h,Qkl h n];rfl
theorem Rps.rep(h:Rps K H ds vs []):∀n:Nat,Rps K H (List.replicate n ds).flatten (List.replicate n vs).flatten []
 | 0=>by simp[Rps]
 | n+1=>by rw[Zaj,Zan,Zaj,Zan];exact h.append (Rps.rep h n)
theorem Qw2(ha:SE X a fa)(hb:SE X b fb):SE X (.BinOp a .Mult b pos) (Qap fa fb):=λH0 A0=>
 (Qpu (Qvb.or Qvm) (ha H0 A0) (hb H0 A0)).mono λσ H Q=>exK λρ hs F r' rel e q=>by
  obtain⟨ra,rb,ea,eb,ek⟩:=Qpi e
  refine two rel ea eb λx y H1 H2 G1 G2 p1 p2=>?_
  have p1':=p1.rp.same p2.same
  have p2':=p2.rp
  revert ek
  revert p1' p2'
  cases ra.d<;>cases rb.d<;>intro p1' p2' ek<;>first | (cases ek;done) | skip
  ·dsimp only at ek
   split at ek
   ·rename_i hm
    cases ek
    rw[p1'.int_inv,p2'.int_inv]
    exact .inl ⟨_,_,rfl,rfl,hm,q _ H2 [] (.flat (p1.same.trans p2.same) .int_mk)⟩
   ·cases ek
  ·rename_i xs j
   dsimp only at ek
   split at ek
   ·rename_i hz
    cases ek
    obtain⟨hz1,hz2,hz3,hf⟩:=hz
    obtain⟨l,vs,L1,rfl,hl,rl,zl,el⟩:=p1'.lst_inv
    have n1:=rl.length
    have e0:=rl.Qbj hf
    subst e0
    rw[p2'.int_inv]
    refine .inr ⟨l,j,vs,rfl,rfl,hl,hz2,hz3,by rw[← n1];exact hz1,λp hp=>?_⟩
    have w:HS.QaH (List.replicate j.toNat xs).flatten []=⟨.lst (List.replicate j.toNat xs).flatten,true,[]⟩:=by
     unfold HS.QaH;rw[if_pos (Qkl hf _)]
    rw[← w]at q
    exact q _ _ (p::[]) (Qaa.QaH (p1.same.trans p2.same) hp (rl.rep _) (by rw[len_rep,Nat.mul_comm];exact hz1) Src.nil Qa4.nil)
   ·cases ek
end
end HS
namespace HS
open PySem PySem.Spec L2
noncomputable def Qh:DA:=λ_=>some ⟨[],true,[]⟩
noncomputable def Qb(fa:DE)(fr:DA):DA:=λρ=>(fa ρ).bind λr=>(fr ρ).bind λrs=>some ⟨r.d::rs.ds,r.fr && rs.fr,r.M++rs.M⟩
noncomputable def Qa6(fa:DA):DE:=λρ=>(fa ρ).bind λr=>if r.ds.length<=64 then some ⟨.tup r.ds,r.fr,r.M⟩else none
noncomputable def Qag(fa:DA):DE:=λρ=>(fa ρ).bind λr=>if r.ds.length<=64 then some ⟨.lst r.ds,r.fr,r.M⟩else none
section
variable {X:Cx}{a b e:Expr}{es:List Expr}{fa fb:DE}{fs:DA}{pos:Pos}
theorem Qgz:SA X [] Qh:=λH0 A0=>QbJ.mono λσ H Q=>exK λρ hs F r' rel e q=>by
 cases e
 exact q [] H [] ⟨QK.refl _,by simp[Rps],Src.nil,λ_=>⟨Cnt.nil,rfl⟩,Qa4.nil⟩
theorem Qef(ha:SE X e fa)(hr:SA X es fs)(hs:starEach (e::es) X.env=(false,eval e X.env)::starEach es X.env):SA X (e::es) (Qb fa fs):=λH0 A0=>
 (Qaf (ha H0 A0) (hr H0 A0) hs).mono λσ H Q=>exK λρ hs F r' rel e q=>by
  refine Qk e λr e1 e=>?_
  refine Qk e λrs e2 e=>?_
  cases e
  refine⟨ρ,hs,F,r,rel,e1,λx H1 G1 p1=>⟨ρ,hs,F,rs,rel.ext p1.same,e2,λxs H2 G2 p2=>?_⟩⟩
  refine q _ H2 (G1++G2) ⟨p1.same.trans p2.same,?_,p1.src.append p2.src p1.same,λh=>?_,p1.own.append p2.own⟩
  ·simp only[Rps]
   exact⟨x,xs,G1,G2,rfl,rfl,p1.rp.same p2.same,p2.rp⟩
  ·simp only[Zk]at h
   exact⟨(p1.cnt h.1).1.append rel (p2.cnt h.2).1 p1.same p1.rp.mem,by simp only[nls,Zu,(p1.cnt h.1).2,(p2.cnt h.2).2]⟩
theorem QfF{n:Nat}(h:n<=64):n<=sizeLine:=Zx h (by decide)
theorem QwV{k:Nat}(ha:SA X es fs):SE X (.Tuple es k pos) (Qa6 fs):=λH0 A0=>
 (QwF (ha H0 A0)).mono λσ H Q=>exK λρ hs F r' rel e q=>by
  refine Qk e λr e1 e=>?_
  split at e
  ·rename_i hz
   cases e
   refine⟨ρ,hs,F,r,rel,e1,λxs H1 G p=>⟨by rw[← p.rp.length];exact QfF hz,λc hc=>q _ _ G ⟨p.same.trans (Qay hc),Rp.QgO Q9 (p.rp.same (Qay hc)),p.src,λh=>⟨(p.cnt h).1,by simp only[D.nl];exact(p.cnt h).2⟩,p.own⟩⟩⟩
  ·cases e
theorem Qxu(ha:SA X es fs):SE X (.List es pos) (Qag fs):=λH0 A0=>
 (Qwm (ha H0 A0)).mono λσ H Q=>exK λρ hs F r' rel e q=>by
  refine Qk e λr e1 e=>?_
  split at e
  ·rename_i hz
   cases e
   refine⟨ρ,hs,F,r,rel,e1,λxs H1 G p=>⟨by rw[← p.rp.length];exact QfF hz,λc hc=>?_⟩⟩
   have hH:H c=none:=p.same.free hc
   refine q _ _ (c::G) ⟨p.same.trans (Qay hc),Rp.QeK Q9 (p.rp.same (Qay hc)) (QfF hz),λz hz'=>?_,λh=>⟨λz=>?_,by simp only[D.nl,ZI,(p.cnt h).2]⟩,p.own⟩
   ·rcases Zq.mp hz' with rfl | h
    ·exact .inl hH
    ·exact p.src z h
   ·rw[ZaQ]
    have:=(p.cnt h).1 z
    split
    ·rename_i e'
     have e':c=z:=by simpa using e'
     subst e'
     have h0:G.count c=0:=Zab.mpr λhm=>by obtain⟨vs,w⟩:=p.rp.mem c hm;rw[hc]at w;cases w
     rw[QaV hH];omega
    ·exact this
  ·cases e
noncomputable def D.items:D->Option (List D)
 | .lst xs=>some xs
 | .tup xs=>some xs
 | _=>none
noncomputable def Qr(fa fb:DE):DE:=λρ=>(fa ρ).bind λra=>(fb ρ).bind λrb=>match rb.d with
 | .int i=>(ra.d.items).bind λxs=>(atI xs i).map λd=>(R.norm ⟨d,ra.fr,ra.M⟩)
 | _=>none
theorem Qub{α β:Type}{xs:List α}{i:Int}{d:α}(h:atI xs i=some d):∃j:Nat,xs[j]? =some d/\∀(ys:List β),ys.length=xs.length->∀y,ys[j]? =some y->atI ys i=some y:=by
 unfold atI at h
 cases e:ixN xs.length i with
 | none=>rw[e]at h;cases h
 | some j=>
  rw[e]at h
  refine⟨j,h,λys hl y hy=>?_⟩
  unfold atI
  rw[hl,e]
  exact hy
theorem QxQ(ha:SE X a fa)(hb:SE X b fb)(hs:Qhf b):SE X (.Subscript a b pos) (Qr fa fb):=λH0 A0=>
 (Qtz (QnS.or Qqv) (ha H0 A0) (hb H0 A0) hs).mono λσ H Q=>exK λρ hs F r' rel e q=>by
  obtain⟨ra,rb,ea,eb,ek⟩:=Qpi e
  refine two rel ea eb λx y H1 H2 G1 G2 p1 p2=>?_
  have p1':=p1.rp.same p2.same
  have p2':=p2.rp
  have pp:Qaa X.K ρ F H H2 ra x G1:=⟨p1.same.trans p2.same,p1',p1.src,p1.cnt,p1.own⟩
  cases hb':rb.d with
  | int i=>
   rw[hb']at ek p2'
   rw[p2'.int_inv]
   refine Qk ek λxs ex ek=>?_
   obtain⟨d,ed,ek⟩:=Zf.mp ek
   subst ek
   obtain⟨j,hj,hm⟩:=Qub ed
   have fin:∀(L:List Addr) (vs:List V),Rps X.K H2 xs vs L->(∀z,L.count z<=G1.count z)->(G1.length=ra.d.nl->L.length=nls xs)->∃v,atI vs i=some v/\Q v H2:=λL vs rl hc hn=>by
    obtain⟨v,F1,G,F2,hv,eF,rv,hx⟩:=rl.get hj
    refine⟨v,hm vs rl.length.symm v hv,q v H2 G (Qaa.norm (Qaa.sub pp rv (λz=>Zx ?_ (hc z)) λz=>hx (hn z)))⟩
    rw[eF,Zao,Zao];omega
   cases hra:ra.d with
   | lst ys=>
    rw[hra]at ex p1'
    cases ex
    obtain⟨l,vs,L,rfl,hl,rl,zl,el⟩:=p1'.lst_inv
    have hn:G1.length=ra.d.nl->L.length=nls xs:=λhz=>by
     have:=rl.QaU
     simp only[hra,D.nl]at hz
     rcases el with rfl | rfl
     ·rw[ZI]at hz;omega
     ·omega
    have hc:∀z,L.count z<=G1.count z:=λz=>by
     rcases el with rfl | rfl
     ·rw[ZaQ];omega
     ·exact Zh _
    obtain⟨v,h1,h2⟩:=fin L vs rl hc hn
    exact .inl ⟨l,vs,i,v,rfl,rfl,QX hl,h1,h2⟩
   | tup ys=>
    rw[hra]at ex p1'
    cases ex
    obtain⟨l,vs,rfl,hl,rl⟩:=p1'.QaQ
    obtain⟨v,h1,h2⟩:=fin G1 vs rl (λz=>Zh _) λz=>(by simpa only[hra,D.nl]using z)
    exact .inr ⟨l,vs,i,v,rfl,rfl,hl,h1,h2⟩
   | _=>rw[hra]at ex;cases ex
  | _=>rw[hb']at ek;cases ek
noncomputable abbrev DO:=En->Option (Option Int)
noncomputable def QtM:DO:=λ_=>some none
noncomputable def Qdr(f:DE):DO:=λρ=>(f ρ).bind λr=>match r.d with
 | .int i=>some (some i)
 | _=>none
noncomputable def tVO(K:PySem.W.Frag)(H0:Hp)(A0:List Addr)(f:DO):TO:=λσ H Q=>∃ρ hs F o,Rel K H0 A0 hs ρ F σ H/\f ρ=some o/\∀H',QK H H'->Q o H'
def SO(X:Cx)(e:Option Expr)(f:DO):Prop:=∀H0 A0,PO X e (tVO X.K H0 A0 f)
theorem _root_.L2.PO.mono{X:Cx}{e:Option Expr}{t t':TO}(h:PO X e t)(m:∀σ H Q,t' σ H Q->t σ H Q):PO X e t':=by
 intro pins s σ H Q I q
 exact h pins s σ H Q I (m σ H Q q)
theorem Qu0:SO X none QtM:=λH0 A0=>Qvk.mono λσ H Q=>exK λρ hs F o rel e q=>by
 cases e
 exact q H (QK.refl _)
theorem QuY(h:SE X a fa):SO X (some a) (Qdr fa):=λH0 A0=>(Qu5 (h H0 A0)).mono λσ H Q=>exK λρ hs F o rel e q=>by
 refine Qk e λr e1 e=>?_
 refine⟨ρ,hs,F,r,rel,e1,λv H1 G p=>?_⟩
 have rp:=p.rp
 cases hr:r.d with
 | int i=>
  rw[hr]at e rp
  cases e
  exact⟨i,rp.int_inv,q H1 p.same⟩
 | _=>rw[hr]at e;cases e
noncomputable def cutD(xs:List D)(lo hi:Option Int):List D:=(xs.drop (HT.sIx xs.length 0 lo)).take (HT.sIx xs.length xs.length hi-HT.sIx xs.length 0 lo)
noncomputable def Qiv(fa:DE)(lo hi:DO):DE:=λρ=>(fa ρ).bind λra=>(lo ρ).bind λl=>(hi ρ).bind λh=>match ra.d with
 | .lst xs=>some (QaH (cutD xs l h) ra.M)
 | _=>none
theorem Rps.drop:∀{ds:List D}{vs:List V}{F:List Addr}{K:PySem.W.Frag}{H:Hp}(n:Nat),Rps K H ds vs F->∃G,Rps K H (ds.drop n) (vs.drop n) G/\∀a∈G,a∈F
 | [],vs,F,K,H,n,h=>by simp only[Rps]at h;rw[h.1,h.2];exact⟨[],by simp[Rps],λ_ h=>h⟩
 | d::ds,vs,F,K,H,0,h=>⟨F,by simpa using h,λ_ h=>h⟩
 | d::ds,vs,F,K,H,n+1,h=>by
  simp only[Rps]at h
  obtain⟨v,ws,F1,F2,e,eF,r,q⟩:=h
  subst e eF
  obtain⟨G,h1,h2⟩:=Rps.drop n q
  exact⟨G,by simpa using h1,λa ha=>Ze _ (h2 a ha)⟩
theorem Rps.take:∀{ds:List D}{vs:List V}{F:List Addr}{K:PySem.W.Frag}{H:Hp}(n:Nat),Rps K H ds vs F->∃G,Rps K H (ds.take n) (vs.take n) G/\∀a∈G,a∈F
 | [],vs,F,K,H,n,h=>by simp only[Rps]at h;rw[h.1,h.2];exact⟨[],by simp[Rps],λ_ h=>h⟩
 | d::ds,vs,F,K,H,0,h=>⟨[],by simp[Rps],λ_ h=>by simp at h⟩
 | d::ds,vs,F,K,H,n+1,h=>by
  simp only[Rps]at h
  obtain⟨v,ws,F1,F2,e,eF,r,q⟩:=h
  subst e eF
  obtain⟨G,h1,h2⟩:=Rps.take n q
  refine⟨F1++G,?_,λa ha=>?_⟩
  ·simp only[ZbM,Rps]
   exact⟨v,_,F1,G,rfl,rfl,r,h1⟩
  ·rcases ZG.mp ha with h | h
   ·exact Zn _ h
   ·exact Ze _ (h2 a h)
theorem QvO{lo hi:Option Expr}{fl fh:DO}{p2:Pos}(ha:SE X a fa)(hl:SO X lo fl)(hh:SO X hi fh):SE X (.Subscript a (.Slice lo hi none p2) pos) (Qiv fa fl fh):=λH0 A0=>
 (Qsc QuS (ha H0 A0) (hl H0 A0) (hh H0 A0)).mono λσ H Q=>exK λρ hs F r' rel e q=>by
  refine Qk e λra e1 e=>?_
  refine Qk e λl e2 e=>?_
  refine Qk e λh e3 e=>?_
  refine⟨ρ,hs,F,ra,rel,e1,λx H1 G1 p1=>⟨ρ,hs,F,l,rel.ext p1.same,e2,λH2 s2=>⟨ρ,hs,F,h,(rel.ext p1.same).ext s2,e3,λH3 s3=>?_⟩⟩⟩
  have rp:=p1.rp.same (s2.trans s3)
  cases hra:ra.d with
  | lst xs=>
   rw[hra]at e rp
   cases e
   obtain⟨c,vs,L,rfl,hc,rl,zl,el⟩:=rp.lst_inv
   refine⟨c,vs,rfl,QX hc,λp hp=>?_⟩
   obtain⟨G2,h2,m2⟩:=rl.drop (HT.sIx xs.length 0 l)
   obtain⟨G3,h3,m3⟩:=h2.take (HT.sIx xs.length xs.length h-HT.sIx xs.length 0 l)
   have n1:=rl.length
   rw[show QjW vs l h=(vs.drop (HT.sIx xs.length 0 l)).take (HT.sIx xs.length xs.length h-HT.sIx xs.length 0 l) by unfold QjW;rw[n1]]
   refine q _ _ (p::G3) (Qaa.QaH (p1.same.trans (s2.trans s3)) hp h3 ?_ (λz hz=>p1.src z ?_) p1.own)
   ·unfold cutD;rw[Zau,ZaC];omega
   ·have:=m2 z (m3 z hz)
    rcases el with rfl | rfl
    ·exact Zc _ this
    ·exact this
  | _=>rw[hra]at e;cases e
noncomputable def dBf(g:List D->Option D)(fs:DA):DE:=λρ=>(fs ρ).bind λr=>(g r.ds).map λd=>⟨d,true,[]⟩
def Qdw(K:PySem.W.Frag)(g:List D->Option D)(r:List V->Hp->VK->Prop):Prop:=∀ds d,g ds=some d->d.flat=true/\∀H vs F (Q:VK),Rps K H ds vs F->(∀v,(∀H',Rp K H' d v [])->Q v H)->r vs H Q
theorem QeW{x:Str}{id:String}{g:List D->Option D}{r:List V->Hp->VK->Prop}{p:Pos}(hc:Qa3 X (.builtin id) r)(hk:Qdw X.K g r)(hg:Gl X x)(hm:X.mg x=none)(hv:bootBuiltins x=some (.builtin id))(ha:SA X (e::es) fs)(hn:x≠ "__name__")(hdb:(x == ("__debug__" :Str))=false)
  (he:starEach (e::es) X.env=(false,eval e X.env)::starEach es X.env) (hpl:(backTo pos (starEach es X.env)).any (·.1)=false):SE X (.Call (.Name x p) (e::es) [] pos) (dBf g fs):=λH0 A0=>
 (Qiw hc hg hm hv (ha H0 A0) hn hdb he hpl).mono λσ H Q=>exK λρ hs F r' rel e q=>by
  refine Qk e λra e1 e=>?_
  obtain⟨d,ed,e⟩:=Zf.mp e
  subst e
  exact⟨ρ,hs,F,ra,rel,e1,λvs H1 G p1=>(hk _ _ ed).2 H1 vs G Q p1.rp λv hv=>q v H1 [] (.flat p1.same (hv _) (hk _ _ ed).1)⟩
theorem Rps.one{K:PySem.W.Frag}{H:Hp}{d:D}{vs:List V}{F:List Addr}(h:Rps K H [d] vs F):∃v,vs=[v]/\Rp K H d v F:=by
 simp only[Rps]at h
 obtain⟨v,ws,F1,F2,rfl,rfl,r,rfl,rfl⟩:=h
 exact⟨v,rfl,by simpa using r⟩
theorem Rps.two{K:PySem.W.Frag}{H:Hp}{d e:D}{vs:List V}{F:List Addr}(h:Rps K H [d,e] vs F):∃v w F1 F2,vs=[v,w]/\Rp K H d v F1/\Rp K H e w F2:=by
 simp only[Rps]at h
 obtain⟨v,ws,F1,F2,rfl,rfl,r,w,ws',F3,F4,rfl,rfl,r2,rfl,rfl⟩:=h
 exact⟨v,w,F1,F3,rfl,r,r2⟩
noncomputable def QaS:List D->Option D
 | [.lst xs]=>some (.int xs.length)
 | [.tup xs]=>some (.int xs.length)
 | _=>none
theorem Qxo{K:PySem.W.Frag}:Qdw K QaS (λxs H Q=>∃p ys,xs=[.ref p]/\(SqL K H p ys∨SqT K H p ys)/\Q (.int ys.length) H):=λds d e=>by
 unfold QaS at e
 split at e
 ·cases e
  refine⟨rfl,λH vs F Q r q=>?_⟩
  obtain⟨v,rfl,rp⟩:=r.one
  obtain⟨l,ws,L,rfl,hl,rl,zl,el⟩:=rp.lst_inv
  exact⟨l,ws,rfl,.inl (QX hl),by rw[← rl.length];exact q _ λ_=> .int_mk⟩
 ·cases e
  refine⟨rfl,λH vs F Q r q=>?_⟩
  obtain⟨v,rfl,rp⟩:=r.one
  obtain⟨l,ws,rfl,hl,rl⟩:=rp.QaQ
  exact⟨l,ws,rfl,.inr hl,by rw[← rl.length];exact q _ λ_=> .int_mk⟩
 ·cases e
noncomputable def Qf3:List D->Option D
 | [.int i,.int j]=>some (.int (if j<i then j else i))
 | _=>none
noncomputable def QeO:List D->Option D
 | [.int i,.int j]=>some (.int (if j>i then j else i))
 | _=>none
noncomputable def QoU:List D->Option D
 | [.int i]=>some (.int (if i<0 then-i else i))
 | _=>none
theorem QuC{K:PySem.W.Frag}:Qdw K Qf3 (λxs H Q=>∃i j,xs=[.int i,.int j]/\Q (.int (if j<i then j else i)) H):=λds d e=>by
 unfold Qf3 at e
 split at e
 ·cases e
  refine⟨rfl,λH vs F Q r q=>?_⟩
  obtain⟨v,w,F1,F2,rfl,r1,r2⟩:=r.two
  exact⟨_,_,by rw[r1.int_inv,r2.int_inv],q _ λ_=> .int_mk⟩
 ·cases e
theorem Qvs{K:PySem.W.Frag}:Qdw K QeO (λxs H Q=>∃i j,xs=[.int i,.int j]/\Q (.int (if j>i then j else i)) H):=λds d e=>by
 unfold QeO at e
 split at e
 ·cases e
  refine⟨rfl,λH vs F Q r q=>?_⟩
  obtain⟨v,w,F1,F2,rfl,r1,r2⟩:=r.two
  exact⟨_,_,by rw[r1.int_inv,r2.int_inv],q _ λ_=> .int_mk⟩
 ·cases e
theorem QvT{K:PySem.W.Frag}:Qdw K QoU (λxs H Q=>∃i,xs=[.int i]/\Q (.int (if i<0 then-i else i)) H):=λds d e=>by
 unfold QoU at e
 split at e
 ·cases e
  refine⟨rfl,λH vs F Q r q=>?_⟩
  obtain⟨v,rfl,r1⟩:=r.one
  exact⟨_,by rw[r1.int_inv],q _ λ_=> .int_mk⟩
 ·cases e
noncomputable def dList(fs:DA):DE:=λρ=>(fs ρ).bind λr=>match r.ds with
 | [.lst xs]=>some (QaH xs r.M)
 | [.tup xs]=>if xs.length<=sizeLine then some (QaH xs r.M)else none
 | [.dk ks]=>some (QaH (ks.map λk=> .tup (k.map .int)) [])
 | _=>none
end
end HS
namespace HS
open PySem PySem.Spec L2 PyProof.Rows
noncomputable def intsOf:List D->Option (List Int)
 | []=>some []
 | d::ds=>match d with
  | .int i=>(intsOf ds).map (i:: ·)
  | _=>none
theorem Qii{K:PySem.W.Frag}{H:Hp}:∀{ds:List D}{vs:List V}{F:List Addr}{k:List Int},Rps K H ds vs F->intsOf ds=some k->vs=k.map .int/\F=[]
 | [],vs,F,k,h,e=>by simp only[Rps]at h;cases e;exact h
 | d::ds,vs,F,k,h,e=>by
  simp only[Rps]at h
  obtain⟨v,ws,F1,F2,rfl,rfl,r,q⟩:=h
  unfold intsOf at e
  split at e
  ·obtain⟨k',e1,rfl⟩:=Zf.mp e
   obtain⟨rfl,rfl⟩:=Qii q e1
   simp only[Rp]at r
   obtain⟨rfl,rfl⟩:=r
   exact⟨rfl,rfl⟩
  ·cases e
theorem QnX:∀{a b:List Int},a.map (Sum.inl:Int->Key)=b.map Sum.inl->a=b
 | [],[],_=>rfl
 | [],_::_,e=>by simp at e
 | _::_,[],e=>by simp at e
 | x::xs,y::ys,e=>by
  simp only[Zj,List.cons.injEq,Sum.inl.injEq]at e
  rw[e.1,QnX e.2]
noncomputable def Qk9:DE:=λ_=>some ⟨.dk [],true,[]⟩
theorem Qvy{X:Cx}{pos:Pos}:SE X (.Dict [] [] pos) Qk9:=λH0 A0=>QrC.mono λσ H Q=>exK λρ hs F r rel e q=>by
 cases e
 intro p hp
 refine q (.ref p) _ [p] ⟨Qay hp,by simp only[Rp];exact⟨p,rfl,rfl,Q9⟩,λa ha=> .inl (by rw[Zv.mp ha];exact hp),λ_=>⟨λa=>?_,rfl⟩,λi hi=>by cases hi⟩
 rw[ZbH]
 split
 ·rename_i h
  have h:p=a:=by simpa using h
  subst h
  rw[QaV hp];omega
 ·exact Zac _
end HS
namespace HS
open PySem PySem.Spec L2
mutual
noncomputable def D.py:D->PyData
 | .non=> .none
 | .bl b=> .bool b
 | .int i=> .int i
 | .str x=> .str x
 | .tup xs=> .tuple (pys xs)
 | .lst xs=> .list (pys xs)
 | .exc _=> .none
 | .dk _=> .none
noncomputable def pys:List D->List PyData
 | []=>[]
 | d::ds=>d.py::pys ds
end
noncomputable def D.sim:Nat->D->Bool
 | _,.non=>true
 | _,.bl _=>true
 | _,.int _=>true
 | _,.str x=>PyData.canLay0 (.str x)
 | 0,.tup xs=>xs.isEmpty
 | 0,.lst xs=>xs.isEmpty
 | n+1,.tup xs=>xs.all (D.sim n)
 | n+1,.lst xs=>xs.all (D.sim n)
 | _,.exc _=>false
 | _,.dk _=>false
theorem Qeu:∀{ds:List D},(∀d∈ds,d.py.canLay0=true)->PyData.canLayAll0 (pys ds)=true
 | [],_=>rfl
 | d::ds,h=>by
  simp only[pys,PyData.canLayAll0,Zk]
  exact⟨h d Zi,Qeu λe he=>h e (Zc _ he)⟩
theorem Qe6:∀{ds:List D},(∀d∈ds,d.py.depth<=n)->PyData.depthAll (pys ds)<=n
 | [],_=>Zac _
 | d::ds,h=>by
  simp only[pys,PyData.depthAll]
  exact Nat.max_le.mpr ⟨h d Zi,Qe6 λe he=>h e (Zc _ he)⟩
theorem Qdt:∀(n:Nat) (d:D),d.sim n=true->d.py.canLay0=true/\d.py.depth<=n+1
 | n,.exc _,h=>by cases n<;>cases h
 | n,.dk _,h=>by cases n<;>cases h
 | n,.non,_=>by simp[D.py,PyData.canLay0,PyData.depth]
 | n,.bl _,_=>by simp[D.py,PyData.canLay0,PyData.depth]
 | n,.int _,_=>by simp[D.py,PyData.canLay0,PyData.depth]
 | n,.str x,h=>by
  simp only[D.py,PyData.depth]
  refine⟨?_,Zac _⟩
  cases n<;>exact h
 | 0,.tup xs,h=>by
  have:xs=[]:=by simpa[D.sim]using h
  subst this
  simp[D.py,pys,PyData.canLay0,PyData.canLayAll0,PyData.depth,PyData.depthAll]
 | 0,.lst xs,h=>by
  have:xs=[]:=by simpa[D.sim]using h
  subst this
  simp[D.py,pys,PyData.canLay0,PyData.canLayAll0,PyData.depth,PyData.depthAll]
 | n+1,.tup xs,h=>by
  simp only[D.sim,Zav]at h
  simp only[D.py,PyData.canLay0,PyData.depth]
  exact⟨Qeu λd hd=>(Qdt n d (h d hd)).1,ZbI (Qe6 λd hd=>(Qdt n d (h d hd)).2) 1⟩
 | n+1,.lst xs,h=>by
  simp only[D.sim,Zav]at h
  simp only[D.py,PyData.canLay0,PyData.depth]
  exact⟨Qeu λd hd=>(Qdt n d (h d hd)).1,ZbI (Qe6 λd hd=>(Qdt n d (h d hd)).2) 1⟩
noncomputable def deq(a b:D):Bool:=PyData.eqv a.py b.py
theorem QrM(h:d.sim n=true):deq d d=true:=SeqAt.eqv_refl _ (Qdt n d h).1
mutual
noncomputable def D.noX:D->Bool
 | .exc _=>false
 | .dk _=>false
 | .tup xs=>Qh6 xs
 | .lst xs=>Qh6 xs
 | .non=>true
 | .bl _=>true
 | .int _=>true
 | .str _=>true
noncomputable def Qh6:List D->Bool
 | []=>true
 | d::ds=>d.noX && Qh6 ds
end
theorem QjO:∀{ds:List D},(∀d∈ds,d.noX=true)->Qh6 ds=true
 | [],_=>rfl
 | d::ds,h=>by
  simp only[Qh6,Zk]
  exact⟨h d Zi,QjO λe he=>h e (Zc _ he)⟩
theorem Qen:∀(n:Nat) (d:D),d.sim n=true->d.noX=true
 | n,.exc _,h=>by cases n<;>cases h
 | n,.dk _,h=>by cases n<;>cases h
 | n,.non,_=>rfl
 | n,.bl _,_=>rfl
 | n,.int _,_=>rfl
 | n,.str x,_=>rfl
 | 0,.tup xs,h=>by
  have:xs=[]:=by simpa[D.sim]using h
  subst this;rfl
 | 0,.lst xs,h=>by
  have:xs=[]:=by simpa[D.sim]using h
  subst this;rfl
 | n+1,.tup xs,h=>by
  simp only[D.sim,Zav]at h
  simp only[D.noX]
  exact QjO λd hd=>Qen n d (h d hd)
 | n+1,.lst xs,h=>by
  simp only[D.sim,Zav]at h
  simp only[D.noX]
  exact QjO λd hd=>Qen n d (h d hd)
section
variable {X:Cx}{pins:List (Addr×Obj)}{σ:L2.St}{H:Hp}{s:Shared}
mutual
theorem Rp.reads(I:Inv X pins σ H s):∀{d:D}{v:V}{F:List Addr}{u:Value},d.noX=true->Rp X.K H d v F->RelV v u->∃as,Reads s.heap u d.py as
 | .exc _,v,_,u,hx,h,r=>by cases hx
 | .dk _,v,_,u,hx,h,r=>by cases hx
 | .non,v,_,u,hx,h,r=>by
  rw[h.Qep]at r
  cases(show u=Value.none from r)
  exact⟨_,.none⟩
 | .bl b,v,_,u,hx,h,r=>by
  rw[h.Qb4]at r
  cases(show u=Value.bool b from r)
  exact⟨_,.bool b⟩
 | .int i,v,_,u,hx,h,r=>by
  rw[h.int_inv]at r
  obtain⟨t,rfl⟩:=(show ∃t,u=Value.int i t from r)
  exact⟨_,.int i t⟩
 | .str i,v,_,u,hx,h,r=>by
  rw[h.str_inv]at r
  obtain⟨t,rfl⟩:=(show ∃t,u=Value.str i t from r)
  exact⟨_,.str i t⟩
 | .tup ds,v,_,u,hx,h,r=>by
  obtain⟨a,vs,rfl,hq,rs⟩:=h.QaQ
  cases(show u=Value.ref a from r)
  obtain⟨its,rv,⟨o,h1,h2,n,h3⟩,_⟩:=I.tuple hq
  obtain⟨as,ra⟩:=Rps.reads I (by simpa only[D.noX]using hx) rs rv
  exact⟨_,.tuple h1 h2 h3 (by simpa using ra)⟩
 | .lst ds,v,_,u,hx,h,r=>by
  simp only[Rp]at h
  obtain⟨hz,a,vs,rfl,h⟩:=h
  have key:∃G,(H a=some (.lst vs)∨Fix X.K H a vs)/\Rps X.K H ds vs G:=by
   rcases h with⟨G,_,q,rs⟩ | ⟨q,rs⟩
   ·exact⟨G,.inl q,rs⟩
   ·exact⟨_,.inr q,rs⟩
  obtain⟨G,hq,rs⟩:=key
  cases(show u=Value.ref a from r)
  obtain⟨_,its,n,rv,_,e⟩:=I.QlZ hq
  obtain⟨as,ra⟩:=Rps.reads I (by simpa only[D.noX]using hx) rs rv
  exact⟨_,.list e rfl rfl (by simpa using ra)⟩
theorem Rps.reads(I:Inv X pins σ H s):∀{ds:List D}{vs:List V}{F:List Addr}{us:List Value},Qh6 ds=true->Rps X.K H ds vs F->Qw vs us->∃as,ReadsAll s.heap us (pys ds) as
 | [],vs,_,us,_,h,r=>by
  simp only[Rps]at h
  rw[h.1]at r
  cases r
  exact⟨_,.nil⟩
 | d::ds,vs,_,us,hx,h,r=>by
  simp only[Qh6,Zk]at hx
  simp only[Rps]at h
  obtain⟨v,ws,F1,F2,rfl,rfl,h1,h2⟩:=h
  cases r with
  | cons r rr=>
   obtain⟨as,ra⟩:=Rp.reads I hx.1 h1 r
   obtain⟨bs,rb⟩:=Rps.reads I hx.2 h2 rr
   exact⟨_,.cons ra rb⟩
end
end
noncomputable def gEq(a b:D):Option D:=if a.sim 8 && b.sim 8 then some (.bl (deq a b))else none
noncomputable def gNe(a b:D):Option D:=if a.sim 8 && b.sim 8 then some (.bl (!deq a b))else none
noncomputable def Qw4(K:PySem.W.Frag):R2:=λx y H Q=>∃a b F G,Rp K H a x F/\Rp K H b y G/\a.sim 8=true/\b.sim 8=true/\Q (.bl (deq a b)) H
noncomputable def Qxi(K:PySem.W.Frag):R2:=λx y H Q=>∃a b F G,Rp K H a x F/\Rp K H b y G/\a.sim 8=true/\b.sim 8=true/\Q (.bl (!deq a b)) H
section
variable {X:Cx}
theorem Qxw(hu:X.A.units+64<cLine):OpR X (compareOp .Eq) (Qw4 X.K):=by
 intro pins s σ H x y v u Q I rx ry h
 obtain⟨a,b,F,G,ha,hb,sa,sb,q⟩:=h
 obtain⟨as,ra⟩:=Rp.reads I (Qen 8 _ sa) ha rx
 obtain⟨bs,rb⟩:=Rp.reads I (Qen 8 _ sb) hb ry
 have h1:=Qdt 8 a sa
 have h2:=Qdt 8 b sb
 exact SeqAt.compareEq_reads ra rb h1.1 h2.1 (by have:=Nat.min_le_left a.py.depth b.py.depth;omega) ⟨.bl _,H,I,rfl,q⟩
theorem Qwq(hu:X.A.units+64<cLine):OpR X (compareOp .NotEq) (Qxi X.K):=by
 intro pins s σ H x y v u Q I rx ry h
 obtain⟨a,b,F,G,ha,hb,sa,sb,q⟩:=h
 obtain⟨as,ra⟩:=Rp.reads I (Qen 8 _ sa) ha rx
 obtain⟨bs,rb⟩:=Rp.reads I (Qen 8 _ sb) hb ry
 have h1:=Qdt 8 a sa
 have h2:=Qdt 8 b sb
 exact SeqAt.compareNe_reads ra rb h1.1 h2.1 (by have:=Nat.min_le_left a.py.depth b.py.depth;omega) ⟨.bl _,H,I,rfl,q⟩
theorem Qx4:Qbv K gEq (Qw4 K):=λa b d e=>by
 unfold gEq at e
 split at e
 ·rename_i h
  simp only[Zk]at h
  cases e
  exact⟨rfl,λH x y F G Q ha hb q=>⟨a,b,F,G,ha,hb,h.1,h.2,q _ λ_=> .QbC⟩⟩
 ·cases e
theorem Qye:Qbv K gNe (Qxi K):=λa b d e=>by
 unfold gNe at e
 split at e
 ·rename_i h
  simp only[Zk]at h
  cases e
  exact⟨rfl,λH x y F G Q ha hb q=>⟨a,b,F,G,ha,hb,h.1,h.2,q _ λ_=> .QbC⟩⟩
 ·cases e
noncomputable def D.QoI:D->Bool
 | .non=>true
 | _=>false
theorem Qoy(h:Rp K H d v F):decide (v= .non)=d.QoI:=by
 cases d with
 | non=>rw[h.Qep];rfl
 | bl b=>rw[h.Qb4];rfl
 | int b=>rw[h.int_inv];rfl
 | str b=>rw[h.str_inv];rfl
 | tup b=>obtain⟨a,vs,rfl,_⟩:=h.QaQ;rfl
 | lst b=>obtain⟨a,vs,G,rfl,_⟩:=h.lst_inv;rfl
 | exc b=>simp only[Rp]at h;obtain⟨⟨a,rfl,_⟩,_⟩:=h;rfl
 | dk b=>simp only[Rp]at h;obtain⟨a,rfl,_⟩:=h;rfl
noncomputable def D.tyN:D->String
 | .non=> "NoneType" | .bl _=> "bool" | .int _=> "int" | .str _=> "str" | .tup _=> "tuple" | .lst _=> "list" | .exc _=> "?" | .dk _=> "?"
noncomputable def D.isE:D->Bool
 | .exc _=>true
 | .dk _=>true
 | _=>false
noncomputable def D.isa(T:String)(d:D):Option Bool:=if(T == "int" || T == "bool" || T == "list" || T == "tuple" || T == "str") && !d.isE then some (d.tyN == T || (d.tyN == "bool" && T == "int"))else none
theorem Qxh(I:Inv X pins σ H s)(rp:Rp X.K H d v F)(rx:RelV v u)(e:d.isa T=some b)(h:∀tk,Q (.bool b) {s with toks:=tk}):
  wpAny (model X.prog X.w) A (call (.builtin "isinstance") [u,.type T]) Q E s:=by
 have kit:PySem.W.kitOne X.K (.type d.tyN) (.type T)=some b:=by
  unfold D.isa at e
  split at e
  ·rename_i hT
   cases e
   simp only[Zk,Zck,beq_iff_eq]at hT
   obtain⟨hT,hE⟩:=hT
   rcases hT with(((rfl | rfl) | rfl) | rfl) | rfl<;>cases d<;>first | rfl | (cases hE)
  ·cases e
 cases d with
 | exc x=>unfold D.isa at e;split at e;(rename_i hT;exfalso;simp only[Zk]at hT;exact nomatch hT.2);cases e
 | dk x=>unfold D.isa at e;split at e;(rename_i hT;exfalso;simp only[Zk]at hT;exact nomatch hT.2);cases e
 | non=>rw[rp.Qep]at rx;cases(show u=Value.none from rx);exact ZaY PySem.W.kitx_none I.kIn True.intro kit (λz=>nomatch z) h
 | bl y=>rw[rp.Qb4]at rx;cases(show u=Value.bool y from rx);exact ZaY PySem.W.kitx_bool I.kIn True.intro kit (λz=>nomatch z) h
 | int i=>rw[rp.int_inv]at rx;obtain⟨t,q⟩:=(show ∃t,u=Value.int i t from rx);cases q;exact ZaY PySem.W.kitx_int I.kIn True.intro kit (λz=>nomatch z) h
 | str y=>rw[rp.str_inv]at rx;obtain⟨t,q⟩:=(show ∃t,u=Value.str y t from rx);cases q;exact ZaY PySem.W.kitx_str I.kIn True.intro kit (λz=>nomatch z) h
 | tup ds=>
  obtain⟨a,vs,rfl,hq,_⟩:=rp.QaQ
  cases(show u=Value.ref a from rx)
  obtain⟨its,rv,⟨o,h1,h2,n,h3⟩,_⟩:=I.tuple hq
  exact ZaY PySem.W.kitx_tuple I.kIn ⟨o,h1,h2⟩ kit (λz=>nomatch z) h
 | lst ds=>
  obtain⟨a,vs,G,rfl,hq,_⟩:=rp.lst_inv
  cases(show u=Value.ref a from rx)
  obtain⟨_,its,n,rv,_,e1⟩:=I.QlZ hq
  exact ZaY PySem.W.kitx_list I.kIn ⟨_,e1,rfl⟩ kit (λz=>nomatch z) h
noncomputable def Qzk(K:PySem.W.Frag):List V->Hp->VK->Prop:=λxs H Q=>∃x T d F b,xs=[x,.ty T]/\Rp K H d x F/\d.isa T=some b/\Q (.bl b) H
theorem Qs2:Qa3 X (.builtin "isinstance") (Qzk X.K):=by
 intro pins s σ H xs us Q I r h
 obtain⟨x,T,d,F,b,rfl,rp,e,q⟩:=h
 obtain⟨u,w,rfl,ru,rw'⟩:=vals2 r
 cases(show w=Value.type T from rw')
 exact Qxh I rp ru e λtk=>⟨.bl b,H,I.tok _,rfl,q⟩
noncomputable def Qgy(T:String)(fa:DE):DE:=λρ=>(fa ρ).bind λr=>(r.d.isa T).map λb=>⟨.bl b,true,[]⟩
theorem QwC(hg:Gl X "isinstance")(hm:X.mg "isinstance" =none)(ha:SE X a fa)(hT:PE X (.Name x p2) (tC (.ty T)))
  (he:starEach [a,.Name x p2] X.env=(false,eval a X.env)::starEach [.Name x p2] X.env):SE X (.Call (.Name "isinstance" p) [a,.Name x p2] [] pos) (Qgy T fa):=λH0 A0=>
 (Qiw Qs2 hg hm PyProof.Rows.boot_isinstance (Qaf (ha H0 A0) (Qaf hT QbJ) he) (by decide) (by decide) he (by rfl)).mono λσ H Q=>exK λρ hs F r' rel e q=>by
  refine Qk e λr e1 e=>?_
  obtain⟨b,eb,e⟩:=Zf.mp e
  subst e
  exact⟨ρ,hs,F,r,rel,e1,λv H1 G p=>⟨v,T,r.d,G,b,rfl,p.rp,eb,q _ H1 [] (.flat p.same .QbC)⟩⟩
noncomputable def D.tru:D->Option Bool
 | .non=>some false
 | .bl b=>some b
 | .int i=>some (i != 0)
 | .lst xs=>some (!xs.isEmpty)
 | .tup xs=>some (!xs.isEmpty)
 | .str _=>none
 | .exc _=>none
 | .dk _=>none
theorem Qlj(h:Rp K H d v F)(e:d.tru=some b):Qr1 K v H b:=by
 have emp:∀{ds:List D}{vs:List V}{G:List Addr},Rps K H ds vs G->(!ds.isEmpty)= !vs.isEmpty:=λ{ds vs G} r=>by
  have:=r.length
  cases ds<;>cases vs<;>simp_all
 cases d with
 | non=>rw[h.Qep];cases e;exact rfl
 | bl c=>rw[h.Qb4];cases e;exact rfl
 | int i=>rw[h.int_inv];cases e;exact rfl
 | str i=>cases e
 | exc i=>cases e
 | dk i=>cases e
 | tup ds=>cases e;obtain⟨a,vs,rfl,hq,r⟩:=h.QaQ;exact .inr (.inl ⟨vs,hq,emp r⟩)
 | lst ds=>cases e;obtain⟨a,vs,G,rfl,hq,r,_⟩:=h.lst_inv;exact .inl ⟨vs,QX hq,emp r⟩
noncomputable def QZ(fa:DE):DT:=λρ=>(fa ρ).bind λr=>r.d.tru
noncomputable def QjX(f g:DT):DT:=λρ=>(f ρ).bind λb=>if b=true then g ρ else some false
noncomputable def bOr(f g:DT):DT:=λρ=>(f ρ).bind λb=>if b=true then some true else g ρ
noncomputable def Qd6(f:DT):DT:=λρ=>(f ρ).bind λb=>some (!b)
def SW(X:Cx)(e:Expr)(f:DT):Prop:=∀H0 A0,PW X e (tVT X.K H0 A0 f)
theorem _root_.L2.PW.mono(h:PW X e t)(m:∀σ H Q,t' σ H Q->t σ H Q):PW X e t':=λwh pins s σ H Q I q=>h wh pins s σ H Q I (m σ H Q q)
variable {a b e:Expr}{fa fb:DE}{ga gb gc:DT}{pos:Pos}{rest:List Expr}
theorem Qxe(ha:SE X a fa)(he:∀whole,isTrue a X.env whole=(do let v ← whole;standAt a.pos;holding [v] (truthy v))):ST X a (QZ fa):=λH0 A0=>
 (Qsy (ha H0 A0) he).mono λσ H Q=>exK λρ hs F b rel e q=>by
  refine Qk e λr e1 e=>?_
  exact⟨ρ,hs,F,r,rel,e1,λv H1 G p=>⟨b,Qlj p.rp e,q H1 p.same⟩⟩
theorem QxP(ho:OpR X (compareOp op) r)(hg:Qbv X.K g r)(hbl:∀a b d,g a b=some d->∃k,d= .bl k)(ha:SE X a fa)(hb:SE X b fb)(hm:behindInMarks op b=false):ST X (.Compare a [op] [b] pos) (QZ (dOp g fa fb)):=λH0 A0=>
 (Qve ho (ha H0 A0) (hb H0 A0) hm).mono λσ H Q=>exK λρ hs F k rel e q=>by
  refine Qk e λr' e0 e=>?_
  obtain⟨ra,rb,d,ea,eb,eg,rfl⟩:=Qj7 e0
  obtain⟨k',rfl⟩:=hbl _ _ _ eg
  cases e
  refine two rel ea eb λx y H1 H2 G1 G2 p1 p2=>(hg _ _ _ eg).2 H2 x y G1 G2 _ (p1.rp.same p2.same) p2.rp λv hv=>?_
  exact⟨_,(hv H2).Qb4,q H2 (p1.same.trans p2.same)⟩
theorem Qxs(ha:ST X a ga):ST X (.UnaryOp .Not a pos) (Qd6 ga):=λH0 A0=>
 (QvL (ha H0 A0)).mono λσ H Q=>exK λρ hs F b rel e q=>by
  refine Qk e λc e1 e=>?_
  cases e
  exact⟨ρ,hs,F,c,rel,e1,λH1 s1=>q H1 s1⟩
theorem Qu1(ha:ST X a ga):SW X (.BoolOp .And [a] pos) ga:=λH0 A0=>QvG (ha H0 A0)
theorem Qw1(ha:ST X a ga):SW X (.BoolOp .Or [a] pos) ga:=λH0 A0=>Qwo (ha H0 A0)
theorem Qv4(ha:ST X a ga)(hb:SW X (.BoolOp .And (b::rest) pos) gb):SW X (.BoolOp .And (a::b::rest) pos) (QjX ga gb):=λH0 A0=>
 (QwN (ha H0 A0) (hb H0 A0)).mono λσ H Q=>exK λρ hs F c rel e q=>by
  refine Qk e λd e1 e=>?_
  refine⟨ρ,hs,F,d,rel,e1,λH1 s1=>?_⟩
  cases d with
  | true=>exact⟨ρ,hs,F,c,rel.ext s1,e,λH2 s2=>q H2 (s1.trans s2)⟩
  | false=>cases e;exact q H1 s1
theorem Qx8(ha:ST X a ga)(hb:SW X (.BoolOp .Or (b::rest) pos) gb):SW X (.BoolOp .Or (a::b::rest) pos) (bOr ga gb):=λH0 A0=>
 (QxV (ha H0 A0) (hb H0 A0)).mono λσ H Q=>exK λρ hs F c rel e q=>by
  refine Qk e λd e1 e=>?_
  refine⟨ρ,hs,F,d,rel,e1,λH1 s1=>?_⟩
  cases d with
  | true=>cases e;exact q H1 s1
  | false=>exact⟨ρ,hs,F,c,rel.ext s1,e,λH2 s2=>q H2 (s1.trans s2)⟩
theorem SW.st(h:SW X e ga):ST X e ga:=λH0 A0=>(h H0 A0).pt
noncomputable def QvU(fa fb:DE):DE:=λρ=>(fa ρ).bind λra=>(ra.d.tru).bind λb=>if b=true then fb ρ else some ra
noncomputable def dOr(fa fb:DE):DE:=λρ=>(fa ρ).bind λra=>(ra.d.tru).bind λb=>if b=true then some ra else fb ρ
noncomputable def QwZ(fa:DE):DE:=λρ=>(fa ρ).bind λra=>(ra.d.tru).bind λb=>some ⟨.bl (!b),true,[]⟩
theorem Qqq{op}(h:SE X a fa):SE X (.BoolOp op [a] pos) fa:=λH0 A0=>Qxn (h H0 A0)
theorem Qaa.ext(s:QK H H1)(p:Qaa K ρ F H1 H2 r v G)(rel:Rel K H0 A0 hs ρ F σ H):Qaa K ρ F H H2 r v G where
 same:=s.trans p.same
 rp:=p.rp
 src:=λa ha=>(p.src a ha).elim (λz=> .inl (s.free z)) .inr
 cnt:=λh=>⟨λa=>Zx ((p.cnt h).1 a) (ZbI (by
  cases q:H1 a with
  | none=>rw[QaV q,QaV (s.free q)];exact Zh _
  | some o=>rw[QdD q];exact Zac _) _),(p.cnt h).2⟩
 own:=p.own
theorem Qwn(ha:SE X a fa)(hb:SE X (.BoolOp .And (b::rest) pos) fb):SE X (.BoolOp .And (a::b::rest) pos) (QvU fa fb):=λH0 A0=>by
 intro pins s σ H Q I ⟨ρ,hs,F,r,rel,e,q⟩
 refine Qk e λra e1 e=>?_
 refine Qk e λc e2 e=>?_
 refine PyProof.Rows.BoolOp_and (thn (ha H0 A0 pins s σ H _ I ⟨ρ,hs,F,ra,rel,e1,λv H' G p=>(⟨G,p⟩:∃G,Qaa X.K ρ F H H' ra v G)⟩) λv s1 hpt=>?_)
 obtain⟨x,H1,I1,r1,G,p⟩:=hpt
 refine thn (QiZ pins s1 σ H1 x v (λk H2=>k=c/\H2=H1) I1 r1 ⟨c,Qlj p.rp e2,rfl,rfl⟩) λk s2 hpt=>?_
 obtain⟨H2,I2,e3,e4⟩:=hpt
 subst e3 e4
 cases k with
 | true=>exact hb H0 A0 pins s2 σ _ Q I2 ⟨ρ,hs,F,r,rel.ext p.same,e,λw H3 G3 p3=>q w H3 G3 (p3.ext p.same rel)⟩
 | false=>cases e;exact⟨x,_,I2,r1,q x _ G p⟩
theorem QyA(ha:SE X a fa)(hb:SE X (.BoolOp .Or (b::rest) pos) fb):SE X (.BoolOp .Or (a::b::rest) pos) (dOr fa fb):=λH0 A0=>by
 intro pins s σ H Q I ⟨ρ,hs,F,r,rel,e,q⟩
 refine Qk e λra e1 e=>?_
 refine Qk e λc e2 e=>?_
 refine PyProof.Rows.BoolOp_or (thn (ha H0 A0 pins s σ H _ I ⟨ρ,hs,F,ra,rel,e1,λv H' G p=>(⟨G,p⟩:∃G,Qaa X.K ρ F H H' ra v G)⟩) λv s1 hpt=>?_)
 obtain⟨x,H1,I1,r1,G,p⟩:=hpt
 refine thn (QiZ pins s1 σ H1 x v (λk H2=>k=c/\H2=H1) I1 r1 ⟨c,Qlj p.rp e2,rfl,rfl⟩) λk s2 hpt=>?_
 obtain⟨H2,I2,e3,e4⟩:=hpt
 subst e3 e4
 cases k with
 | false=>exact hb H0 A0 pins s2 σ _ Q I2 ⟨ρ,hs,F,r,rel.ext p.same,e,λw H3 G3 p3=>q w H3 G3 (p3.ext p.same rel)⟩
 | true=>cases e;exact⟨x,_,I2,r1,q x _ G p⟩
theorem QwS(ha:SE X a fa):SE X (.UnaryOp .Not a pos) (QwZ fa):=λH0 A0=>by
 intro pins s σ H Q I ⟨ρ,hs,F,r,rel,e,q⟩
 refine Qk e λra e1 e=>?_
 refine Qk e λc e2 e=>?_
 cases e
 refine PyProof.Rows.UnaryOp_ (thn (ha H0 A0 pins s σ H _ I ⟨ρ,hs,F,ra,rel,e1,λv H' G p=>(⟨G,p⟩:∃G,Qaa X.K ρ F H H' ra v G)⟩) λv s1 hpt=>?_)
 obtain⟨x,H1,I1,r1,G,p⟩:=hpt
 refine PyProof.Rows.not_of (thn (QiZ pins s1 σ H1 x v (λk H2=>k=c/\H2=H1) I1 r1 ⟨c,Qlj p.rp e2,rfl,rfl⟩) λk s2 hpt=>?_)
 obtain⟨H2,I2,e3,e4⟩:=hpt
 subst e3 e4
 exact⟨.bl (!k),_,I2,rfl,q _ _ [] (.flat p.same .QbC)⟩
noncomputable def Qh5(fa:DE):DE:=λρ=>(fa ρ).bind λra=>match ra.d with
 | .int i=>some ⟨.int (-i),true,[]⟩
 | _=>none
theorem QxN(ha:SE X a fa):SE X (.UnaryOp .USub a pos) (Qh5 fa):=λH0 A0=>
 (Qx6 QxJ (ha H0 A0)).mono λσ H Q=>exK λρ hs F r rel e q=>by
  refine Qk e λra e1 e=>?_
  refine⟨ρ,hs,F,ra,rel,e1,λv H1 G p=>?_⟩
  have rp:=p.rp
  cases hr:ra.d with
  | int i=>
   rw[hr]at e rp
   cases e
   exact⟨i,rp.int_inv,q _ H1 [] (.flat p.same .int_mk)⟩
  | _=>rw[hr]at e;cases e
end
end HS
namespace HS
open PySem PySem.Spec L2
section
def Qcw(ρ ρ':En):Prop:=ρ'.length=ρ.length/\∀(i:Nat) d b,ρ'[i]? =some (some (d,b))->∃b',ρ[i]? =some (some (d,b'))/\(b=true->b'=true)
theorem Qcw.refl:Qcw ρ ρ:=⟨rfl,λi d b h=>⟨b,h,id⟩⟩
theorem Qcw.trans(a:Qcw ρ ρ')(b:Qcw ρ' ρ''):Qcw ρ ρ'':=⟨b.1.trans a.1,λi d c h=>by
 obtain⟨c',h1,h2⟩:=b.2 i d c h
 obtain⟨c'',h3,h4⟩:=a.2 i d c' h1
 exact⟨c'',h3,λz=>h4 (h2 z)⟩⟩
theorem Rel.weak(r:Rel K H0 A0 hs ρ F σ H)(w:Qcw ρ ρ'):Rel K H0 A0 hs ρ' F σ H where
 len:=w.1.trans r.len
 val:=λi d b e=>let ⟨b',h,_⟩:=w.2 i d b e;r.val i d b' h
 own:=λi d e=>by
  obtain⟨b',h,hb⟩:=w.2 i d true e
  have:b'=true:=hb rfl
  subst this
  obtain⟨h1,h2,h3,h4,h5⟩:=r.own i d h
  exact⟨h1,h2,h3,λj d' b' hj e'=>let ⟨b'',h',_⟩:=w.2 j d' b' e';h4 j d' b'' hj h',h5⟩
 src:=λi d b e=>let ⟨b',h,_⟩:=w.2 i d b e;r.src i d b' h
 held:=r.held
 same:=r.same
noncomputable def kill:List Nat->En->En
 | [],ρ=>ρ
 | i::M,ρ=>kill M (ρ.set i none)
noncomputable def Qa9:List Nat->En->En
 | [],ρ=>ρ
 | i::M,ρ=>Qa9 M (match ρ[i]? with
  | some (some (d,_))=>ρ.set i (some (d,false))
  | _=>ρ)
theorem Qqd(i:Nat):Qcw ρ (ρ.set i none):=⟨by simp,λj d b h=>by
 by_cases hj:i=j
 ·subst hj
  by_cases hl:i<ρ.length
  ·rw[Zy hl]at h;cases h
  ·rw[Zz (by simp;omega)]at h;cases h
 ·rw[Zm hj]at h
  exact⟨b,h,id⟩⟩
theorem Qcq:∀(M:List Nat) (ρ:En),Qcw ρ (kill M ρ)
 | [],ρ=> .refl
 | i::M,ρ=>(Qqd i).trans (Qcq M _)
theorem Qgw:∀(M:List Nat) (ρ:En) (i:Nat) (d:D) (b:Bool),i∈M->(kill M ρ)[i]? =some (some (d,b))->False
 | [],ρ,i,d,b,h,_=>by simp at h
 | j::M,ρ,i,d,b,h,e=>by
  rcases Zq.mp h with rfl | h
  ·obtain⟨b',e',_⟩:=(Qcq M (ρ.set i none)).2 i d b e
   by_cases hl:i<ρ.length
   ·rw[Zy hl]at e';cases e'
   ·rw[Zz (by simp;omega)]at e';cases e'
  ·exact Qgw M _ i d b h e
theorem Qrv(i:Nat):Qcw ρ (match ρ[i]? with
  | some (some (d,_))=>ρ.set i (some (d,false))
  | _=>ρ):=by
 split
 ·rename_i d b e
  refine⟨by simp,λj d' b' h=>?_⟩
  by_cases hj:i=j
  ·subst hj
   have hl:i<ρ.length:=(Zd.mp e).1
   rw[Zy hl]at h
   cases h
   exact⟨b,e,λz=>by cases z⟩
  ·rw[Zm hj]at h
   exact⟨b',h,id⟩
 ·exact .refl
theorem Qbx:∀(M:List Nat) (ρ:En),Qcw ρ (Qa9 M ρ)
 | [],ρ=> .refl
 | i::M,ρ=>(Qrv i).trans (Qbx M _)
theorem Qjh:∀(M:List Nat) (ρ:En) (i:Nat) (d:D),i∈M->(Qa9 M ρ)[i]? =some (some (d,true))->False
 | [],ρ,i,d,h,_=>by simp at h
 | j::M,ρ,i,d,h,e=>by
  rcases Zq.mp h with rfl | h
  ·obtain⟨b',e',hb⟩:=(Qbx M _).2 i d true e
   have:b'=true:=hb rfl
   subst this
   split at e'
   ·rename_i d' b e1
    have hl:i<ρ.length:=(Zd.mp e1).1
    rw[Zy hl]at e'
    cases e'
   ·rename_i h1
    exact h1 d true e'
  ·exact Qjh M _ i d h e
def Shr(H0:Hp)(A0:List Addr)(ρ:En)(F:Nat->List Addr)(G:List Addr):Prop:=
 ∀a∈G,(H0 a=none∨a∈A0)/\∀(i:Nat) d,ρ[i]? =some (some (d,true))->a∉F i
theorem Shr.of(r:Rel K H0 A0 hs ρ F σ H)(s:Src ρ F H M G):Shr H0 A0 (Qa9 M ρ) F G:=λa ha=>by
 have w:=Qbx M ρ
 rcases s a ha with h | ⟨i,d,b,e,m,hm⟩
 ·refine⟨.inl (r.same.free h),λj d' e' hj=>?_⟩
  obtain⟨b',e2,_⟩:=w.2 j d' true e'
  obtain⟨vs,q⟩:=r.mem e2 hj
  rw[h]at q;cases q
 ·refine⟨r.src i d b e a m,λj d' e' hj=>?_⟩
  obtain⟨b',e2,hb⟩:=w.2 j d' true e'
  have:b'=true:=hb rfl
  subst this
  by_cases hij:i=j
  ·subst hij
   rw[e]at e2
   cases e2
   exact Qjh M ρ i _ (hm rfl) e'
  ·exact(r.own j d' e2).2.2.2.1 i d b hij e a hj m
theorem Rel.QoB(r:Rel K H0 A0 hs ρ F σ H)(rp:Rp K H d v G)(sh:Shr H0 A0 ρ F G):
  Rel K H0 A0 hs (ρ.set i (some (d,d.flat))) (λj=>if j=i then G else F j) (σ.set i (some v)) H where
 len:=by simp[r.len]
 val:=λj d' b e=>by
  by_cases hj:j=i
  ·subst hj
   have hl:j<ρ.length:=by
    by_cases hl:j<ρ.length
    ·exact hl
    ·rw[Zz (by simp;omega)]at e;cases e
   rw[Zy hl]at e
   cases e
   exact⟨v,by rw[Zy (by rw[← r.len];exact hl)],by rw[if_pos rfl];exact rp⟩
  ·rw[Zm (Ne.symm hj)]at e
   obtain⟨w,h1,h2⟩:=r.val j d' b e
   exact⟨w,by rw[Zm (Ne.symm hj)];exact h1,by rw[if_neg hj];exact h2⟩
 own:=λj d' e=>by
  by_cases hj:j=i
  ·subst hj
   have hl:j<ρ.length:=by
    by_cases hl:j<ρ.length
    ·exact hl
    ·rw[Zz (by simp;omega)]at e;cases e
   rw[Zy hl]at e
   have e1:=Option.some.inj (Option.some.inj e)
   have ed:d=d':=congrArg Prod.fst e1
   have ef:d.flat=true:=congrArg Prod.snd e1
   subst ed
   have:=rp.Qbj ef
   subst this
   rw[if_pos rfl]
   exact⟨(Qc0 d ef).symm,ZaE,λa ha=>by simp at ha,λ_ _ _ _ _ a ha=>by simp at ha,λ_ _ a ha=>by simp at ha⟩
  ·rw[Zm (Ne.symm hj)]at e
   obtain⟨h1,h2,h3,h4,h5⟩:=r.own j d' e
   rw[if_neg hj]
   refine⟨h1,h2,h3,λk d'' b hk ek a ha=>?_,h5⟩
   by_cases hki:k=i
   ·subst hki
    rw[if_pos rfl]
    exact λhG=>(sh a hG).2 j d' e ha
   ·rw[Zm (Ne.symm hki)]at ek
    rw[if_neg hki]
    exact h4 k d'' b hk ek a ha
 src:=λj d' b e a ha=>by
  by_cases hj:j=i
  ·subst hj
   rw[if_pos rfl]at ha
   exact(sh a ha).1
  ·rw[Zm (Ne.symm hj)]at e
   rw[if_neg hj]at ha
   exact r.src j d' b e a ha
 held:=r.held
 same:=r.same
theorem Qx7(r:Rel K H0 A0 hs ρ F σ H)(ow:Qa4 ρ M)(nd:M.Nodup)(a:Addr):((M.map F).flatten).count a<=1:=by
 induction M with
 | nil=>simp
 | cons i M ih=>
  rw[Zj,Zan,Zao]
  obtain⟨h1,h2⟩:=Zah.mp nd
  have ih':=ih (λj hj=>ow j (Zc _ hj)) h2
  obtain⟨d,e⟩:=ow i Zi
  obtain⟨_,nd1,_,apart,_⟩:=r.own i d e
  by_cases ha:a∈F i
  ·have c1:(F i).count a<=1:=ZaF.mp nd1 a
   have c2:((M.map F).flatten).count a=0:=Zab.mpr λhm=>by
    obtain⟨l,hl,hal⟩:=ZbD.mp hm
    obtain⟨j,hj,rfl⟩:=ZN.mp hl
    obtain⟨d',e'⟩:=ow j (Zc _ hj)
    exact apart j d' true (λz=>h1 (z▸hj)) e' a ha hal
   omega
  ·have:(F i).count a=0:=Zab.mpr ha
   omega
theorem Qaa.fresh(r:Rel K H0 A0 hs ρ F σ H)(p:Qaa K ρ F H H' rr v G)(hf:rr.fr=true)(nd:rr.M.Nodup):
  G.Nodup/\∀a∈G,H0 a=none/\(H a=none∨∃i d,i∈rr.M/\ρ[i]? =some (some (d,true))/\a∈F i):=by
 obtain⟨c,_⟩:=p.cnt hf
 refine⟨ZaF.mpr λa=>?_,λa ha=>?_⟩
 ·have h1:=c a
  have h2:=Qx7 r p.own nd a
  cases q:H a with
  | none=>rw[QaV q,r.fl0 p.own q]at h1;omega
  | some o=>rw[QdD q]at h1;omega
 ·cases q:H a with
  | none=>exact⟨r.same.free q,.inl rfl⟩
  | some o=>
   have h1:=c a
   rw[QdD q]at h1
   have h2:0<G.count a:=ZaD.mpr ha
   obtain⟨l,hl,hal⟩:=ZbD.mp (ZaD.mp (by omega:0<((rr.M.map F).flatten).count a))
   obtain⟨i,hi,rfl⟩:=ZN.mp hl
   obtain⟨d,e⟩:=p.own i hi
   exact⟨(r.own i d e).2.2.1 a hal,.inr ⟨i,d,hi,e,hal⟩⟩
theorem Rel.QxL(r:Rel K H0 A0 hs ρ F σ H)(p:Qaa K ρ F H H' rr v G)(hf:rr.fr=true)(nd:rr.M.Nodup):
  Rel K H0 A0 hs ((kill rr.M ρ).set i (some (rr.d,true))) (λj=>if j=i then G else F j) (σ.set i (some v)) H':=by
 have r1:=(r.ext p.same).weak (Qcq rr.M ρ)
 obtain⟨gn,gs⟩:=p.fresh r hf nd
 have gl:=(p.cnt hf).2
 have apart:∀(j:Nat) d b,(kill rr.M ρ)[j]? =some (some (d,b))->∀a∈G,a∉F j:=λj d b e a ha hj=>by
  obtain⟨b',e',_⟩:=(Qcq rr.M ρ).2 j d b e
  rcases(gs a ha).2 with q | ⟨k,d',hk,ek,hak⟩
  ·obtain⟨vs,w⟩:=r.mem e' hj
   rw[q]at w;cases w
  ·have hjk:j≠k:=λz=>by subst z;exact Qgw rr.M ρ j d b hk e
   exact(r.own k d' ek).2.2.2.1 j d b' hjk e' a hak hj
 have apartH:∀t∈hs,∀a∈G,a∉t.2.2:=λt ht a ha hj=>by
  rcases(gs a ha).2 with q | ⟨k,d',hk,ek,hak⟩
  ·obtain⟨vs,w⟩:=(r.held t ht).1.mem a hj
   rw[q]at w;cases w
  ·exact(r.own k d' ek).2.2.2.2 t ht a hak hj
 have lt:∀{j:Nat}{x:Option (D×Bool)}{y:D×Bool},((kill rr.M ρ).set j x)[j]? =some (some y)->j<(kill rr.M ρ).length:=λ{j x y} e=>by
  by_cases hl:j<(kill rr.M ρ).length
  ·exact hl
  ·rw[Zz (by simp;omega)]at e;cases e
 refine⟨by simp[r1.len],λj d b e=>?_,λj d e=>?_,λj d b e a ha=>?_,r1.held,r1.same⟩
 ·by_cases hj:j=i
  ·subst hj
   have hl:=lt e
   rw[Zy hl]at e
   cases e
   exact⟨v,by rw[Zy (by rw[← r1.len];exact hl)],by rw[if_pos rfl];exact p.rp⟩
  ·rw[Zm (Ne.symm hj)]at e
   obtain⟨w,h1,h2⟩:=r1.val j d b e
   exact⟨w,by rw[Zm (Ne.symm hj)];exact h1,by rw[if_neg hj];exact h2⟩
 ·by_cases hj:j=i
  ·subst hj
   have hl:=lt e
   rw[Zy hl]at e
   cases e
   rw[if_pos rfl]
   refine⟨gl,gn,λa ha=>(gs a ha).1,λk d' b hk ek a ha=>?_,apartH⟩
   rw[Zm (Ne.symm hk)]at ek
   rw[if_neg hk]
   exact apart k d' b ek a ha
  ·rw[Zm (Ne.symm hj)]at e
   obtain⟨h1,h2,h3,h4,h5⟩:=r1.own j d e
   rw[if_neg hj]
   refine⟨h1,h2,h3,λk d' b hk ek a ha=>?_,h5⟩
   by_cases hki:k=i
   ·subst hki
    rw[if_pos rfl]
    exact λhG=>apart j d true e a hG ha
   ·rw[Zm (Ne.symm hki)]at ek
    rw[if_neg hki]
    exact h4 k d' b hk ek a ha
 ·by_cases hj:j=i
  ·subst hj
   rw[if_pos rfl]at ha
   exact .inl (gs a ha).1
  ·rw[Zm (Ne.symm hj)]at e
   rw[if_neg hj]at ha
   exact r1.src j d b e a ha
noncomputable def asg(i:Nat)(r:R)(ρ:En):En:=
 if r.norm.fr && decide r.norm.M.Nodup then(kill r.norm.M ρ).set i (some (r.d,true))else(Qa9 r.norm.M ρ).set i (some (r.d,r.d.flat))
theorem Rel.asg(r:Rel K H0 A0 hs ρ F σ H)(p:Qaa K ρ F H H' rr v G):∃F',Rel K H0 A0 hs (asg i rr ρ) F' (σ.set i (some v)) H':=by
 have p':=p.norm
 unfold HS.asg
 split
 ·rename_i h
  simp only[Zk,decide_eq_true_eq]at h
  have:=r.QxL (i:=i) p' h.1 h.2
  rw[rr.Qc3]at this
  exact⟨_,this⟩
 ·have r1:=(r.ext p'.same).weak (Qbx rr.norm.M ρ)
  have rp:=p'.rp
  rw[rr.Qc3]at rp
  have sh:=Shr.of r p'.src
  exact⟨_,r1.QoB rp sh⟩
theorem Rel.hold(r:Rel K H0 A0 hs ρ F σ H)(h:∀t∈ts,Rp K H t.2.1 t.1 t.2.2/\Shr H0 A0 ρ F t.2.2):Rel K H0 A0 (ts++hs) ρ F σ H where
 len:=r.len
 val:=r.val
 own:=λi d e=>by
  obtain⟨h1,h2,h3,h4,h5⟩:=r.own i d e
  refine⟨h1,h2,h3,h4,λt ht a ha hm=>?_⟩
  rcases ZG.mp ht with z | z
  ·exact((h t z).2 a hm).2 i d e ha
  ·exact h5 t z a ha hm
 src:=r.src
 held:=λt ht=>by
  rcases ZG.mp ht with z | z
  ·exact⟨(h t z).1,λa ha=>((h t z).2 a ha).1⟩
  ·exact r.held t z
 same:=r.same
theorem Rel.QpI(r:Rel K H0 A0 (ts++hs) ρ F σ H):Rel K H0 A0 hs ρ F σ H where
 len:=r.len
 val:=r.val
 own:=λi d e=>let ⟨h1,h2,h3,h4,h5⟩:=r.own i d e;⟨h1,h2,h3,h4,λt ht=>h5 t (Ze _ ht)⟩
 src:=r.src
 held:=λt ht=>r.held t (Ze _ ht)
 same:=r.same
end
structure Ret (K:PySem.W.Frag) (H0:Hp) (A0:List Addr) (d:D) (fr:Bool) (v:V) (H':Hp) (G:List Addr):Prop where
 same:QK H0 H'
 rp:Rp K H' d v G
 src:∀a∈G,H0 a=none∨a∈A0
 cnt:fr=true->G.Nodup/\G.length=d.nl/\∀a∈G,H0 a=none
noncomputable abbrev Den:=List D->Option (D×Bool)
noncomputable def spV(K:PySem.W.Frag)(n:Nat)(den:Den):Sp:=λvs H Q _=>∃ds F d fr,Rps K H ds vs F/\ds.length=n/\den ds=some (d,fr)/\∀v H' G,Ret K H F d fr v H' G->Q v H'
theorem QtT{K:PySem.W.Frag}{n:Nat}{den:Den}{ps:List Str}(hn:ps.length=n):∀vs H Q E,spV K n den vs H Q E->vs.length=ps.length:=λvs H Q E ⟨ds,F,d,fr,r,hl,_⟩=>by rw[hn,← hl,r.length]
noncomputable def Qz(n:Nat)(den:Den)(dfl:List D)(fs:DA):DE:=λρ=>(fs ρ).bind λr=>if r.ds.length+dfl.length=n then(den (r.ds++dfl)).map λq=>if q.2=true then⟨q.1,true,[]⟩else R.norm ⟨q.1,false,r.M⟩else none
section
variable {X:Cx}{e:Expr}{es:List Expr}{fs:DA}{pos p:Pos}{x:Str}{n k:Nat}{f:Addr}{fd:FuncData}{ps:List Str}{den:Den}{dfl:List D}{dvs:List V}{ds:List Value}
theorem QkL{σ:L2.St}{H H0:Hp}{A0:List Addr}{Q:VK}(hdf:∀H,Rps X.K H dfl dvs []):tV X.K H0 A0 (Qz n den dfl fs) σ H Q->QoK (spV X.K n den) dvs E0 (tVA X.K H0 A0 fs) σ H Q:=exK λρ hs F r rel e q=>by
 refine Qk e λra e1 e=>?_
 split at e
 ·rename_i hl
  obtain⟨⟨d,fr⟩,e2,e⟩:=Zf.mp e
  refine⟨ρ,hs,F,ra,rel,e1,λvs H1 G p1=>⟨ra.ds++dfl,G++[],d,fr,p1.rp.append (hdf H1),by rw[Zu];exact hl,e2,λv H2 G2 rt=>?_⟩⟩
  subst e
  have src:Src ρ F H ra.M G2:=λa ha=>by
   rcases rt.src a ha with z | z
   ·exact .inl (p1.same.free z)
   ·rw[Zay]at z
    exact p1.src a z
  split at q
  ·rename_i hf
   have hf:fr=true:=hf
   obtain⟨nd,hn,fresh⟩:=rt.cnt hf
   have hH:∀a∈G2,H a=none:=λa ha=>p1.same.free (fresh a ha)
   refine q v H2 G2 ⟨p1.same.trans rt.same,rt.rp,λa ha=> .inl (hH a ha),λ_=>⟨λa=>?_,hn⟩,Qa4.nil⟩
   by_cases ha:a∈G2
   ·rw[QaV (hH a ha)];have:=ZaF.mp nd a;omega
   ·rw[Zab.mpr ha];exact Zac _
  ·refine q v H2 G2 (Qaa.norm ⟨p1.same.trans rt.same,rt.rp,src,λz=>(by cases z),p1.own⟩)
 ·cases e
theorem Qud(Fk:QbV X.prog X.w X.K X.mg X.base CX0 k f fd ps (spV X.K n den))(hr:QaI k X.A)(hg:Gl X x)(hm:X.mg x=some (.ref f))(hk:PySem.W.keepIn X.K (.ref f)=true)(hb:Binds X.K fd ps ds)(hd:Qw dvs ds)(hdf:∀H,Rps X.K H dfl dvs [])
  (ha:SA X (e::es) fs) (hdb:(x == ("__debug__" :Str))=false) (he:starEach (e::es) X.env=(false,eval e X.env)::starEach es X.env) (hpl:(backTo pos (starEach es X.env)).any (·.1)=false):
  SE X (.Call (.Name x p) (e::es) [] pos) (Qz n den dfl fs):=λH0 A0=>
 (Qvr Fk hr hg hm hk hb hd QtI (ha H0 A0) hdb he hpl).mono λσ H Q h=>QkL hdf h
theorem QrS(Fk:QbV X.prog X.w X.K X.mg X.base CX0 k f fd ps (spV X.K n den))(hr:QaI k X.A)(hg:Gl X x)(hm:X.mg x=some (.ref f))(hk:PySem.W.keepIn X.K (.ref f)=true)(hb:Binds X.K fd ps ds)(hd:Qw dvs ds)(hdf:∀H,Rps X.K H dfl dvs [])
  (hdb:(x == ("__debug__" :Str))=false):SE X (.Call (.Name x p) [] [] pos) (Qz n den dfl Qh):=λH0 A0=>
 (Qs6 Fk hr hg hm hk hb hd QtI hdb).mono λσ H Q h=>by
  have h':=QkL hdf h
  obtain⟨ρ,hs,F,r,rel,e,q⟩:=h'
  cases e
  exact q [] H [] ⟨QK.refl _,by simp[Rps],Src.nil,λ_=>⟨Cnt.nil,rfl⟩,Qa4.nil⟩
end
structure IR where
 items:List D
 M:List Nat
noncomputable abbrev DI:=En->Option IR
def QjP(K:PySem.W.Frag)(H:Hp)(ts:List (V×D×List Addr)):Prop:=∀t∈ts,Rp K H t.2.1 t.1 t.2.2
structure Walk (K:PySem.W.Frag) (J:It) (ts:List (V×D×List Addr)) (ds:List D):Prop where
 stop:∀H,QjP K H ts->J.stop ds.length H
 go:∀i H,i<ds.length->QjP K H ts->J.go i H
 yld:∀(i:Nat) d H x H',ds[i]? =some d->QjP K H ts->J.yld i H x H'->QK H H'/\∃G,Rp K H' d x G/\∀a∈G,∃t∈ts,a∈t.2.2
noncomputable def tI(K:PySem.W.Frag)(H0:Hp)(A0:List Addr)(f:DI):TI:=λσ H Rr=>∃ρ hs F ir,Rel K H0 A0 hs ρ F σ H/\f ρ=some ir∧
 ∀J H1 ts,QK H H1->Walk K J ts ir.items->(∀t∈ts,Rp K H1 t.2.1 t.1 t.2.2/\Src ρ F H ir.M t.2.2)->Qa4 ρ ir.M->ir.items.length<=sizeLine->Rr J H1
def SI(X:Cx)(tg e:Expr)(f:DI):Prop:=∀H0 A0,PI X tg e (tI X.K H0 A0 f)
theorem _root_.L2.PI.mono(h:PI X tg e t)(m:∀σ H Q,t' σ H Q->t σ H Q):PI X tg e t':=λpins s σ H Q I q=>h pins s σ H Q I (m σ H Q q)
section
variable {X:Cx}{tg a b:Expr}{fa fb:DE}{fs:DA}{pos p:Pos}
theorem Rps.nth{K:PySem.W.Frag}{H:Hp}{ds:List D}{vs:List V}{F:List Addr}{i:Nat}{d:D}(h:Rps K H ds vs F)(e:ds[i]? =some d):∃v G,vs[i]? =some v/\Rp K H d v G/\∀a∈G,a∈F:=by
 obtain⟨v,F1,G,F2,h1,h2,h3,_⟩:=h.get e
 exact⟨v,G,h1,h3,λa ha=>by rw[h2];exact Ze _ (Zn _ ha)⟩
noncomputable def Qzh(K:PySem.W.Frag)(tl:TE):TI:=λσ H Rr=>tl σ H λx H1=>(∃a,x= .ref a/\(∃xs,SqL K H1 a xs)/\Rr (Itl K a) H1)∨(∃a,x= .ref a/\(∃xs,SqT K H1 a xs)/\Rr (Itt K a) H1)
theorem Qxk(hl:PE X l tl):PI X tg l (Qzh X.K tl):=by
 intro pins s σ H Rr I h
 refine thn (hl pins s σ H _ I h) λv s1=>exJ λx H1 I1 r1 q1=>?_
 rcases q1 with⟨a,e,⟨xs,hq⟩,q⟩ | ⟨a,e,⟨xs,hq⟩,q⟩
 ·subst e
  cases r1
  obtain⟨its,rv,pl,hz⟩:=I1.list hq
  refine wpAny_pyIter_list pl.isList ⟨s1.heap.objs.size,[s1.heap.objs.size],_,_,H1,rfl,I1.kept (t':=s1.toks) λb o e=>Zb _ e,QpW a _,⟨_,Zo _ rfl,rfl,rfl⟩,λb hb=>?_,q⟩
  have e:b=s1.heap.objs.size:=by simpa using hb
  subst e
  exact I1.Qh2 (Zh _) (I1.hok.fresh (Zh _))
 ·subst e
  cases r1
  obtain⟨its,rv,pl,hz⟩:=I1.tuple hq
  refine wpAny_pyIter_tuple (show s1.heap.IsTuple a its.toArray from pl) ⟨s1.heap.objs.size,[s1.heap.objs.size],_,_,H1,rfl,I1.kept (t':=s1.toks) λb o e=>Zb _ e,Qoz a _,⟨_,Zo _ rfl,rfl,rfl⟩,λb hb=>?_,q⟩
  have e:b=s1.heap.objs.size:=by simpa using hb
  subst e
  exact I1.Qh2 (Zh _) (I1.hok.fresh (Zh _))
noncomputable def Qav(fa:DE):DI:=λρ=>(fa ρ).bind λr=>match r.d with
 | .lst xs=>some ⟨xs,r.M⟩
 | .tup xs=>if xs.length<=sizeLine then some ⟨xs,r.M⟩else none
 | _=>none
theorem Qrp{K:PySem.W.Frag}{c:Addr}{ds:List D}{G:List Addr}:Walk K (Itl K c) [(.ref c,.lst ds,G)] ds where
 stop:=λH h=>by
  obtain⟨l,vs,L,e,hl,rl,zl,el⟩:=(h _ (Zv.mpr rfl)).lst_inv
  cases e
  exact⟨vs,QX hl,by rw[rl.length];exact Zh _⟩
 go:=λi H hi h=>by
  obtain⟨l,vs,L,e,hl,rl,zl,el⟩:=(h _ (Zv.mpr rfl)).lst_inv
  cases e
  have:i<vs.length:=by rw[← rl.length];exact hi
  exact⟨vs,vs[i],QX hl,by simp[this]⟩
 yld:=λi d H x H' e h y=>by
  obtain⟨l,vs,L,e1,hl,rl,zl,el⟩:=(h _ (Zv.mpr rfl)).lst_inv
  cases e1
  obtain⟨rfl,y⟩:=y
  obtain⟨v,G',h1,h2,h3⟩:=rl.nth e
  have:=y vs (QX hl)
  rw[h1]at this
  cases this
  refine⟨QK.refl _,G',h2,λz hz=>⟨_,Zv.mpr rfl,?_⟩⟩
  have:=h3 z hz
  rcases el with rfl | rfl
  ·exact Zc _ this
  ·exact this
theorem QsY{K:PySem.W.Frag}{c:Addr}{ds:List D}{G:List Addr}:Walk K (Itt K c) [(.ref c,.tup ds,G)] ds where
 stop:=λH h=>by
  obtain⟨l,vs,e,hl,rl⟩:=(h _ (Zv.mpr rfl)).QaQ
  cases e
  exact⟨vs,hl,by rw[rl.length];exact Zh _⟩
 go:=λi H hi h=>by
  obtain⟨l,vs,e,hl,rl⟩:=(h _ (Zv.mpr rfl)).QaQ
  cases e
  have:i<vs.length:=by rw[← rl.length];exact hi
  exact⟨vs,vs[i],hl,by simp[this]⟩
 yld:=λi d H x H' e h y=>by
  obtain⟨l,vs,e1,hl,rl⟩:=(h _ (Zv.mpr rfl)).QaQ
  cases e1
  obtain⟨rfl,y⟩:=y
  obtain⟨v,G',h1,h2,h3⟩:=rl.nth e
  have:=y vs hl
  rw[h1]at this
  cases this
  exact⟨QK.refl _,G',h2,λz hz=>⟨_,Zv.mpr rfl,h3 z hz⟩⟩
theorem QxE(ha:SE X a fa):SI X tg a (Qav fa):=λH0 A0=>(Qxk (ha H0 A0)).mono λσ H Rr=>exK λρ hs F ir rel e q=>by
 refine Qk e λr e1 e=>?_
 refine⟨ρ,hs,F,r,rel,e1,λv H1 G p=>?_⟩
 have rp:=p.rp
 cases hr:r.d with
 | lst xs=>
  rw[hr]at e rp
  cases e
  obtain⟨c,vs,L,rfl,hl,rl,zl,el⟩:=rp.lst_inv
  refine .inl ⟨c,rfl,⟨vs,QX hl⟩,q _ H1 [(.ref c,.lst xs,G)] p.same Qrp (λt ht=>?_) p.own zl⟩
  rw[Zv.mp ht]
  exact⟨rp,p.src⟩
 | tup xs=>
  rw[hr]at e rp
  dsimp only at e
  split at e
  ·rename_i hz
   cases e
   obtain⟨c,vs,rfl,hl,rl⟩:=rp.QaQ
   refine .inr ⟨c,rfl,⟨vs,hl⟩,q _ H1 [(.ref c,.tup xs,G)] p.same QsY (λt ht=>?_) p.own hz⟩
   rw[Zv.mp ht]
   exact⟨rp,p.src⟩
  ·cases e
 | _=>rw[hr]at e;cases e
noncomputable def Qgo(lo:Int)(n:Nat):List D:=(List.range n).map λ(k:Nat)=> .int (lo+(k:Int))
theorem QfC:(Qgo lo n).length=n:=by simp[Qgo]
theorem Qsr(h:(Qgo lo n)[i]? =some d):i<n/\d= .int (lo+i):=by
 unfold Qgo at h
 rw[Zp]at h
 cases q:(List.range n)[i]? with
 | none=>rw[q]at h;cases h
 | some k=>
  rw[q]at h
  obtain⟨h1,h2⟩:=Zd.mp q
  simp at h1 h2
  subst h2
  exact⟨h1,(Option.some.inj h).symm⟩
theorem QiH:Walk K (Itr lo n) [] (Qgo lo n) where
 stop:=λH _=>by rw[QfC];exact Zh _
 go:=λi H hi _=>by rw[QfC]at hi;exact hi
 yld:=λi d H x H' e _ y=>by
  obtain⟨h1,rfl⟩:=Qsr e
  obtain⟨rfl,rfl⟩:=y
  exact⟨QK.refl _,[],.int_mk,λz hz=>by simp at hz⟩
noncomputable def Qbk(fa:DE):DI:=λρ=>(fa ρ).bind λr=>match r.d with
 | .int j=>if j<=16777216/\ -(2^62)<=j then some ⟨Qgo 0 j.toNat,[]⟩else none
 | _=>none
noncomputable def Qeg(fa fb:DE):DI:=λρ=>(fa ρ).bind λr=>(fb ρ).bind λr'=>match r.d,r'.d with
 | .int i,.int j=>if j-i<=16777216/\ -(2^62)<=i/\i<2^62/\ -(2^62)<=j/\j<2^62 then some ⟨Qgo i (j-i).toNat,[]⟩else none
 | _,_=>none
theorem Qfr:(sizeLine:Nat)=16777216:=sizeLine_eq
theorem Qqi(hg:Gl X "range")(hm:X.mg "range" =none)(ha:SE X a fa)(hs:starEach [a] X.env=[(false,eval a X.env)]):SI X tg (.Call (.Name "range" p) [a] [] pos) (Qbk fa):=λH0 A0=>
 (Qrb hg hm (Qaf (ha H0 A0) QbJ hs) hs).mono λσ H Rr=>exK λρ hs F ir rel e q=>by
  refine Qk e λr e1 e=>?_
  refine⟨ρ,hs,F,r,rel,e1,λv H1 G pp=>?_⟩
  have rp:=pp.rp
  cases hr:r.d with
  | int j=>
   rw[hr]at e rp
   dsimp only at e
   split at e
   ·rename_i hz
    cases e
    rw[rp.int_inv]
    refine⟨j,rfl,hz.2,by omega,q _ H1 [] pp.same QiH (λt ht=>by simp at ht) Qa4.nil ?_⟩
    rw[QfC,Qfr];omega
   ·cases e
  | _=>rw[hr]at e;cases e
theorem QpE(hg:Gl X "range")(hm:X.mg "range" =none)(ha:SE X a fa)(hb:SE X b fb)(hs:starEach [a,b] X.env=[(false,eval a X.env),(false,eval b X.env)])(hs2:starEach [b] X.env=[(false,eval b X.env)]):
  SI X tg (.Call (.Name "range" p) [a,b] [] pos) (Qeg fa fb):=λH0 A0=>
 (QqF hg hm (Qaf (ha H0 A0) (Qaf (hb H0 A0) QbJ hs2) (by rw[hs,hs2])) hs hs2).mono λσ H Rr=>exK λρ hs F ir rel e q=>by
  refine Qk e λr e1 e=>?_
  refine Qk e λr' e2 e=>?_
  refine⟨ρ,hs,F,r,rel,e1,λv H1 G pp=>⟨ρ,hs,F,r',rel.ext pp.same,e2,λv' H2 G' pp'=>?_⟩⟩
  have rp:=pp.rp.same pp'.same
  have rp':=pp'.rp
  cases hr:r.d with
  | int i=>
   cases hr':r'.d with
   | int j=>
    rw[hr,hr']at e
    rw[hr]at rp
    rw[hr']at rp'
    dsimp only at e
    split at e
    ·rename_i hz
     cases e
     rw[rp.int_inv,rp'.int_inv]
     refine⟨i,j,rfl,hz.2,q _ H2 [] (pp.same.trans pp'.same) QiH (λt ht=>by simp at ht) Qa4.nil ?_⟩
     rw[QfC,Qfr];omega
    ·cases e
   | _=>rw[hr,hr']at e;cases e
  | _=>rw[hr]at e;cases e
noncomputable def Qec(ds:List D):List D:=ds.zipIdx.map λq=> .tup [.int q.2,q.1]
theorem QgF:(Qec ds).length=ds.length:=by simp[Qec]
theorem Qql{ds:List D}{i:Nat}{d:D}(h:(Qec ds)[i]? =some d):∃e,ds[i]? =some e/\d= .tup [.int i,e]:=by
 unfold Qec at h
 rw[Zp,List.getElem?_zipIdx]at h
 cases q:ds[i]? with
 | none=>rw[q]at h;cases h
 | some e=>rw[q]at h;simp at h;exact⟨e,rfl,h.symm⟩
theorem Qp2{K:PySem.W.Frag}{c:Addr}{ds:List D}{G:List Addr}:Walk K (Ite K c) [(.ref c,.lst ds,G)] (Qec ds) where
 stop:=λH h=>by
  obtain⟨l,vs,L,e,hl,rl,zl,el⟩:=(h _ (Zv.mpr rfl)).lst_inv
  cases e
  exact⟨vs,QX hl,by rw[QgF,rl.length];exact Zh _⟩
 go:=λi H hi h=>by
  obtain⟨l,vs,L,e,hl,rl,zl,el⟩:=(h _ (Zv.mpr rfl)).lst_inv
  cases e
  rw[QgF]at hi
  have:i<vs.length:=by rw[← rl.length];exact hi
  exact⟨vs,vs[i],QX hl,by simp[this]⟩
 yld:=λi d H x H' e h y=>by
  obtain⟨l,vs,L,e1,hl,rl,zl,el⟩:=(h _ (Zv.mpr rfl)).lst_inv
  cases e1
  obtain⟨d',e',rfl⟩:=Qql e
  obtain⟨pp,u,rfl,hp,rfl,y⟩:=y
  obtain⟨v,G',h1,h2,h3⟩:=rl.nth e'
  have:=y vs (QX hl)
  rw[h1]at this
  cases this
  have s:=Qay (o:= .tup [.int i,u]) hp
  refine⟨s,G',Rp.QgO Q9 ?_,λz hz=>⟨_,Zv.mpr rfl,?_⟩⟩
  ·simp only[Rps]
   exact⟨.int i,[u],[],G',rfl,rfl,.int_mk,u,[],G',[],rfl,by simp,h2.same s,rfl,rfl⟩
  ·have:=h3 z hz
   rcases el with rfl | rfl
   ·exact Zc _ this
   ·exact this
noncomputable def QgY(fa:DE):DI:=λρ=>(fa ρ).bind λr=>match r.d with
 | .lst xs=>some ⟨Qec xs,r.M⟩
 | _=>none
theorem QtY(hg:Gl X "enumerate")(hm:X.mg "enumerate" =none)(ha:SE X a fa)(hs:starEach [a] X.env=[(false,eval a X.env)]):SI X (.Tuple es tk tpos) (.Call (.Name "enumerate" p) [a] [] pos) (QgY fa):=λH0 A0=>
 (Qum hg hm (Qaf (ha H0 A0) QbJ hs) hs).mono λσ H Rr=>exK λρ hs F ir rel e q=>by
  refine Qk e λr e1 e=>?_
  refine⟨ρ,hs,F,r,rel,e1,λv H1 G pp=>?_⟩
  have rp:=pp.rp
  cases hr:r.d with
  | lst xs=>
   rw[hr]at e rp
   cases e
   obtain⟨c,vs,L,rfl,hl,rl,zl,el⟩:=rp.lst_inv
   refine⟨c,rfl,⟨vs,QX hl⟩,q _ H1 [(.ref c,.lst xs,G)] pp.same Qp2 (λt ht=>?_) pp.own (by rw[QgF];exact zl)⟩
   rw[Zv.mp ht]
   exact⟨rp,pp.src⟩
  | _=>rw[hr]at e;cases e
noncomputable def Qdx(xs ys:List D):List D:=(xs.zip ys).map λq=> .tup [q.1,q.2]
theorem Qib:(Qdx xs ys).length=min xs.length ys.length:=by simp[Qdx]
theorem QrY{xs ys:List D}{i:Nat}{d:D}(h:(Qdx xs ys)[i]? =some d):∃e f,xs[i]? =some e/\ys[i]? =some f/\d= .tup [e,f]:=by
 unfold Qdx at h
 rw[Zp]at h
 cases q:(xs.zip ys)[i]? with
 | none=>rw[q]at h;cases h
 | some e=>
  rw[q]at h
  obtain⟨h1,h2⟩:=Zaz.mp q
  exact⟨e.1,e.2,h1,h2,(Option.some.inj h).symm⟩
theorem Qr6{K:PySem.W.Frag}{c c':Addr}{xs ys:List D}{G G':List Addr}:Walk K (Itz K c c') [(.ref c,.lst xs,G),(.ref c',.lst ys,G')] (Qdx xs ys) where
 stop:=λH h=>by
  obtain⟨l,vs,L,e,hl,rl,zl,el⟩:=(h _ (Zi)).lst_inv
  obtain⟨l',vs',L',e',hl',rl',zl',el'⟩:=(h _ (Zc _ Zi)).lst_inv
  cases e
  cases e'
  refine⟨vs,vs',QX hl,QX hl',?_⟩
  rw[Qib,← rl.length,← rl'.length];omega
 go:=λi H hi h=>by
  obtain⟨l,vs,L,e,hl,rl,zl,el⟩:=(h _ (Zi)).lst_inv
  obtain⟨l',vs',L',e',hl',rl',zl',el'⟩:=(h _ (Zc _ Zi)).lst_inv
  cases e
  cases e'
  rw[Qib]at hi
  have h1:i<vs.length:=by rw[← rl.length];omega
  have h2:i<vs'.length:=by rw[← rl'.length];omega
  exact⟨vs,vs',vs[i],vs'[i],QX hl,QX hl',by simp[h1],by simp[h2]⟩
 yld:=λi d H x H' e h y=>by
  obtain⟨l,vs,L,e1,hl,rl,zl,el⟩:=(h _ (Zi)).lst_inv
  obtain⟨l',vs',L',e1',hl',rl',zl',el'⟩:=(h _ (Zc _ Zi)).lst_inv
  cases e1
  cases e1'
  obtain⟨d1,d2,ea,eb,rfl⟩:=QrY e
  obtain⟨pp,u,u',rfl,hp,rfl,y,y'⟩:=y
  obtain⟨v,G1,h1,h2,h3⟩:=rl.nth ea
  obtain⟨v',G2,h1',h2',h3'⟩:=rl'.nth eb
  have:=y vs (QX hl)
  rw[h1]at this
  cases this
  have:=y' vs' (QX hl')
  rw[h1']at this
  cases this
  have s:=Qay (o:= .tup [u,u']) hp
  refine⟨s,G1++G2,Rp.QgO Q9 ?_,λz hz=>?_⟩
  ·simp only[Rps]
   exact⟨u,[u'],G1,G2,rfl,rfl,h2.same s,u',[],G2,[],rfl,by simp,h2'.same s,rfl,rfl⟩
  ·rcases ZG.mp hz with hz | hz
   ·refine⟨_,Zi,?_⟩
    have:=h3 z hz
    rcases el with rfl | rfl
    ·exact Zc _ this
    ·exact this
   ·refine⟨_,Zc _ Zi,?_⟩
    have:=h3' z hz
    rcases el' with rfl | rfl
    ·exact Zc _ this
    ·exact this
noncomputable def QaJ(fa fb:DE):DI:=λρ=>(fa ρ).bind λr=>(fb ρ).bind λr'=>match r.d,r'.d with
 | .lst xs,.lst ys=>some ⟨Qdx xs ys,r.M++r'.M⟩
 | _,_=>none
theorem Qw6(hg:Gl X "zip")(hm:X.mg "zip" =none)(ha:SE X a fa)(hb:SE X b fb)(hs:starEach [a,b] X.env=[(false,eval a X.env),(false,eval b X.env)])(hs2:starEach [b] X.env=[(false,eval b X.env)]):
  SI X (.Tuple es tk tpos) (.Call (.Name "zip" p) [a,b] [] pos) (QaJ fa fb):=λH0 A0=>
 (QwB hg hm (Qaf (ha H0 A0) (Qaf (hb H0 A0) QbJ hs2) (by rw[hs,hs2])) hs hs2).mono λσ H Rr=>exK λρ hs F ir rel e q=>by
  refine Qk e λr e1 e=>?_
  refine Qk e λr' e2 e=>?_
  refine⟨ρ,hs,F,r,rel,e1,λv H1 G pp=>⟨ρ,hs,F,r',rel.ext pp.same,e2,λv' H2 G' pp'=>?_⟩⟩
  have rp:=pp.rp.same pp'.same
  have rp':=pp'.rp
  cases hr:r.d with
  | lst xs=>
   cases hr':r'.d with
   | lst ys=>
    rw[hr,hr']at e
    rw[hr]at rp
    rw[hr']at rp'
    cases e
    obtain⟨c,vs,L,rfl,hl,rl,zl,el⟩:=rp.lst_inv
    obtain⟨c',vs',L',rfl,hl',rl',zl',el'⟩:=rp'.lst_inv
    refine⟨c,c',rfl,⟨vs,QX hl⟩,⟨vs',QX hl'⟩,q _ H2 [(.ref c,.lst xs,G),(.ref c',.lst ys,G')] (pp.same.trans pp'.same) Qr6 (λt ht=>?_) (pp.own.append pp'.own) (by rw[Qib];omega)⟩
    have sa:=pp.src.append pp'.src pp.same
    rcases Zq.mp ht with rfl | ht
    ·exact⟨rp,λz hz=>sa z (Zn _ hz)⟩
    ·rw[Zv.mp ht]
     exact⟨rp',λz hz=>sa z (Ze _ hz)⟩
   | _=>rw[hr,hr']at e;cases e
  | _=>rw[hr]at e;cases e
end
end HS
namespace HS
open PySem L2
noncomputable def QeU(xs ys zs:List D):List D:=(xs.zip (ys.zip zs)).map λq=> .tup [q.1,q.2.1,q.2.2]
theorem Qqr{xs ys zs:List D}{i:Nat}{d:D}(h:(QeU xs ys zs)[i]? =some d):∃e f g,xs[i]? =some e/\ys[i]? =some f/\zs[i]? =some g/\d= .tup [e,f,g]:=by
 unfold QeU at h
 rw[Zp]at h
 cases q:(xs.zip (ys.zip zs))[i]? with
 | none=>rw[q]at h;cases h
 | some e=>
  rw[q]at h
  obtain⟨h1,h2⟩:=Zaz.mp q
  obtain⟨h3,h4⟩:=Zaz.mp h2
  exact⟨e.1,e.2.1,e.2.2,h1,h3,h4,(Option.some.inj h).symm⟩
theorem Qgt(h1:xs.length=ys.length)(h2:ys.length=zs.length):(QeU xs ys zs).length=xs.length:=by
 simp[QeU];omega
theorem QqX{K:PySem.W.Frag}{c c' c'':Addr}{xs ys zs:List D}{G G' G'':List Addr}(n1:xs.length=ys.length)(n2:ys.length=zs.length):Walk K (Qsv K c c' c'') [(.ref c,.lst xs,G),(.ref c',.lst ys,G'),(.ref c'',.lst zs,G'')] (QeU xs ys zs):=by
 have inv:∀H,QjP K H [(.ref c,.lst xs,G),(.ref c',.lst ys,G'),(.ref c'',.lst zs,G'')]->(∃vs L,SqL K H c vs/\Rps K H xs vs L/\∀a∈L,a∈G)/\(∃vs L,SqL K H c' vs/\Rps K H ys vs L/\∀a∈L,a∈G')/\∃vs L,SqL K H c'' vs/\Rps K H zs vs L/\∀a∈L,a∈G'':=λH h=>by
  have one:∀{p:Addr}{ds:List D}{G:List Addr},Rp K H (.lst ds) (.ref p) G->∃vs L,SqL K H p vs/\Rps K H ds vs L/\∀a∈L,a∈G:=λ{p ds G} r=>by
   obtain⟨l,vs,L,e,hl,rl,zl,el⟩:=r.lst_inv
   cases e
   refine⟨vs,L,QX hl,rl,λa ha=>?_⟩
   rcases el with rfl | rfl
   ·exact Zc _ ha
   ·exact ha
  exact⟨one (h _ Zi),one (h _ (Zc _ Zi)),one (h _ (Zc _ (Zc _ Zi)))⟩
 refine⟨λH h=>?_,λi H hi h=>?_,λi d H x H' e h y=>?_⟩
 ·obtain⟨⟨vs,L,hl,rl,el⟩,_⟩:=inv H h
  exact⟨vs,hl,by rw[Qgt n1 n2,← rl.length];omega⟩
 ·obtain⟨⟨vs,L,hl,rl,el⟩,⟨vs',L',hl',rl',el'⟩,⟨vs'',L'',hl'',rl'',el''⟩⟩:=inv H h
  rw[Qgt n1 n2]at hi
  have h1:i<vs.length:=by rw[← rl.length];omega
  have h2:i<vs'.length:=by rw[← rl'.length];omega
  have h3:i<vs''.length:=by rw[← rl''.length];omega
  exact⟨vs,vs',vs'',vs[i],vs'[i],vs''[i],hl,hl',hl'',by simp[h1],by simp[h2],by simp[h3]⟩
 ·obtain⟨⟨vs,L,hl,rl,el⟩,⟨vs',L',hl',rl',el'⟩,⟨vs'',L'',hl'',rl'',el''⟩⟩:=inv H h
  obtain⟨d1,d2,d3,ea,eb,ec,rfl⟩:=Qqr e
  obtain⟨pp,u,u',u'',rfl,hp,rfl,y,y',y''⟩:=y
  obtain⟨v,G1,h1,h2,h3⟩:=rl.nth ea
  obtain⟨v',G2,h1',h2',h3'⟩:=rl'.nth eb
  obtain⟨v'',G3,h1'',h2'',h3''⟩:=rl''.nth ec
  have q:=y vs hl
  rw[h1]at q
  cases q
  have q:=y' vs' hl'
  rw[h1']at q
  cases q
  have q:=y'' vs'' hl''
  rw[h1'']at q
  cases q
  have s:=Qay (o:= .tup [u,u',u'']) hp
  refine⟨s,G1++(G2++G3),Rp.QgO Q9 ?_,λz hz=>?_⟩
  ·simp only[Rps]
   exact⟨u,[u',u''],G1,G2++G3,rfl,rfl,h2.same s,u',[u''],G2,G3,rfl,rfl,h2'.same s,u'',[],G3,[],rfl,by simp,h2''.same s,rfl,rfl⟩
  ·rcases ZG.mp hz with hz | hz
   ·exact⟨_,Zi,el _ (h3 z hz)⟩
   ·rcases ZG.mp hz with hz | hz
    ·exact⟨_,Zc _ Zi,el' _ (h3' z hz)⟩
    ·exact⟨_,Zc _ (Zc _ Zi),el'' _ (h3'' z hz)⟩
noncomputable def Qgp(fa fb fc:DE):DI:=λρ=>(fa ρ).bind λr=>(fb ρ).bind λr'=>(fc ρ).bind λr''=>match r.d,r'.d,r''.d with
 | .lst xs,.lst ys,.lst zs=>if xs.length=ys.length/\ys.length=zs.length then some ⟨QeU xs ys zs,r.M++(r'.M++r''.M)⟩else none
 | _,_,_=>none
section
theorem QuU(hg:Gl X "zip")(hm:X.mg "zip" =none)(ha:SE X a fa)(hb:SE X b fb)(hc:SE X c fc)(hs:starEach [a,b,c] X.env=(false,eval a X.env)::starEach [b,c] X.env)(hs2:starEach [b,c] X.env=(false,eval b X.env)::starEach [c] X.env)(hs3:starEach [c] X.env=[(false,eval c X.env)]):
  SI X (.Tuple es tk tpos) (.Call (.Name "zip" p) [a,b,c] [] pos) (Qgp fa fb fc):=λH0 A0=>
 (Quy hg hm (Qaf (ha H0 A0) (Qaf (hb H0 A0) (Qaf (hc H0 A0) QbJ hs3) hs2) hs) hs (by rw[hs2,hs3];rfl)).mono λσ H Rr=>exK λρ hs F ir rel e q=>by
  refine Qk e λr e1 e=>?_
  refine Qk e λr' e2 e=>?_
  refine Qk e λr'' e3 e=>?_
  refine⟨ρ,hs,F,r,rel,e1,λv H1 G pp=>⟨ρ,hs,F,r',rel.ext pp.same,e2,λv' H2 G' pp'=>⟨ρ,hs,F,r'',(rel.ext pp.same).ext pp'.same,e3,λv'' H3 G'' pp''=>?_⟩⟩⟩
  have rp:=(pp.rp.same pp'.same).same pp''.same
  have rp':=pp'.rp.same pp''.same
  have rp'':=pp''.rp
  cases hr:r.d with
  | lst xs=>
   cases hr':r'.d with
   | lst ys=>
    cases hr'':r''.d with
    | lst zs=>
     rw[hr,hr',hr'']at e
     rw[hr]at rp
     rw[hr']at rp'
     rw[hr'']at rp''
     dsimp only at e
     split at e
     ·rename_i hn
      cases e
      obtain⟨c1,vs,L,rfl,hl,rl,zl,el⟩:=rp.lst_inv
      obtain⟨c2,vs',L',rfl,hl',rl',zl',el'⟩:=rp'.lst_inv
      obtain⟨c3,vs'',L'',rfl,hl'',rl'',zl'',el''⟩:=rp''.lst_inv
      refine⟨c1,c2,c3,rfl,⟨vs,QX hl⟩,⟨vs',QX hl'⟩,⟨vs'',QX hl''⟩,q _ H3 [(.ref c1,.lst xs,G),(.ref c2,.lst ys,G'),(.ref c3,.lst zs,G'')] ((pp.same.trans pp'.same).trans pp''.same) (QqX hn.1 hn.2) (λt ht=>?_) (pp.own.append (pp'.own.append pp''.own)) (by rw[Qgt hn.1 hn.2];exact zl)⟩
      have sb:=pp'.src.append pp''.src pp'.same
      have sa:=pp.src.append sb pp.same
      rcases Zq.mp ht with rfl | ht
      ·exact⟨rp,λz hz=>sa z (Zn _ hz)⟩
      ·rcases Zq.mp ht with rfl | ht
       ·exact⟨rp',λz hz=>sa z (Ze _ (Zn _ hz))⟩
       ·rw[Zv.mp ht]
        exact⟨rp'',λz hz=>sa z (Ze _ (Ze _ hz))⟩
     ·cases e
    | _=>rw[hr,hr',hr'']at e;cases e
   | _=>rw[hr,hr']at e;cases e
  | _=>rw[hr]at e;cases e
end
end HS
namespace HS
open PySem PySem.Spec L2
inductive Tg where
 | nm (i:Nat)
 | tp (is:List Nat)
noncomputable def Tg.slots:Tg->List Nat
 | .nm i=>[i]
 | .tp is=>is
noncomputable def Qdq:List Nat->List D->En->En
 | i::is,d::ds,ρ=>Qdq is ds (ρ.set i (some (d,d.flat)))
 | _,_,ρ=>ρ
noncomputable def Qby:Tg->D->En->Option En
 | .nm i,d,ρ=>some (ρ.set i (some (d,d.flat)))
 | .tp is,.tup xs,ρ=>if xs.length=is.length then some (Qdq is xs ρ)else none
 | .tp is,.lst xs,ρ=>if xs.length=is.length then some (Qdq is xs ρ)else none
 | .tp _,_,_=>none
noncomputable def tG(K:PySem.W.Frag)(H0:Hp)(A0:List Addr)(t:Tg):TG:=λv σ H Q=>∃ρ hs F d G ρ',Rel K H0 A0 hs ρ F σ H/\Rp K H d v G/\Shr H0 A0 ρ F G/\Qby t d ρ=some ρ'∧
 ∀σ' F',Rel K H0 A0 hs ρ' F' σ' H->(∀j,j∉t.slots->σ'[j]? =σ[j]?)->(∀j a,a∈F' j->a∈F j∨a∈G)->Q σ' H
def SG(X:Cx)(tg:Expr)(t:Tg):Prop:=∀H0 A0,PG X tg (tG X.K H0 A0 t)
theorem _root_.L2.PG.mono{X:Cx}{tg:Expr}{t t':TG}(h:PG X tg t)(m:∀v σ H Q,t' v σ H Q->t v σ H Q):PG X tg t':=λpins s σ H v u Q I r q=>h pins s σ H v u Q I r (m v σ H Q q)
noncomputable def QiW:List Nat->TGs
 | []=>QxM
 | i::is=>QtP (Qg8 i) (QiW is)
theorem Shr.set{H0:Hp}{A0:List Addr}{ρ:En}{F:Nat->List Addr}{G G1:List Addr}{i:Nat}{d:D}(h:Shr H0 A0 ρ F G)(hf:d.flat=true->G1=[]):Shr H0 A0 (ρ.set i (some (d,d.flat))) (λj=>if j=i then G1 else F j) G:=λa ha=>by
 refine⟨(h a ha).1,λj d' e=>?_⟩
 by_cases hj:j=i
 ·subst hj
  show ¬a∈(if j=j then G1 else F j)
  rw[if_pos rfl]
  have hl:j<ρ.length:=by
   by_cases hl:j<ρ.length
   ·exact hl
   ·rw[Zz (by simp;omega)]at e;cases e
  rw[Zy hl]at e
  have e1:=Option.some.inj (Option.some.inj e)
  rw[hf (congrArg Prod.snd e1)]
  simp
 ·rw[Zm (Ne.symm hj)]at e
  show ¬a∈(if j=i then G1 else F j)
  rw[if_neg hj]
  exact(h a ha).2 j d' e
theorem Qih{K:PySem.W.Frag}{H0:Hp}{A0:List Addr}{hs:List (V×D×List Addr)}:∀(is:List Nat) (ds:List D) (vs:List V) (ρ:En) (F:Nat->List Addr) (σ:L2.St) (H:Hp) (G:List Addr) (Q:L2.St->Hp->Prop),
  Rel K H0 A0 hs ρ F σ H->Rps K H ds vs G->Shr H0 A0 ρ F G->ds.length=is.length→
  (∀σ' F',Rel K H0 A0 hs (Qdq is ds ρ) F' σ' H->(∀j,j∉is->σ'[j]? =σ[j]?)->(∀j a,a∈F' j->a∈F j∨a∈G)->Q σ' H)->QiW is vs σ H Q
 | [],ds,vs,ρ,F,σ,H,G,Q,rel,rp,sh,hl,q=>by
  have:ds=[]:=by simpa using hl
  subst this
  simp only[Rps]at rp
  exact⟨rp.1,q σ F rel (λ_ _=>rfl) λ_ _ h=> .inl h⟩
 | i::is,[],vs,ρ,F,σ,H,G,Q,rel,rp,sh,hl,q=>by simp at hl
 | i::is,d::ds,vs,ρ,F,σ,H,G,Q,rel,rp,sh,hl,q=>by
  simp only[Rps]at rp
  obtain⟨v,ws,G1,G2,rfl,rfl,r1,r2⟩:=rp
  refine⟨v,ws,rfl,?_⟩
  have sh1:Shr H0 A0 ρ F G1:=λa ha=>sh a (Zn _ ha)
  have sh2:Shr H0 A0 ρ F G2:=λa ha=>sh a (Ze _ ha)
  refine Qih is ds ws _ _ _ H G2 Q (rel.QoB r1 sh1) r2 (sh2.set r1.Qbj) (by simpa using hl) λσ' F' rel' k m=>q σ' F' rel' (λj hj=>?_) λj a ha=>?_
  ·have h1:j≠i:=λz=>hj (by rw[z];exact Zi)
   rw[k j λz=>hj (Zc _ z),Zm (Ne.symm h1)]
  ·rcases m j a ha with z | z
   ·by_cases hj:j=i
    ·rw[if_pos hj]at z;exact .inr (Zn _ z)
    ·rw[if_neg hj]at z;exact .inl z
   ·exact .inr (Ze _ z)
section
variable {X:Cx}{tg:Expr}{pos:Pos}
theorem QtU{i:Nat}{x:Str}(h:PG X (.Name x pos) (Qg8 i)):SG X (.Name x pos) (.nm i):=λH0 A0=>h.mono λv σ H Q hpt=>by
 obtain⟨ρ,hs,F,d,G,ρ',rel,rp,sh,e,q⟩:=hpt
 cases e
 refine q _ _ (rel.QoB rp sh) (λj hj=>?_) λj a ha=>?_
 ·have:j≠i:=λz=>hj (by simp[Tg.slots,z])
  rw[Zm (Ne.symm this)]
 ·by_cases hj:j=i
  ·rw[if_pos hj]at ha;exact .inr ha
  ·rw[if_neg hj]at ha;exact .inl ha
theorem Qt2{es:List Expr}{k:Nat}{t:TGs}{n:Nat}(hc:X.calm=true)(h:PGs X es t)
  (hn:(assignEach es X.env).length=n) (hst:(assignEach es X.env).findIdx? (·.1)=none):PG X (.Tuple es k pos) (λv σ H Q=>∃a xs,v= .ref a/\SqL X.K H a xs/\xs.length=n/\t xs σ H Q):=by
 intro pins s σ H v u Q I r hw
 obtain⟨a,xs,e1,hq,hl,hw⟩:=hw
 subst e1
 cases r
 obtain⟨its,rv,ht,hz⟩:=I.list hq
 rw[PyProof.Rows.assign_Tuple]
 refine wpAny_bind (wpAny_standAt ?_)
 unfold unpack
 rw[hn,hst,show n=its.toArray.size by simp[← hl,rv.length]]
 refine wpAny_bind (wpAny_holding (PySem.W.kun_itemsOf (I.ok.hd hc) ht.isList λh' hx=>?_))
 have I1:Inv X pins σ H {s with heap:=h'}:=I.kept (t':=s.toks) λb o e=>hx b o (ZK (Zr e)) e
 exact h pins _ σ H xs _ Q I1 (by simpa using rv) hw
theorem QwI{es:List Expr}{k:Nat}{is:List Nat}(hc:X.calm=true)(h:PGs X es (QiW is))(hn:(assignEach es X.env).length=is.length)(hst:(assignEach es X.env).findIdx? (·.1)=none):SG X (.Tuple es k pos) (.tp is):=λH0 A0=>
 λpins s σ H v u Q I r hpt=>by
  obtain⟨ρ,hs,F,d,G,ρ',rel,rp,sh,e,q⟩:=hpt
  cases d with
  | tup xs=>
   simp only[Qby]at e
   split at e
   ·rename_i hl
    cases e
    obtain⟨a,vs,rfl,hq,rs⟩:=rp.QaQ
    exact QwY hc h hn hst pins s σ H _ u Q I r ⟨a,vs,rfl,hq,by rw[← rs.length];exact hl,Qih is xs vs ρ F σ H G Q rel rs sh hl q⟩
   ·cases e
  | lst xs=>
   simp only[Qby]at e
   split at e
   ·rename_i hl
    cases e
    obtain⟨a,vs,L,rfl,hq,rs,_,eG⟩:=rp.lst_inv
    have sub:∀b∈L,b∈G:=λb hb=>by
     rcases eG with rfl | rfl
     ·exact Zc _ hb
     ·exact hb
    exact Qt2 hc h hn hst pins s σ H _ u Q I r ⟨a,vs,rfl,QX hq,by rw[← rs.length];exact hl,Qih is xs vs ρ F σ H L Q rel rs (λb hb=>sh b (sub b hb)) hl λσ' F' rel' k m=>q σ' F' rel' k λj b hb=>(m j b hb).imp id (sub b)⟩
   ·cases e
  | _=>simp only[Qby]at e;cases e
end
noncomputable def Qee(cap:List (Option Nat))(ρ:En):En:=cap.map λo=>o.bind λi=>match ρ[i]? with
 | some (some (d,_))=>some (d,d.flat)
 | _=>none
noncomputable def QoZ(cap:List (Option Nat))(ρ:En):List Nat:=cap.filterMap λo=>o.bind λi=>match ρ[i]? with
 | some (some (d,b))=>if b && !d.flat then some i else none
 | _=>none
noncomputable def QeR(t:Tg)(ft:DT)(fe:DE)(ρc:En)(acc:List D×Bool)(d:D):Option (List D×Bool):=
 (Qby t d ρc).bind λρ1=>(ft ρ1).bind λc=>if c=true then(fe ρ1).map λr=>(acc.1++[r.d],acc.2 && r.norm.fr)else some acc
noncomputable def Q5(fi:DI)(t:Tg)(cap:List (Option Nat))(ft:DT)(fe:DE):DE:=λρ=>(fi ρ).bind λir=>
 (ir.items.foldlM (QeR t ft fe (Qee cap ρ)) ([],true)).map λq=>if q.2=true then⟨.lst q.1,true,[]⟩else⟨.lst q.1,false,ir.M++QoZ cap ρ⟩
def QcH(ρ:En):Prop:=∀(j:Nat) d,ρ[j]? =some (some (d,true))->d.flat=true
theorem QcH.set{ρ:En}(h:QcH ρ)(i:Nat)(d:D):QcH (ρ.set i (some (d,d.flat))):=λj d' e=>by
 by_cases hj:j=i
 ·subst hj
  have hl:j<ρ.length:=by
   by_cases hl:j<ρ.length
   ·exact hl
   ·rw[Zz (by simp;omega)]at e;cases e
  rw[Zy hl]at e
  have e1:=Option.some.inj (Option.some.inj e)
  have h1:d=d':=congrArg Prod.fst e1
  have h2:d.flat=true:=congrArg Prod.snd e1
  rw[← h1];exact h2
 ·rw[Zm (Ne.symm hj)]at e
  exact h j d' e
theorem QcH.Qdq:∀(is:List Nat) (ds:List D) {ρ:En},QcH ρ->QcH (Qdq is ds ρ)
 | [],_,_,h=>h
 | _::_,[],_,h=>h
 | i::is,d::ds,_,h=>QcH.Qdq is ds (h.set i d)
theorem QcH.bind{t:Tg}{d:D}{ρ ρ':En}(h:QcH ρ)(e:Qby t d ρ=some ρ'):QcH ρ':=by
 cases t with
 | nm i=>cases e;exact h.set i d
 | tp is=>
  cases d with
  | tup xs=>
   simp only[Qby]at e
   split at e
   ·cases e;exact h.Qdq is xs
   ·cases e
  | lst xs=>
   simp only[Qby]at e
   split at e
   ·cases e;exact h.Qdq is xs
   ·cases e
  | _=>simp only[Qby]at e;cases e
theorem Qil(cap:List (Option Nat))(ρ:En):QcH (Qee cap ρ):=λj d e=>by
 unfold Qee at e
 rw[Zp]at e
 cases q:cap[j]? with
 | none=>rw[q]at e;cases e
 | some o=>
  rw[q]at e
  cases o with
  | none=>cases e
  | some i=>
   simp only[ZP,Za,Option.some.injEq]at e
   split at e
   ·have e1:=Option.some.inj e
    have h1:=congrArg Prod.fst e1
    have h2:=congrArg Prod.snd e1
    dsimp only at h1 h2
    rw[← h1];exact h2
   ·cases e
theorem QkE{cap:List (Option Nat)}{ρ:En}{j:Nat}{d:D}{b:Bool}(e:(Qee cap ρ)[j]? =some (some (d,b))):∃i b',cap[j]? =some (some i)/\ρ[i]? =some (some (d,b')):=by
 unfold Qee at e
 rw[Zp]at e
 cases q:cap[j]? with
 | none=>rw[q]at e;cases e
 | some o=>
  rw[q]at e
  cases o with
  | none=>cases e
  | some i=>
   simp only[ZP,Za,Option.some.injEq]at e
   split at e
   ·rename_i d' b' hi
    have e1:=Option.some.inj e
    have h1:d'=d:=congrArg Prod.fst e1
    subst h1
    exact⟨i,b',rfl,hi⟩
   ·cases e
def Ql8(X:Cx)(ifs:List Expr)(f:DT):Prop:=∀H0 A0,PTs X ifs (tVT X.K H0 A0 f)
noncomputable def Qab:DT:=λ_=>some true
theorem Qsz{X:Cx}:Ql8 X [] Qab:=λH0 A0 pins s σ H Q I=>exK λρ hs F b rel e q=>by
 cases e
 exact Qus pins s σ H Q I (q H (QK.refl _))
theorem Qsb{X:Cx}{c:Expr}{f:DT}(h:ST X c f):Ql8 X [c] f:=λH0 A0=>QuK (h H0 A0)
structure Qk7 (X:Cx) (N':List Str) (scope:Scope) (cap:List (Option Nat)) (tgs:List Nat):Prop where
 len:cap.length=N'.length
 get:∀(j i:Nat),cap[j]? =some (some i)->∃x,N'[j]? =some x/\scope.names.lookup x=some .free/\X.N[i]? =some x/\(X.env.kindOf x=some .cell∨X.env.kindOf x=some .free)
 apart:∀(j i:Nat),cap[j]? =some (some i)->j∉tgs
theorem join_some{α:Type}{o:Option (Option α)}{v:α}(h:o.join=some v):o=some (some v):=by
 cases o with
 | none=>cases h
 | some p=>cases p with
  | none=>cases h
  | some x=>exact h▸rfl
theorem Qkx{X:Cx}{N':List Str}{scope:Scope}{fi:DI}{t:Tg}{cap:List (Option Nat)}{ft:DT}{fe:DE}{H0:Hp}{A0:List Addr}{σ:L2.St}{H:Hp}{Q:VK}(hc:Qk7 X N' scope cap t.slots):
  tV X.K H0 A0 (Q5 fi t cap ft fe) σ H Q->Qlg (tI X.K H0 A0 fi) (Qjl X N' scope) (tG X.K (λ_=>none) [] t) (tVT X.K (λ_=>none) [] ft) (tV X.K (λ_=>none) [] fe) σ H Q:=exK λρ hs F r rel e q=>by
 refine Qk e λir e1 e=>?_
 obtain⟨⟨xs,f⟩,ef,e⟩:=Zf.mp e
 subst e
 refine⟨ρ,hs,F,ir,rel,e1,λJ H1 ts s1 wk hts ow hz=>?_⟩
 refine⟨cap.map λo=>o.bind λi=>σ[i]?.join,⟨by simp[hc.len],λj x v hN hv=>?_⟩,λDl hD=>?_⟩
 ·rw[Zp]at hv
  cases qc:cap[j]? with
  | none=>rw[qc]at hv;cases hv
  | some o=>
   rw[qc]at hv
   cases o with
   | none=>cases hv
   | some i=>
    simp only[ZP,Za,Option.some.injEq]at hv
    obtain⟨y,h1,h2,h3,h4⟩:=hc.get j i qc
    rw[hN]at h1;cases h1
    exact⟨h2,i,h3,join_some hv,h4⟩
 generalize hσc:(cap.map λo=>o.bind λi=>σ[i]?.join)=σc
 generalize hρc:Qee cap ρ=ρc at ef
 have hF0:∃Fc:Nat->List Addr,Fc=λj=>match cap[j]? with
  | some (some i)=>(match ρ[i]? with
   | some (some _)=>F i
   | _=>[])
  | _=>[]:=⟨_,rfl⟩
 obtain⟨Fc,hFc⟩:=hF0
 have rel1:=rel.ext s1
 have relC:∀H2,QK H1 H2->Rel X.K (λ_=>none) [] [] ρc Fc σc H2:=λH2 s2=>by
  refine⟨by rw[← hρc,← hσc];simp[Qee],λj d b e=>?_,λj d e=>?_,λj d b e a ha=> .inl rfl,λt ht=>(by simp at ht),λb o z=>(by cases z)⟩
  ·rw[← hρc]at e
   obtain⟨i,b',h1,h2⟩:=QkE e
   obtain⟨v,h3,h4⟩:=(rel1.ext s2).val i d b' h2
   refine⟨v,?_,?_⟩
   ·rw[← hσc,Zp,h1]
    simp only[ZP,Za,h3,Option.join_some]
   ·rw[hFc];simp only[h1,h2];exact h4
  ·have hf:d.flat=true:=Qil cap ρ j d (by rw[hρc];exact e)
   have:Fc j=[]:=by
    rw[← hρc]at e
    obtain⟨i,b',h1,h2⟩:=QkE e
    obtain⟨v,h3,h4⟩:=rel1.val i d b' h2
    rw[hFc];simp only[h1,h2];exact h4.Qbj hf
   rw[this]
   exact⟨(Qc0 d hf).symm,ZaE,λa ha=>(by simp at ha),λ_ _ _ _ _ a ha=>(by simp at ha),λt ht=>(by simp at ht)⟩
 have shC:∀G,Shr (λ_=>none) [] ρc Fc G:=λG a ha=>⟨.inl rfl,λj d e hj=>by
  have h0:=(relC H1 (QK.refl _)).own j d e
  have hf:d.flat=true:=Qil cap ρ j d (by rw[hρc];exact e)
  have:(Fc j).length=0:=by rw[h0.1,Qc0 d hf]
  rw[Zaf this]at hj
  simp at hj⟩
 have hSh:QcH ρc:=by rw[← hρc];exact Qil cap ρ
 have heldOf:∀H2,QK H1 H2->QjP X.K H2 ts:=λH2 s2 t ht=>(hts t ht).1.same s2
 have oldOf:∀a,((∃t∈ts,a∈t.2.2)∨∃j,a∈Fc j)->(∃u,H1 a=some u)/\(H a=none∨∃(i:Nat) (d:D) (b:Bool),ρ[i]? =some (some (d,b))/\a∈F i/\(b=true->i∈ir.M++QoZ cap ρ)):=λa ha=>by
  rcases ha with⟨t,ht,ha⟩ | ⟨j,ha⟩
  ·refine⟨(hts t ht).1.mem a ha,?_⟩
   rcases(hts t ht).2 a ha with z | ⟨i,d,b,e,m,w⟩
   ·exact .inl z
   ·exact .inr ⟨i,d,b,e,m,λhb=>Zn _ (w hb)⟩
  ·have ha0:=ha
   rw[hFc]at ha
   dsimp only at ha
   split at ha
   ·rename_i i hi
    split at ha
    ·rename_i db hdb
     obtain⟨d,b⟩:=db
     obtain⟨v,h3,h4⟩:=rel1.val i d b hdb
     refine⟨h4.mem a ha,.inr ⟨i,d,b,hdb,ha,λhb=>Ze _ ?_⟩⟩
     unfold QoZ
     refine Zbr.mpr ⟨some i,ZL hi,?_⟩
     simp only[Za,hdb]
     have hnf:d.flat=false:=by
      cases hf:d.flat with
      | false=>rfl
      | true=>rw[h4.Qbj hf]at ha;simp at ha
     rw[hb,hnf];rfl
    ·simp at ha
   ·simp at ha
 have fresh5:∀H2,QK H1 H2->∀a,H2 a=none->H1 a=none:=λH2 s2 a h=>s2.free h
 refine⟨λi m acc H2=>m=ir.items.length-i/\i<=ir.items.length/\QK H1 H2/\H2 Dl=some (.lst acc)/\∃(ys:List D) (g:Bool) (G:List Addr),(ir.items.drop i).foldlM (QeR t ft fe ρc) (ys,g)=some (xs,f)/\Rps X.K H2 ys acc G/\ys.length<=i∧
  (∀a∈G,a≠Dl/\(H1 a=none∨(∃t∈ts,a∈t.2.2)∨∃j,a∈Fc j))/\(g=true->G.length=nls ys/\∀a,G.count a<=nw H1 a),⟨ir.items.length,rfl,Zac _,Qay hD,Q9,[],true,[],by simpa using ef,by simp[Rps],Zh _,λa ha=>(by simp at ha),λ_=>⟨rfl,λa=>by simp⟩⟩,?_⟩
 rintro i m acc H2 ⟨rfl,hi,s2,eD,ys,g,G,hfold,rps,hlen,hG,hcnt⟩
 by_cases hlt:i<ir.items.length
 ·refine .inr ⟨wk.go i H2 hlt (heldOf H2 s2),λx H3 hy=>?_⟩
  obtain⟨s3,G0,rp0,hG0⟩:=wk.yld i ir.items[i] H2 x H3 (by simp[hlt]) (heldOf H2 s2) hy
  rw[Zam hlt,Zcd]at hfold
  refine Qk hfold λacc1 hstep hrest=>?_
  unfold QeR at hstep
  refine Qk hstep λρ1 eb hstep=>?_
  refine Qk hstep λc ec hstep=>?_
  have sh1:QcH ρ1:=hSh.bind eb
  refine⟨ρc,[],Fc,ir.items[i],G0,ρ1,relC H3 (s2.trans s3),rp0,shC G0,eb,λσ2 F2 rel2 keep mem2=>⟨λj v hv=>?_,ρ1,[],F2,c,rel2,ec,λH5 s5=>?_⟩⟩
  ·have hj:j∉t.slots:=λhj=>by
    rw[← hσc,Zp]at hv
    cases qc:cap[j]? with
    | none=>rw[qc]at hv;cases hv
    | some o=>
     cases o with
     | none=>rw[qc]at hv;cases hv
     | some k=>exact hc.apart j k qc hj
   rw[keep j hj];exact hv
  have s15:QK H1 H5:=(s2.trans s3).trans s5
  have eD5:H5 Dl=some (.lst acc):=s5 _ _ (s3 _ _ eD)
  cases c with
  | false=>
   rw[if_neg Zag]at hstep
   refine QrH ?_
   cases hstep
   exact⟨_,by omega,rfl,hlt,s15,eD5,ys,g,G,hrest,rps.same (s3.trans s5),by omega,hG,hcnt⟩
  | true=>
   rw[if_pos rfl]at hstep
   refine Qse ?_
   obtain⟨rr,er,hstep⟩:=Zf.mp hstep
   subst hstep
   refine⟨ρ1,[],F2,rr,rel2.ext s5,er,λy H6 Ge pe=>?_⟩
   have eD6:H6 Dl=some (.lst acc):=pe.same _ _ eD5
   have s16:=s15.trans pe.same
   refine⟨eD6,?_,_,by omega,rfl,hlt,?_⟩
   ·rw[← rps.length];exact ZaM hlen (ZA hlt hz)
   have hGe:∀a∈Ge,a≠Dl/\(H1 a=none∨(∃t∈ts,a∈t.2.2)∨∃j,a∈Fc j):=λa ha=>by
    rcases pe.src a ha with z | ⟨j,d,b,ej,hj,_⟩
    ·exact⟨λw=>(by rw[w,eD5]at z;cases z),.inl (s15.free z)⟩
    ·have h1:(∃t∈ts,a∈t.2.2)∨∃j,a∈Fc j:=by
      rcases mem2 j a hj with w | w
      ·exact .inr ⟨j,w⟩
      ·exact .inl (hG0 a w)
     obtain⟨⟨vs,w⟩,_⟩:=oldOf a h1
     exact⟨λw'=>(by rw[w',hD]at w;cases w),.inr h1⟩
   have nD:Dl∉G:=λh=>(hG _ h).1 rfl
   have nDe:Dl∉Ge:=λh=>(hGe _ h).1 rfl
   have sU:QK H1 (L2.upd H6 Dl (.lst (acc++[y]))):=λb o hb=>by rw[QD (Qbs hb hD)];exact s16 b o hb
   refine⟨sU,Q9,ys++[rr.d],g && rr.norm.fr,G++Ge,hrest,?_,by rw[Zu,Zba];omega,λa ha=>?_,λhg=>?_⟩
   ·refine Rps.append ((rps.same ((s3.trans s5).trans pe.same)).upd eD6 nD) ?_
    simp only[Rps]
    exact⟨y,[],Ge,[],rfl,by simp,pe.rp.upd eD6 nDe,rfl,rfl⟩
   ·rcases ZG.mp ha with h | h
    ·exact hG a h
    ·exact hGe a h
   ·simp only[Zk]at hg
    obtain⟨l1,c1⟩:=hcnt hg.1
    have pn:=pe.norm
    obtain⟨c2,l2⟩:=pn.cnt hg.2
    rw[rr.Qc3]at l2
    have nlapp:∀(as bs:List D),nls (as++bs)=nls as+nls bs:=λas bs=>by
     induction as with
     | nil=>simp[nls]
     | cons a as ih=>simp only[ZbC,nls,ih];omega
    refine⟨by rw[Zu,l1,l2,nlapp];simp[nls],λa=>?_⟩
    have fl:((rr.norm.M.map F2).flatten).count a=0:=by
     rw[Zab]
     intro hm
     obtain⟨l,hl,hal⟩:=ZbD.mp hm
     obtain⟨j,hj,rfl⟩:=ZN.mp hl
     obtain⟨d,ej⟩:=pn.own j hj
     have hf:=sh1 j d ej
     obtain⟨v,_,rv⟩:=rel2.val j d true ej
     rw[rv.Qbj hf]at hal
     simp at hal
    have h1:=c1 a
    have h2:=c2 a
    rw[fl]at h2
    rw[Zao]
    cases q5:H5 a with
    | some o=>rw[QdD q5]at h2;omega
    | none=>
     rw[QaV q5]at h2
     have h0:G.count a=0:=Zab.mpr λhm=>by
      obtain⟨vs,w⟩:=rps.mem a hm
      rw[s5 _ _ (s3 _ _ w)]at q5;cases q5
     rw[QaV (s15.free q5)]
     omega
 ·have hn:i=ir.items.length:=by omega
  subst hn
  refine .inl ⟨wk.stop H2 (heldOf H2 s2),?_⟩
  rw[List.drop_length]at hfold
  have:(ys,g)=(xs,f):=Option.some.inj hfold
  cases this
  have rp:Rp X.K H2 (.lst xs) (.ref Dl) (Dl::G):=Rp.QeK eD rps (Zx hlen hz)
  have hHD:H Dl=none:=s1.free hD
  split at q
  ·rename_i hg
   have hg:f=true:=hg
   obtain⟨l1,c1⟩:=hcnt hg
   have hn:∀a∈G,H1 a=none:=λa ha=>by
    have:=c1 a
    have h2:0<G.count a:=ZaD.mpr ha
    cases w:H1 a with
    | none=>rfl
    | some o=>rw[QdD w]at this;omega
   refine q _ H2 (Dl::G) ⟨s1.trans s2,rp,λa ha=>?_,λ_=>⟨λa=>?_,by simp only[D.nl,ZI,l1]⟩,Qa4.nil⟩
   ·rcases Zq.mp ha with rfl | h
    ·exact .inl hHD
    ·exact .inl (s1.free (hn a h))
   ·rw[ZaQ]
    have h1:=c1 a
    split
    ·rename_i w
     have w:Dl=a:=by simpa using w
     subst w
     have h0:G.count Dl=0:=Zab.mpr λh=>(hG _ h).1 rfl
     rw[QaV hHD];omega
    ·cases w:H1 a with
     | none=>rw[QaV w]at h1;rw[QaV (s1.free w)];omega
     | some o=>rw[QdD w]at h1;omega
  ·refine q _ H2 (Dl::G) ⟨s1.trans s2,rp,λa ha=>?_,λz=>(by cases z),?_⟩
   ·rcases Zq.mp ha with rfl | h
    ·exact .inl hHD
    ·rcases(hG a h).2 with z | z
     ·exact .inl (s1.free z)
     ·exact(oldOf a z).2
   ·refine ow.append λi hi=>?_
    unfold QoZ at hi
    obtain⟨o,_,ho⟩:=Zbr.mp hi
    cases o with
    | none=>cases ho
    | some k=>
     simp only[Za]at ho
     split at ho
     ·rename_i d b hk
      split at ho
      ·rename_i hb
       cases ho
       simp only[Zk]at hb
       rw[hb.1]at hk
       exact⟨d,hk⟩
      ·cases ho
     ·cases ho
section
variable {X:Cx}{tg iter elt:Expr}{ifs:List Expr}{scope:Scope}{N':List Str}{pos:Pos}{fi:DI}{t:Tg}{cap:List (Option Nat)}{ft:DT}{fe:DE}
theorem Quh(hcalm:X.calm=true)(S:Qd3 X N' scope)(hi:SI X tg iter fi)(hcap:Qk7 X N' scope cap t.slots)
  (hin:∀cl C fp s3 H3,SG (cxc X N' scope cl C fp s3 H3) tg t/\Ql8 (cxc X N' scope cl C fp s3 H3) ifs ft/\SE (cxc X N' scope cl C fp s3 H3) elt fe) (hs:∀x,foldedSetIterable iter X.env x=pure x):
  SE X (.ListComp elt [⟨tg,iter,ifs,0⟩] scope pos) (Q5 fi t cap ft fe):=λH0 A0=>
 (Qog hcalm S (hi H0 A0) (λcl C fp s3 H3=>⟨(hin cl C fp s3 H3).1 _ _,(hin cl C fp s3 H3).2.1 _ _,(hin cl C fp s3 H3).2.2 _ _⟩) hs).mono λσ H Q h=>Qkx hcap h
end
end HS
namespace HS
open PySem PySem.Spec L2
inductive Out where
 | nx (ρ:En)
 | bk (ρ:En)
 | ct (ρ:En)
 | rt (d:D) (fr:Bool)
noncomputable abbrev DS:=En->Option Out
noncomputable def Fits(K:PySem.W.Frag)(H0:Hp)(A0:List Addr)(hs:List (V×D×List Addr))(E:Ends):Out->Prop
 | .nx ρ=>∀σ H F,Rel K H0 A0 hs ρ F σ H->E.nx σ H
 | .bk ρ=>∀σ H F,Rel K H0 A0 hs ρ F σ H->E.bk σ H
 | .ct ρ=>∀σ H F,Rel K H0 A0 hs ρ F σ H->E.ct σ H
 | .rt d fr=>∀v H G,Ret K H0 A0 d fr v H G->E.rt v H
noncomputable def tS(K:PySem.W.Frag)(H0:Hp)(A0:List Addr)(f:DS):TS:=λE σ H=>∃ρ hs F o,Rel K H0 A0 hs ρ F σ H/\f ρ=some o/\Fits K H0 A0 hs E o
def S1(X:Cx)(st:Stmt)(f:DS):Prop:=∀H0 A0,PS X st (tS X.K H0 A0 f)
def SS(X:Cx)(sts:List Stmt)(f:DS):Prop:=∀H0 A0,PSs X sts (tS X.K H0 A0 f)
theorem _root_.L2.PS.mono(h:PS X st t)(m:∀D σ H,t' D σ H->t D σ H):PS X st t':=λpins s σ H D I q=>h pins s σ H D I (m D σ H q)
theorem _root_.L2.PSs.mono(h:PSs X st t)(m:∀D σ H,t' D σ H->t D σ H):PSs X st t':=λpins s σ H D I q=>h pins s σ H D I (m D σ H q)
noncomputable def Qq:DS:=λρ=>some (.nx ρ)
noncomputable def Qe(f g:DS):DS:=λρ=>(f ρ).bind λo=>match o with
 | .nx ρ'=>g ρ'
 | .bk ρ'=>some (.bk ρ')
 | .ct ρ'=>some (.ct ρ')
 | .rt d fr=>some (.rt d fr)
noncomputable def Qto:DS:=λρ=>some (.bk ρ)
noncomputable def QsX:DS:=λρ=>some (.ct ρ)
noncomputable def Qt(i:Nat)(fa:DE):DS:=λρ=>(fa ρ).bind λr=>some (.nx (asg i r ρ))
noncomputable def QaL(fa:DE):DE:=λρ=>(fa ρ).map λr=>⟨r.d,false,r.M⟩
noncomputable def Q2(fa:DE):DS:=λρ=>(fa ρ).bind λr=>some (.rt r.d (r.norm.fr && decide r.norm.M.Nodup))
noncomputable def QcR(fa:DE):DS:=λρ=>(fa ρ).bind λ_=>some (.nx ρ)
noncomputable def sIf(g:DT)(f1 f2:DS):DS:=λρ=>(g ρ).bind λb=>if b=true then f1 ρ else f2 ρ
noncomputable def Qc8(t:Tg)(fb:DS):List D->DS
 | [],ρ=>some (.nx ρ)
 | d::ds,ρ=>(Qby t d ρ).bind λρ1=>(fb ρ1).bind λo=>match o with
  | .nx ρ2=>Qc8 t fb ds ρ2
  | .ct ρ2=>Qc8 t fb ds ρ2
  | .bk ρ2=>some (.nx ρ2)
  | .rt d fr=>some (.rt d fr)
noncomputable def Qbf(fi:DI)(t:Tg)(fb:DS):DS:=λρ=>(fi ρ).bind λir=>Qc8 t fb ir.items (Qa9 ir.M ρ)
noncomputable def QaW(g:DT)(fb:DS):Nat->DS
 | 0,_=>none
 | n+1,ρ=>(g ρ).bind λb=>if b=true then(fb ρ).bind λo=>match o with
  | .nx ρ2=>QaW g fb n ρ2
  | .ct ρ2=>QaW g fb n ρ2
  | .bk ρ2=>some (.nx ρ2)
  | .rt d fr=>some (.rt d fr)
  else some (.nx ρ)
noncomputable def Qie(g:D->D->Option D)(i:Nat)(fa:DE):DS:=λρ=>match ρ[i]? with
 | some (some (d,_))=>(fa ρ).bind λr=>(g d r.d).map λd'=> .nx (ρ.set i (some (d',true)))
 | _=>none
section
theorem Qxp:SS X [] Qq:=λH0 A0=>QuI.mono λE σ H=>exK λρ hs F o rel e q=>by
 cases e
 exact q σ H F rel
theorem Qvv(h1:S1 X st f)(h2:SS X sts g):SS X (st::sts) (Qe f g):=λH0 A0=>(Qtm (h1 H0 A0) (h2 H0 A0)).mono λE σ H=>exK λρ hs F o rel e q=>by
 refine Qk e λo1 e1 e=>?_
 refine⟨ρ,hs,F,o1,rel,e1,?_⟩
 cases o1 with
 | nx ρ'=>exact λσ' H' F' rel'=>⟨ρ',hs,F',o,rel',e,q⟩
 | bk ρ'=>cases e;exact q
 | ct ρ'=>cases e;exact q
 | rt d fr=>cases e;exact q
theorem Qvh:S1 X (.Pass pos) Qq:=λH0 A0=>Quk.mono λE σ H=>exK λρ hs F o rel e q=>by
 cases e
 exact q σ H F rel
theorem Qty:S1 X (.Break pos) Qto:=λH0 A0=>Qs8.mono λE σ H=>exK λρ hs F o rel e q=>by
 cases e
 exact q σ H F rel
theorem QuG:S1 X (.Continue pos) QsX:=λH0 A0=>Qnj.mono λE σ H=>exK λρ hs F o rel e q=>by
 cases e
 exact q σ H F rel
theorem Qrx(h:SE X e fa):SE X e (QaL fa):=λH0 A0=>(h H0 A0).mono λσ H Q=>exK λρ hs F r rel e q=>by
 obtain⟨r',e1,rfl⟩:=Zf.mp e
 exact⟨ρ,hs,F,r',rel,e1,λv H' G p=>q v H' G ⟨p.same,p.rp,p.src,λz=>(by cases z),p.own⟩⟩
theorem Qm3(h:∀H0 A0,PS X st (Qm2 (tV X.K H0 A0 fa) (Qg8 i))):S1 X st (Qt i fa):=λH0 A0=>(h H0 A0).mono λE σ H=>exK λρ hs F o rel e q=>by
 refine Qk e λr e1 e=>?_
 cases e
 refine⟨ρ,hs,F,r,rel,e1,λv H' G p=>?_⟩
 obtain⟨F',rel'⟩:=rel.asg (i:=i) p
 exact q _ _ F' rel'
theorem Qvt(h:PS X st (QiN (tV X.K H0 A0 fa))):PS X st (tS X.K H0 A0 (QcR fa)):=h.mono λE σ H=>exK λρ hs F o rel e q=>by
 refine Qk e λr e1 e=>?_
 cases e
 exact⟨ρ,hs,F,r,rel,e1,λv H' G p=>q σ H' F (rel.ext p.same)⟩
theorem Rel.ret(rel:Rel K H0 A0 hs ρ F σ H)(p:Qaa K ρ F H H' r v G):Ret K H0 A0 r.d (r.norm.fr && decide r.norm.M.Nodup) v H' G where
 same:=rel.same.trans p.same
 rp:=p.rp
 src:=λa ha=>by
  rcases p.src a ha with z | ⟨i,d,b,e,m,_⟩
  ·exact .inl (rel.same.free z)
  ·exact rel.src i d b e a m
 cnt:=λh=>by
  simp only[Zk,decide_eq_true_eq]at h
  have p':=p.norm
  obtain⟨h1,h2⟩:=p'.fresh rel h.1 h.2
  have h3:=(p'.cnt h.1).2
  rw[r.Qc3]at h3
  exact⟨h1,h3,λa ha=>(h2 a ha).1⟩
theorem Qv7(he:SE X e fa):S1 X (.Return (some e) pos) (Q2 fa):=λH0 A0=>(QwM (he H0 A0)).mono λE σ H=>exK λρ hs F o rel e q=>by
 refine Qk e λr e1 e=>?_
 cases e
 exact⟨ρ,hs,F,r,rel,e1,λv H' G p=>q v H' G (rel.ret p)⟩
theorem Qyo(hc:ST X c gc)(ha:SS X a f)(hb:SS X b g):S1 X (.If c a b pos) (sIf gc f g):=λH0 A0=>(Qx0 (hc H0 A0) (ha H0 A0) (hb H0 A0)).mono λE σ H=>exK λρ hs F o rel e q=>by
 refine Qk e λc e1 e=>?_
 refine⟨ρ,hs,F,c,rel,e1,λH1 s1=>?_⟩
 cases c with
 | true=>exact Qse ⟨ρ,hs,F,o,rel.ext s1,e,q⟩
 | false=>exact QrH ⟨ρ,hs,F,o,rel.ext s1,e,q⟩
theorem QwA(hp:PassesOwn (model X.prog X.w) X.A X.env X.xe)(hc:X.calm=true)(hi:SI X tg iter fi)(hg:SG X tg t)(hb:SS X body f)(hs:∀x,foldedSetIterable iter X.env x=pure x):
  S1 X (.For tg iter body [] pos) (Qbf fi t f):=λH0 A0=>(Qxj hp hc (hi H0 A0) (hg H0 A0) (hb H0 A0) hs).mono λE σ H=>exK λρ hs F o rel e q=>by
 refine Qk e λir e1 e=>?_
 refine⟨ρ,hs,F,ir,rel,e1,λJ H1 ts s1 wk hts ow hz=>?_⟩
 have rel1:Rel X.K H0 A0 (ts++hs) (Qa9 ir.M ρ) F σ H1:=((rel.ext s1).weak (Qbx ir.M ρ)).hold λt ht=>⟨(hts t ht).1,Shr.of rel (hts t ht).2⟩
 refine⟨λi m σ' H'=>m=ir.items.length-i/\i<=ir.items.length/\∃ρi Fi,Rel X.K H0 A0 (ts++hs) ρi Fi σ' H'/\Qc8 t f (ir.items.drop i) ρi=some o,⟨_,rfl,Zac _,_,F,rel1,by simpa using e⟩,?_⟩
 rintro i m σ' H' ⟨rfl,hi',ρi,Fi,reli,ei⟩
 have held:QjP X.K H' ts:=λt ht=>(reli.held t (Zn _ ht)).1
 by_cases hlt:i<ir.items.length
 ·rw[Zam hlt]at ei
  unfold Qc8 at ei
  refine Qk ei λρ1 eb ei=>?_
  refine Qk ei λo1 eo ei=>?_
  refine .inr ⟨wk.go i H' hlt held,λσ2 H2=>∃ρ2 F2,Rel X.K H0 A0 (ts++hs) ρ2 F2 σ2 H2/\Qc8 t f (ir.items.drop (i+1)) ρ2=some o,λσ2 H2 ⟨ρ2,F2,rel2,e2⟩=>⟨_,by omega,rfl,hlt,ρ2,F2,rel2,e2⟩,λx H2 hy=>?_⟩
  obtain⟨s2,G0,rp0,hG0⟩:=wk.yld i ir.items[i] H' x H2 (by simp[hlt]) held hy
  have shr:Shr H0 A0 ρi Fi G0:=λa ha=>by
   obtain⟨t,ht,hat⟩:=hG0 a ha
   exact⟨(reli.held t (Zn _ ht)).2 a hat,λj d ej hj=>(reli.own j d ej).2.2.2.2 t (Zn _ ht) a hj hat⟩
  refine⟨ρi,ts++hs,Fi,ir.items[i],G0,ρ1,reli.ext s2,rp0,shr,eb,λσ3 F3 rel3 _ _=>⟨ρ1,ts++hs,F3,o1,rel3,eo,?_⟩⟩
  cases o1 with
  | nx ρ2=>exact λσ4 H4 F4 rel4=>⟨ρ2,F4,rel4,ei⟩
  | ct ρ2=>exact λσ4 H4 F4 rel4=>⟨ρ2,F4,rel4,ei⟩
  | bk ρ2=>cases ei;exact λσ4 H4 F4 rel4=>q σ4 H4 F4 rel4.QpI
  | rt d fr=>cases ei;exact q
 ·have hn:i=ir.items.length:=by omega
  subst hn
  rw[List.drop_length]at ei
  cases ei
  exact .inl ⟨wk.stop H' held,q σ' H' Fi reli.QpI⟩
theorem Qs7(hp:PassesOwn (model X.prog X.w) X.A X.env X.xe)(hc:ST X c gc)(hb:SS X body f):S1 X (.While c body [] pos) (QaW gc f n):=λH0 A0=>(QrX hp (hc H0 A0) (hb H0 A0)).mono λE σ H=>exK λρ hs F o rel e q=>by
 refine⟨λm σ' H'=>∃ρi Fi,Rel X.K H0 A0 hs ρi Fi σ' H'/\QaW gc f m ρi=some o,⟨n,ρ,F,rel,e⟩,?_⟩
 rintro m σ' H' ⟨ρi,Fi,reli,ei⟩
 cases m with
 | zero=>cases ei
 | succ m=>
  unfold QaW at ei
  refine Qk ei λb eb ei=>?_
  refine⟨ρi,hs,Fi,b,reli,eb,λH1 s1=>?_⟩
  cases b with
  | false=>
   rw[if_neg Zag]at ei
   cases ei
   exact QrH (q σ' H1 Fi (reli.ext s1))
  | true=>
   rw[if_pos rfl]at ei
   refine Qk ei λo1 eo ei=>?_
   refine Qse ⟨λσ2 H2=>∃ρ2 F2,Rel X.K H0 A0 hs ρ2 F2 σ2 H2/\QaW gc f m ρ2=some o,λσ2 H2 h=>⟨m,ZaL _,h⟩,ρi,hs,Fi,o1,reli.ext s1,eo,?_⟩
   cases o1 with
   | nx ρ2=>exact λσ4 H4 F4 rel4=>⟨ρ2,F4,rel4,ei⟩
   | ct ρ2=>exact λσ4 H4 F4 rel4=>⟨ρ2,F4,rel4,ei⟩
   | bk ρ2=>cases ei;exact λσ4 H4 F4 rel4=>q σ4 H4 F4 rel4
   | rt d fr=>cases ei;exact q
theorem Rel.QzK(rel:Rel K H0 A0 hs ρ F σ H)(rp:Rp K H d v [])(hf:d.flat=true):
  ∃F',Rel K H0 A0 hs (ρ.set i (some (d,true))) F' (σ.set i (some v)) H:=by
 have:=rel.QoB (i:=i) rp (λa ha=>by simp at ha)
 rw[hf]at this
 exact⟨_,this⟩
theorem QxR(ho:OpR X (inplaceOp op) r)(hg:Qbv X.K g r)(h:∀te ti,PE X e te->PIp X op ti->PS X (.AugAssign (.Name x pos') op e pos) (Qwt i te ti))(he:SE X e fa):S1 X (.AugAssign (.Name x pos') op e pos) (Qie g i fa):=λH0 A0=>
 (h _ _ (he H0 A0) (λpins s σ H x y v u Q I rx ry q=>QwR ho I rx ry q)).mono λE σ H=>exK λρ hs F o rel e q=>by
  unfold Qie at e
  split at e
  ·rename_i d b hd
   refine Qk e λr' e1 e=>?_
   obtain⟨d',e2,e⟩:=Zf.mp e
   subst e
   obtain⟨v,h1,h2⟩:=rel.val i d b hd
   refine⟨v,h1,ρ,hs,F,r',rel,e1,λy H1 G p=>(hg _ _ _ e2).2 H1 v y (F i) G _ (h2.same p.same) p.rp λw hw=>?_⟩
   obtain⟨F',rel'⟩:=(rel.ext p.same).QzK (i:=i) (hw H1) (hg _ _ _ e2).1
   exact q _ _ F' rel'
  ·cases e
end
end HS
namespace HS
open PySem PySem.Spec L2 PyProof.Rows
section
variable {K:PySem.W.Frag}{H H':Hp}{p:Addr}{zs ys:List (List Key×V)}
theorem Qsk{a:Addr}{vs:List V}(hp:H p=some (.dT zs))(h:SqT K H a vs):SqT K (L2.upd H p (.dT ys)) a vs:=by
 rcases h with(h | ⟨o,h⟩) | h
 ·exact .inl (.inl (by rw[QD (QdS h hp (by intro z;cases z))];exact h))
 ·exact .inl (.inr ⟨o,by rw[QD (QdS h hp (by intro z;cases z))];exact h⟩)
 ·exact .inr h
theorem QsU{a:Addr}{vs:List V}(hp:H p=some (.dT zs))(h:Fix K H a vs):Fix K (L2.upd H p (.dT ys)) a vs:=by
 rcases h with⟨o,h⟩ | h
 ·exact .inl ⟨o,by rw[QD (QdS h hp (by intro z;cases z))];exact h⟩
 ·exact .inr h
mutual
theorem Rp.Qgq(hp:H p=some (.dT zs)):∀{d:D}{v:V}{F:List Addr},Rp K H d v F->p∉F->Rp K (L2.upd H p (.dT ys)) d v F
 | .exc _,_,_,h,_=>by
  simp only[Rp]at h ⊢
  obtain⟨⟨a,e,C,q1,q2⟩,z⟩:=h
  exact⟨⟨a,e,C,q1,by rw[QD (QdS q2 hp (by intro z;cases z))];exact q2⟩,z⟩
 | .dk _,_,_,h,hn=>by
  simp only[Rp]at h ⊢
  obtain⟨a,e,eF,q⟩:=h
  subst eF
  exact⟨a,e,rfl,by rw[QD (λz=>hn (by rw[z];exact Zi))];exact q⟩
 | .non,_,_,h,_=>h
 | .bl _,_,_,h,_=>h
 | .int _,_,_,h,_=>h
 | .str _,_,_,h,_=>h
 | .tup ds,_,_,h,hn=>by
  simp only[Rp]at h ⊢
  obtain⟨a,vs,e,q,r⟩:=h
  exact⟨a,vs,e,Qsk hp q,Rps.Qgq hp r hn⟩
 | .lst ds,_,_,h,hn=>by
  simp only[Rp]at h ⊢
  obtain⟨hz,a,vs,e,⟨G,eF,q,r⟩ | ⟨q,r⟩⟩:=h
  ·subst eF
   have h1:a≠p:=λz=>hn (by rw[z];exact Zi)
   exact⟨hz,a,vs,e,.inl ⟨G,rfl,by rw[QD h1];exact q,Rps.Qgq hp r λz=>hn (Zc _ z)⟩⟩
  ·exact⟨hz,a,vs,e,.inr ⟨QsU hp q,Rps.Qgq hp r hn⟩⟩
theorem Rps.Qgq(hp:H p=some (.dT zs)):∀{ds:List D}{vs:List V}{F:List Addr},Rps K H ds vs F->p∉F->Rps K (L2.upd H p (.dT ys)) ds vs F
 | [],_,_,h,_=>h
 | d::ds,_,_,h,hn=>by
  simp only[Rps]at h ⊢
  obtain⟨v,ws,F1,F2,e,eF,r,q⟩:=h
  subst eF
  exact⟨v,ws,F1,F2,e,rfl,Rp.Qgq hp r λz=>hn (Zn _ z),Rps.Qgq hp q λz=>hn (Ze _ z)⟩
end
end
section
variable {K:PySem.W.Frag}{H0 H:Hp}{A0:List Addr}{hs:List (V×D×List Addr)}{ρ:En}{F:Nat->List Addr}{σ:L2.St}{x:Nat}{ks ks':List (List Int)}
theorem Rel.Qwe(rel:Rel K H0 A0 hs ρ F σ H)(hx:ρ[x]? =some (some (.dk ks,true))):∃a,σ[x]? =some (some (.ref a))/\H a=some (.dT (dkC ks))/\Rel K H0 A0 hs (ρ.set x (some (.dk ks',true))) F σ (L2.upd H a (.dT (dkC ks'))):=by
 obtain⟨v,h1,h2⟩:=rel.val x _ _ hx
 simp only[Rp]at h2
 obtain⟨a,rfl,eF,hp⟩:=h2
 obtain⟨o1,o2,o3,o4,o5⟩:=rel.own x _ hx
 have ha:a∈F x:=by rw[eF];exact Zi
 have hlx:x<ρ.length:=(Zd.mp hx).1
 refine⟨a,h1,hp,?_⟩
 have get:∀(i:Nat) d b,(ρ.set x (some (.dk ks',true)))[i]? =some (some (d,b))->(i=x/\d= .dk ks'/\b=true)∨(i≠x/\ρ[i]? =some (some (d,b))):=λi d b e=>by
  by_cases hi:i=x
  ·subst hi
   rw[Zy hlx]at e
   cases e
   exact .inl ⟨rfl,rfl,rfl⟩
  ·rw[Zm (Ne.symm hi)]at e
   exact .inr ⟨hi,e⟩
 refine⟨by rw[ZaX];exact rel.len,λi d b e=>?_,λi d e=>?_,λi d b e c hc=>?_,λt ht=>?_,λb u e=>?_⟩
 ·rcases get i d b e with⟨rfl,rfl,rfl⟩ | ⟨hi,e⟩
  ·exact⟨_,h1,by simp only[Rp];exact⟨a,rfl,eF,Q9⟩⟩
  ·obtain⟨v,k1,k2⟩:=rel.val i d b e
   exact⟨v,k1,k2.Qgq hp (o4 i d b hi e a ha)⟩
 ·rcases get i d true e with⟨rfl,rfl,_⟩ | ⟨hi,e⟩
  ·refine⟨o1,o2,o3,λj d' b' hj ej=>?_,o5⟩
   rcases get j d' b' ej with⟨z,_⟩ | ⟨_,ej⟩
   ·exact absurd z hj
   ·exact o4 j d' b' hj ej
  ·obtain⟨m1,m2,m3,m4,m5⟩:=rel.own i d e
   refine⟨m1,m2,m3,λj d' b' hj ej=>?_,m5⟩
   rcases get j d' b' ej with⟨rfl,_,_⟩ | ⟨_,ej⟩
   ·exact m4 j _ _ hj hx
   ·exact m4 j d' b' hj ej
 ·rcases get i d b e with⟨rfl,_,_⟩ | ⟨hi,e⟩
  ·exact rel.src _ _ _ hx c hc
  ·exact rel.src i d b e c hc
 ·exact⟨(rel.held t ht).1.Qgq hp (o5 t ht a ha),(rel.held t ht).2⟩
 ·have hne:b≠a:=λz=>by rw[z,o3 a ha]at e;cases e
  rw[QD hne]
  exact rel.same b u e
theorem QrQ(k:List Int):∀ks:List (List Int),putK (dkC ks) (k.map Sum.inl) (V.bl true)=dkC (if ks.contains k then ks else ks++[k]):=λks=>by
 have h:((dkC ks).any λkv=>decide (kv.1=k.map Sum.inl))=ks.contains k:=by
  unfold dkC
  rw[List.any_map,List.contains_eq_any_beq]
  congr 1
  funext x
  simp only[Function.comp]
  rw[Bool.eq_iff_iff,decide_eq_true_iff,beq_iff_eq]
  exact⟨λe=>(QnX e).symm,λe=>by rw[e]⟩
 unfold putK
 rw[h]
 cases hc:ks.contains k with
 | false=>simp[dkC]
 | true=>
  rw[if_pos rfl,if_pos rfl]
  unfold dkC
  rw[ZR]
  refine Zs λx _=>?_
  simp only[Function.comp]
  split<;>rfl
noncomputable def QfX(x:Nat)(fs:DA):DS:=λρ=>match ρ[x]? with
 | some (some (.dk ks,true))=>(fs ρ).bind λr=>match r.ds with
  | [.lst ds]=>(intsOf ds).bind λk=>if ks.length<sizeLine then some (.nx (ρ.set x (some (.dk (if ks.contains k then ks else ks++[k]),true))))else none
  | _=>none
 | _=>none
end
section
variable {X:Cx}{x:Nat}{fs:DA}{o e value:Expr}{es:List Expr}{p pos pos' cpos:Pos}
theorem Qt7(hu:X.A.units+1<cLine)(ho:PE X o (QjE x))(hg:Gl X "tuple")(hm:X.mg "tuple" =none)(ha:SA X (e::es) fs)(he:starEach (e::es) X.env=(false,eval e X.env)::starEach es X.env)
  (hpl:(backTo cpos (starEach es X.env)).any (·.1)=false) (hv:SE X value (dC (.bl true))) (hs:swapsWith value (some (.Subscript o (.Call (.Name "tuple" p) (e::es) [] cpos) pos')) pos.line X.env=pure false):
  S1 X (.Assign [.Subscript o (.Call (.Name "tuple" p) (e::es) [] cpos) pos'] value pos) (QfX x fs):=λH0 A0=>
 (QuO hu ho (Qgs Qf9 hg hm Zbv (ha H0 A0) (by decide) (by decide) he hpl) (hv H0 A0) hs).mono λE σ H=>exK λρ hs F o' rel e q=>by
  unfold QfX at e
  split at e
  case h_2=>cases e
  rename_i ks hx
  refine Qk e λr e1 e=>?_
  refine⟨ρ,hs,F,⟨.bl true,true,[]⟩,rel,rfl,λv H1 G p1=>?_⟩
  have rel1:=rel.ext p1.same
  obtain⟨v',s1,_⟩:=rel1.val x _ _ hx
  refine⟨v',s1,ρ,hs,F,r,rel1,e1,λvs H2 G2 p2=>?_⟩
  split at e
  case h_2=>cases e
  rename_i ds hds
  refine Qk e λk ek e=>?_
  split at e
  case isFalse=>cases e
  rename_i hl
  cases e
  have rp:=p2.rp
  rw[hds]at rp
  obtain⟨v2,rfl,rq⟩:=rp.one
  obtain⟨l,ws,L,rfl,hq,rl,zl,el⟩:=rq.lst_inv
  obtain⟨rfl,_⟩:=Qii rl ek
  refine⟨l,_,rfl,.inl ⟨QX hq,λc hc=>?_⟩⟩
  have rel2:=(rel1.ext p2.same).ext (Qay (o:= .tup (k.map V.int)) hc)
  obtain⟨a,w1,w2,w3⟩:=rel2.Qwe (ks':=if ks.contains k then ks else ks++[k]) hx
  rw[s1]at w1
  cases w1
  have hb:=p1.rp.Qb4
  subst hb
  refine⟨a,_,rfl,?_,q _ _ _ w3⟩
  rw[← QrQ]
  refine QhV.t w2 ?_ (by unfold dkC;rw[Zg];exact hl)
  rw[Q9,ZR]
  rfl
end
end HS
namespace HS
open PySem PySem.Spec L2 PyProof.Rows
noncomputable def Qxt(tk tv:TE):TE:=λσ H Q=>∀p,H p=none->tk σ (L2.upd H p (.dT [])) λy H1=>tv σ H1 λw H2=>
 ∃(b:Addr) (ks:List Key),y= .ref b/\H2 p=some (.dT [])/\H2 b=some (.tup (ks.map kV))/\Q (.ref p) (L2.upd H2 p (.dT [(ks,w)]))
theorem QrG{X:Cx}{k v:Expr}{pos:Pos}{tk tv:TE}(hu:X.A.units+1<cLine)(hk:PE X k tk)(hv:PE X v tv):PE X (.Dict [some k] [v] pos) (Qxt tk tv):=by
 intro pins s σ H Q I h
 refine wpAny_Dict_any rfl rfl (by simp) (by simp) ?_
 have hp:H s.heap.objs.size=none:=I.hok.fresh (Zh _)
 have I1:=I.laid (a:=s.heap.objs.size) (o:= .dT []) (h':=s.heap.push {cls:= .type "dict",data:= .dict #[]}) (t':=s.toks) (λ_ _ q=>Zb _ q) (Zh _) (QlH s.heap I.big)
 refine pairTrees_cons_walk (thn (hk pins _ σ _ _ I1 (h _ hp)) λu s1 ⟨y,H1,I2,ry,q1⟩=>thn (hv pins s1 σ H1 _ I2 q1) λr s2 ⟨w,H2,I3,rw',b,ks,ey,e,eb,q2⟩=>pairTrees_nil_walk ?_)
 subst ey
 cases(show u=Value.ref b from ry)
 obtain⟨z,hd,xs,rel,dd⟩:=QoQ I3.hok e
 have hz:xs.length<=sizeLine:=by rw[← Zbn rel];exact z
 unfold storeAll
 simp only[ZbJ,Zcm]
 refine wpAny_bind (wpAny_bind (wpAny_dictSet_heap (knd:=tupleKind (QaR X.prog X.w)) (hsz:=hz) (Nat.lt_of_succ_lt hu) (QmU I3.hok eb) dd λh' dd' hs=>?_))
 obtain⟨q,es,ep,hq,h2,h3,h4,_,h5⟩:=dd'
 have I4:=QjV (t':=s2.toks+(tupleKind (QaR X.prog X.w)).draws ks) (ob:= .dT [(ks,w)]) I3 (by rw[e];exact True.intro) hs ⟨q,hq⟩ ⟨by simp[sizeLine_eq],hd,_,(rel.put ks eb rw').keeps λc ys ec=>by
  rw[QD (QdS ec e (λz=>nomatch z))]
  exact ec,q,es,ep,hq,h2,h3,h4,h5⟩
 exact wpAny_pure (wpAny_pure ⟨.ref s.heap.objs.size,_,I4,rfl,q2⟩)
noncomputable def dD1(fs:DA):DE:=λρ=>(fs ρ).bind λr=>match r.ds with
 | [.lst ds]=>(intsOf ds).map λk=>⟨.dk [k],true,[]⟩
 | _=>none
theorem QyX{X:Cx}{e value:Expr}{es:List Expr}{p pos cpos:Pos}{fs:DA}(hu:X.A.units+1<cLine)(hg:Gl X "tuple")(hm:X.mg "tuple" =none)(ha:SA X (e::es) fs)(he:starEach (e::es) X.env=(false,eval e X.env)::starEach es X.env)
  (hpl:(backTo cpos (starEach es X.env)).any (·.1)=false) (hv:SE X value (dC (.bl true))):SE X (.Dict [some (.Call (.Name "tuple" p) (e::es) [] cpos)] [value] pos) (dD1 fs):=λH0 A0=>
 (QrG hu (Qgs Qf9 hg hm Zbv (ha H0 A0) (by decide) (by decide) he hpl) (hv H0 A0)).mono λσ H Q=>exK λρ hs F r' rel e q=>by
  refine Qk e λr e1 e=>?_
  intro d hd
  have rel1:=rel.ext (Qay (o:= .dT []) hd)
  refine⟨ρ,hs,F,r,rel1,e1,λvs H2 G2 p2=>?_⟩
  split at e
  case h_2=>cases e
  rename_i ds hds
  obtain⟨k,ek,rfl⟩:=Zf.mp e
  have rp:=p2.rp
  rw[hds]at rp
  obtain⟨v2,rfl,rq⟩:=rp.one
  obtain⟨l,ws,L,rfl,hq,rl,zl,el⟩:=rq.lst_inv
  obtain⟨rfl,_⟩:=Qii rl ek
  refine⟨l,_,rfl,.inl ⟨QX hq,λc hc=>?_⟩⟩
  have rel2:=(rel1.ext p2.same).ext (Qay (o:= .tup (k.map V.int)) hc)
  refine⟨ρ,hs,F,⟨.bl true,true,[]⟩,rel2,rfl,λv H3 G3 p3=>?_⟩
  have hb:=p3.rp.Qb4
  subst hb
  have s3:QK (L2.upd H d (.dT [])) H3:=(p2.same.trans (Qay hc)).trans p3.same
  have e3:H3 d=some (.dT []):=s3 _ _ Q9
  have ec:H3 c=some (.tup ((k.map Sum.inl).map kV)):=by
   rw[ZR];exact p3.same _ _ Q9
  refine⟨c,k.map Sum.inl,rfl,e3,ec,q (.ref d) _ [d] ⟨λb u eb=>?_,by simp only[Rp];exact⟨d,rfl,rfl,Q9⟩,λa ha=> .inl (by rw[Zv.mp ha];exact hd),λ_=>⟨λa=>?_,rfl⟩,λi hi=>by cases hi⟩⟩
  ·have hne:b≠d:=λz=>by rw[z,hd]at eb;cases eb
   rw[QD hne]
   exact s3 _ _ (by rw[QD hne];exact eb)
  ·rw[ZbH]
   split
   ·rename_i h
    have h:d=a:=by simpa using h
    subst h
    rw[QaV hd];omega
   ·exact Zac _
end HS
namespace HS
open PySem PySem.Spec L2
section
variable {K:PySem.W.Frag}{H H':Hp}
theorem Rps.split:∀{ds:List D}{vs:List V}{F:List Addr}{j:Nat}{d:D},Rps K H ds vs F->ds[j]? =some d→
  ∃F1 G F2 v,F=F1++(G++F2)/\vs[j]? =some v/\Rps K H (ds.take j) (vs.take j) F1/\Rp K H d v G/\Rps K H (ds.drop (j+1)) (vs.drop (j+1)) F2
 | [],_,_,_,_,_,e=>by simp at e
 | d::ds,_,_,0,_,h,e=>by
  simp only[Rps]at h
  obtain⟨v,ws,F1,F2,rfl,rfl,r,q⟩:=h
  simp at e;subst e
  exact⟨[],F1,F2,v,rfl,by simp,by simp[Rps],r,by simpa using q⟩
 | d::ds,_,_,j+1,_,h,e=>by
  simp only[Rps]at h
  obtain⟨v,ws,F1,F2,rfl,rfl,r,q⟩:=h
  obtain⟨G1,G,G2,v',h1,h2,h3,h4,h5⟩:=Rps.split q (by simpa using e)
  refine⟨F1++G1,G,G2,v',by rw[h1,Zbd],by simpa using h2,?_,h4,by simpa using h5⟩
  simp only[ZbM,Rps]
  exact⟨v,_,F1,G1,rfl,rfl,r,h3⟩
theorem Rps.join{ds:List D}{vs:List V}{F1 G F2:List Addr}{j:Nat}{d:D}{v:V}(h1:Rps K H (ds.take j) (vs.take j) F1)(hd:Rp K H d v G)(h2:Rps K H (ds.drop (j+1)) (vs.drop (j+1)) F2)(hj:j<ds.length)(hv:vs[j]? =some v):
  Rps K H (ds.set j d) vs (F1++(G++F2)):=by
 have e1:ds.set j d=ds.take j++d::ds.drop (j+1):=ZaP .. |>.trans (by rw[if_pos hj])
 have hjv:j<vs.length:=(Zd.mp hv).1
 have hve:vs[j]=v:=(Zd.mp hv).2
 have e2:vs=vs.take j++v::vs.drop (j+1):=by
  rw[← hve,← Zam hjv,ZaO]
 rw[e1,e2]
 refine h1.append ?_
 simp only[Rps]
 refine⟨v,_,G,F2,rfl,rfl,hd,h2⟩
theorem Rps.QtL{ds:List D}{vs:List V}{F1 G F2:List Addr}{j:Nat}{d:D}{v:V}(h1:Rps K H (ds.take j) (vs.take j) F1)(hd:Rp K H d v G)(h2:Rps K H (ds.drop (j+1)) (vs.drop (j+1)) F2)(hj:j<ds.length)(hv:j<vs.length):
  Rps K H (ds.set j d) (vs.set j v) (F1++(G++F2)):=by
 have e1:ds.set j d=ds.take j++d::ds.drop (j+1):=ZaP .. |>.trans (by rw[if_pos hj])
 have e2:vs.set j v=vs.take j++v::vs.drop (j+1):=ZaP .. |>.trans (by rw[if_pos hv])
 rw[e1,e2]
 refine h1.append ?_
 simp only[Rps]
 exact⟨v,_,G,F2,rfl,rfl,hd,h2⟩
noncomputable def Focus(K:PySem.W.Frag)(H:Hp):List Int->D->V->List Addr->D->V->List Addr->Prop
 | [],d,v,F,dm,w,Gm=>dm=d/\w=v/\Gm=F/\Rp K H d v F
 | i::is,d,v,F,dm,w,Gm=>∃(ds:List D) (a:Addr) (vs:List V) (j:Nat) (F1 G F2:List Addr) (d':D) (v':V),v= .ref a/\ixN ds.length i=some j∧
   ((d= .lst ds/\ds.length<=sizeLine/\((F=a::(F1++(G++F2))/\H a=some (.lst vs))∨(F=F1++(G++F2)/\Fix K H a vs)))∨(d= .tup ds/\F=F1++(G++F2)/\SqT K H a vs))∧
   Rps K H (ds.take j) (vs.take j) F1/\Rps K H (ds.drop (j+1)) (vs.drop (j+1)) F2/\ds[j]? =some d'/\vs[j]? =some v'/\ds.length=vs.length/\Focus K H is d' v' G dm w Gm
theorem Focus.same(s:QK H H'):∀{is:List Int}{d:D}{v:V}{F:List Addr}{dm:D}{w:V}{Gm:List Addr},Focus K H is d v F dm w Gm->Focus K H' is d v F dm w Gm
 | [],_,_,_,_,_,_,h=>⟨h.1,h.2.1,h.2.2.1,h.2.2.2.same s⟩
 | i::is,_,_,_,_,_,_,h=>by
  obtain⟨ds,a,vs,j,F1,G,F2,d',v',h1,h2,h3,h4,h5,h6,h7,h8,h9⟩:=h
  refine⟨ds,a,vs,j,F1,G,F2,d',v',h1,h2,?_,h4.same s,h5.same s,h6,h7,h8,h9.same s⟩
  rcases h3 with⟨e,z,q⟩ | ⟨e,eF,q⟩
  ·refine .inl ⟨e,z,?_⟩
   rcases q with⟨eF,q⟩ | ⟨eF,q⟩
   ·exact .inl ⟨eF,s _ _ q⟩
   ·exact .inr ⟨eF,QlU s q⟩
  ·exact .inr ⟨e,eF,QlQ s q⟩
theorem Focus.rp:∀{is:List Int}{d:D}{v:V}{F:List Addr}{dm:D}{w:V}{Gm:List Addr},Focus K H is d v F dm w Gm->Rp K H dm w Gm
 | [],_,_,_,_,_,_,h=>by
  obtain⟨rfl,rfl,rfl,r⟩:=h
  exact r
 | i::is,_,_,_,_,_,_,h=>by
  obtain⟨ds,a,vs,j,F1,G,F2,d',v',h1,h2,h3,h4,h5,h6,h7,h8,h9⟩:=h
  exact h9.rp
theorem Focus.Qqm:∀{is:List Int}{d:D}{v:V}{F:List Addr}{dm:D}{w:V}{Gm:List Addr},Focus K H is d v F dm w Gm->Rp K H d v F
 | [],_,_,_,_,_,_,h=>h.2.2.2
 | i::is,_,_,_,_,_,_,h=>by
  obtain⟨ds,a,vs,j,F1,G,F2,d',v',rfl,h2,h3,h4,h5,h6,h7,h8,h9⟩:=h
  have hjl:j<ds.length:=(Zd.mp h6).1
  have hdj:ds[j]=d':=(Zd.mp h6).2
  have j1:=Rps.join h4 h9.Qqm h5 hjl h7
  rw[show ds.set j d'=ds by rw[← hdj];exact List.set_getElem_self hjl]at j1
  rcases h3 with⟨rfl,hz,⟨rfl,q⟩ | ⟨rfl,q⟩⟩ | ⟨rfl,rfl,q⟩
  ·exact Rp.QeK q j1 hz
  ·simp only[Rp]
   exact⟨hz,a,vs,rfl,.inr ⟨q,j1⟩⟩
  ·simp only[Rp]
   exact⟨a,vs,rfl,q,j1⟩
theorem Focus.one(r:Rp K H d v F)(hd:d.items=some ds)(hi:atI ds i=some d'):
  ∃a vs v' G,v= .ref a/\((d= .lst ds/\SqL K H a vs)∨(d= .tup ds/\SqT K H a vs))/\atI vs i=some v'/\Focus K H [i] d v F d' v' G:=by
 unfold atI at hi
 cases hj:ixN ds.length i with
 | none=>rw[hj]at hi;cases hi
 | some j=>
  rw[hj]at hi
  have hdj:ds[j]? =some d':=hi
  have fin:∀(vs:List V) (L:List Addr),Rps K H ds vs L->∃v' G F1 F2,L=F1++(G++F2)/\vs[j]? =some v'/\atI vs i=some v'/\Rps K H (ds.take j) (vs.take j) F1/\Rp K H d' v' G/\Rps K H (ds.drop (j+1)) (vs.drop (j+1)) F2/\ds.length=vs.length:=λvs L rl=>by
   obtain⟨F1,G,F2,v',h1,h2,h3,h4,h5⟩:=rl.split hdj
   refine⟨v',G,F1,F2,h1,h2,?_,h3,h4,h5,rl.length⟩
   unfold atI
   rw[← rl.length,hj]
   exact h2
  cases d with
  | lst xs=>
   cases hd
   simp only[Rp]at r
   obtain⟨hz,a,vs,rfl,⟨L,rfl,q,rl⟩ | ⟨q,rl⟩⟩:=r
   ·obtain⟨v',G,F1,F2,h1,h2,h3,h4,h5,h6,h7⟩:=fin vs L rl
    exact⟨a,vs,v',G,rfl,.inl ⟨rfl,SqL.of q⟩,h3,ds,a,vs,j,F1,G,F2,d',v',rfl,hj,.inl ⟨rfl,hz,.inl ⟨by rw[h1],q⟩⟩,h4,h6,hdj,h2,h7,rfl,rfl,rfl,h5⟩
   ·obtain⟨v',G,F1,F2,h1,h2,h3,h4,h5,h6,h7⟩:=fin vs _ rl
    exact⟨a,vs,v',G,rfl,.inl ⟨rfl,q.sq⟩,h3,ds,a,vs,j,F1,G,F2,d',v',rfl,hj,.inl ⟨rfl,hz,.inr ⟨h1,q⟩⟩,h4,h6,hdj,h2,h7,rfl,rfl,rfl,h5⟩
  | tup xs=>
   cases hd
   obtain⟨a,vs,rfl,q,rl⟩:=r.QaQ
   obtain⟨v',G,F1,F2,h1,h2,h3,h4,h5,h6,h7⟩:=fin vs _ rl
   exact⟨a,vs,v',G,rfl,.inr ⟨rfl,q⟩,h3,ds,a,vs,j,F1,G,F2,d',v',rfl,hj,.inr ⟨rfl,h1,q⟩,h4,h6,hdj,h2,h7,rfl,rfl,rfl,h5⟩
  | _=>cases hd
theorem Focus.snoc:∀{is:List Int}{d:D}{v:V}{F:List Addr}{dm:D}{w:V}{Gm:List Addr}{i:Int}{d':D}{v':V}{G:List Addr},Focus K H is d v F dm w Gm->Focus K H [i] dm w Gm d' v' G->Focus K H (is++[i]) d v F d' v' G
 | [],_,_,_,_,_,_,_,_,_,_,h,g=>by
  obtain⟨rfl,rfl,rfl,r⟩:=h
  exact g
 | k::is,_,_,_,_,_,_,_,_,_,_,h,g=>by
  obtain⟨ds,a,vs,j,F1,G,F2,d',v',h1,h2,h3,h4,h5,h6,h7,h8,h9⟩:=h
  exact⟨ds,a,vs,j,F1,G,F2,d',v',h1,h2,h3,h4,h5,h6,h7,h8,h9.snoc g⟩
noncomputable def Qbz:D->List Int->Option D
 | d,[]=>some d
 | d,i::is=>(d.items).bind λds=>(atI ds i).bind λd'=>Qbz d' is
theorem Qi9:∀{is:List Int}{d:D}{i:Int}{d':D},Qbz d (is++[i])=some d'->∃dm ds,Qbz d is=some dm/\dm.items=some ds/\atI ds i=some d'
 | [],d,i,d',h=>by
  refine Qk h λds h1 h=>?_
  refine Qk h λd'' h2 h=>?_
  cases h
  exact⟨d,ds,rfl,h1,h2⟩
 | k::is,d,i,d',h=>by
  refine Qk h λds h1 h=>?_
  refine Qk h λd'' h2 h=>?_
  obtain⟨dm,es,h3,h4,h5⟩:=Qi9 h
  refine⟨dm,es,?_,h4,h5⟩
  simp only[Qbz,h1,h2,Za,h3]
noncomputable def Qa8:List Int->D->D->D
 | [],_,new=>new
 | i::is,.lst ds,new=>match ixN ds.length i with
  | some j=> .lst (ds.set j (Qa8 is (ds.getD j .non) new))
  | none=> .lst ds
 | i::is,.tup ds,new=>match ixN ds.length i with
  | some j=> .tup (ds.set j (Qa8 is (ds.getD j .non) new))
  | none=> .tup ds
 | _::_,d,_=>d
theorem Qhk:∀{ds:List D}{j:Nat}{d e:D},ds[j]? =some d->nls (ds.set j e)+d.nl=nls ds+e.nl
 | [],_,_,_,h=>by simp at h
 | x::ds,0,d,e,h=>by simp at h;subst h;simp only[List.set_cons_zero,nls];omega
 | x::ds,j+1,d,e,h=>by
  have:=Qhk (e:=e) (by simpa using h)
  simp only[List.set_cons_succ,nls];omega
theorem QbY:∀(as bs:List D),nls (as++bs)=nls as+nls bs
 | [],bs=>by simp[nls]
 | a::as,bs=>by simp only[ZbC,nls,QbY as bs];omega
theorem Focus.mut:∀{is:List Int}{d:D}{v:V}{F:List Addr}{Gm:List Addr},Focus K H is d v F (.lst dsm) (.ref p) Gm->F.Nodup->F.length=d.nl→
  ∃vsm Gp,H p=some (.lst vsm)/\Gm=p::Gp/\Rps K H dsm vsm Gp/\Gp.length=nls dsm/\p∈F/\(∀a∈Gp,a∈F)/\p∉Gp∧
   (Rps K (upd H p (.lst vs')) ds' vs' G'->ds'.length<=sizeLine->G'.length=nls ds'→
    ∃F',Rp K (upd H p (.lst vs')) (Qa8 is d (.lst ds')) v F'/\F'.length=(Qa8 is d (.lst ds')).nl/\∀a,F'.count a+Gp.count a=F.count a+G'.count a)
 | [],d,v,F,Gm,h,nd,hl=>by
  obtain⟨rfl,rfl,rfl,r⟩:=h
  simp only[Rp]at r
  obtain⟨hz,a,vs,e,h⟩:=r
  cases e
  rcases h with⟨L,rfl,q,rl⟩ | ⟨q,rl⟩
  ·obtain⟨n1,n2⟩:=Zah.mp nd
   have hl':L.length=nls dsm:=by simp only[D.nl,ZI]at hl;omega
   refine⟨vs,L,q,rfl,rl,hl',Zi,λa ha=>Zc _ ha,n1,λr' hz' hl2=>⟨p::G',Rp.QeK Q9 r' hz',?_,λa=>?_⟩⟩
   ·simp only[Qa8,D.nl,ZI,hl2]
   ·rw[ZaQ,ZaQ];omega
  ·have:=rl.QaU
   simp only[D.nl]at hl
   omega
 | i::is,d,v,F,Gm,h,nd,hl=>by
  obtain⟨ds,a,vs,j,F1,G,F2,d',v',rfl,hj,h3,h4,h5,h6,h7,h8,h9⟩:=h
  have hjl:j<ds.length:=(Zd.mp h6).1
  have gd:ds.getD j .non=d':=by rw[Zae,h6];rfl
  have l1:=h4.QaU
  have l2:=h5.QaU
  have l3:=h9.Qqm.QaU
  have nlsplit:nls (ds.take j)+(d'.nl+nls (ds.drop (j+1)))=nls ds:=by
   have e1:ds=ds.take j++d'::ds.drop (j+1):=by
    have:ds[j]=d':=(Zd.mp h6).2
    rw[← this,← Zam hjl,ZaO]
   have e2:=congrArg nls e1
   rw[QbY]at e2
   simp only[nls]at e2
   exact e2.symm
  have core:(F1++(G++F2)).Nodup->(F1++(G++F2)).length=nls ds->_:=λnd' hl'=>by
   simp only[Zu]at hl'
   have hG:G.length=d'.nl:=by omega
   have ndG:G.Nodup:=(Zbw.mp (Zbw.mp nd').2.1).1
   exact(h9.mut (vs':=vs') (ds':=ds') (G':=G') ndG hG)
  have apart:(F1++(G++F2)).Nodup->p∈G->p∉F1/\p∉F2:=λnd' hp=>by
   have n1:=Zbw.mp nd'
   have n2:=Zbw.mp n1.2.1
   exact⟨λh=>n1.2.2 p h p (Zn _ hp) rfl,λh=>n2.2.2 p hp p h rfl⟩
  have cnt:∀(G'' Gp:List Addr),(∀a,G''.count a+Gp.count a=G.count a+G'.count a)->∀a,(F1++(G''++F2)).count a+Gp.count a=(F1++(G++F2)).count a+G'.count a:=λG'' Gp hc a=>by
   have:=hc a
   simp only[Zao];omega
  rcases h3 with⟨rfl,hz,⟨rfl,q⟩ | ⟨rfl,q⟩⟩ | ⟨rfl,rfl,q⟩
  ·
   obtain⟨n1,n2⟩:=Zah.mp nd
   have hl':(F1++(G++F2)).length=nls ds:=by simp only[D.nl,ZI]at hl;omega
   obtain⟨vsm,Gp,e1,e2,e3,e4,e5,e6,e7,e8⟩:=core n2 hl'
   have ap:=apart n2 e5
   have hap:a≠p:=λz=>n1 (by rw[z];exact Ze _ (Zn _ e5))
   refine⟨vsm,Gp,e1,e2,e3,e4,Zc _ (Ze _ (Zn _ e5)),λb hb=>Zc _ (Ze _ (Zn _ (e6 b hb))),e7,λr' hz' hl2=>?_⟩
   obtain⟨G'',f1,f2,f3⟩:=e8 r' hz' hl2
   have j1:=Rps.join (h4.upd e1 ap.1) f1 (h5.upd e1 ap.2) hjl h7
   refine⟨a::(F1++(G''++F2)),?_,?_,λb=>?_⟩
   ·simp only[Qa8,hj,gd]
    exact Rp.QeK (by rw[QD hap];exact q) j1 (by rw[ZaX];exact hz)
   ·have:=Qhk (e:=Qa8 is d' (.lst ds')) h6
    simp only[Qa8,hj,gd,D.nl,ZI,Zu,f2]at hl' ⊢
    omega
   ·have:=cnt G'' Gp f3 b
    rw[ZaQ,ZaQ];omega
  ·have:(F1++(G++F2)).length<=nls ds:=by simp only[Zu];omega
   simp only[D.nl]at hl
   omega
  ·
   have hl':(F1++(G++F2)).length=nls ds:=by simpa only[D.nl]using hl
   obtain⟨vsm,Gp,e1,e2,e3,e4,e5,e6,e7,e8⟩:=core nd hl'
   have ap:=apart nd e5
   refine⟨vsm,Gp,e1,e2,e3,e4,Ze _ (Zn _ e5),λb hb=>Ze _ (Zn _ (e6 b hb)),e7,λr' hz' hl2=>?_⟩
   obtain⟨G'',f1,f2,f3⟩:=e8 r' hz' hl2
   have j1:=Rps.join (h4.upd e1 ap.1) f1 (h5.upd e1 ap.2) hjl h7
   refine⟨F1++(G''++F2),?_,?_,cnt G'' Gp f3⟩
   ·simp only[Qa8,hj,gd,Rp]
    exact⟨a,vs,rfl,Qn5 e1 q,j1⟩
   ·have:=Qhk (e:=Qa8 is d' (.lst ds')) h6
    simp only[Qa8,hj,gd,D.nl,Zu,f2]at hl' ⊢
    omega
end
end HS
namespace HS
open PySem PySem.Spec L2
section
theorem Rel.mut(rel:Rel K H0 A0 hs ρ F σ H)(p:Qaa K ρ F H H1 r vn Gn)(hf:r.fr=true)(nd:r.M.Nodup)(s12:QK H1 H2)(hx:ρ[x]? =some (some (d,true)))(hxM:x∉r.M)(hv0:σ[x]? =some (some v0))
  {dnew:D}{q:Addr}{F':List Addr}{vsm vs':List V}(e1:H2 q=some (.lst vsm)) (e5:q∈F x) (f1:Rp K (upd H2 q (.lst vs')) dnew v0 F') (f2:F'.length=dnew.nl) (cF:∀a,F'.count a<=(F x).count a+Gn.count a):
  ∃F',Rel K H0 A0 hs ((kill r.M ρ).set x (some (dnew,true))) F' σ (upd H2 q (.lst vs')):=by
 obtain⟨ol,on,o0,oap,oh⟩:=rel.own x d hx
 obtain⟨gn,gs⟩:=p.fresh rel hf nd
 have rel2:=(rel.ext p.same).ext s12
 have relk:=rel2.weak (Qcq r.M ρ)
 have apn:∀a∈Gn,a∉F x:=λa ha hax=>by
  rcases(gs a ha).2 with z | ⟨k,d',hk,ek,hak⟩
  ·obtain⟨vs,w⟩:=rel.mem hx hax
   rw[z]at w;cases w
  ·have:k≠x:=λz=>hxM (z▸hk)
   exact oap k d' true this ek a hax hak
 have memF:∀a∈F',a∈F x∨a∈Gn:=λa ha=>by
  have h1:=cF a
  have h2:0<F'.count a:=ZaD.mpr ha
  by_cases h:a∈F x
  ·exact .inl h
  ·rw[Zab.mpr h]at h1
   exact .inr (ZaD.mp (by omega))
 have apart:∀(j:Nat) d' b,j≠x->(kill r.M ρ)[j]? =some (some (d',b))->∀a∈F',a∉F j:=λj d' b hj e a ha haj=>by
  obtain⟨b',e',_⟩:=(Qcq r.M ρ).2 j d' b e
  rcases memF a ha with h | h
  ·exact oap j d' b' hj e' a h haj
  ·rcases(gs a h).2 with z | ⟨k,d'',hk,ek,hak⟩
   ·obtain⟨vs,w⟩:=rel.mem e' haj
    rw[z]at w;cases w
   ·have hjk:j≠k:=λz=>by subst z;exact Qgw r.M ρ j d' b hk e
    exact(rel.own k d'' ek).2.2.2.1 j d' b' hjk e' a hak haj
 have apartH:∀t∈hs,∀a∈F',a∉t.2.2:=λt ht a ha hat=>by
  rcases memF a ha with h | h
  ·exact oh t ht a h hat
  ·rcases(gs a h).2 with z | ⟨k,d'',hk,ek,hak⟩
   ·obtain⟨vs,w⟩:=(rel.held t ht).1.mem a hat
    rw[z]at w;cases w
   ·exact(rel.own k d'' ek).2.2.2.2 t ht a hak hat
 have nqj:∀(j:Nat) d' b,j≠x->ρ[j]? =some (some (d',b))->q∉F j:=λj d' b hj e h=>oap j d' b hj e q e5 h
 have nF':F'.Nodup:=ZaF.mpr λa=>by
  have h1:=cF a
  have h2:=ZaF.mp on a
  have h3:=ZaF.mp gn a
  by_cases h:a∈Gn
  ·rw[Zab.mpr (apn a h)]at h1;omega
  ·rw[Zab.mpr h]at h1;omega
 have lt:∀{j:Nat}{z:Option (D×Bool)}{y:D×Bool},((kill r.M ρ).set j z)[j]? =some (some y)->j<(kill r.M ρ).length:=λ{j z y} e=>by
  by_cases hl:j<(kill r.M ρ).length
  ·exact hl
  ·rw[Zz (by simp;omega)]at e;cases e
 refine⟨λj=>if j=x then F' else F j,by simp[relk.len],λj d' b e=>?_,λj d' e=>?_,λj d' b e a ha=>?_,λt ht=>⟨(relk.held t ht).1.upd e1 λh=>oh t ht q e5 h,(relk.held t ht).2⟩,λb o hb=>?_⟩
 ·by_cases hj:j=x
  ·subst hj
   have hl:=lt e
   rw[Zy hl]at e
   cases e
   exact⟨v0,hv0,by rw[if_pos rfl];exact f1⟩
  ·rw[Zm (Ne.symm hj)]at e
   obtain⟨w,h1,h2⟩:=relk.val j d' b e
   obtain⟨b',e',_⟩:=(Qcq r.M ρ).2 j d' b e
   exact⟨w,h1,by rw[if_neg hj];exact h2.upd e1 (nqj j d' b' hj e')⟩
 ·by_cases hj:j=x
  ·subst hj
   have hl:=lt e
   rw[Zy hl]at e
   cases e
   rw[if_pos rfl]
   refine⟨f2,nF',λa ha=>?_,λk d'' b hk ek a ha=>?_,apartH⟩
   ·rcases memF a ha with h | h
    ·exact o0 a h
    ·exact(gs a h).1
   ·rw[Zm (Ne.symm hk)]at ek
    rw[if_neg hk]
    exact apart k d'' b hk ek a ha
  ·rw[Zm (Ne.symm hj)]at e
   obtain⟨h1,h2,h3,h4,h5⟩:=relk.own j d' e
   rw[if_neg hj]
   refine⟨h1,h2,h3,λk d'' b hk ek a ha=>?_,h5⟩
   by_cases hki:k=x
   ·subst hki
    rw[if_pos rfl]
    exact λhG=>apart j d' true hj e a hG ha
   ·rw[Zm (Ne.symm hki)]at ek
    rw[if_neg hki]
    exact h4 k d'' b hk ek a ha
 ·by_cases hj:j=x
  ·subst hj
   rw[if_pos rfl]at ha
   rcases memF a ha with h | h
   ·exact .inl (o0 a h)
   ·exact .inl (gs a h).1
  ·rw[Zm (Ne.symm hj)]at e
   rw[if_neg hj]at ha
   exact relk.src j d' b e a ha
 ·have hbq:b≠q:=λz=>by rw[z,o0 q e5]at hb;cases hb
  rw[QD hbq]
  exact relk.same b o hb
end
noncomputable abbrev DP:=En->Option (List Int)
noncomputable def Qal:DP:=λ_=>some []
noncomputable def Qhv(p:DP)(fb:DE):DP:=λρ=>(p ρ).bind λis=>(fb ρ).bind λr=>match r.d with
 | .int i=>some (is++[i])
 | _=>none
noncomputable def tP(K:PySem.W.Frag)(H0:Hp)(A0:List Addr)(x:Nat)(pf:DP):TE:=λσ H Q=>∃ρ hs F d b is dm,Rel K H0 A0 hs ρ F σ H/\ρ[x]? =some (some (d,b))/\pf ρ=some is/\Qbz d is=some dm∧
 ∀v0 v H' Gm,QK H H'->σ[x]? =some (some v0)->Focus K H' is d v0 (F x) dm v Gm->Q v H'
def SPa(X:Cx)(e:Expr)(x:Nat)(pf:DP):Prop:=∀H0 A0,PE X e (tP X.K H0 A0 x pf)
section
theorem Qia(h:PE X (.Name y pos) (QjE x)):SPa X (.Name y pos) x Qal:=λH0 A0=>h.mono λσ H Q hpt=>by
 obtain⟨ρ,hs,F,d,b,is,dm,rel,hx,hp,hd,q⟩:=hpt
 cases hp
 cases hd
 obtain⟨v,h1,h2⟩:=rel.val x d b hx
 exact⟨v,h1,q v v H (F x) (QK.refl _) h1 ⟨rfl,rfl,rfl,h2⟩⟩
theorem Qvi(ha:SPa X a x pf)(hb:SE X b fb)(hs:Qhf b):SPa X (.Subscript a b pos) x (Qhv pf fb):=λH0 A0=>
 (Qtz (QnS.or Qqv) (ha H0 A0) (hb H0 A0) hs).mono λσ H Q hpt=>by
  obtain⟨ρ,hs,F,d,b',is,dm,rel,hx,hp,hd,q⟩:=hpt
  refine Qk hp λis' e1 hp=>?_
  refine Qk hp λr e2 hp=>?_
  cases hr:r.d with
  | int i=>
   rw[hr]at hp
   cases hp
   obtain⟨dn,ds,g1,g2,g3⟩:=Qi9 hd
   refine⟨ρ,hs,F,d,b',is',dn,rel,hx,e1,g1,λv0 w H1 Gm s1 hv fo=>⟨ρ,hs,F,r,rel.ext s1,e2,λu H2 G p2=>?_⟩⟩
   have rp:=p2.rp
   rw[hr]at rp
   rw[rp.int_inv]
   have fo2:=fo.same p2.same
   obtain⟨c,vs,v',G',rfl,hc,h3,h4⟩:=Focus.one fo2.rp g2 g3
   have fin:=q v0 v' H2 G' (s1.trans p2.same) hv (fo2.snoc h4)
   rcases hc with⟨_,hc⟩ | ⟨_,hc⟩
   ·exact .inl ⟨c,vs,i,v',rfl,rfl,hc,h3,fin⟩
   ·exact .inr ⟨c,vs,i,v',rfl,rfl,hc,h3,fin⟩
  | _=>rw[hr]at hp;cases hp
noncomputable def Qcp(x:Nat)(pf:DP)(fi fa:DE):DS:=λρ=>(fa ρ).bind λr0=>match ρ[x]? with
 | some (some (d,true))=>(pf ρ).bind λis=>(fi ρ).bind λri=>match ri.d,Qbz d is with
  | .int k,some (.lst ds)=>(ixN ds.length k).bind λj=>if r0.norm.fr && decide r0.norm.M.Nodup && !r0.norm.M.contains x then some (.nx ((kill r0.norm.M ρ).set x (some (Qa8 is d (.lst (ds.set j r0.d)),true))))else
   if is.isEmpty && !r0.norm.M.contains x then some (.nx ((Qa9 r0.norm.M ρ).set x (some (.lst (ds.set j r0.d),false))))else
   none
  | _,_=>none
 | _=>none
theorem set_mk(hq:H2 q=some (.lst vsm))(rs:Rps K H2 dsm vsm Gp)(hl:Gp.length=nls dsm)(nq:q∉Gp)(nqn:q∉Gn)(hn:Rp K H2 dn vn Gn)(hnl:Gn.length=dn.nl)(hj:j<dsm.length):
  ∃G',Rps K (upd H2 q (.lst (vsm.set j vn))) (dsm.set j dn) (vsm.set j vn) G'/\G'.length=nls (dsm.set j dn)/\∀a,G'.count a<=Gp.count a+Gn.count a:=by
 obtain⟨F1,G,F2,v,e1,e2,h1,h2,h3⟩:=rs.split (j:=j) (d:=dsm[j]) (by simp[hj])
 subst e1
 have hjv:j<vsm.length:=by rw[← rs.length];exact hj
 have n1:q∉F1:=λh=>nq (Zn _ h)
 have n2:q∉F2:=λh=>nq (Ze _ (Ze _ h))
 refine⟨F1++(Gn++F2),Rps.QtL (h1.upd hq n1) (hn.upd hq nqn) (h3.upd hq n2) hj hjv,?_,λa=>?_⟩
 ·have:=Qhk (ds:=dsm) (j:=j) (d:=dsm[j]) (e:=dn) (by simp[hj])
  have l1:=h1.QaU
  have l2:=h2.QaU
  have l3:=h3.QaU
  have e1:nls (dsm.take j)+((dsm[j]).nl+nls (dsm.drop (j+1)))=nls dsm:=by
   have e2:=congrArg nls (ZaO j dsm)
   rw[QbY,Zam hj]at e2
   simpa only[nls]using e2
  simp only[Zu]at hl ⊢
  omega
 ·simp only[Zao];omega
theorem Qaa.Qll(p:Qaa K ρ F H H1 r v G)(s:QK H1 H2):Qaa K ρ F H H2 r v G:=⟨p.same.trans s,p.rp.same s,p.src,p.cnt,p.own⟩
theorem Qut(hq:H2 q=some (.lst vsm))(rs:Rps K H2 dsm vsm Gp)(nq:q∉Gp)(nqn:q∉Gn)(hn:Rp K H2 dn vn Gn)(hj:j<dsm.length):
  ∃G',Rps K (upd H2 q (.lst (vsm.set j vn))) (dsm.set j dn) (vsm.set j vn) G'/\∀a∈G',a∈Gp∨a∈Gn:=by
 obtain⟨F1,G,F2,v,e1,e2,h1,h2,h3⟩:=rs.split (j:=j) (d:=dsm[j]) (by simp[hj])
 subst e1
 have hjv:j<vsm.length:=by rw[← rs.length];exact hj
 have n1:q∉F1:=λh=>nq (Zn _ h)
 have n2:q∉F2:=λh=>nq (Ze _ (Ze _ h))
 refine⟨F1++(Gn++F2),Rps.QtL (h1.upd hq n1) (hn.upd hq nqn) (h3.upd hq n2) hj hjv,λa ha=>?_⟩
 rcases ZG.mp ha with h | h
 ·exact .inl (Zn _ h)
 ·rcases ZG.mp h with h | h
  ·exact .inr h
  ·exact .inl (Ze _ (Ze _ h))
theorem QhK:∀(M:List Nat) (ρ:En) (x:Nat),x∉M->(Qa9 M ρ)[x]? =ρ[x]?
 | [],ρ,x,_=>rfl
 | i::M,ρ,x,h=>by
  have hi:i≠x:=λe=>h (e▸Zi)
  unfold Qa9
  rw[QhK M _ x λe=>h (Zc _ e)]
  split
  ·rw[Zm hi]
  ·rfl
theorem Rel.Qzf(rel:Rel K H0 A0 hs ρ F σ H)(hx:ρ[x]? =some (some (d,true)))(sh:Shr H0 A0 ρ F Gn)(hv0:σ[x]? =some (some v0))
  {dnew:D}{q:Addr}{G':List Addr}{vsm vs':List V}(e1:H q=some (.lst vsm)) (e5:q∈F x) (f1:Rp K (upd H q (.lst vs')) dnew v0 G') (mem:∀a∈G',a∈F x∨a∈Gn):
  ∃F',Rel K H0 A0 hs (ρ.set x (some (dnew,false))) F' σ (upd H q (.lst vs')):=by
 obtain⟨ol,on,o0,oap,oh⟩:=rel.own x d hx
 have lt:∀{j:Nat}{z:Option (D×Bool)}{y:D×Bool},(ρ.set j z)[j]? =some (some y)->j<ρ.length:=λ{j z y} e=>by
  by_cases hl:j<ρ.length
  ·exact hl
  ·rw[Zz (by simp;omega)]at e;cases e
 refine⟨λj=>if j=x then G' else F j,by simp[rel.len],λj d' b e=>?_,λj d' e=>?_,λj d' b e a ha=>?_,λt ht=>⟨(rel.held t ht).1.upd e1 λh=>oh t ht q e5 h,(rel.held t ht).2⟩,λb o hb=>?_⟩
 ·by_cases hj:j=x
  ·subst hj
   have hl:=lt e
   rw[Zy hl]at e
   cases e
   exact⟨v0,hv0,by rw[if_pos rfl];exact f1⟩
  ·rw[Zm (Ne.symm hj)]at e
   obtain⟨w,h1,h2⟩:=rel.val j d' b e
   exact⟨w,h1,by rw[if_neg hj];exact h2.upd e1 λh=>oap j d' b hj e q e5 h⟩
 ·by_cases hj:j=x
  ·subst hj
   have hl:=lt e
   rw[Zy hl]at e
   cases e
  ·rw[Zm (Ne.symm hj)]at e
   obtain⟨h1,h2,h3,h4,h5⟩:=rel.own j d' e
   rw[if_neg hj]
   refine⟨h1,h2,h3,λk d'' b hk ek a ha=>?_,h5⟩
   by_cases hki:k=x
   ·subst hki
    rw[if_pos rfl]
    intro hG
    rcases mem a hG with h | h
    ·exact h4 k d true (Ne.symm hj) hx a ha h
    ·exact(sh a h).2 j d' e ha
   ·rw[Zm (Ne.symm hki)]at ek
    rw[if_neg hki]
    exact h4 k d'' b hk ek a ha
 ·by_cases hj:j=x
  ·subst hj
   rw[if_pos rfl]at ha
   rcases mem a ha with h | h
   ·exact .inl (o0 a h)
   ·exact(sh a h).1
  ·rw[Zm (Ne.symm hj)]at e
   rw[if_neg hj]at ha
   exact rel.src j d' b e a ha
 ·have hbq:b≠q:=λz=>by rw[z,o0 q e5]at hb;cases hb
  rw[QD hbq]
  exact rel.same b o hb
theorem Qwz(hv:SE X e fa)(ho:SPa X a x pf)(hi:SE X i fi)
  (h:∀te to ti,PE X e te->PE X a to->PE X i ti->PS X (.Assign [.Subscript a i pos'] e pos) (Qm2 te (L2.Qam to ti QtO))):S1 X (.Assign [.Subscript a i pos'] e pos) (Qcp x pf fi fa):=λH0 A0=>
 (h _ _ _ (hv H0 A0) (ho H0 A0) (hi H0 A0)).mono λE σ H=>exK λρ hs F o rel e q=>by
  refine Qk e λr0 e1 e=>?_
  split at e
  ·rename_i d hx
   refine Qk e λis e2 e=>?_
   refine Qk e λri e3 e=>?_
   split at e
   ·rename_i k ds hk hp
    refine Qk e λj e4 e=>?_
    split at e
    ·rename_i hc
     cases e
     simp only[Zk,decide_eq_true_eq,ZaH]at hc
     obtain⟨⟨c1,c2⟩,c3⟩:=hc
     have c3:x∉r0.norm.M:=λh=>by rw[Zbz.mpr h]at c3;cases c3
     refine⟨ρ,hs,F,r0,rel,e1,λvn H1 Gn p=>⟨ρ,hs,F,d,true,is,.lst ds,rel.ext p.same,hx,e2,hp,λv0 w H2 Gm s2 hv0 fo=>⟨ρ,hs,F,ri,(rel.ext p.same).ext s2,e3,λu H3 Gi pi=>?_⟩⟩⟩
     have p':=(p.norm.Qll s2).Qll pi.same
     have fo3:=fo.same pi.same
     have rpi:=pi.rp
     rw[hk]at rpi
     rw[rpi.int_inv]
     obtain⟨l,ws,L,rfl,_⟩:=fo3.rp.lst_inv
     obtain⟨ol,on,_,oap,_⟩:=rel.own x d hx
     have hjl:=(Qft e4).2.1
     obtain⟨gn,gs⟩:=p'.fresh rel c1 c2
     have rn:=p'.rp
     rw[r0.Qc3]at rn
     have hnl:=(p'.cnt c1).2
     rw[r0.Qc3]at hnl
     obtain⟨vsm,_,f1,_⟩:=fo3.mut (vs':=[]) (ds':=[]) (G':=[]) on ol
     obtain⟨_,_,_,_,_,_,zl,_⟩:=fo3.rp.lst_inv
     have key:∃F',Rp X.K (upd H3 l (.lst (vsm.set j vn))) (Qa8 is d (.lst (ds.set j r0.d))) v0 F'/\F'.length=(Qa8 is d (.lst (ds.set j r0.d))).nl/\l∈F x/\ds.length=vsm.length/\∀a,F'.count a<=(F x).count a+Gn.count a:=by
      have own5:∀G',_:=λG'=>fo3.mut (vs':=vsm.set j vn) (ds':=ds.set j r0.d) (G':=G') on ol
      obtain⟨vs1,Gp,g1,g2,g3,g4,g5,g6,g7,_⟩:=own5 []
      rw[f1]at g1;cases g1
      have hq:l∉Gn:=λh=>by
       rcases(gs l h).2 with z | ⟨k',d',hk',ek,hak⟩
       ·obtain⟨vs,w⟩:=rel.mem hx g5
        rw[z]at w;cases w
       ·exact oap k' d' true (λz=>c3 (z▸hk')) ek l g5 hak
      obtain⟨G',m1,m2,m3⟩:=set_mk f1 g3 g4 g7 hq rn hnl hjl
      obtain⟨vs2,Gp2,k1,k2,k3,k4,k5,k6,k7,k8⟩:=own5 G'
      have eG:Gp2=Gp:=by rw[g2]at k2;exact(List.cons.inj k2).2.symm
      subst eG
      obtain⟨F',h1,h2,h3⟩:=k8 m1 (by rw[ZaX];exact zl) m2
      exact⟨F',h1,h2,g5,g3.length,λa=>by have:=h3 a;have:=m3 a;omega⟩
     obtain⟨F',k1,k2,k3,k4,k5⟩:=key
     refine⟨l,vsm,k,j,rfl,rfl,f1,by rw[← k4];exact e4,?_⟩
     obtain⟨F'',rel'⟩:=rel.mut p' c1 c2 (QK.refl _) hx c3 hv0 f1 k3 k1 k2 k5
     exact q _ _ F'' rel'
    ·
     split at e
     ·rename_i hc
      cases e
      simp only[Zk,ZaH,List.isEmpty_iff]at hc
      obtain⟨rfl,c3⟩:=hc
      have c3:x∉r0.norm.M:=λh=>by rw[Zbz.mpr h]at c3;cases c3
      refine⟨ρ,hs,F,r0,rel,e1,λvn H1 Gn p=>⟨ρ,hs,F,d,true,[],.lst ds,rel.ext p.same,hx,e2,hp,λv0 w H2 Gm s2 hv0 fo=>⟨ρ,hs,F,ri,(rel.ext p.same).ext s2,e3,λu H3 Gi pi=>?_⟩⟩⟩
      have p':=(p.norm.Qll s2).Qll pi.same
      have fo3:=fo.same pi.same
      have rpi:=pi.rp
      rw[hk]at rpi
      rw[rpi.int_inv]
      obtain⟨l,ws,L,rfl,_⟩:=fo3.rp.lst_inv
      obtain⟨ol,on,_,oap,_⟩:=rel.own x d hx
      have hjl:=(Qft e4).2.1
      have rn:=p'.rp
      rw[r0.Qc3]at rn
      obtain⟨vsm,Gp,f1,g2,g3,g4,g5,g6,g7,_⟩:=fo3.mut (vs':=[]) (ds':=[]) (G':=[]) on ol
      obtain⟨_,_,_,_,_,_,zl,_⟩:=fo3.rp.lst_inv
      have sh:=Shr.of rel p'.src
      have relD:=(rel.ext p'.same).weak (Qbx r0.norm.M ρ)
      have hxD:(Qa9 r0.norm.M ρ)[x]? =some (some (d,true)):=by rw[QhK _ _ _ c3];exact hx
      have hq:l∉Gn:=λh=>(sh l h).2 x d hxD g5
      obtain⟨G',m1,m3⟩:=Qut f1 g3 g7 hq rn hjl
      have e0:v0= .ref l:=(fo3.2.1).symm
      subst e0
      refine⟨l,vsm,k,j,rfl,rfl,f1,by rw[← g3.length];exact e4,?_⟩
      obtain⟨F'',rel'⟩:=relD.Qzf (dnew:= .lst (ds.set j r0.d)) (G':=l::G') (vs':=vsm.set j vn) hxD sh hv0 f1 g5 (Rp.QeK Q9 m1 (by rw[ZaX];exact zl)) λa ha=>by
       rcases Zq.mp ha with h | h
       ·exact .inl (h▸g5)
       ·rcases m3 a h with h | h
        ·exact .inl (g6 a h)
        ·exact .inr h
      exact q _ _ F'' rel'
     ·
      cases e
   ·cases e
  ·cases e
end
section
variable {K:PySem.W.Frag}{H0 H H1 H2 H3:Hp}{A0:List Addr}{hs:List (V×D×List Addr)}{ρ:En}{F:Nat->List Addr}{σ:L2.St}
theorem Rel.write(rel:Rel K H0 A0 hs ρ F σ H)(p:Qaa K ρ F H H3 r vn Gn)(hf:r.fr=true)(nd:r.M.Nodup)(hx:ρ[x]? =some (some (d,true)))(hxM:x∉r.M)(hv0:σ[x]? =some (some v0))
  {is:List Int}{ds:List D}{Gm:List Addr}(fo:Focus K H3 is d v0 (F x) (.lst ds) w Gm):
  ∃l vsm Gp,w= .ref l/\H3 l=some (.lst vsm)/\Rps K H3 ds vsm Gp/\Gp.length=nls ds/\l∉Gp/\l∉Gn/\ds.length<=sizeLine∧
   ∀ds' vs' G',Rps K (upd H3 l (.lst vs')) ds' vs' G'->ds'.length<=sizeLine->G'.length=nls ds'->(∀a,G'.count a<=Gp.count a+Gn.count a)→
    ∃F',Rel K H0 A0 hs ((kill r.M ρ).set x (some (Qa8 is d (.lst ds'),true))) F' σ (upd H3 l (.lst vs')):=by
 obtain⟨l,ws,L,rfl,_,_,zl,_⟩:=fo.rp.lst_inv
 obtain⟨ol,on,_,oap,_⟩:=rel.own x d hx
 obtain⟨gn,gs⟩:=p.fresh rel hf nd
 obtain⟨vsm,Gp,g1,g2,g3,g4,g5,g6,g7,_⟩:=fo.mut (vs':=[]) (ds':=[]) (G':=[]) on ol
 have hq:l∉Gn:=λh=>by
  rcases(gs l h).2 with z | ⟨k',d',hk',ek,hak⟩
  ·obtain⟨vs,w⟩:=rel.mem hx g5
   rw[z]at w;cases w
  ·exact oap k' d' true (λz=>hxM (z▸hk')) ek l g5 hak
 refine⟨l,vsm,Gp,rfl,g1,g3,g4,g7,hq,zl,λds' vs' G' m1 m2 m3 m4=>?_⟩
 obtain⟨vs2,Gp2,k1,k2,k3,k4,k5,k6,k7,k8⟩:=fo.mut (vs':=vs') (ds':=ds') (G':=G') on ol
 have eG:Gp2=Gp:=by rw[g2]at k2;exact(List.cons.inj k2).2.symm
 subst eG
 obtain⟨F',h1,h2,h3⟩:=k8 m1 m2 m3
 exact rel.mut p hf nd (QK.refl _) hx hxM hv0 g1 g5 h1 h2 λa=>by have:=h3 a;have:=m4 a;omega
end
section
variable {X:Cx}{a b e:Expr}{fa fb:DE}{pf:DP}{x:Nat}{pos apos:Pos}
noncomputable def Qli(r:R)(x:Nat):Bool:=r.norm.fr && decide r.norm.M.Nodup && !r.norm.M.contains x
theorem Qro(h:Qli r x=true):r.norm.fr=true/\r.norm.M.Nodup/\x∉r.norm.M:=by
 unfold Qli at h
 simp only[Zk,decide_eq_true_eq,ZaH]at h
 exact⟨h.1.1,h.1.2,λz=>by rw[Zbz.mpr z]at h;cases h.2⟩
noncomputable def QfL(x:Nat)(pf:DP)(fa:DE):DS:=λρ=>match ρ[x]? with
 | some (some (d,true))=>(pf ρ).bind λis=>(fa ρ).bind λr0=>match Qbz d is with
  | some (.lst ds)=>if Qli r0 x && decide (ds.length<sizeLine)then some (.nx ((kill r0.norm.M ρ).set x (some (Qa8 is d (.lst (ds++[r0.d])),true))))else none
  | _=>none
 | _=>none
theorem Qta{H0:Hp}{A0:List Addr}{E:Ends}{σ:L2.St}{H:Hp}:tS X.K H0 A0 (QfL x pf fa) E σ H->QiN (tBM X.K "list" Qj1 (tP X.K H0 A0 x pf) (Qdv (tV X.K H0 A0 fa) Qff)) E σ H:=exK λρ hs F o rel e q=>by
 unfold QfL at e
 split at e
 ·rename_i d hx
  refine Qk e λis e2 e=>?_
  refine Qk e λr0 e1 e=>?_
  split at e
  ·rename_i ds hp
   split at e
   ·rename_i hc
    simp only[Zk,decide_eq_true_eq]at hc
    obtain⟨c1,c2,c3⟩:=Qro hc.1
    cases e
    refine⟨ρ,hs,F,d,true,is,.lst ds,rel,hx,e2,hp,λv0 w H2 Gm s2 hv0 fo=>?_⟩
    have ty:tyV X.K "list" w H2:=by
     obtain⟨l,ws,L,rfl,hl,_⟩:=fo.rp.lst_inv
     exact .inl ⟨rfl,ws,QX hl⟩
    refine⟨ty,ρ,hs,F,r0,rel.ext s2,e1,λvn H3 Gn p=>?_⟩
    have p':=p.norm
    obtain⟨l,vsm,Gp,rfl,g1,g2,g3,g4,g5,g6,g7⟩:=(rel.ext s2).write p' c1 c2 hx c3 hv0 (fo.same p.same)
    refine⟨l,vsm,vn,rfl,rfl,g1,by rw[← g2.length];exact hc.2,?_⟩
    have rn:=p'.rp
    rw[r0.Qc3]at rn
    have hnl:=(p'.cnt c1).2
    rw[r0.Qc3]at hnl
    have rw1:Rps X.K (upd H3 l (.lst (vsm++[vn]))) [r0.d] [vn] Gn:=by
     simp only[Rps]
     exact⟨vn,[],Gn,[],rfl,by simp,rn.upd g1 g5,rfl,rfl⟩
    obtain⟨F',rel'⟩:=g7 (ds++[r0.d]) (vsm++[vn]) (Gp++Gn) ((g2.upd g1 g4).append rw1) (by rw[Zu,Zba];omega) (by rw[Zu,QbY,g3,hnl];simp[nls]) (λa=>by rw[Zao];omega)
    exact q _ _ F' rel'
   ·cases e
  ·cases e
 ·cases e
open PyProof.Rows in
theorem QqT:Qwx X (Qwc X.K):=by
 intro pins s σ H o i ov iv Q I ro ri h
 obtain⟨p,xs,k,v,rfl,rfl,hq,ha,q⟩:=h
 cases ro
 obtain⟨t,rfl⟩:=ri
 obtain⟨its,r,pl,hz⟩:=I.list hq
 obtain⟨j,h1,h2,h3,h4,h5⟩:=QjY ha
 obtain⟨w,ew,rw'⟩:=r.get h2
 have hl:=r.length
 have hn:=Qfo
 by_cases h0:0<=k
 ·refine wpAny_getItem_list pl.isList h0 (by omega) (x:=w) ?_ ⟨v,H,I,rw',q⟩
  have:k.toNat=j:=by
   rw[seqIndex_of h0 h5]at h1
   exact Option.some.inj h1
  rw[this];simpa using ew
 ·refine wpAny_getItem_list_neg pl.isList (by omega) (by rw[Zt]<;>omega) (by omega) (x:=w) ?_ ⟨v,H,I,rw',q⟩
  have hj:(k+(its.toArray.size:Int)).toNat=j:=by
   rw[seqIndex_neg (by omega) h4]at h1
   rw[Zt,← hl]
   exact Option.some.inj h1
  rw[hj];simpa using ew
noncomputable def Qc5(g:D->D->Option D)(x:Nat)(pf:DP)(fi fa:DE):DS:=λρ=>match ρ[x]? with
 | some (some (d,true))=>(pf ρ).bind λis=>(fi ρ).bind λri=>match ri.d,Qbz d is with
  | .int k,some (.lst ds)=>(ixN ds.length k).bind λj=>(ds[j]?).bind λold=>(fa ρ).bind λr=>(g old r.d).map λnew=> .nx (ρ.set x (some (Qa8 is d (.lst (ds.set j new)),true)))
  | _,_=>none
 | _=>none
theorem Qt9(ho:OpR X (inplaceOp op) r)(hg:Qbv X.K g r)(hv:SE X e fa)(hp:SPa X a x pf)(hi:SE X i fi)
  (ha:∀ov iv new,augStore i ov iv new=(do holding [new,ov,iv] (setItem ov iv new);release [new,ov,iv] [];pure .next)):S1 X (.AugAssign (.Subscript a i pos') op e pos) (Qc5 g x pf fi fa):=λH0 A0=>
 (QtZ (hp H0 A0) (hi H0 A0) QqT (hv H0 A0) (λpins s σ H x y v u Q I rx ry q=>QwR ho I rx ry q) set_list ha).mono λE σ H=>exK λρ hs F o rel e q=>by
  unfold Qc5 at e
  split at e
  ·rename_i d hx
   refine Qk e λis e2 e=>?_
   refine Qk e λri e3 e=>?_
   split at e
   ·rename_i k ds hk hp'
    refine Qk e λj e4 e=>?_
    refine Qk e λold e5 e=>?_
    refine Qk e λrv e6 e=>?_
    obtain⟨new,e7,e⟩:=Zf.mp e
    subst e
    have hjl:=(Qft e4).2.1
    refine⟨ρ,hs,F,d,true,is,.lst ds,rel,hx,e2,hp',λv0 w H2 Gm s2 hv0 fo=>⟨ρ,hs,F,ri,rel.ext s2,e3,λu H3 Gi pi=>?_⟩⟩
    have fo3:=fo.same pi.same
    have rpi:=pi.rp
    rw[hk]at rpi
    rw[rpi.int_inv]
    have at3:atI ds k=some old:=by unfold atI;rw[e4];exact e5
    obtain⟨l,vs,v',Go,rfl,hc,h3,h4⟩:=Focus.one fo3.rp rfl at3
    have hc:SqL X.K H3 l vs:=by
     rcases hc with⟨_,hc⟩ | ⟨hc,_⟩
     ·exact hc
     ·cases hc
    refine⟨l,vs,k,v',rfl,rfl,hc,h3,ρ,hs,F,rv,(rel.ext s2).ext pi.same,e6,λy H4 G4 p4=>?_⟩
    have fo4:=fo3.same p4.same
    have ro:=h4.rp.same p4.same
    refine(hg _ _ _ e7).2 H4 v' y Go G4 _ ro p4.rp λz hz=>?_
    have rel4:=((rel.ext s2).ext pi.same).ext p4.same
    have pz:Qaa X.K ρ F H4 H4 ⟨new,true,[]⟩ z []:= .flat (QK.refl _) (hz H4) (hg _ _ _ e7).1
    obtain⟨l',vsm,Gp,el,g1,g2,g3,g4,g5,g6,g7⟩:=rel4.write pz rfl ZaE hx (by simp) hv0 fo4
    cases el
    refine⟨l,vsm,k,j,rfl,rfl,g1,by rw[← g2.length];exact e4,?_⟩
    obtain⟨G',m1,m2,m3⟩:=set_mk g1 g2 g3 g4 g5 (hz H4) (Qc0 new (hg _ _ _ e7).1).symm hjl
    obtain⟨F',rel'⟩:=g7 _ _ G' m1 (by rw[ZaX];exact g6) m2 m3
    exact q _ _ F' rel'
   ·cases e
  ·cases e
end
end HS
namespace HS
open PySem PySem.Spec L2 PyProof.Rows
noncomputable def D.QtB:D->Option Int
 | .int i=>some i
 | _=>none
noncomputable def Qdl:List D->Option (List Int)
 | []=>some []
 | d::ds=>(d.QtB).bind λi=>(Qdl ds).map λr=>i::r
theorem QcD:∀{ds:List D}{ns:List Int},Qdl ds=some ns->ds=ns.map .int
 | [],_,h=>by cases h;rfl
 | d::ds,ns,h=>by
  unfold Qdl at h
  refine Qk h λi h1 h=>?_
  obtain⟨r,h2,rfl⟩:=Zf.mp h
  cases d with
  | int j=>cases h1;rw[QcD h2];rfl
  | _=>cases h1
theorem Qf2:∀(ns:List Int),Qdl (ns.map D.int)=some ns
 | []=>rfl
 | n::ns=>by simp[Qdl,Qf2 ns,D.QtB]
theorem Rps.ints{K:PySem.W.Frag}{H:Hp}:∀{ns:List Int}{vs:List V}{F:List Addr},Rps K H (ns.map .int) vs F->vs=ns.map .int
 | [],_,_,h=>by simp only[Zbg,Rps]at h;rw[h.1];rfl
 | n::ns,_,_,h=>by
  simp only[Zj,Rps]at h
  obtain⟨v,ws,F1,F2,rfl,rfl,r,q⟩:=h
  rw[r.int_inv,Rps.ints q];rfl
theorem Qbr(h:Qw (ns.map V.int) us):IntsAre us ns:=intsAre_of h
noncomputable def QjU:List D->Option (List Bool)
 | []=>some []
 | d::ds=>(match d with | .bl b=>some b | _=>none).bind λi=>(QjU ds).map λr=>i::r
theorem Ql3:∀{ds:List D}{ns:List Bool},QjU ds=some ns->ds=ns.map .bl
 | [],_,h=>by cases h;rfl
 | d::ds,ns,h=>by
  unfold QjU at h
  refine Qk h λi h1 h=>?_
  obtain⟨r,h2,rfl⟩:=Zf.mp h
  cases d with
  | bl j=>cases h1;rw[Ql3 h2];rfl
  | _=>cases h1
theorem Rps.bls{K:PySem.W.Frag}{H:Hp}:∀{ns:List Bool}{vs:List V}{F:List Addr},Rps K H (ns.map .bl) vs F->vs=ns.map .bl
 | [],_,_,h=>by simp only[Zbg,Rps]at h;rw[h.1];rfl
 | n::ns,_,_,h=>by
  simp only[Zj,Rps]at h
  obtain⟨v,ws,F1,F2,rfl,rfl,r,q⟩:=h
  rw[Rps.bls q]
  simp only[Rp]at r
  rw[r.1];rfl
theorem Qmv:∀{ns:List Bool}{us:List Value},Qw (ns.map V.bl) us->LSm.BoolsAre us ns
 | [],_,.nil=> .nil
 | n::ns,_,.cons r h=>by cases r;exact .cons n (Qmv h)
section
variable {X:Cx}{a b e:Expr}{es:List Expr}{fa fb:DE}{fs:DA}{pos p2:Pos}
noncomputable def QoT(K:PySem.W.Frag)(C:List Int->Int->Prop):List V->Hp->VK->Prop:=λxs H Q=>∃(p:Addr) (ns:List Int),xs=[.ref p]/\(SqL K H p (ns.map V.int)∨SqT K H p (ns.map V.int))/\ns≠[]/\∀M,C ns M->Q (.int M) H
def QiV(ns:List Int)(M:Int):Prop:=M∈ns/\∀a∈ns,M<=a
def isMax(ns:List Int)(M:Int):Prop:=M∈ns/\∀a∈ns,a<=M
theorem QcX(hi:IntsAre us ns):∃xs:Array (Int×Tok),us.toArray=intItems xs/\ns=xs.toList.map (·.1):=by
 obtain⟨xs,e⟩:=hi.allInts.items
 exact⟨xs,e,by rw[← hi.numsOf,← nums_intItems,← e]⟩
theorem Ql6(hh:A.handled=none)(hl:s.heap.IsTuple l (intItems xs))(hne:0<xs.size)
  (h:∀v h' tk,(intItems xs)[argBest (λi j=>decide (numAt xs i<numAt xs j)) (xs.size-1)]? =some v->(∀b o,s.heap.get? b=some o->h'.get? b=some o)->Q v {s with heap:=h',toks:=tk}):
  wpAny (model prog w) A (call (.builtin "min") [.ref l]) Q E s:=by
 have hlt:l<s.heap.objs.size:=by obtain⟨_,e,_⟩:=hl;exact Zr e
 refine call_min_walk (wpAny_pyIter_tuple hl ?_)
 refine⟨_,[_,l],[_],_,_,_,_,rfl,Walks.tuple (A:=A.in1) hh _ l (ZK hlt) (intItems xs),⟨⟨_,Zo _ rfl,rfl,rfl⟩,hl.push _⟩,λb hb=>?_,by simpa[intItems]using hne,CmpOf.ints_lt (numAt xs) (λ_ _=>intItems_at),λv h' tk hP hk=>?_⟩
 ·show b<(s.heap.push _).objs.size
  rw[Zad]
  rcases Zq.mp hb with rfl | hb
  ·exact ZaL _
  ·rcases Zq.mp hb with rfl | hb
   ·exact Zaw hlt
   ·cases hb
 ·refine h v h' tk (by simpa[intItems]using hP) λb o e=>?_
  refine hk b o (λhm=>?_) (Zb _ e)
  rcases Zq.mp hm with e1 | hm
  ·exact absurd (e1▸Zr e) (ZX _)
  ·cases hm
theorem Qq1(hc:X.calm=true):Qa3 X (.builtin "min") (QoT X.K QiV):=by
 intro pins s σ H xs us Q I r h
 obtain⟨p,ns,rfl,hq,hne,q⟩:=h
 obtain⟨u,rfl,rx⟩:=vals1 r
 cases rx
 rcases hq with hq | hq
 ·obtain⟨its,r',pl,hz⟩:=I.list hq
  obtain⟨ys,e,hns⟩:=QcX (Qbr r')
  have hl:=pl.isList
  rw[e]at hl
  have hsz:0<ys.size:=by
   rcases Zbs ys.size with z | z
   ·exact absurd (by rw[hns,Zbl];exact Zaf (by simpa using z)) hne
   ·exact z
  refine min_intList (I.ok.hd hc) hl hsz λv h' tk hv hk=>?_
  obtain⟨t,rfl⟩:=intItems_at hv
  obtain⟨h1,h2⟩:=argBest_lt (numAt ys) (ys.size-1)
  refine⟨.int _,H,I.kept hk,⟨t,rfl⟩,q _ ⟨?_,λa ha=>?_⟩⟩
  ·rw[hns,numAt_eq];exact getD_mem (by rw[Zg,ZY];omega)
  ·rw[hns]at ha
   obtain⟨j,hj,rfl⟩:=mem_getD ha
   rw[Zg,ZY]at hj
   rw[← numAt_eq];exact h2 j (by omega)
 ·obtain⟨its,r',pl,hz⟩:=I.tuple hq
  obtain⟨ys,e,hns⟩:=QcX (Qbr r')
  have hl:=pl
  rw[e]at hl
  have hsz:0<ys.size:=by
   rcases Zbs ys.size with z | z
   ·exact absurd (by rw[hns,Zbl];exact Zaf (by simpa using z)) hne
   ·exact z
  refine Ql6 (I.ok.hd hc) hl hsz λv h' tk hv hk=>?_
  obtain⟨t,rfl⟩:=intItems_at hv
  obtain⟨h1,h2⟩:=argBest_lt (numAt ys) (ys.size-1)
  refine⟨.int _,H,I.kept hk,⟨t,rfl⟩,q _ ⟨?_,λa ha=>?_⟩⟩
  ·rw[hns,numAt_eq];exact getD_mem (by rw[Zg,ZY];omega)
  ·rw[hns]at ha
   obtain⟨j,hj,rfl⟩:=mem_getD ha
   rw[Zg,ZY]at hj
   rw[← numAt_eq];exact h2 j (by omega)
theorem QmA(hh:A.handled=none)(hl:s.heap.IsTuple l (intItems xs))(hne:0<xs.size)
  (h:∀v h' tk,(intItems xs)[argBest (λi j=>decide (numAt xs i>numAt xs j)) (xs.size-1)]? =some v->(∀b o,s.heap.get? b=some o->h'.get? b=some o)->Q v {s with heap:=h',toks:=tk}):
  wpAny (model prog w) A (call (.builtin "max") [.ref l]) Q E s:=by
 have hlt:l<s.heap.objs.size:=by obtain⟨_,e,_⟩:=hl;exact Zr e
 refine call_max_walk (wpAny_pyIter_tuple hl ?_)
 refine⟨_,[_,l],[_],_,_,_,_,rfl,Walks.tuple (A:=A.in1) hh _ l (ZK hlt) (intItems xs),⟨⟨_,Zo _ rfl,rfl,rfl⟩,hl.push _⟩,λb hb=>?_,by simpa[intItems]using hne,CmpOf.ints_gt (numAt xs) (λ_ _=>intItems_at),λv h' tk hP hk=>?_⟩
 ·show b<(s.heap.push _).objs.size
  rw[Zad]
  rcases Zq.mp hb with rfl | hb
  ·exact ZaL _
  ·rcases Zq.mp hb with rfl | hb
   ·exact Zaw hlt
   ·cases hb
 ·refine h v h' tk (by simpa[intItems]using hP) λb o e=>?_
  refine hk b o (λhm=>?_) (Zb _ e)
  rcases Zq.mp hm with e1 | hm
  ·exact absurd (e1▸Zr e) (ZX _)
  ·cases hm
theorem QpL(hc:X.calm=true):Qa3 X (.builtin "max") (QoT X.K isMax):=by
 intro pins s σ H xs us Q I r h
 obtain⟨p,ns,rfl,hq,hne,q⟩:=h
 obtain⟨u,rfl,rx⟩:=vals1 r
 cases rx
 rcases hq with hq | hq
 ·obtain⟨its,r',pl,hz⟩:=I.list hq
  obtain⟨ys,e,hns⟩:=QcX (Qbr r')
  have hl:=pl.isList
  rw[e]at hl
  have hsz:0<ys.size:=by
   rcases Zbs ys.size with z | z
   ·exact absurd (by rw[hns,Zbl];exact Zaf (by simpa using z)) hne
   ·exact z
  refine max_intList (I.ok.hd hc) hl hsz λv h' tk hv hk=>?_
  obtain⟨t,rfl⟩:=intItems_at hv
  obtain⟨h1,h2⟩:=argBest_gt (numAt ys) (ys.size-1)
  refine⟨.int _,H,I.kept hk,⟨t,rfl⟩,q _ ⟨?_,λa ha=>?_⟩⟩
  ·rw[hns,numAt_eq];exact getD_mem (by rw[Zg,ZY];omega)
  ·rw[hns]at ha
   obtain⟨j,hj,rfl⟩:=mem_getD ha
   rw[Zg,ZY]at hj
   rw[← numAt_eq];exact h2 j (by omega)
 ·obtain⟨its,r',pl,hz⟩:=I.tuple hq
  obtain⟨ys,e,hns⟩:=QcX (Qbr r')
  have hl:=pl
  rw[e]at hl
  have hsz:0<ys.size:=by
   rcases Zbs ys.size with z | z
   ·exact absurd (by rw[hns,Zbl];exact Zaf (by simpa using z)) hne
   ·exact z
  refine QmA (I.ok.hd hc) hl hsz λv h' tk hv hk=>?_
  obtain⟨t,rfl⟩:=intItems_at hv
  obtain⟨h1,h2⟩:=argBest_gt (numAt ys) (ys.size-1)
  refine⟨.int _,H,I.kept hk,⟨t,rfl⟩,q _ ⟨?_,λa ha=>?_⟩⟩
  ·rw[hns,numAt_eq];exact getD_mem (by rw[Zg,ZY];omega)
  ·rw[hns]at ha
   obtain⟨j,hj,rfl⟩:=mem_getD ha
   rw[Zg,ZY]at hj
   rw[← numAt_eq];exact h2 j (by omega)
theorem Qlv(hh:A.handled=none)(hl:s.heap.IsTuple l (intItems xs))
  (h:∀h' tk t',(∀b o,s.heap.get? b=some o->h'.get? b=some o)->Q (.int (preSum (numAt xs) xs.size) t') {s with heap:=h',toks:=tk}):
  wpAny (model prog w) A (call (.builtin "sum") [.ref l]) Q E s:=by
 have hlt:l<s.heap.objs.size:=by obtain⟨_,e,_⟩:=hl;exact Zr e
 refine call_sum_walkG (wpAny_pyIter_tuple hl ?_)
 refine⟨_,[_,l],[_],_,_,_,numAt xs,rfl,Walks.tuple (A:=A.in1) hh _ l (ZK hlt) (intItems xs),⟨⟨_,Zo _ rfl,rfl,rfl⟩,hl.push _⟩,λb hb=>?_,(λ_ _=>intItems_at),λh' tk t' hk=>?_⟩
 ·show b<(s.heap.push _).objs.size
  rw[Zad]
  rcases Zq.mp hb with rfl | hb
  ·exact ZaL _
  ·rcases Zq.mp hb with rfl | hb
   ·exact Zaw hlt
   ·cases hb
 ·have:=h h' tk t' λb o e=>by
   refine hk b o (λhm=>?_) (Zb _ e)
   rcases Zq.mp hm with e1 | hm
   ·exact absurd (e1▸Zr e) (ZX _)
   ·cases hm
  simpa[intItems]using this
noncomputable def QxH(K:PySem.W.Frag):List V->Hp->VK->Prop:=λxs H Q=>∃(p:Addr) (ns:List Int),xs=[.ref p]/\(SqL K H p (ns.map V.int)∨SqT K H p (ns.map V.int))/\Q (.int ns.sum) H
theorem QqS(hc:X.calm=true):Qa3 X (.builtin "sum") (QxH X.K):=by
 intro pins s σ H xs us Q I r h
 obtain⟨p,ns,rfl,hq,q⟩:=h
 obtain⟨u,rfl,rx⟩:=vals1 r
 cases rx
 rcases hq with hq | hq
 ·obtain⟨its,r',pl,hz⟩:=I.list hq
  obtain⟨ys,e,hns⟩:=QcX (Qbr r')
  have hl:=pl.isList
  rw[e]at hl
  refine sum_intListG (I.ok.hd hc) hl λh' tk t' hk=>?_
  refine⟨.int ns.sum,H,I.kept hk,⟨t',?_⟩,q⟩
  rw[preSum_eq,Zbx (by simp),hns]
 ·obtain⟨its,r',pl,hz⟩:=I.tuple hq
  obtain⟨ys,e,hns⟩:=QcX (Qbr r')
  have hl:=pl
  rw[e]at hl
  refine Qlv (I.ok.hd hc) hl λh' tk t' hk=>?_
  refine⟨.int ns.sum,H,I.kept hk,⟨t',?_⟩,q⟩
  rw[preSum_eq,Zbx (by simp),hns]
theorem Qqs(hc:X.calm=true):Qa3 X (.builtin "all") (λxs H Q=>∃(p:Addr) (ns:List Bool),xs=[.ref p]/\SqL X.K H p (ns.map V.bl)/\Q (.bl (ns.all id)) H):=by
 intro pins s σ H xs us Q I r h
 obtain⟨p,ns,rfl,hq,q⟩:=h
 obtain⟨u,rfl,rx⟩:=vals1 r
 cases rx
 obtain⟨its,r',pl,hz⟩:=I.list hq
 have hb:=Qmv r'
 have hl:=pl.isList
 have hlt:p<s.heap.objs.size:=by obtain⟨_,e,_⟩:=hl;exact Zr e
 refine call_all_walk (wpAny_pyIter_list hl ?_)
 refine⟨s.heap.objs.size,[s.heap.objs.size,p],[s.heap.objs.size],its.toArray.size,_,_,λi=>(ns[i]?).getD true,rfl,Walks.list (A:=X.A.in1) (I.ok.hd hc) _ p (ZK hlt) its.toArray,
  ⟨⟨_,Zo _ rfl,rfl,rfl⟩,hl.push _⟩,λi v s' Q' E' hP hQ=>?_,λh' tk hk=>?_⟩
 ·obtain⟨b,e,rfl⟩:=hb.get i v (by simpa using hP)
  simp only[e,Option.getD_some]at hQ
  exact wpAny_truthy_bool hQ
 ·have e:((List.range its.toArray.size).all λi=>(ns[i]?).getD true)=ns.all id:=by
   rw[Zt,hb.length];exact LSm.range_all ns
  rw[e]
  exact⟨.bl (ns.all id),H,I.kept (LSm.kept_iter hk),rfl,q⟩
noncomputable def Qix:List Int->Option Int
 | []=>none
 | [n]=>some n
 | n::r=>(Qix r).map λm=>if m<n then m else n
noncomputable def Qh7:List Int->Option Int
 | []=>none
 | [n]=>some n
 | n::r=>(Qh7 r).map λm=>if n<m then m else n
theorem Qhg:∀{ns:List Int}{m:Int},Qix ns=some m->QiV ns m
 | [],_,h=>by cases h
 | [n],_,h=>by cases h;exact⟨by simp,λa ha=>by simp at ha;omega⟩
 | n::k::r,m,h=>by
  simp only[Qix]at h
  obtain⟨m',h1,rfl⟩:=Zf.mp h
  obtain⟨h2,h3⟩:=Qhg h1
  constructor
  ·split
   ·exact Zc _ h2
   ·exact Zi
  ·intro a ha
   rcases Zq.mp ha with rfl | ha
   ·split<;>omega
   ·have:=h3 a ha;split<;>omega
theorem Qhy:∀{ns:List Int}{m:Int},Qh7 ns=some m->isMax ns m
 | [],_,h=>by cases h
 | [n],_,h=>by cases h;exact⟨by simp,λa ha=>by simp at ha;omega⟩
 | n::k::r,m,h=>by
  simp only[Qh7]at h
  obtain⟨m',h1,rfl⟩:=Zf.mp h
  obtain⟨h2,h3⟩:=Qhy h1
  constructor
  ·split
   ·exact Zc _ h2
   ·exact Zi
  ·intro a ha
   rcases Zq.mp ha with rfl | ha
   ·split<;>omega
   ·have:=h3 a ha;split<;>omega
theorem Qkj{ns:List Int}{a b:Int}(h:QiV ns a)(g:QiV ns b):a=b:=by have:=h.2 b g.1;have:=g.2 a h.1;omega
theorem Qkm{ns:List Int}{a b:Int}(h:isMax ns a)(g:isMax ns b):a=b:=by have:=h.2 b g.1;have:=g.2 a h.1;omega
noncomputable def Qhq:List D->Option D
 | [.lst xs]=>(Qdl xs).bind λns=>(Qix ns).map .int
 | [.tup xs]=>(Qdl xs).bind λns=>(Qix ns).map .int
 | _=>none
noncomputable def QfO:List D->Option D
 | [.lst xs]=>(Qdl xs).bind λns=>(Qh7 ns).map .int
 | [.tup xs]=>(Qdl xs).bind λns=>(Qh7 ns).map .int
 | _=>none
noncomputable def QeP:List D->Option D
 | [.lst xs]=>(Qdl xs).map λns=> .int ns.sum
 | [.tup xs]=>(Qdl xs).map λns=> .int ns.sum
 | _=>none
theorem Qu4{K:PySem.W.Frag}:Qdw K Qhq (QoT K QiV):=λds d e=>by
 unfold Qhq at e
 split at e
 ·refine Qk e λns h1 e=>?_
  obtain⟨m,h2,rfl⟩:=Zf.mp e
  refine⟨rfl,λH vs F Q r q=>?_⟩
  obtain⟨v,rfl,rp⟩:=r.one
  obtain⟨l,ws,L,rfl,hl,rl,zl,el⟩:=rp.lst_inv
  rw[QcD h1]at rl
  rw[rl.ints]at hl
  exact⟨l,ns,rfl,.inl (QX hl),λz=>(by rw[z]at h2;cases h2),λM hM=>by rw[Qkj hM (Qhg h2)];exact q _ λ_=> .int_mk⟩
 ·refine Qk e λns h1 e=>?_
  obtain⟨m,h2,rfl⟩:=Zf.mp e
  refine⟨rfl,λH vs F Q r q=>?_⟩
  obtain⟨v,rfl,rp⟩:=r.one
  obtain⟨l,ws,rfl,hl,rl⟩:=rp.QaQ
  rw[QcD h1]at rl
  rw[rl.ints]at hl
  exact⟨l,ns,rfl,.inr hl,λz=>(by rw[z]at h2;cases h2),λM hM=>by rw[Qkj hM (Qhg h2)];exact q _ λ_=> .int_mk⟩
 ·cases e
theorem Qun{K:PySem.W.Frag}:Qdw K QfO (QoT K isMax):=λds d e=>by
 unfold QfO at e
 split at e
 ·refine Qk e λns h1 e=>?_
  obtain⟨m,h2,rfl⟩:=Zf.mp e
  refine⟨rfl,λH vs F Q r q=>?_⟩
  obtain⟨v,rfl,rp⟩:=r.one
  obtain⟨l,ws,L,rfl,hl,rl,zl,el⟩:=rp.lst_inv
  rw[QcD h1]at rl
  rw[rl.ints]at hl
  exact⟨l,ns,rfl,.inl (QX hl),λz=>(by rw[z]at h2;cases h2),λM hM=>by rw[Qkm hM (Qhy h2)];exact q _ λ_=> .int_mk⟩
 ·refine Qk e λns h1 e=>?_
  obtain⟨m,h2,rfl⟩:=Zf.mp e
  refine⟨rfl,λH vs F Q r q=>?_⟩
  obtain⟨v,rfl,rp⟩:=r.one
  obtain⟨l,ws,rfl,hl,rl⟩:=rp.QaQ
  rw[QcD h1]at rl
  rw[rl.ints]at hl
  exact⟨l,ns,rfl,.inr hl,λz=>(by rw[z]at h2;cases h2),λM hM=>by rw[Qkm hM (Qhy h2)];exact q _ λ_=> .int_mk⟩
 ·cases e
theorem Quz{K:PySem.W.Frag}:Qdw K QeP (QxH K):=λds d e=>by
 unfold QeP at e
 split at e
 ·obtain⟨ns,h1,rfl⟩:=Zf.mp e
  refine⟨rfl,λH vs F Q r q=>?_⟩
  obtain⟨v,rfl,rp⟩:=r.one
  obtain⟨l,ws,L,rfl,hl,rl,zl,el⟩:=rp.lst_inv
  rw[QcD h1]at rl
  rw[rl.ints]at hl
  exact⟨l,ns,rfl,.inl (QX hl),q _ λ_=> .int_mk⟩
 ·obtain⟨ns,h1,rfl⟩:=Zf.mp e
  refine⟨rfl,λH vs F Q r q=>?_⟩
  obtain⟨v,rfl,rp⟩:=r.one
  obtain⟨l,ws,rfl,hl,rl⟩:=rp.QaQ
  rw[QcD h1]at rl
  rw[rl.ints]at hl
  exact⟨l,ns,rfl,.inr hl,q _ λ_=> .int_mk⟩
 ·cases e
noncomputable def Qhp:List D->Option D
 | [.lst xs]=>(QjU xs).map λns=> .bl (ns.all id)
 | _=>none
theorem Qvw{K:PySem.W.Frag}:Qdw K Qhp (λxs H Q=>∃(p:Addr) (ns:List Bool),xs=[.ref p]/\SqL K H p (ns.map V.bl)/\Q (.bl (ns.all id)) H):=λds d e=>by
 unfold Qhp at e
 split at e
 ·obtain⟨ns,h1,rfl⟩:=Zf.mp e
  refine⟨rfl,λH vs F Q r q=>?_⟩
  obtain⟨v,rfl,rp⟩:=r.one
  obtain⟨l,ws,L,rfl,hl,rl,zl,el⟩:=rp.lst_inv
  rw[Ql3 h1]at rl
  rw[rl.bls]at hl
  exact⟨l,ns,rfl,QX hl,q _ λ_=> .QbC⟩
 ·cases e
noncomputable def Qfg(neg:Bool)(a b:D):Option D:=match a,b with
 | a,.non=>some (.bl (if neg then !a.QoI else a.QoI))
 | .bl x,.bl y=>some (.bl (if neg then !(x == y)else x == y))
 | _,_=>none
theorem QwO:OpR X (compareOp .Is) (λx y H Q=>∃c d,x= .bl c/\y= .bl d/\Q (.bl (c == d)) H):=by
 intro pins s σ H x y v u Q I rx ry h
 obtain⟨c,d,rfl,rfl,q⟩:=h
 cases rx
 cases ry
 exact PyProof.Rows.is_bool (Qjk I q rfl)
theorem QuV:OpR X (compareOp .IsNot) (λx y H Q=>∃c d,x= .bl c/\y= .bl d/\Q (.bl (!(c == d))) H):=by
 intro pins s σ H x y v u Q I rx ry h
 obtain⟨c,d,rfl,rfl,q⟩:=h
 cases rx
 cases ry
 exact PyProof.Rows.isnot_bool (Qjk I q rfl)
theorem Qwg{K:PySem.W.Frag}:Qbv K (Qfg false) (λx y H Q=>(y= .non/\Q (.bl (decide (x= .non))) H)∨∃c d,x= .bl c/\y= .bl d/\Q (.bl (c == d)) H):=λa b d e=>by
 unfold Qfg at e
 split at e
 ·cases e
  exact⟨rfl,λH x y F G Q ha hb q=> .inl ⟨hb.Qep,by rw[Qoy ha];exact q _ λ_=> .QbC⟩⟩
 ·cases e
  exact⟨rfl,λH x y F G Q ha hb q=> .inr ⟨_,_,ha.Qb4,hb.Qb4,q _ λ_=> .QbC⟩⟩
 ·cases e
theorem Qq2{K:PySem.W.Frag}:Qbv K (Qfg true) (λx y H Q=>(y= .non/\Q (.bl (!decide (x= .non))) H)∨∃c d,x= .bl c/\y= .bl d/\Q (.bl (!(c == d))) H):=λa b d e=>by
 unfold Qfg at e
 split at e
 ·cases e
  exact⟨rfl,λH x y F G Q ha hb q=> .inl ⟨hb.Qep,by rw[Qoy ha];exact q _ λ_=> .QbC⟩⟩
 ·cases e
  exact⟨rfl,λH x y F G Q ha hb q=> .inr ⟨_,_,ha.Qb4,hb.Qb4,q _ λ_=> .QbC⟩⟩
 ·cases e
theorem Qoq:∀a b d,Qfg neg a b=some d->∃k,d= .bl k:=λa b d h=>by
 unfold Qfg at h
 split at h<;>cases h<;>exact⟨_,rfl⟩
theorem Ql7:Qa3 X (.builtin "divmod") (λxs H Q=>∃i j,xs=[.int i,.int j]/\QbA j=true/\∀p,H p=none->Q (.ref p) (upd H p (.tup [.int (Qc1 i j),.int (Qck i j)]))):=by
 intro pins s σ H xs us Q I r h
 obtain⟨i,j,rfl,hc,q⟩:=h
 obtain⟨u,w',rfl,⟨t,rfl⟩,⟨t',rfl⟩⟩:=vals2 r
 unfold QbA at hc
 simp only[Zk,decide_eq_true_eq]at hc
 have h0:j.natAbs≠0:=by omega
 refine PyProof.Rows.divmod_int hc.1 ?_ (.inl (Zbo (Nat.lt_trans ((Zcn h0).mpr hc.2) (by decide))))
 rw[← Qhz,← Qhw]
 have hn:H s.heap.objs.size=none:=I.hok.fresh (Zh _)
 refine⟨.ref s.heap.objs.size,_,?_,rfl,q _ hn⟩
 refine I.laid (λb o e=>Zb _ e) (Zh _) ⟨by simp only[ZI,List.length_nil];rw[sizeLine_eq];decide,[.int (Qc1 i j) s.toks,.int (Qck i j) (s.toks+1)],.cons ⟨_,rfl⟩ (.cons ⟨_,rfl⟩ .nil),?_⟩
 exact⟨_,Zo s.heap rfl,rfl,0,rfl⟩
noncomputable def dDm(fs:DA):DE:=λρ=>(fs ρ).bind λr=>match r.ds with
 | [.int i,.int j]=>if QbA j=true then some ⟨.tup [.int (Qc1 i j),.int (Qck i j)],true,[]⟩else none
 | _=>none
theorem Qyq{x:Str}{p:Pos}(hg:Gl X "divmod")(hm:X.mg "divmod" =none)(ha:SA X (e::es) fs)(he:starEach (e::es) X.env=(false,eval e X.env)::starEach es X.env)(hpl:(backTo pos (starEach es X.env)).any (·.1)=false):
  SE X (.Call (.Name "divmod" p) (e::es) [] pos) (dDm fs):=λH0 A0=>
 (Qiw Ql7 hg hm PyProof.Rows.boot_divmod (ha H0 A0) (by decide) (by decide) he hpl).mono λσ H Q=>exK λρ hs F r' rel e q=>by
  refine Qk e λra e1 e=>?_
  refine⟨ρ,hs,F,ra,rel,e1,λvs H1 G p1=>?_⟩
  split at e
  ·rename_i i j hds
   split at e
   ·rename_i hc
    cases e
    have rp:=p1.rp
    rw[hds]at rp
    obtain⟨v,w,F1,F2,rfl,r1,r2⟩:=rp.two
    refine⟨i,j,by rw[r1.int_inv,r2.int_inv],hc,λp hp=>q _ _ [] (.flat (p1.same.trans (Qay hp)) (Rp.QgO Q9 ?_) rfl)⟩
    simp only[Rps]
    exact⟨_,_,[],[],rfl,rfl,.int_mk,_,_,[],[],rfl,rfl,.int_mk,rfl,rfl⟩
   ·cases e
  ·cases e
end
end HS
namespace HS
open PySem PySem.Spec L2 PyProof.Rows
theorem QhE:∀{vs:List V}{us:List Value},us.length=vs.length->(∀(k:Nat) (v:V),vs[k]? =some v->∃u,us[k]? =some u/\RelV v u)->Qw vs us
 | [],[],_,_=> .nil
 | [],_::_,h,_=>by simp at h
 | _::_,[],h,_=>by simp at h
 | v::vs,u::us,h,g=>by
  obtain⟨u',e,r⟩:=g 0 v rfl
  cases e
  exact .cons r (QhE (by simpa using h) λk v hk=>g (k+1) v hk)
section
variable {X:Cx}{a b c e tg:Expr}{es:List Expr}{fa fb fc:DE}{fs:DA}{pos p2:Pos}
theorem Qq7(I:Inv X pins σ H s)(hc:X.calm=true)(h0:0<=j)(h1:j<=1000000)
  (q:∀l,H l=none->Q (.ref l) (upd H l (.lst ((List.range j.toNat).map λ(k:Nat)=>V.int (k:Int))))):
  wpAny (model X.prog X.w) X.A (call (.type "list") [.ref s.heap.objs.size]) (EP X pins σ Q) E {s with heap:=s.heap.push {cls:= .type "range",data:= .fields #[.int 0 t,.int j u,.int 1 v]},toks:=tk}:=by
 have I2:Inv X pins σ H {s with heap:=s.heap.push {cls:= .type "range",data:= .fields #[.int 0 t,.int j u,.int 1 v]},toks:=tk}:=I.kept λb o e=>Zb _ e
 refine call_list_range (n:=j.toNat) (I.ok.hd hc) (IsRange.new ..) (small_one (by omega) (by omega) (by omega) (by omega)) (by rw[rangeSize_one];split<;>omega) (by omega) λh' tk' acc' c' hk hS hacc=>?_
 have hv:Qw ((List.range j.toNat).map λ(k:Nat)=>V.int (k:Int)) acc'.toList:=by
  have hl:=hacc.1
  refine QhE (by simp[hl]) λk v hk=>?_
  rw[Zp]at hk
  have hkl:k<j.toNat:=by
   by_cases z:k<j.toNat
   ·exact z
   ·rw[Zz (by simp;omega)]at hk;cases hk
  rw[ZV hkl]at hk
  cases hk
  obtain⟨w,hw⟩:∃w,acc'[k]? =some w:=⟨acc'[k]'(by omega),by rw[ZaA (by omega)]⟩
  obtain⟨t',rfl⟩:=hacc.2 k w hw
  exact⟨_,by rw[ZaB];exact hw,⟨t',by simp⟩⟩
 refine⟨.ref _,_,I2.laid hk (Zh _) (show QaM X.prog X.w _ h' _ (.lst _)from⟨by simp[Qfr];omega,acc'.toList,c',hv,by simpa using hS⟩),rfl,q _ (I2.hok.fresh (Zh _))⟩
theorem QpY(hg:Gl X "list")(hm:X.mg "list" =none)(hg':Gl X "range")(hm':X.mg "range" =none)(hc:X.calm=true)(ha:PA X [a] ta)(hs:starEach [a] X.env=[(false,eval a X.env)]):
  PE X (.Call (.Name "list" p) [.Call (.Name "range" p') [a] [] pos'] [] pos) (λσ H Q=>ta σ H λvs H1=>∃j:Int,vs=[.int j]/\0<=j/\j<=1000000/\∀l,H1 l=none->Q (.ref l) (upd H1 l (.lst ((List.range j.toNat).map λ(k:Nat)=>V.int (k:Int))))):=by
 intro pins s σ H Q I h
 refine wpAny_Call_Name_kw (QcF I hg hm boot_list ?_ (by decide) (by decide))
 refine ZS (Calls.spliced_cons ?_) rfl rfl
 refine Call_ (QcF I hg' hm' boot_range (ZS (thn (ha pos' pins s σ H _ I h) λus s1 ⟨vs,H1,I1,r1,q1⟩=>?_) hs rfl))
 obtain⟨j,e,q1,q2,q⟩:=q1
 subst e
 cases r1 with
 | cons r rr=>
  cases rr
  obtain⟨t,rfl⟩:=r
  exact call_range_1 (Calls.spliced_nil (Qq7 I1 hc q1 q2 q))
noncomputable def Qlh(fa:DE):DE:=λρ=>(fa ρ).bind λr=>match r.d with
 | .int j=>if 0<=j/\j<=1000000 then some ⟨.lst ((List.range j.toNat).map λ(k:Nat)=> .int (k:Int)),true,[]⟩else none
 | _=>none
theorem Rps.ofInts{K:PySem.W.Frag}{H:Hp}:∀ns:List Int,Rps K H (ns.map .int) (ns.map .int) []
 | []=>by simp[Rps]
 | n::ns=>by simp only[Zj,Rps];exact⟨_,_,[],[],rfl,rfl,.int_mk,Rps.ofInts ns⟩
theorem QgW:∀ns:List Int,QR (ns.map .int)=true
 | []=>rfl
 | n::ns=>by simp[QR,D.flat,QgW ns]
theorem QuQ{p p' pos':Pos}(hg:Gl X "list")(hm:X.mg "list" =none)(hg':Gl X "range")(hm':X.mg "range" =none)(hc:X.calm=true)(ha:SE X a fa)(hs:starEach [a] X.env=[(false,eval a X.env)]):
  SE X (.Call (.Name "list" p) [.Call (.Name "range" p') [a] [] pos'] [] pos) (Qlh fa):=λH0 A0=>
 (QpY hg hm hg' hm' hc (Qaf (ha H0 A0) QbJ hs) hs).mono λσ H Q=>exK λρ hs F r' rel e q=>by
  refine Qk e λra e1 e=>?_
  refine⟨ρ,hs,F,ra,rel,e1,λv H1 G p1=>?_⟩
  cases hd:ra.d with
  | int j=>
   rw[hd]at e
   dsimp only at e
   split at e
   ·rename_i hj
    cases e
    have rp:=p1.rp
    rw[hd]at rp
    refine⟨j,by rw[rp.int_inv],hj.1,hj.2,λl hl=>?_⟩
    have e2:((List.range j.toNat).map λ(k:Nat)=>D.int (k:Int))=((List.range j.toNat).map λ(k:Nat)=>(k:Int)).map D.int:=by rw[ZR];rfl
    have e3:((List.range j.toNat).map λ(k:Nat)=>V.int (k:Int))=((List.range j.toNat).map λ(k:Nat)=>(k:Int)).map V.int:=by rw[ZR];rfl
    have:=Qaa.QaH (ρ:=ρ) (F:=F) p1.same hl (Rps.ofInts (K:=X.K) ((List.range j.toNat).map λ(k:Nat)=>(k:Int))) (by simp[Qfr];omega) Src.nil Qa4.nil
    rw[← e2,← e3]at this
    unfold QaH at this
    rw[if_pos (by rw[e2];exact QgW _)]at this
    exact q _ _ _ this
   ·cases e
  | _=>rw[hd]at e;cases e
noncomputable def Itd(hi:Int)(n:Nat):It:=⟨λi _=>i<n,λi H x H'=>H'=H/\x= .int (hi-i),λi _=>n<=i⟩
theorem Qnh{P:Program}{w:World}{K:PySem.W.Frag}{tg:Expr}(it:Addr)(lo:Int)(n:Nat):Turn P w K tg (Itd lo n) [it] it (λi h=>IsRangeIter h it (lo+(i:Nat)*(-1)) ((n:Int)-(i:Nat)) (-1)) where
 mem:=by simp
 obj:=λi h st b hb=>by
  have e:b=it:=by simpa using hb
  subst e
  exact⟨_,st,λv z=>by
   have z':Data.fields _=Data.cell v:=z
   cases z'⟩
 keep:=λi h h' st k=>k it (by simp) _ st
 item:=by
  intro X hP hw hK hc i pins s σ H E I hf st hg
  subst hP hw hK
  obtain⟨f0,f1,f2,f3,f4,f5⟩:=hf it (by simp)
  have W:=Walks.range (prog:=X.prog) (w:=X.w) (I.ok.hd hc) it lo (-1) n
  refine W.item i s _ _ hg st λv h' tk hv st' kk=>?_
  obtain⟨t,rfl⟩:=hv
  have I1:Inv X pins σ H {s with heap:=h',toks:=tk}:=I.turned (λb o hb e=>kk b o (by simpa using hb) e) f0 f1 f3 f4 f5
  refine⟨_,rfl,Qle st' rfl rfl (by decide) ⟨.int (lo-i),H,I1,⟨t,?_⟩,⟨rfl,rfl⟩,st',λb hb=>(hf b hb).1⟩⟩
  rw[show lo+(i:Int)* -1=lo-i by omega]
 done:=by
  intro X hP hw hK hc i pins s σ H E I hf st hg
  subst hP hw hK
  obtain⟨f0,f1,f2,f3,f4,f5⟩:=hf it (by simp)
  exact wpAny_pyNext_range_end (I.ok.hd hc) st (by have:n<=i:=hg;omega) λh' eb=>⟨rfl,I.turned (t':=s.toks) (λb o hb e=>eb b o hb e) f0 f1 f3 f4 f5⟩
 self:=λ_ _ _ _ _ st h=>wpAny_pyIter_rangeiter st h
theorem QkO(lo hi:Int):Builtin.Range.rangeSize lo hi (-1)=if lo>hi then lo-hi else 0:=by
 unfold Builtin.Range.rangeSize
 rw[if_neg (by decide)]
 split
 ·rw[show(- -1:Int)=1 by decide,Int.ediv_one];omega
 ·rfl
theorem small_down{lo hi:Int}(h1: -(2^62)<=lo)(h2:lo<2^62)(h3: -(2^62)<=hi)(h4:hi<2^62):Builtin.Range.small lo hi (-1)=true:=by
 unfold Builtin.Range.small
 rw[QkO]
 simp only[Builtin.Range.rangeFitsLong,Zk,Zck,decide_eq_true_eq,beq_iff_eq,show ¬((-1:Int)>0) by decide,if_false]
 split<;>omega
theorem Qrr{pins:List (Addr×Obj)}{σ:L2.St}{H:Hp}{s:Shared}{R:It->Hp->Prop}{E:Value->Shared->Prop}{lo hi:Int}{t u v:Tok}{tk:Nat}(I:Inv X pins σ H s)(h1: -(2^62)<=lo)(h2:lo<2^62)(h3: -(2^62)<=hi)(h4:hi<2^62)
  (q:R (Itd lo (lo-hi).toNat) H):wpAny (model X.prog X.w) X.A (pyIter (.ref s.heap.objs.size)) (PIE X pins σ tg R) E {s with heap:=s.heap.push {cls:= .type "range",data:= .fields #[.int lo t,.int hi u,.int (-1) v]},toks:=tk}:=by
 refine wpAny_pyIter_range (IsRange.new ..) (small_down h1 h2 h3 h4) ?_
 have I1:Inv X pins σ H {s with heap:=s.heap.push {cls:= .type "range",data:= .fields #[.int lo t,.int hi u,.int (-1) v]},toks:=tk}:=I.kept λb o e=>Zb _ e
 refine⟨(s.heap.push {cls:= .type "range",data:= .fields #[.int lo t,.int hi u,.int (-1) v]}).objs.size,[(s.heap.push {cls:= .type "range",data:= .fields #[.int lo t,.int hi u,.int (-1) v]}).objs.size],_,_,H,rfl,
  I1.kept (t':=tk) λb o e=>Zb _ e,Qnh _ lo (lo-hi).toNat,?_,λb hb=>?_,q⟩
 ·have e1:lo+((0:Nat):Int)*(-1)=lo:=by simp
  have e2:(((lo-hi).toNat:Nat):Int)-((0:Nat):Int)=Builtin.Range.rangeSize lo hi (-1):=by rw[QkO];split<;>omega
  show IsRangeIter _ _ (lo+((0:Nat):Int)*(-1)) ((((lo-hi).toNat:Nat):Int)-((0:Nat):Int)) (-1)
  rw[e1,e2]
  exact Zo _ rfl
 ·have e:b=(s.heap.push {cls:= .type "range",data:= .fields #[.int lo t,.int hi u,.int (-1) v]}).objs.size:=by simpa using hb
  subst e
  exact I1.Qh2 (Zh _) (I1.hok.fresh (Zh _))
noncomputable def QyE(ta:TA):TI:=λσ H R=>ta σ H λvs H1=>∃i j:Int,vs=[.int i,.int j,.int (-1)]/\(-(2^62)<=i/\i<2^62/\ -(2^62)<=j/\j<2^62)/\R (Itd i (i-j).toNat) H1
theorem QqK(hg:Gl X "range")(hm:X.mg "range" =none)(ha:PA X [a,b,c] ta)(hs:starEach [a,b,c] X.env=(false,eval a X.env)::starEach [b,c] X.env)(hs2:(backTo pos (starEach [b,c] X.env)).any (·.1)=false):
  PI X tg (.Call (.Name "range" p) [a,b,c] [] pos) (QyE ta):=by
 intro pins s σ H R I h
 refine Call_ (QcF I hg hm boot_range (ZS (thn (ha pos pins s σ H _ I h) λus s1 ⟨vs,H1,I1,r1,q1⟩=>?_) hs hs2))
 obtain⟨i,j,e,⟨q1,q2,q3,q4⟩,q⟩:=q1
 subst e
 cases r1 with
 | cons r rr=>
  cases rr with
  | cons r' rr=>
   cases rr with
   | cons r'' rr=>
    cases rr
    obtain⟨t,rfl⟩:=r
    obtain⟨t',rfl⟩:=r'
    obtain⟨t'',rfl⟩:=r''
    exact call_range_3 (by decide) (Qrr I1 q1 q2 q3 q4 q) (.inl (Zbo (by decide+kernel)))
noncomputable def Qkf(hi:Int)(n:Nat):List D:=(List.range n).map λ(k:Nat)=> .int (hi-(k:Int))
theorem QrU{lo:Int}{n i:Nat}{d:D}(h:(Qkf lo n)[i]? =some d):i<n/\d= .int (lo-i):=by
 unfold Qkf at h
 rw[Zp]at h
 by_cases hi:i<n
 ·rw[ZV hi]at h;cases h;exact⟨hi,rfl⟩
 ·rw[Zz (by simp;omega)]at h;cases h
noncomputable def Qfv(fa fb fc:DE):DI:=λρ=>(fa ρ).bind λr=>(fb ρ).bind λr'=>(fc ρ).bind λr''=>match r.d,r'.d,r''.d with
 | .int i,.int j,.int (-1)=>if i-j<=16777216/\ -(2^62)<=i/\i<2^62/\ -(2^62)<=j/\j<2^62 then some ⟨Qkf i (i-j).toNat,[]⟩else none
 | _,_,_=>none
theorem QhY{lo:Int}{n:Nat}:(Qkf lo n).length=n:=by simp[Qkf]
theorem Qnc{K:PySem.W.Frag}{lo:Int}{n:Nat}:Walk K (Itd lo n) [] (Qkf lo n) where
 stop:=λH _=>by rw[QhY];exact Zh _
 go:=λi H hi _=>by rw[QhY]at hi;exact hi
 yld:=λi d H x H' e _ y=>by
  obtain⟨h1,rfl⟩:=QrU e
  obtain⟨rfl,rfl⟩:=y
  exact⟨QK.refl _,[],.int_mk,λz hz=>by simp at hz⟩
theorem Qqt(hg:Gl X "range")(hm:X.mg "range" =none)(ha:SE X a fa)(hb:SE X b fb)(hc:SE X c fc)(h1:starEach [a,b,c] X.env=(false,eval a X.env)::starEach [b,c] X.env)(h2:starEach [b,c] X.env=(false,eval b X.env)::starEach [c] X.env)(h3:starEach [c] X.env=(false,eval c X.env)::starEach [] X.env):
  SI X tg (.Call (.Name "range" p) [a,b,c] [] pos) (Qfv fa fb fc):=λH0 A0=>
 (QqK hg hm (Qaf (ha H0 A0) (Qaf (hb H0 A0) (Qaf (hc H0 A0) QbJ h3) h2) h1) h1 (by rw[h2,h3];rfl)).mono λσ H Rr=>exK λρ hs F ir rel e q=>by
  refine Qk e λr e1 e=>?_
  refine Qk e λr' e2 e=>?_
  refine Qk e λr'' e3 e=>?_
  refine⟨ρ,hs,F,r,rel,e1,λv H1 G pp=>⟨ρ,hs,F,r',rel.ext pp.same,e2,λv' H2 G' pp'=>⟨ρ,hs,F,r'',(rel.ext pp.same).ext pp'.same,e3,λv'' H3 G'' pp''=>?_⟩⟩⟩
  split at e
  ·rename_i i j hr hr' hr''
   split at e
   ·rename_i hz
    cases e
    have rp:=(pp.rp.same pp'.same).same pp''.same
    have rp':=pp'.rp.same pp''.same
    have rp'':=pp''.rp
    rw[hr]at rp
    rw[hr']at rp'
    rw[hr'']at rp''
    rw[rp.int_inv,rp'.int_inv,rp''.int_inv]
    refine⟨i,j,rfl,hz.2,q _ H3 [] ((pp.same.trans pp'.same).trans pp''.same) Qnc (λt ht=>by simp at ht) Qa4.nil ?_⟩
    rw[QhY,Qfr];omega
   ·cases e
  ·cases e
theorem QuB:MtR X "int.bit_length" (λx vs H Q=>∃i,x= .int i/\vs=[]/\Q (.int (Builtin.Int.intBits i)) H):=by
 intro pins s σ H x vs v us Q I rx rv h
 obtain⟨i,rfl,rfl,q⟩:=h
 obtain⟨t,rfl⟩:=rx
 have hus:=rv.zero
 subst hus
 exact call_int_bit_length ⟨.int _,H,I.tok _,⟨_,rfl⟩,q⟩
noncomputable def Qlk(fa:DE):DE:=λρ=>(fa ρ).bind λr=>match r.d with
 | .int i=>some ⟨.int (Builtin.Int.intBits i),true,[]⟩
 | _=>none
theorem Qt8(ha:SE X a fa)(hb:attributeBase a "bit_length" X.env (eval a X.env)=eval a X.env)(hl:(apos.endLine == cpos.line)=true):SE X (.Call (.Attribute a "bit_length" apos) [] [] cpos) (Qlk fa):=λH0 A0=>
 (QxD PySem.F.plainAttrs_int PySem.F.slot_int_bit_length PySem.F.type_int_bit_length QuB (ha H0 A0) hb hl).mono λσ H Q=>exK λρ hs F r' rel e q=>by
  refine Qk e λra e1 e=>?_
  refine⟨ρ,hs,F,ra,rel,e1,λv H1 G p1=>?_⟩
  cases hd:ra.d with
  | int i=>
   rw[hd]at e
   cases e
   have rp:=p1.rp
   rw[hd]at rp
   rw[rp.int_inv]
   exact⟨rfl,i,rfl,rfl,q _ _ [] (.flat p1.same .int_mk)⟩
  | _=>rw[hd]at e;cases e
end
end HS
namespace HS
open PySem PySem.Spec L2 PyProof.Rows
section
variable {prog:Program}{w:World}{KT':Type} [DecidableEq KT'] {knd:HeapKind prog w KT'}{A:Around}{E:Value->Shared->Prop}{s:Shared}
def Qe2(h:Heap)(d:Addr)(es:Array DictEntry)(ep:Nat):Prop:=∃o,h.get? d=some o/\o.ExactDict/\o.data= .dict es ep
theorem Qe2.keep{h h':Heap}{d:Addr}{es:Array DictEntry}{ep:Nat}(x:Qe2 h d es ep)(k:∀o,h.get? d=some o->h'.get? d=some o):Qe2 h' d es ep:=let ⟨o,z,r⟩:=x;⟨o,k o z,r⟩
noncomputable abbrev kiO(d:Addr)(i n ep:Nat):Obj:={cls:= .type "dict_keyiterator",data:= .fields #[.ref d,.int i 0,.int n 0,.int ep 0]}
theorem QyY{d:Addr}{es:Array DictEntry}{ep:Nat}{Q:Value->Shared->Prop}(hd:(d == sysModules)=false)(hm:Qe2 s.heap d es ep)(q:Q (.ref s.heap.objs.size) {s with heap:=s.heap.push (kiO d 0 es.size ep)}):
  wpAny (model prog w) A (pyIter (.ref d)) Q E s:=by
 obtain⟨o,ho,hx,hdd⟩:=hm
 have ty:s.TypeIs (.ref d) "dict" :=⟨o,ho,hx.1⟩
 refine wpAny_pyIter_slot ty PySem.F.slot_dict_iter (wpAny_call_entry PySem.F.slot_dict_iter ty PySem.F.entry_dict_iter ?_ (PySem.F.args_dict_iter_1 _))
 unfold Builtin.«dict.__iter__» Builtin.Dict.dictSlotNone Builtin.Dict.showsAll
 refine wpAny_bind (wpAny_bind (wpAny_notOrdered_dict ty (wpAny_pure ?_)))
 refine wpAny_bind (m:=Builtin.Dict.addrOf (.ref d)) (wpAny_pure ?_)
 rw[if_neg (by rw[hd];decide)]
 refine wpAny_bind (wpAny_pure (wpAny_bind (wpAny_dictEntries ho hdd (wpAny_bind (wpAny_dictEpoch ho hdd ?_)))))
 exact wpAny_bind (wpAny_newObj_type (wpAny_pure ⟨_,rfl,"dict_keyiterator",_,⟨_,Zo _ rfl,rfl⟩,PySem.F.slot_dict_keyiterator_next.lookup,q⟩))
theorem Qx5{I d:Addr}{i ep:Nat}{es:Array DictEntry}{en:DictEntry}{Q:Option Value->Shared->Prop}(hi:s.heap.get? I=some (kiO d i es.size ep))(hm:Qe2 s.heap d es ep)(he:es[i]? =some en)
  (q:∀h',h'.get? I=some (kiO d (i+1) es.size ep)->Heap.SameBut I s.heap h'->Q (some en.key) {s with heap:=h'}):wpAny (model prog w) A (pyNext (.ref I)) Q E s:=by
 have ty:s.TypeIs (.ref I) "dict_keyiterator" :=⟨_,hi,rfl⟩
 obtain⟨od,hod,hx,hdd⟩:=hm
 unfold pyNext
 refine wpAny_bind (wpAny_attempt (wpAny_callSpecial?_slot (name:=Str.ofString "__next__") ty PySem.F.slot_dict_keyiterator_next (wpAny_call_entry PySem.F.slot_dict_keyiterator_next ty PySem.F.entry_dict_keyiterator_next ?_ (PySem.F.args_dict_keyiterator_next_1 _))))
 refine wpAny_bind (wpAny_pure (wpAny_bind (wpAny_bind ?_)))
 first | refine wpAny_bind (wpAny_typeNameOfWhole_keyiter ty (wpAny_pure ?_)) | refine wpAny_bind (wpAny_typeNameOf_keyiter ty (wpAny_pure ?_))
 refine wpAny_bind (wpAny_fieldsOf hi rfl ?_)
 simp only[show Builtin.Dict_items.ownsTuple "dict_keyiterator" =false by decide,Bool.false_eq_true,if_false]
 show wpAny _ _ (if(Value.ref d == Value.none)=true then _ else _) _ _ s
 rw[if_neg (show ¬((Value.ref d == Value.none)=true)from Zag)]
 refine wpAny_bind (wpAny_pure (wpAny_bind (wpAny_dictEntries hod hdd ?_)))
 rw[if_neg (by simp)]
 refine wpAny_bind (wpAny_pure (wpAny_bind (wpAny_dictEpoch hod hdd ?_)))
 rw[if_neg (by simp)]
 refine wpAny_pure ?_
 simp only[show ¬((i:Int)<0)from by omega,if_false,ZT,he]
 refine wpAny_bind ?_
 first | refine wpAny_bind (wpAny_typeNameOfWhole_keyiter ty (wpAny_pure ?_)) | refine wpAny_bind (wpAny_typeNameOf_keyiter ty (wpAny_pure ?_))
 refine wpAny_bind (wpAny_isOneOf_keyiter ty ?_)
 show wpAny _ _ (setField (.ref I) 1 (rawInt ((i:Int)+1)) >>= _) _ _ s
 refine wpAny_bind (wpAny_setField_rec hi (by simp) λh1 z1 b1=>?_)
 have z2:h1.get? I=some (kiO d (i+1) es.size ep):=by rw[z1];simp[rawInt]
 refine wpAny_bind (wpAny_holding ?_)
 refine wpAny_bind (wpAny_isOneOf_keyiter (s:={s with heap:=h1}) ⟨_,z2,rfl⟩ ?_)
 show wpAny _ _ (pure en.key) _ _ _
 exact wpAny_pure (wpAny_pure ⟨_,rfl,wpAny_pure (q _ z2 b1)⟩)
theorem QqO{I d:Addr}{ep:Nat}{es:Array DictEntry}{Q:Option Value->Shared->Prop}(hh:A.handled=none)(hi:s.heap.get? I=some (kiO d es.size es.size ep))(hm:Qe2 s.heap d es ep)
  (q:∀h',Heap.ExtBut I s.heap h'->Q none {s with heap:=h'}):wpAny (model prog w) A (pyNext (.ref I)) Q E s:=by
 have ty:s.TypeIs (.ref I) "dict_keyiterator" :=⟨_,hi,rfl⟩
 obtain⟨od,hod,hx,hdd⟩:=hm
 unfold pyNext
 refine wpAny_bind (wpAny_attempt (wpAny_callSpecial?_slot (name:=Str.ofString "__next__") ty PySem.F.slot_dict_keyiterator_next (wpAny_call_entry PySem.F.slot_dict_keyiterator_next ty PySem.F.entry_dict_keyiterator_next ?_ (PySem.F.args_dict_keyiterator_next_1 _))))
 refine wpAny_bind (wpAny_pure (wpAny_bind (wpAny_bind ?_)))
 first | refine wpAny_bind (wpAny_typeNameOfWhole_keyiter ty (wpAny_pure ?_)) | refine wpAny_bind (wpAny_typeNameOf_keyiter ty (wpAny_pure ?_))
 refine wpAny_bind (wpAny_fieldsOf hi rfl ?_)
 simp only[show Builtin.Dict_items.ownsTuple "dict_keyiterator" =false by decide,Bool.false_eq_true,if_false]
 show wpAny _ _ (if(Value.ref d == Value.none)=true then _ else _) _ _ s
 rw[if_neg (show ¬((Value.ref d == Value.none)=true)from Zag)]
 refine wpAny_bind (wpAny_pure (wpAny_bind (wpAny_dictEntries hod hdd ?_)))
 rw[if_neg (by simp)]
 refine wpAny_bind (wpAny_pure (wpAny_bind (wpAny_dictEpoch hod hdd ?_)))
 rw[if_neg (by simp)]
 refine wpAny_pure ?_
 simp only[show ¬((es.size:Int)<0)from by omega,if_false,ZT,Array.getElem?_eq_none (Zh es.size)]
 refine wpAny_bind ?_
 first | refine wpAny_bind (wpAny_typeNameOfWhole_keyiter ty (wpAny_pure ?_)) | refine wpAny_bind (wpAny_typeNameOf_keyiter ty (wpAny_pure ?_))
 show wpAny _ _ (setField (.ref I) 0 .none >>= _) _ _ s
 refine wpAny_bind (wpAny_setField hi rfl (by simp) ?_)
 show wpAny _ _ (newExc (.type "StopIteration") [] >>= _) _ _ _
 refine wpAny_bind ?_
 simp only[newExc,newTuple]
 refine wpAny_bind (wpAny_newObj_type ?_ (by size_fits))
 refine wpAny_bind (m:=firstArgMember _ _) (wpAny_of_eq (a:=Value.none) rfl ?_)
 refine wpAny_newObj_type ?_ (by size_fits)
 simp only[raiseNew]
 refine wpAny_bind (wpAny_handled ?_)
 rw[show A.in1.handled=none from hh]
 refine wpAny_bind (wpAny_pure (wpAny_throw ?_))
 refine wpAny_bind (wpAny_isInstance (T:= "StopIteration") (b:=true) ⟨_,Zo _ rfl,rfl⟩ isSubtype_stop ?_)
 exact wpAny_pure (q _ (((Heap.SameBut.update ..).extBut.push _).push _))
theorem QtV(hh:A.handled=none){I d:Addr}{es:Array DictEntry}{ep:Nat}(na:d≠I):
  Walks prog w A I [I,d] [I] es.size (λi v=>∃e,es[i]? =some e/\v=e.key) (λi h=>h.get? I=some (kiO d i es.size ep)/\Qe2 h d es ep) where
 sub:=λb hb=>by simp at hb;simp[hb]
 frame:=λ_ _ _ st k=>⟨k I (by simp) _ st.1,st.2.keep λo z=>k d (by simp) o z⟩
 item:=λi s Q E hi st q=>Qx5 st.1 st.2 (ZaA hi) λh' z b=>q _ h' s.toks ⟨_,ZaA hi,rfl⟩ ⟨z,st.2.keep λo z=>b.extBut d o na z⟩ λc o hc z=>b.extBut c o (λy=>hc (by simp[y])) z
 done:=λs Q E st q=>QqO hh st.1 st.2 λh' b=>q h' s.toks λc o hc z=>b c o (λy=>hc (by simp[y])) z
 self:=λi s Q E st q=>wpAny_pyIter_keyiter (d:=d) (i:=i) (n:=es.size) (ep:=ep) ⟨_,st.1,rfl,rfl⟩ q
theorem Qvn{a:Addr}{es:Array DictEntry}{ep:Nat}{Q:Bool->Shared->Prop}(hm:Qe2 s.heap a es ep)(q:Q false s):wpAny (model prog w) A (Builtin.List.listLengthHint (.ref a)) Q E s:=by
 obtain⟨o,ho,hx,_⟩:=hm
 have ty:s.TypeIs (.ref a) "dict" :=⟨o,ho,hx.1⟩
 unfold Builtin.List.listLengthHint
 refine wpAny_bind (wpAny_specialOf ty PySem.F.slot_dict_len.lookup ?_)
 generalize e:("dict.__len__" :String)=x
 wp_delta
 rw[show splitId x=some ("dict","__len__")from by subst e;decide+kernel]
 subst e
 refine wpAny_bind (wpAny_isInstance (T:= "dict") (b:=true) ty (by rw[isSubtype_type];kernel_rfl) ?_)
 refine wpAny_ite_split (λz=>absurd z (by decide)) (λ_=>?_)
 refine wpAny_ite_split (λ_=>?_) (λz=>absurd (by decide+kernel) z)
 exact wpAny_bind (wpAny_typeOf ty (wpAny_pure q))
theorem Qlt{h:Heap}{S:Addr}{f g:Obj->Obj}(b:Addr)(o:Obj)(hb:b≠S)(z:h.get? b=some o):((h.update S f).update S g).get? b=some o:=(ZaJ _ _ (Ne.symm hb)).trans ((ZaJ _ _ (Ne.symm hb)).trans z)
set_option maxHeartbeats 400000 in
theorem QuT{a:Addr}{es:Array DictEntry}{ep:Nat}{Q:Value->Shared->Prop}(hh:A.handled=none)(hd:(a == sysModules)=false)(hm:Qe2 s.heap a es ep)(nb:es.size<=sizeLine)
  (q:∀h' tk acc c,(∀b o,s.heap.get? b=some o->h'.get? b=some o)->h'.get? s.heap.objs.size=some {cls:= .type "list",dict:=none,data:= .seq acc c,slots:= #[]}->ItemsOf (λi v=>∃e,es[i]? =some e/\v=e.key) acc es.size->Q (.ref s.heap.objs.size) {s with heap:=h',toks:=tk}):
  wpAny (model prog w) A (call (.type "list") [.ref a]) Q E s:=by
 have al:a<s.heap.objs.size:=let ⟨o,ho,_⟩:=hm;Zr ho
 have WW:=(QtV (prog:=prog) (w:=w) (A:=A.in1.in1) (I:=s.heap.objs.size+1) (es:=es) (ep:=ep) hh (ZK (Zaw al))).toS
 have key:∀(R:Result->Shared->Prop) (h:Heap) (c:Nat),h.get? (s.heap.objs.size+1)=some (kiO a 0 es.size ep)->Qe2 h a es ep->(∀b o,s.heap.get? b=some o->h.get? b=some o)->h.get? s.heap.objs.size=some {cls:= .type "list",data:= .seq #[] c}→
   (∀(h':Heap) (tk c:Nat) (acc:Array Value),(∀b o,s.heap.get? b=some o->h'.get? b=some o)->h'.get? s.heap.objs.size=some {cls:= .type "list",data:= .seq acc c}->ItemsOf (λi v=>∃e,es[i]? =some e/\v=e.key) acc es.size->R (.ok (.ret .none)) {s with heap:=h',toks:=tk})→
   codeAny (model prog w) A.in1 (.builtin "list.extend.loop" ⟨[.ref s.heap.objs.size,.ref (s.heap.objs.size+1),.none],[]⟩) R {s with heap:=h}:=by
  intro R h c k1 k2 k3 k4 k5
  refine codeAny_extend_loopS WW nb s.heap.objs.size (by simp[ZaW al]) _ es.size 0 _ #[] c rfl (Zac _) ⟨k1,k2⟩ k4 (ItemsOf.nil _) λs' acc c mv g ia=>?_
  rw[Moved.eq_with mv]
  refine k5 s'.heap s'.toks c acc (λb o z=>?_) g ia
  have bl:=Zr z
  exact mv.heap b o (by simp[ZK bl,ZK (Zaw bl)]) (k3 b o z)
 refine callType_codes (Q₁:=λobj s₁=>obj= .ref s.heap.objs.size/\s₁={s with heap:=s.heap.push {cls:= .type "list",data:= .seq #[]}}) PySem.F.called_list (PySem.F.typeCall_list_1 _) PySem.F.entry_list_init
  (code_list_new _ ⟨rfl,rfl⟩) λobj s₁ h₁=>?_
 obtain⟨rfl,rfl⟩:=h₁
 have hS:(s.heap.push {cls:= .type "list",data:= .seq #[]}).get? s.heap.objs.size=some {cls:= .type "list",data:= .seq #[]}:=Zo _ rfl
 refine⟨⟨_,hS,rfl⟩,PySem.F.args_list_init_2 _ _,?_⟩
 show wpAny _ _ (do let old ← Builtin.List.listItems (.ref s.heap.objs.size);Builtin.List.listUpdate (.ref s.heap.objs.size) (λ_=> #[]);letGo old.toList.reverse;Builtin.List.listExtendWith (.ref s.heap.objs.size) (.ref a) .none) _ _ _
 refine wpAny_bind ?_
 unfold Builtin.List.listItems
 refine wpAny_bind (wpAny_seqItems hS rfl (wpAny_pure ?_))
 show wpAny _ _ (updateSeq s.heap.objs.size (λ_=> #[]) >>= λ_=>letGo (#[]:Array Value).toList.reverse >>= λ_=>Builtin.List.listExtendWith (.ref s.heap.objs.size) (.ref a) .none) _ _ _
 refine wpAny_bind (wpAny_updateSeq hS rfl (wpAny_bind (wpAny_letGo ?_)))
 obtain⟨c0,hS2⟩:∃c0,((s.heap.push {cls:= .type "list",data:= .seq #[]}).update s.heap.objs.size (Obj.mapSeq (λ_=>(#[]:Array Value)))).get? s.heap.objs.size=some {cls:= .type "list",data:= .seq #[] c0}:=⟨_,ZaN (Obj.mapSeq (λ_=>(#[]:Array Value))) hS rfl⟩
 have kp:∀b o,s.heap.get? b=some o->((s.heap.push {cls:= .type "list",data:= .seq #[]}).update s.heap.objs.size (Obj.mapSeq (λ_=>(#[]:Array Value)))).get? b=some o:=λb o z=>
  (ZaJ _ _ (Ne.symm (ZK (Zr z)))).trans (Zb _ z)
 have sz:((s.heap.push {cls:= .type "list",data:= .seq #[]}).update s.heap.objs.size (Obj.mapSeq (λ_=>(#[]:Array Value)))).objs.size=s.heap.objs.size+1:=by rw[Heap.size_update,Zad]
 have hm2:=hm.keep (kp a)
 generalize (s.heap.push {cls:= .type "list",data:= .seq #[]}).update s.heap.objs.size (Obj.mapSeq (λ_=>(#[]:Array Value)))=h2 at hS2 kp sz hm2 ⊢
 unfold Builtin.List.listExtendWith
 have ty2:({s with heap:=h2}:Shared).TypeIs (.ref a) "dict" :=let ⟨o,ho,hx,_⟩:=hm2;⟨o,ho,hx.1⟩
 refine wpAny_bind (wpAny_typeOf ty2 ?_)
 have h1:Builtin.List.listSameRef (.ref s.heap.objs.size) (.ref a)=false:=by simp[Builtin.List.listSameRef,ZaW al]
 rw[if_neg (by rw[h1];decide)]
 refine wpAny_bind (QyY hd hm2 ?_)
 have hS3:=Zb (kiO a 0 es.size ep) hS2
 have hI3:(h2.push (kiO a 0 es.size ep)).get? h2.objs.size=some (kiO a 0 es.size ep):=Zo _ rfl
 have hm3:=hm2.keep λo z=>Zb (kiO a 0 es.size ep) z
 have kp3:∀b o,s.heap.get? b=some o->(h2.push (kiO a 0 es.size ep)).get? b=some o:=λb o z=>Zb _ (kp b o z)
 rw[sz]at hI3 ⊢
 refine wpAny_bind (wpAny_holding (Qvn (s:={s with heap:=h2.push (kiO a 0 es.size ep)}) hm3 ?_))
 rw[if_pos (by decide)]
 refine wpAny_bind (wpAny_rule (wpAny_bind ?_))
 show wpAny _ _ (updateSeq s.heap.objs.size (·.push .none) >>= λ_=>updateSeq s.heap.objs.size (·.pop)) _ _ _
 refine wpAny_bind (wpAny_updateSeq hS3 rfl ?_)
 have hS4:=ZaN (Obj.mapSeq (·.push Value.none)) hS3 rfl
 refine wpAny_updateSeq (hz:=by seq_fits) hS4 rfl ?_
 obtain⟨c1,hS5⟩:∃c1,(((h2.push (kiO a 0 es.size ep)).update s.heap.objs.size (Obj.mapSeq (·.push Value.none))).update s.heap.objs.size (Obj.mapSeq (·.pop))).get? s.heap.objs.size=some {cls:= .type "list",data:= .seq #[] c1}:=⟨_,ZaN (Obj.mapSeq (·.pop)) hS4 rfl⟩
 have hI5:=Qlt (f:=Obj.mapSeq (·.push Value.none)) (g:=Obj.mapSeq (·.pop)) _ _ (Nat.succ_ne_self s.heap.objs.size) hI3
 have hm5:=hm3.keep λo z=>Qlt (f:=Obj.mapSeq (·.push Value.none)) (g:=Obj.mapSeq (·.pop)) _ _ (ZK al) z
 have kp5:∀b o,s.heap.get? b=some o->(((h2.push (kiO a 0 es.size ep)).update s.heap.objs.size (Obj.mapSeq (·.push Value.none))).update s.heap.objs.size (Obj.mapSeq (·.pop))).get? b=some o:=λb o z=>Qlt b o (ZK (Zr z)) (kp3 b o z)
 refine wpAny_pure ⟨plainId_quiet PySem.F.plain_extend_loop _,?_⟩
 dsimp only
 exact key _ _ c1 hI5 hm5 kp5 hS5 λh' tk c acc m1 m2 m3=>⟨rfl,q h' tk acc c m1 m2 m3⟩
end
noncomputable def Qfx(H:Hp):List (List Int)->List V->Prop
 | [],vs=>vs=[]
 | k::ks,vs=>∃b ws,vs= .ref b::ws/\H b=some (.tup (k.map V.int))/\Qfx H ks ws
theorem Qfx.rps{K:PySem.W.Frag}{H:Hp}:∀{ks:List (List Int)}{vs:List V},Qfx H ks vs->Rps K H (ks.map λk=> .tup (k.map .int)) vs []
 | [],vs,h=>by simp only[Qfx]at h;subst h;simp[Rps]
 | k::ks,vs,h=>by
  obtain⟨b,ws,rfl,hb,h⟩:=h
  simp only[Zj,Rps]
  exact⟨_,_,[],[],rfl,rfl,by simp only[Rp];exact⟨b,_,rfl,.inl (.inl hb),Rps.ofInts k⟩,h.rps⟩
theorem Qoi{H:Hp}:∀{ks:List (List Int)}{xs:List (List Key×Addr×Value)},KT H (dkC ks) xs->Qfx H ks (xs.map λx=>V.ref x.2.1)
 | [],xs,h=>by cases h;rfl
 | k::ks,xs,h=>by
  cases h with
  | cons hq t=>exact⟨_,_,rfl,by have:=hq.2.1;rw[ZR]at this;exact this,Qoi t⟩
theorem Qrm{es:Array DictEntry}{acc:Array Value}(h:ItemsOf (λi v=>∃e,es[i]? =some e/\v=e.key) acc es.size):acc.toList=es.toList.map (·.key):=by
 refine ZaR λi=>?_
 rw[Zp,ZaB,ZaB]
 by_cases z:i<acc.size
 ·obtain⟨e,h1,h2⟩:=h.2 i _ (ZaA z)
  rw[ZaA z,h1,h2];rfl
 ·rw[Array.getElem?_eq_none (by omega),Array.getElem?_eq_none (by have:=h.1;omega)];rfl
theorem QkD:∀xs:List (List Key×Addr×Value),Qw (xs.map λx=>V.ref x.2.1) (xs.map λx=>Value.ref x.2.1)
 | []=> .nil
 | _::xs=> .cons rfl (QkD xs)
theorem Qlq{X:Cx}(hc:X.calm=true):Qa3 X (.type "list") (λxs H Q=>∃p ks,xs=[.ref p]/\H p=some (.dT (dkC ks))/\∀l vs,H l=none->Qfx H ks vs->ks.length<=sizeLine->Q (.ref l) (upd H l (.lst vs))):=by
 intro pins s σ H xs us Q I r h
 obtain⟨p,ks,rfl,hq,q⟩:=h
 obtain⟨u,rfl,rx⟩:=vals1 r
 cases rx
 obtain⟨z,hd,ys,rel,ob,es,ep,h1,h2,h3,h4,_⟩:=QoQ I.hok hq
 have ek:es.toList.map (·.key)=ys.map λx=>Value.ref x.2.1:=by rw[h4,ZR];rfl
 have el:es.size=ks.length:=by
  have:=rel.length
  rw[← ZY,h4,Zg,← this];simp[dkC]
 have zk:ks.length<=sizeLine:=by simpa[dkC]using z
 refine QuT (I.ok.hd hc) hd ⟨ob,h1,h2,h3⟩ (by rw[el];exact zk) λh' tk acc c kp e ia=>?_
 have ea:acc.toList=ys.map λx=>Value.ref x.2.1:=by rw[Qrm ia,ek]
 refine⟨.ref s.heap.objs.size,_,I.laid (t':=tk) kp (Zh _) (show QaM X.prog X.w _ h' _ (.lst (ys.map λx=>V.ref x.2.1))from⟨?_,_,c,QkD ys,by rw[← ea];exact e⟩),rfl,q _ _ (I.hok.fresh (Zh _)) (Qoi rel) zk⟩
 rw[Zg,← Zbn rel];simpa[dkC]using zk
section
variable {X:Cx}{e:Expr}{es:List Expr}{fs:DA}{pos:Pos}
theorem QuW{p:Pos}(hcl:X.calm=true)(hg:Gl X "list")(hm:X.mg "list" =none)(ha:SA X (e::es) fs)(he:starEach (e::es) X.env=(false,eval e X.env)::starEach es X.env)(hpl:(backTo pos (starEach es X.env)).any (·.1)=false):
  SE X (.Call (.Name "list" p) (e::es) [] pos) (dList fs):=λH0 A0=>
 (Qgs (QmJ.or (Qlq hcl)) hg hm Zcg (ha H0 A0) (by decide) (by decide) he hpl).mono λσ H Q=>exK λρ hs F r' rel e q=>by
  refine Qk e λra e1 e=>?_
  refine⟨ρ,hs,F,ra,rel,e1,λvs H1 G p1=>?_⟩
  have rp:=p1.rp
  have src:=p1.src
  split at e
  ·rename_i xs hds
   cases e
   rw[hds]at rp
   obtain⟨v,rfl,rq⟩:=rp.one
   obtain⟨l,ws,L,rfl,hl,rl,zl,el⟩:=rq.lst_inv
   left
   refine⟨l,ws,rfl,.inl (QX hl),λc hc=>q _ _ (c::L) (Qaa.QaH p1.same hc rl zl (λz hz=>src z ?_) p1.own)⟩
   rcases el with rfl | rfl
   ·exact Zc _ hz
   ·exact hz
  ·rename_i xs hds
   split at e
   ·rename_i hz
    cases e
    rw[hds]at rp
    obtain⟨v,rfl,rq⟩:=rp.one
    obtain⟨l,ws,rfl,hl,rl⟩:=rq.QaQ
    left
    exact⟨l,ws,rfl,.inr hl,λc hc=>q _ _ (c::G) (Qaa.QaH p1.same hc rl hz src p1.own)⟩
   ·cases e
  ·rename_i ks hds
   cases e
   rw[hds]at rp
   obtain⟨v,rfl,rq⟩:=rp.one
   simp only[Rp]at rq
   obtain⟨a,rfl,_,hq⟩:=rq
   exact .inr ⟨a,ks,rfl,hq,λc vs hc hv hz=>q _ _ [c] (Qaa.QaH p1.same hc hv.rps (by rw[Zg];exact hz) Src.nil Qa4.nil)⟩
  ·cases e
end
end HS
namespace HS
open PySem L2
def Inc(xs:Array Nat):Prop:=xs.toList.Pairwise (· < ·)
theorem Inc.get{xs:Array Nat}(h:Inc xs){i j a b:Nat}(hi:xs[i]? =some a)(hj:xs[j]? =some b)(hij:i<j):a<b:=by
 rw[← ZaB]at hi hj
 obtain⟨i1,rfl⟩:=Zd.mp hi
 obtain⟨j1,rfl⟩:=Zd.mp hj
 exact List.pairwise_iff_getElem.mp h i j i1 j1 hij
structure Cut (xs:Array Nat) (j r:Nat):Prop where
 le:r<=xs.size
 lo:∀i a,i<r->xs[i]? =some a->a<j
 hi:∀i a,r<=i->xs[i]? =some a->j<=a
structure TbI (t:SetTable):Prop where
 inc:Inc t.place
 dum:t.dummies= #[]
end HS
namespace HS
open PySem
section
variable {t:SetTable}
end
section
variable {mask:Nat}{owner:Array (Option Nat)}
structure Own (mask:Nat) (owner:Array (Option Nat)) (k:Nat):Prop where
 size:owner.size=mask+1
 perm:(owner.toList.filterMap id).Perm (List.range k)
theorem range_all{α:Type}(es:Array α):(List.range es.size).filterMap (es[·]?)=es.toList:=by
 have h1:∀(l:List α),(List.range l.length).filterMap (l[·]?)=l:=λl=>by
  induction l with
  | nil=>rfl
  | cons a l ih=>
   rw[ZI,Zby,Zbk]
   dsimp only[List.getElem?_cons_zero]
   rw[List.filterMap_map]
   congr 1
 have:=h1 es.toList
 rw[ZY]at this
 refine Eq.trans ?_ this
 congr 1
 funext i
 rw[ZaB]
end
end HS
namespace HS
open PySem L2 PyProof.Rows
section
variable {prog:Program}{w:World}{A:Around}{E:Value->Shared->Prop}{s:Shared}
structure QyP (prog:Program) (w:World) (L:Bool) (ob:Obj) (ar:Array (Int×Value)) (tb:SetTable) (S:Int->Bool) (n:Nat):Prop where
 ex:ob.ExactSet
 el:ElemsOf (intKind prog w) ar.toList
 mem:∀k,S k=true↔∃e∈ar.toList,(intKind prog w).is k e.2=true
 lt:ar.size<scanBound
 fit:tb.fits ar.size=true
 num:ar.size=n
 ti:TbI tb
 led:tb.led=L
def Sz(tb:SetTable)(n:Nat):Prop:=tb.plain=true/\(tb.mask=7/\n<=4∨tb.mask=31/\n<=18)
def QjC(prog:Program)(w:World)(L:Bool)(h:Heap)(a:Addr)(S:Int->Bool)(n:Nat):Prop:=∃ob ar en tb,h.get? a=some ob/\ob.data= .set ar en tb/\QyP prog w L ob ar tb S n/\Sz tb n
theorem QjC.QgL{L:Bool}{h h':Heap}{a:Addr}{S:Int->Bool}{n:Nat}(r:QjC prog w L h a S n)(k:∀o,h.get? a=some o->h'.get? a=some o):QjC prog w L h' a S n:=by
 obtain⟨ob,ar,en,tb,h1,h2⟩:=r
 exact⟨ob,ar,en,tb,k _ h1,h2⟩
theorem QjC.cast{L:Bool}{h:Heap}{a:Addr}{S S':Int->Bool}{n n':Nat}(r:QjC prog w L h a S n)(e:∀k,S k=S' k)(en:n=n'):QjC prog w L h a S' n':=by
 have:S=S':=funext e
 subst this;subst en;exact r
end
end HS
namespace HS
open PySem L2 PyProof.Rows
section
variable {prog:Program}{w:World}{A:Around}{R:Result->Shared->Prop}{I:Addr}{fp wr:List Addr}{G:Array GenState->Array GenState->Prop}{n:Nat}{P:Nat->Value->Prop}{St:Nat->Shared->Prop}
end
end HS
namespace HS
open PySem L2 PyProof.Rows
section
variable {prog:Program}{w:World}{A:Around}{E:Value->Shared->Prop}{s:Shared}
noncomputable abbrev Qza(w:World):Bool:= !w.params.followText "set-order"
noncomputable abbrev QxL(w:World):Obj:={cls:= .type "set",dict:=none,data:= .set #[] 0 (.fresh 0 0 (Qza w))}
end
end HS
namespace HS
open PySem L2 PyProof.Rows
section
variable {prog:Program}{w:World}
structure QzS (prog:Program) (w:World) (a:Addr) (ob:Obj) (ep:Nat) (wk:Array (Int×Value)) (sl:Nat->Nat):Prop where
 zero:sl 0=0
 next:∀(A:Around) (E:Value->Shared->Prop) (s:Shared) (Q:Option (Value×Nat)->Shared->Prop) (i:Nat) (e:Int×Value),s.heap.get? a=some ob->wk[i]? =some e->Q (some (e.2,sl (i+1))) s->wpAny (model prog w) A (setNext a (sl i) i ep) Q E s
 stop:∀(A:Around) (E:Value->Shared->Prop) (s:Shared) (Q:Option (Value×Nat)->Shared->Prop),s.heap.get? a=some ob->Q none s->wpAny (model prog w) A (setNext a (sl wk.size) wk.size ep) Q E s
end
end HS
namespace HS
open PySem L2 PyProof.Rows
section
variable {prog:Program}{w:World}{A:Around}{E:Value->Shared->Prop}{s:Shared}
end
end HS
namespace HS
open PySem L2 PyProof.Rows
section
variable {prog:Program}{w:World}{A:Around}{E:Value->Shared->Prop}{s:Shared}
end
end HS
namespace HS
open PySem L2 PyProof.Rows
section
variable {prog:Program}{w:World}{A:Around}{E:Value->Shared->Prop}{s:Shared}
end
end HS
namespace HS
open PySem PySem.Spec L2 PyProof.Rows
section
variable {X:Cx}{a:Expr}{fa:DE}{pos:Pos}
end
end HS
namespace HS
open PySem PySem.Spec PyProof.Rows L2
section
variable {X:Cx}{a b c:Expr}{fa fb fc:DE}{pos:Pos}
end
end HS
namespace HS
open PySem PySem.Spec L2
structure FnR where
 n:Nat
 dfl:List D
 den:Den
structure Th where
 N:List Str
 sc:List (Str×NameKind)
 Γ:List (Str×FnR)
 cs:List (Str×Int)
 tr:Stmt->Option DS:=λ_=>none
noncomputable def posOf(x:Str):List Str->Option Nat
 | []=>none
 | y::ys=>if x=y then some 0 else(posOf x ys).map (· +1)
theorem QeV:∀{x:Str}{ys:List Str}{i:Nat},posOf x ys=some i->ys[i]? =some x
 | x,[],i,h=>by cases h
 | x,y::ys,i,h=>by
  unfold posOf at h
  split at h
  ·rename_i e;cases h;subst e;rfl
  ·obtain⟨j,hj,rfl⟩:=Zf.mp h
   simpa using QeV hj
noncomputable def look{α:Type}(x:Str):List (Str×α)->Option α
 | []=>none
 | (y,a)::r=>if x=y then some a else look x r
theorem Qbl{α:Type}:∀{x:Str}{l:List (Str×α)},look x l=l.lookup x
 | x,[]=>rfl
 | x,(y,a)::r=>by
  unfold look
  rw[Zw]
  by_cases h:x=y
  ·subst h;simp
  ·rw[if_neg h,Qbl]
   have:(x == y)=false:=by simpa using h
   rw[this]
noncomputable def QtK:NameKind->Bool
 | .local =>true | .cell=>true | .free=>true | _=>false
noncomputable def QtC:NameKind->Bool
 | .local =>true | .cell=>true | _=>false
noncomputable def Qzp:NameKind->Bool
 | .globalImplicit=>true | _=>false
noncomputable def isFree:NameKind->Bool
 | .free=>true | _=>false
noncomputable def odd(x:Str):Bool:=decide (x= "__debug__") || decide (x= "__classdict__") || decide (x= "__name__")
noncomputable def Th.slot(Θ:Th)(x:Str):Option Nat:=if((look x Θ.sc).map QtK).getD false && !odd x then posOf x Θ.N else none
noncomputable def Th.Qdo(Θ:Th)(x:Str):Option Nat:=if((look x Θ.sc).map QtC).getD false && !odd x then posOf x Θ.N else none
noncomputable def Th.gl(Θ:Th)(x:Str):Bool:=((look x Θ.sc).map Qzp).getD false && !odd x
def QuE(X:Cx)(x:Str)(r:FnR):Prop:=∃k f fd ps,QbV X.prog X.w X.K X.mg X.base CX0 k f fd ps (spV X.K r.n r.den)/\QaI k X.A/\X.mg x=some (.ref f)/\PySem.W.keepIn X.K (.ref f)=true∧
 ∀m,m<=r.dfl.length->∃ds dvs,Binds X.K fd ps ds/\Qw dvs ds/\∀H,Rps X.K H (r.dfl.drop (r.dfl.length-m)) dvs []
noncomputable def QmY:List Str:=["range","enumerate","zip","len","list","min","max","sum","abs","isinstance","int","bool","tuple","str","divmod","sorted","any","all","set"]
structure CtxB (X:Cx) (Θ:Th):Prop where
 N:X.N=Θ.N
 nd:Θ.N.Nodup
 lc:∀x,look x Θ.sc=some .local ->X.env.scope.names.lookup x=some .local
 ce:∀x,look x Θ.sc=some .cell->X.env.scope.names.lookup x=some .cell/\X.fn x=true
 fe:∀x,look x Θ.sc=some .free->X.env.scope.names.lookup x=some .cell∨X.env.scope.names.lookup x=some .free
 gl:∀x,look x Θ.sc=some .globalImplicit->X.env.scope.names.lookup x=some .globalImplicit
 units:X.A.units+64<cLine
 mg:∀x∈QmY,X.mg x=none
 cs:∀x i,look x Θ.cs=some i->∃t,X.mg x=some (.int i t)
structure Qar (X:Cx) (Θ:Th):Prop extends CtxB X Θ where
 calm:X.calm=true
 pass:PassesOwn (model X.prog X.w) X.A X.env X.xe
 fns:∀x r,look x Θ.Γ=some r->QuE X x r
 tr:∀st f,Θ.tr st=some f->S1 X st f
section
theorem Qn6(h:odd x=false):(x == ("__debug__" :Str))=false/\(x == ("__classdict__" :Str))=false/\x≠ "__name__" :=by
 unfold odd at h
 simp only[Bool.or_eq_false_iff,decide_eq_false_iff_not]at h
 exact⟨by simpa using h.1.1,by simpa using h.1.2,h.2⟩
theorem Qfk(ok:CtxB X Θ)(h:Θ.slot x=some i):PE X (.Name x pos) (QjE i):=by
 unfold Th.slot at h
 split at h
 ·rename_i hc
  simp only[Zk,ZaH]at hc
  obtain⟨h1,h2,_⟩:=Qn6 hc.2
  refine QqQ (by rw[ok.N];exact QeV h) ?_ h1 h2
  cases q:look x Θ.sc with
  | none=>rw[q]at hc;cases hc.1
  | some k=>
   rw[q]at hc
   cases k with
   | «local» =>exact .inl (ok.lc x q)
   | cell=>exact .inr (.inl (ok.ce x q).1)
   | free=>exact .inr (ok.fe x q)
   | _=>cases hc.1
 ·cases h
theorem QeN(ok:CtxB X Θ)(h:Θ.Qdo x=some i):X.N[i]? =some x/\Loc X.env.scope x/\(X.fn x=true∨X.env.scope.names.lookup x=some .local):=by
 unfold Th.Qdo at h
 split at h
 ·rename_i hc
  simp only[Zk,ZaH]at hc
  refine⟨by rw[ok.N];exact QeV h,?_⟩
  cases q:look x Θ.sc with
  | none=>rw[q]at hc;cases hc.1
  | some k=>
   rw[q]at hc
   cases k with
   | «local» =>exact⟨.inl (ok.lc x q),.inr (ok.lc x q)⟩
   | cell=>exact⟨.inr (ok.ce x q).1,.inl (ok.ce x q).2⟩
   | _=>cases hc.1
 ·cases h
theorem QeS(ok:CtxB X Θ)(h:Θ.gl x=true):Gl X x/\(x == ("__debug__" :Str))=false/\x≠ "__name__" :=by
 unfold Th.gl at h
 simp only[Zk,ZaH]at h
 obtain⟨h1,h2,h3⟩:=Qn6 h.2
 refine⟨?_,h1,h3⟩
 cases q:look x Θ.sc with
 | none=>rw[q]at h;cases h.1
 | some k=>
  rw[q]at h
  cases k with
  | globalImplicit=>exact ok.gl x q
  | _=>cases h.1
end
noncomputable def isTup:Expr->Bool
 | .Tuple .. =>true
 | _=>false
noncomputable def Qp7:Expr->Option Str
 | .Name x _=>some x
 | _=>none
noncomputable def Qid(Θ:Th):Expr->Option Tg
 | .Name x _=>(Θ.Qdo x).map .nm
 | .Tuple es _ _=>((es.mapM Qp7).bind λxs=>xs.mapM Θ.Qdo).map .tp
 | _=>none
noncomputable def Qpe:CmpOp->Option (D->D->Option D)
 | .Eq=>some gEq | .NotEq=>some gNe | .Lt=>some gLt | .LtE=>some gLe | .Gt=>some gGt | .GtE=>some gGe
 | .Is=>some (Qfg false) | .IsNot=>some (Qfg true)
 | .In=>none | .NotIn=>none
noncomputable def Qs4(x:Str):Option String:=
 if x= "int" then some "int" else if x= "bool" then some "bool" else if x= "list" then some "list" else if x= "tuple" then some "tuple" else if x= "str" then some "str" else none
noncomputable def inner(Θ:Th)(scope:Scope):Th:={N:=(scope.names.filter λy=>QtK y.2).map (·.1),sc:=scope.names,Γ:=Θ.Γ,cs:=Θ.cs}
noncomputable def Qhh(Θ:Th)(scope:Scope):List (Option Nat):=(inner Θ scope).N.map λx=>if((look x scope.names).map isFree).getD false then posOf x Θ.N else none
noncomputable def QiT(Θ:Th)(scope:Scope)(t:Tg):Bool:=(scope.kind == .function) && decide (inner Θ scope).N.Nodup &&
 (scope.names.all λy=>match y.2 with
  | .cell=>decide (look y.1 scope.names=some .cell)
  | .local =>decide (look y.1 scope.names=some .local)
  | .free=>match look y.1 Θ.sc with
   | some .cell=>true
   | some .free=>true
   | _=>false
  | _=>true) &&
 t.slots.all λj=>match (Qhh Θ scope)[j]? with
  | some (some _)=>false
  | _=>true
noncomputable def QhX(Θ:Th)(x:Str)(a:Expr):Option Expr:=match a with
 | .Call (.Name y _) [b] [] _=>if x= "list" /\y= "range" /\Θ.gl y=true/\(look y Θ.Γ).isNone=true then some b else none
 | _=>none
noncomputable def QiK(Θ:Th)(ks:List (Option Expr))(vs:List Expr):Option (Option Expr):=match ks,vs with
 | [],[]=>some none
 | [some (.Call (.Name y _) [b] [] _)],[.Constant (.bool true) _ _]=>if y= "tuple" /\Θ.gl y=true then some (some b)else none
 | _,_=>none
theorem QpD{Θ:Th}{ks:List (Option Expr)}{vs:List Expr}{o:Option Expr}(h:QiK Θ ks vs=some o):
  (ks=[]/\vs=[]/\o=none)∨∃p a cp j q,ks=[some (.Call (.Name "tuple" p) [a] [] cp)]/\vs=[.Constant (.bool true) j q]/\Θ.gl "tuple" =true/\o=some a:=by
 unfold QiK at h
 split at h
 ·cases h;exact .inl ⟨rfl,rfl,rfl⟩
 ·split at h
  ·rename_i hc
   obtain⟨rfl,hg⟩:=hc
   cases h
   exact .inr ⟨_,_,_,_,_,rfl,rfl,hg,rfl⟩
  ·cases h
 ·cases h
noncomputable def QgZ(Θ:Th)(a i e:Expr):Option (Str×Expr):=match a with
 | .Name x _=>match i with
  | .Call (.Name y _) [b] [] _=>match e with
   | .Constant (.bool true) _ _=>if y= "tuple" /\Θ.gl y=true then some (x,b)else none
   | _=>none
  | _=>none
 | _=>none
theorem Qo0{Θ:Th}{a i e:Expr}{q:Str×Expr}(h:QgZ Θ a i e=some q):∃p p' cp j r,a= .Name q.1 p/\i= .Call (.Name "tuple" p') [q.2] [] cp/\e= .Constant (.bool true) j r/\Θ.gl "tuple" =true:=by
 unfold QgZ at h
 split at h
 ·split at h
  ·split at h
   ·split at h
    ·rename_i hc
     obtain⟨rfl,hg⟩:=hc
     cases h
     exact⟨_,_,_,_,_,rfl,rfl,rfl,hg⟩
    ·cases h
   ·cases h
  ·cases h
 ·cases h
noncomputable def QyW:List Expr->Bool
 | []=>true | [_]=>true | _=>false
noncomputable def bf1(x:Str)(fa:DE):Option DE:=
 if x= "len" then some (dBf QaS (Qb fa Qh))else
 if x= "list" then some (dList (Qb fa Qh))else
 if x= "abs" then some (dBf QoU (Qb fa Qh))else
 if x= "min" then some (dBf Qhq (Qb fa Qh))else
 if x= "max" then some (dBf QfO (Qb fa Qh))else
 if x= "sum" then some (dBf QeP (Qb fa Qh))else
 if x= "all" then some (dBf Qhp (Qb fa Qh))else
 none
noncomputable def bf2(x:Str)(fa fb:DE):Option DE:=
 if x= "min" then some (dBf Qf3 (Qb fa (Qb fb Qh)))else
 if x= "max" then some (dBf QeO (Qb fa (Qb fb Qh)))else
 if x= "divmod" then some (dDm (Qb fa (Qb fb Qh)))else
 none
mutual
noncomputable def Ql(n:Nat)(Θ:Th)(e:Expr):Option DE:=match n with
 | 0=>none
 | n+1=>match e with
  | .Name x _=>match Θ.slot x with
   | some i=>some (Qa i)
   | none=>if Θ.gl x then(look x Θ.cs).map λi=>dC (.int i)else none
  | .Constant (.int i) _ _=>some (dC (.int i))
  | .Constant (.bool b) _ _=>some (dC (.bl b))
  | .Constant .none _ _=>some (dC .non)
  | .Constant (.str x) _ _=>some (dC (.str x))
  | .BinOp a op b _=>(Ql n Θ a).bind λfa=>(Ql n Θ b).bind λfb=>match op with
   | .Add=>some (QO fa fb)
   | .Mult=>some (Qap fa fb)
   | .Sub=>some (dOp Qam fa fb)
   | .FloorDiv=>some (dOp QeC fa fb)
   | .Mod=>some (dOp Qbb fa fb)
   | .Pow=>some (dOp Qex fa fb)
   | .RShift=>some (dOp QlO fa fb)
   | _=>none
  | .UnaryOp .USub a _=>(Ql n Θ a).map Qh5
  | .UnaryOp .Not a _=>(Ql n Θ a).map QwZ
  | .BoolOp .And [a] _=>Ql n Θ a
  | .BoolOp .And (a::b::r) p=>(Ql n Θ a).bind λfa=>(Ql n Θ (.BoolOp .And (b::r) p)).map λfb=>QvU fa fb
  | .BoolOp .Or [a] _=>Ql n Θ a
  | .BoolOp .Or (a::b::r) p=>(Ql n Θ a).bind λfa=>(Ql n Θ (.BoolOp .Or (b::r) p)).map λfb=>dOr fa fb
  | .Compare a [op] [b] _=>(Ql n Θ a).bind λfa=>(Ql n Θ b).bind λfb=>(Qpe op).map λg=>dOp g fa fb
  | .Tuple es _ _=>(QbB n Θ es).map Qa6
  | .List es _=>(QbB n Θ es).map Qag
  | .Dict ks vs _=>match QiK Θ ks vs with
   | some (some a)=>(Ql n Θ a).map λfa=>dD1 (Qb fa Qh)
   | some none=>some Qk9
   | none=>none
  | .Subscript a (.Slice lo hi none _) _=>(Ql n Θ a).bind λfa=>(Qi1 n Θ lo).bind λfl=>(Qi1 n Θ hi).map λfh=>Qiv fa fl fh
  | .Subscript a b _=>(Ql n Θ a).bind λfa=>(Ql n Θ b).map λfb=>Qr fa fb
  | .Call (.Name x _) args [] _=>if Θ.gl x then(match look x Θ.Γ with
    | some r=>if r.n<=args.length+r.dfl.length/\args.length<=r.n then(QbB n Θ args).map λfs=>Qz r.n r.den (r.dfl.drop (r.dfl.length-(r.n-args.length))) fs else none
    | none=>Qlf n Θ x args)else none
  | .Call (.Attribute (.Name x p) m apos) [] [] cpos=>if m= "bit_length" /\(apos.endLine == cpos.line)=true then(Ql n Θ (.Name x p)).map Qlk else none
  | .ListComp elt [⟨tg,iter,ifs,0⟩] scope _=>(Qid (inner Θ scope) tg).bind λt=>if QiT Θ scope t && QyW ifs then
    (Qhd n Θ tg iter).bind λfi=>(Qfp n (inner Θ scope) ifs).bind λft=>(Ql n (inner Θ scope) elt).map λfe=>Q5 fi t (Qhh Θ scope) ft fe else none
  | _=>none
noncomputable def Qlf(n:Nat)(Θ:Th)(x:Str)(args:List Expr):Option DE:=match n with
  | 0=>none
  | n+1=>match args with
    | [a]=>match QhX Θ x a with
     | some b=>(Ql n Θ b).map Qlh
     | none=>
         (Ql n Θ a).bind λfa=>bf1 x fa
    | [a,b]=>if x= "isinstance" then(Ql n Θ a).bind λfa=>match b with
        | .Name y _=>if Θ.gl y then(Qs4 y).map λT=>Qgy T fa else none
        | _=>none
      else(Ql n Θ a).bind λfa=>(Ql n Θ b).bind λfb=>bf2 x fa fb
    | _=>none
noncomputable def Qba(n:Nat)(Θ:Th)(e:Expr):Option DT:=match n with
 | 0=>none
 | n+1=>match e with
  | .UnaryOp .Not a _=>(Qba n Θ a).map Qd6
  | .BoolOp .And [a] _=>Qba n Θ a
  | .BoolOp .And (a::b::r) p=>(Qba n Θ a).bind λfa=>(Qba n Θ (.BoolOp .And (b::r) p)).map λfb=>QjX fa fb
  | .BoolOp .Or [a] _=>Qba n Θ a
  | .BoolOp .Or (a::b::r) p=>(Qba n Θ a).bind λfa=>(Qba n Θ (.BoolOp .Or (b::r) p)).map λfb=>bOr fa fb
  | .Compare a [op] [b] _=>(Ql n Θ a).bind λfa=>(Ql n Θ b).bind λfb=>(Qpe op).map λg=>QZ (dOp g fa fb)
  | .BoolOp _ _ _=>none
  | .IfExp _ _ _ _=>none
  | .Compare _ _ _ _=>none
  | e=>(Ql n Θ e).map QZ
noncomputable def Qfp(n:Nat)(Θ:Th)(es:List Expr):Option DT:=match n with
 | 0=>none
 | n+1=>match es with
  | []=>some Qab
  | [c]=>Qba n Θ c
  | _=>none
noncomputable def QbB(n:Nat)(Θ:Th)(es:List Expr):Option DA:=match n with
 | 0=>none
 | n+1=>match es with
  | []=>some Qh
  | e::es=>(Ql n Θ e).bind λfa=>(QbB n Θ es).map λfs=>Qb fa fs
noncomputable def Qi1(n:Nat)(Θ:Th)(e:Option Expr):Option DO:=match n with
 | 0=>none
 | n+1=>match e with
  | none=>some QtM
  | some e=>(Ql n Θ e).map Qdr
noncomputable def Qhd(n:Nat)(Θ:Th)(tg e:Expr):Option DI:=match n with
 | 0=>none
 | n+1=>match e with
  | .Call (.Name x _) args [] _=>if Θ.gl x && (look x Θ.Γ).isNone then(match args with
    | [a]=>if x= "range" then(Ql n Θ a).map Qbk else
     if x= "enumerate" then(if isTup tg then(Ql n Θ a).map QgY else none)else
     (Ql n Θ e).map Qav
    | [a,b,c]=>
     if x= "range" then(Ql n Θ a).bind λfa=>(Ql n Θ b).bind λfb=>(Ql n Θ c).map λfc=>Qfv fa fb fc else
     if x= "zip" then(if isTup tg then(Ql n Θ a).bind λfa=>(Ql n Θ b).bind λfb=>(Ql n Θ c).map λfc=>Qgp fa fb fc else none)else
     (Ql n Θ e).map Qav
    | [a,b]=>
     if x= "range" then(Ql n Θ a).bind λfa=>(Ql n Θ b).map λfb=>Qeg fa fb else
     if x= "zip" then(if isTup tg then(Ql n Θ a).bind λfa=>(Ql n Θ b).map λfb=>QaJ fa fb else none)else
     (Ql n Θ e).map Qav
    | _=>(Ql n Θ e).map Qav)else(Ql n Θ e).map Qav
  | e=>(Ql n Θ e).map Qav
end
theorem QaT{α β γ:Type}{x:Option α}{y:α->Option β}{k:α->β->γ}{r:γ}(e:(x.bind λa=>(y a).map λb=>k a b)=some r):∃a b,x=some a/\y a=some b/\k a b=r:=by
 refine Qk e λa h1 e=>?_
 obtain⟨b,h2,e⟩:=Zf.mp e
 exact⟨a,b,h1,h2,e⟩
theorem bindR{α β γ:Type}{x:Option α}{y:α->Option β}{k:α->β->γ}{r:γ}{M:γ->Prop}(e:(x.bind λa=>(y a).map λb=>k a b)=some r)(g:∀a b,x=some a->y a=some b->M (k a b)):M r:=by
 obtain⟨a,b,h1,h2,rfl⟩:=QaT e
 exact g a b h1 h2
theorem Qae(h:Ql n Θ e=some f)(es:List Expr)(env:Env):starEach (e::es) env=(false,eval e env)::starEach es env:=by
 cases n with
 | zero=>exact nomatch (show(none:Option DE)=some _ from h)
 | succ n=>cases e<;>first | rfl | (exact nomatch (show(none:Option DE)=some _ from h))
theorem Qov:∀{n:Nat}{Θ:Th}{es:List Expr}{f:DA},QbB n Θ es=some f->∀(pos:Pos) (env:Env),(backTo pos (starEach es env)).any (·.1)=false
 | 0,_,_,_,h,_,_=>by simp[QbB]at h
 | n+1,_,[],_,h,_,_=>rfl
 | n+1,_,e::es,_,h,pos,env=>by
  simp only[QbB]at h
  obtain⟨fa,fs,h1,h2,_⟩:=QaT h
  rw[Qae h1]
  have:=Qov h2 pos env
  simpa[backTo]using this
theorem Qow(h:Ql n Θ b=some f):Qhf b:=by
 cases n with
 | zero=>exact nomatch (show(none:Option DE)=some _ from h)
 | succ n=>cases b<;>first | (intro o i;rfl) | (exact nomatch (show(none:Option DE)=some _ from h))
theorem Qxm(h:Ql n Θ e=some f)(env:Env):∀x,foldedSetIterable e env x=pure x:=by
 cases n with
 | zero=>exact nomatch (show(none:Option DE)=some _ from h)
 | succ n=>cases e<;>first | (intro x;rfl) | (exact nomatch (show(none:Option DE)=some _ from h))
theorem Qrd(h:Ql n Θ e=some f)(op:CmpOp):behindInMarks op e=false:=by
 cases n with
 | zero=>exact nomatch (show(none:Option DE)=some _ from h)
 | succ n=>cases e<;>first | rfl | (exact nomatch (show(none:Option DE)=some _ from h))
theorem Qdz{env:Env}:∀{names:List (Str×NameKind)}{x:Str},names.lookup x=some .cell→
  (names.map λ(n,k)=>if(k == NameKind.free && env.scope.kind == .function && env.kindOf n == some .cell)then(n,NameKind.cell)else(n,k)).lookup x=some .cell
 | [],_,h=>by simp at h
 | (n,k)::r,x,h=>by
  have ih:= @Qdz env r x
  rw[Zj]
  cases hx:x == n with
  | true=>
   simp only[Zw,hx]at h
   cases h
   dsimp only
   split<;>simp[Zw,hx]
  | false=>
   simp only[Zw,hx]at h
   dsimp only
   split<;>(simp only[Zw,hx];exact ih h)
theorem QlI{X:Cx}{Θ:Th}{scope:Scope}{t:Tg}(ok:Qar X Θ)(h:QiT Θ scope t=true):Qd3 X (inner Θ scope).N scope/\Qk7 X (inner Θ scope).N scope (Qhh Θ scope) t.slots/\∀cl C fp s3 H3,Qar (cxc X (inner Θ scope).N scope cl C fp s3 H3) (inner Θ scope):=by
 unfold QiT at h
 simp only[Zk,decide_eq_true_eq]at h
 obtain⟨⟨⟨h1,h2⟩,h3⟩,h4⟩:=h
 have hk:scope.kind= .function:=by simpa using h1
 have each:∀y∈scope.names,(y.2= .cell->scope.names.lookup y.1=some .cell)/\(y.2= .local ->scope.names.lookup y.1=some .local)/\(y.2= .free->X.env.kindOf y.1=some .cell∨X.env.kindOf y.1=some .free):=λy hy=>by
  have:=Zav.mp h3 y hy
  obtain⟨y,k⟩:=y
  cases k with
  | cell=>exact⟨λ_=>(by rw[← Qbl];simpa using this),λz=>(by cases z),λz=>(by cases z)⟩
  | «local» =>exact⟨λz=>(by cases z),λ_=>by rw[← Qbl];simpa using this,λz=>by cases z⟩
  | free=>
   refine⟨λz=>(by cases z),λz=>(by cases z),λ_=>?_⟩
   dsimp only at this
   split at this
   ·rename_i q;exact .inl (ok.ce _ q).1
   ·rename_i q;exact ok.fe _ q
   ·cases this
  | _=>exact⟨λz=>(by cases z),λz=>(by cases z),λz=>(by cases z)⟩
 have S:Qd3 X (inner Θ scope).N scope:=⟨hk,λy hy=>(each y hy).1,λy hy=>(each y hy).2.1,λy hy=>(each y hy).2.2⟩
 refine⟨S,⟨by unfold Qhh;simp,λj i e=>?_,λj i e hj=>?_⟩,λcl C fp s3 H3=>⟨⟨rfl,h2,λx e=>?_,λx e=>?_,λx e=>?_,λx e=>?_,ok.units,ok.mg,ok.cs⟩,ok.calm,PassesOwn.never,ok.fns,λ_ _ e=>nomatch e⟩⟩
 ·unfold Qhh at e
  rw[Zp]at e
  cases q:(inner Θ scope).N[j]? with
  | none=>rw[q]at e;cases e
  | some x=>
   rw[q]at e
   simp only[ZP,Option.some.injEq]at e
   split at e
   ·rename_i hf
    cases hl:look x scope.names with
    | none=>rw[hl]at hf;cases hf
    | some k=>
     rw[hl]at hf
     cases k with
     | free=>
      rw[Qbl]at hl
      exact⟨x,rfl,hl,by rw[ok.N];exact QeV e,(each (x,.free) (Zai hl)).2.2 rfl⟩
     | _=>cases hf
   ·cases e
 ·have:=Zav.mp h4 j hj
  rw[e]at this
  cases this
 ·have e':scope.names.lookup x=some .local :=by rw[← Qbl];exact e
  exact lookup_relabel_local e'
 ·have e':scope.names.lookup x=some .cell:=by rw[← Qbl];exact e
  exact⟨Qdz e',decide_eq_true e'⟩
 ·have e':scope.names.lookup x=some .free:=by rw[← Qbl];exact e
  exact Qcm e'
 ·have e':scope.names.lookup x=some .globalImplicit:=by rw[← Qbl];exact e
  show(relabel scope X.env).names.lookup x=some .globalImplicit
  unfold relabel
  have gen:∀{names:List (Str×NameKind)},names.lookup x=some .globalImplicit→
    (names.map λ(n,k)=>if(k == NameKind.free && X.env.scope.kind == .function && X.env.kindOf n == some .cell)then(n,NameKind.cell)else(n,k)).lookup x=some .globalImplicit:=by
   intro names
   induction names with
   | nil=>intro z;simp at z
   | cons y r ih=>
    intro z
    obtain⟨n,k⟩:=y
    rw[Zj]
    cases hx:x == n with
    | true=>
     simp only[Zw,hx]at z
     cases z
     simp[Zw,hx]
    | false=>
     simp only[Zw,hx]at z
     dsimp only
     split<;>(simp only[Zw,hx];exact ih z)
  exact gen e'
theorem Qlb(ok:Qar X Θ)(h:Qid Θ tg=some t):SG X tg t:=by
 have hN:X.N.Nodup:=by rw[ok.N];exact ok.nd
 cases tg with
 | Name x pos=>
  change Option.map _ _=_ at h
  refine mapR h λi hi=>?_
  obtain⟨h1,h2,h3⟩:=QeN ok.toCtxB hi
  exact QtU (QnT hN h1 h2 h3)
 | Tuple es k pos=>
  change Option.map _ _=_ at h
  refine mapR h λis hi=>?_
  refine Qk hi λxs h1 h2=>?_
  have key:∀(es:List Expr) (xs:List Str) (is:List Nat),es.mapM Qp7=some xs->xs.mapM Θ.Qdo=some is->PGs X es (QiW is)/\(assignEach es X.env).length=is.length/\(assignEach es X.env).findIdx? (·.1)=none:=by
   intro es
   induction es with
   | nil=>
    intro xs is h1 h2
    cases h1
    cases h2
    exact⟨QvI,rfl,rfl⟩
   | cons e es ih=>
    intro xs is h1 h2
    rw[List.mapM_cons]at h1
    refine Qk h1 λx hx h1=>?_
    refine Qk h1 λys hy h1=>?_
    cases h1
    rw[List.mapM_cons]at h2
    refine Qk h2 λi hi h2=>?_
    refine Qk h2 λjs hj h2=>?_
    cases h2
    obtain⟨a1,a2,a3⟩:=ih ys js hy hj
    cases e with
    | Name y p=>
     cases hx
     obtain⟨g1,g2,g3⟩:=QeN ok.toCtxB hi
     refine⟨QrT (QnT hN g1 g2 g3) a1 rfl,?_,?_⟩
     ·show(assignEach es X.env).length+1=_
      rw[a2];rfl
     ·show List.findIdx? (·.1) ((false,assign (.Name x p) X.env)::assignEach es X.env)=none
      rw[List.findIdx?_cons]
      simp only[a3];rfl
    | _=>cases hx
  obtain⟨a1,a2,a3⟩:=key es xs is h1 h2
  exact QwI ok.calm a1 a2 a3
 | _=>exact nomatch (show(none:Option Tg)=some _ from h)
theorem Qpm{f:Int->Int->Bool}:∀a b d,gI (λi j=>some (.bl (f i j))) a b=some d->∃k,d= .bl k:=λa b d h=>by
 obtain⟨i,j,_,_,e⟩:=QqB h
 cases e
 exact⟨_,rfl⟩
theorem Qqu(ok:Qar X Θ)(h:Qpe op=some g):∃r,OpR X (compareOp op) r/\Qbv X.K g r/\∀a b d,g a b=some d->∃k,d= .bl k:=by
 cases op<;>cases h
 ·exact⟨_,Qxw ok.units,Qx4,λa b d h=>by unfold gEq at h;split at h<;>cases h;exact⟨_,rfl⟩⟩
 ·exact⟨_,Qwq ok.units,Qye,λa b d h=>by unfold gNe at h;split at h<;>cases h;exact⟨_,rfl⟩⟩
 ·exact⟨_,QyG,Qx2,Qpm⟩
 ·exact⟨_,Qyn,Qyl,Qpm⟩
 ·exact⟨_,QxW,QyH,Qpm⟩
 ·exact⟨_,QyT,Qyb,Qpm⟩
 ·exact⟨_,Qw9.or QwO,Qwg,Qoq⟩
 ·exact⟨_,Quc.or QuV,Qq2,Qoq⟩
structure Qi6 (n:Nat):Prop where
 E:∀X Θ e f,Qar X Θ->Ql n Θ e=some f->SE X e f
 B:∀X Θ x args f p pos,Qar X Θ->Θ.gl x=true->Qlf n Θ x args=some f->SE X (.Call (.Name x p) args [] pos) f
 T:∀X Θ e f,Qar X Θ->Qba n Θ e=some f->ST X e f
 Ts:∀X Θ e f,Qar X Θ->Qfp n Θ e=some f->Ql8 X e f
 A:∀X Θ e f,Qar X Θ->QbB n Θ e=some f->SA X e f
 O:∀X Θ e f,Qar X Θ->Qi1 n Θ e=some f->SO X e f
 I:∀X Θ tg e f,Qar X Θ->Qhd n Θ tg e=some f->SI X tg e f/\∀x,foldedSetIterable e X.env x=pure x
theorem callArgs{X:Cx}{n:Nat}{Θ:Th}{es:List Expr}{fs:DA}(h:QbB n Θ es=some fs){e:Expr}{es':List Expr}(he:es=e::es')(pos:Pos):starEach (e::es') X.env=(false,eval e X.env)::starEach es' X.env/\(backTo pos (starEach es' X.env)).any (·.1)=false:=by
 subst he
 cases n with
 | zero=>simp[QbB]at h
 | succ n=>
  simp only[QbB]at h
  obtain⟨fa,fs',h1,h2,_⟩:=QaT h
  exact⟨Qae h1 es' X.env,Qov h2 pos X.env⟩
theorem Qyp(ih:Qi6 n):∀X Θ e f,Qar X Θ->Ql (n+1) Θ e=some f->SE X e f:=by
  intro X Θ e f ok h
  cases e with
  | Name x pos=>
    (conv at h=>lhs;whnf)
    cases q:Θ.slot x with
    | some i=>rw[q]at h;cases h;exact Qwv (Qfk ok.toCtxB q)
    | none=>
      rw[q]at h
      dsimp only at h
      split at h
      · rename_i hg
        refine mapR h λi hi=>?_
        obtain⟨g1,g2,g3⟩:=QeS ok.toCtxB hg
        obtain⟨t,hm⟩:=ok.cs x i hi
        exact Qh9 (v:= .int i) (Qvu g1 hm ⟨t,rfl⟩ g2) (λ_ _=> .int_mk) rfl
      · cases h
  | Constant c k pos=>
    cases c with
    | int i=>(conv at h=>lhs;whnf);cases h;exact Qh9 QvS (λ_ _=> .int_mk) rfl
    | bool b=>(conv at h=>lhs;whnf);cases h;exact Qh9 QoY (λ_ _=> .QbC) rfl
    | none=>(conv at h=>lhs;whnf);cases h;exact Qh9 QvW (λ_ _=> .QmV) rfl
    | str x=>(conv at h=>lhs;whnf);cases h;exact Qh9 Qwy (λ_ _=> .str_mk) rfl
    | _=>exact nomatch (show(none:Option DE)=some _ from h)
  | BinOp a op b pos=>
    (conv at h=>lhs;whnf)
    refine Qk h λfa h1 h=>?_
    refine Qk h λfb h2 h=>?_
    have ha:=ih.E X Θ a fa ok h1
    have hb:=ih.E X Θ b fb ok h2
    cases op with
    | Add=>cases h;exact Qv3 ha hb
    | Mult=>cases h;exact Qw2 ha hb
    | Sub=>cases h;exact Qjb Qxr QqE ha hb
    | FloorDiv=>cases h;exact Qjb Quu QvZ ha hb
    | Mod=>cases h;exact Qjb QuJ Qxz ha hb
    | Pow=>cases h;exact Qjb Qvl Qwp ha hb
    | RShift=>cases h;exact Qjb QwD Qxv ha hb
    | _=>cases h
  | UnaryOp op a pos=>
    cases op with
    | USub=>
      (conv at h=>lhs;whnf)
      refine mapR h λfa h1=>?_
      exact QxN (ih.E X Θ a fa ok h1)
    | Not=>
      (conv at h=>lhs;whnf)
      refine mapR h λfa h1=>?_
      exact QwS (ih.E X Θ a fa ok h1)
    | _=>exact nomatch (show(none:Option DE)=some _ from h)
  | BoolOp op es pos=>
    cases op with
    | And=>
      match es,h with
      | [],h=>exact nomatch (show(none:Option DE)=some _ from h)
      | [a],h=>(conv at h=>lhs;whnf);exact Qqq (ih.E X Θ a f ok h)
      | a::b::r,h=>
        (conv at h=>lhs;whnf)
        refine bindR h λfa fb h1 h2=>?_
        exact Qwn (ih.E X Θ a fa ok h1) (ih.E X Θ _ fb ok h2)
    | Or=>
      match es,h with
      | [],h=>exact nomatch (show(none:Option DE)=some _ from h)
      | [a],h=>(conv at h=>lhs;whnf);exact Qqq (ih.E X Θ a f ok h)
      | a::b::r,h=>
        (conv at h=>lhs;whnf)
        refine bindR h λfa fb h1 h2=>?_
        exact QyA (ih.E X Θ a fa ok h1) (ih.E X Θ _ fb ok h2)
  | Compare a ops bs pos=>
    match ops,bs,h with
    | [op],[b],h=>
      (conv at h=>lhs;whnf)
      refine Qk h λfa h1 h=>?_
      refine bindR h λfb g h2 h3=>?_
      obtain⟨r,o1,o2,_⟩:=Qqu ok h3
      exact QxF o1 o2 (ih.E X Θ a fa ok h1) (ih.E X Θ b fb ok h2) (Qrd h2 op)
    | [],_,h=>exact nomatch (show(none:Option DE)=some _ from h)
    | [_],[],h=>exact nomatch (show(none:Option DE)=some _ from h)
    | [_],_::_::_,h=>exact nomatch (show(none:Option DE)=some _ from h)
    | _::_::_,_,h=>exact nomatch (show(none:Option DE)=some _ from h)
  | Tuple es k pos=>
    (conv at h=>lhs;whnf)
    refine mapR h λfs h1=>?_
    exact QwV (ih.A X Θ es fs ok h1)
  | List es pos=>
    (conv at h=>lhs;whnf)
    refine mapR h λfs h1=>?_
    exact Qxu (ih.A X Θ es fs ok h1)
  | Dict ks vs pos=>
    have h:(match QiK Θ ks vs with | some (some a)=>(Ql n Θ a).map λfa=>dD1 (Qb fa Qh) | some none=>some Qk9 | none=>none)=some f:=h
    cases q:QiK Θ ks vs with
    | none=>rw[q]at h;cases h
    | some o=>
      rw[q]at h
      rcases QpD q with⟨rfl,rfl,rfl⟩ | ⟨p,a,cp,j,pp,rfl,rfl,hg,rfl⟩
      · cases h;exact Qvy
      · refine mapR h λfa h1=>?_
        have st:=Qae h1 [] X.env
        exact QyX (by have:=ok.units;omega) (QeS ok.toCtxB hg).1 (ok.mg "tuple" (by decide+kernel)) (Qef (ih.E X Θ a fa ok h1) Qgz st) st rfl (Qh9 QoY (λ_ _=> .QbC) rfl)
  | Subscript a b pos=>
    by_cases hb:∃lo hi p2,b= .Slice lo hi none p2
    · obtain⟨lo,hi,p2,rfl⟩:=hb
      (conv at h=>lhs;whnf)
      refine Qk h λfa h1 h=>?_
      refine bindR h λfl fh h2 h3=>?_
      exact QvO (ih.E X Θ a fa ok h1) (ih.O X Θ lo fl ok h2) (ih.O X Θ hi fh ok h3)
    · have h':((Ql n Θ a).bind λfa=>(Ql n Θ b).map λfb=>Qr fa fb)=some f:=by
        cases b<;>first
          | (exact h)
          | (rename_i lo hi st p2;cases lo<;>cases hi<;>cases st<;>first | (exact absurd ⟨_,_,_,rfl⟩ hb) | (exact h))
      refine bindR h' λfa fb h1 h2=>?_
      exact QxQ (ih.E X Θ a fa ok h1) (ih.E X Θ b fb ok h2) (Qow h2)
  | Call fn args kws pos=>
    cases fn with
    | Name x p=>
     cases kws with
     | cons k ks=>exact nomatch (show(none:Option DE)=some _ from h)
     | nil=>
      have h:(if Θ.gl x then(match look x Θ.Γ with | some r=>if r.n<=args.length+r.dfl.length/\args.length<=r.n then(QbB n Θ args).map λfs=>Qz r.n r.den (r.dfl.drop (r.dfl.length-(r.n-args.length))) fs else none | none=>Qlf n Θ x args)else none)=some f:=h
      split at h
      · rename_i hg
        obtain⟨g1,g2,g3⟩:=QeS ok.toCtxB hg
        split at h
        · rename_i r hr
          split at h
          · rename_i hn
            refine mapR h λfs h1=>?_
            obtain⟨k,fa,fd,ps,F1,F2,F3,F4,F5⟩:=ok.fns x r hr
            obtain⟨ds,dvs,b1,b2,b3⟩:=F5 (r.n-args.length) (by omega)
            cases args with
            | nil=>
              cases n with
              | zero=>simp[QbB]at h1
              | succ n=>
                simp only[QbB]at h1
                cases h1
                exact QrS F1 F2 g1 F3 F4 b1 b2 b3 g2
            | cons e es=>
              obtain⟨s1,s2⟩:=callArgs (X:=X) h1 rfl pos
              exact Qud F1 F2 g1 F3 F4 b1 b2 b3 (ih.A X Θ _ fs ok h1) g2 s1 s2
          · cases h
        · exact ih.B X Θ x args f p pos ok hg h
      · cases h
    | Attribute o m apos=>
      cases o with
      | Name x p=>
        cases args with
        | nil=>
          cases kws with
          | nil=>
            have h:(if m= "bit_length" /\(apos.endLine == pos.line)=true then(Ql n Θ (.Name x p)).map Qlk else none)=some f:=h
            split at h
            · rename_i hc
              refine mapR h λfa h1=>?_
              obtain⟨rfl,hl⟩:=hc
              exact Qt8 (ih.E X Θ _ fa ok h1) rfl hl
            · cases h
          | cons _ _=>exact nomatch (show(none:Option DE)=some _ from h)
        | cons _ _=>exact nomatch (show(none:Option DE)=some _ from h)
      | _=>exact nomatch (show(none:Option DE)=some _ from h)
    | _=>exact nomatch (show(none:Option DE)=some _ from h)
  | ListComp elt gens scope pos=>
    match gens,h with
    | [⟨tg,iter,ifs,k⟩],h=>
      by_cases hk:k=0
      · subst hk
        (conv at h=>lhs;whnf)
        refine Qk h λt ht h=>?_
        split at h
        · rename_i hc
          simp only[Zk]at hc
          refine Qk h λfi h1 h=>?_
          refine bindR h λft fe h2 h3=>?_
          obtain⟨S,cap,inn⟩:=QlI ok hc.1
          obtain⟨i1,i2⟩:=ih.I X Θ tg iter fi ok h1
          exact Quh ok.calm S i1 cap (λcl C fp s3 H3=>⟨Qlb (inn cl C fp s3 H3) ht,ih.Ts _ _ ifs ft (inn cl C fp s3 H3) h2,ih.E _ _ elt fe (inn cl C fp s3 H3) h3⟩) i2
        · cases h
      · exfalso
        cases k with
        | ofNat k=>
          cases k with
          | zero=>exact hk rfl
          | succ k=>exact nomatch (show(none:Option DE)=some _ from h)
        | negSucc k=>exact nomatch (show(none:Option DE)=some _ from h)
    | [],h=>exact nomatch (show(none:Option DE)=some _ from h)
    | ⟨_,_,_,.ofNat 0⟩::_::_,h=>exact nomatch (show(none:Option DE)=some _ from h)
    | ⟨_,_,_,.ofNat (k+1)⟩::_::_,h=>exact nomatch (show(none:Option DE)=some _ from h)
    | ⟨_,_,_,.negSucc k⟩::_::_,h=>exact nomatch (show(none:Option DE)=some _ from h)
  | _=>exact nomatch (show(none:Option DE)=some _ from h)
theorem Qwa(ok:Qar X Θ)(g1:Gl X x)(sa:SA X [a] (Qb fa Qh))(st:starEach [a] X.env=(false,eval a X.env)::starEach [] X.env)(h:bf1 x fa=some f):SE X (.Call (.Name x p) [a] [] pos) f:=by
 unfold bf1 at h
 by_cases e:x= "len"
 ·rw[if_pos e]at h;cases h;subst e;have hm:=ok.mg "len" (by decide+kernel)
  exact QeW Qlr Qxo g1 hm PySem.boot_len sa (by decide) (by decide) st rfl
 rw[if_neg e]at h;clear e
 by_cases e:x= "list"
 ·rw[if_pos e]at h;cases h;subst e;have hm:=ok.mg "list" (by decide+kernel)
  exact QuW ok.calm g1 hm sa st rfl
 rw[if_neg e]at h;clear e
 by_cases e:x= "abs"
 ·rw[if_pos e]at h;cases h;subst e;have hm:=ok.mg "abs" (by decide+kernel)
  exact QeW Qsl QvT g1 hm PyProof.Rows.boot_abs sa (by decide) (by decide) st rfl
 rw[if_neg e]at h;clear e
 by_cases e:x= "min"
 ·rw[if_pos e]at h;cases h;subst e;have hm:=ok.mg "min" (by decide+kernel)
  exact QeW (Qq1 ok.calm) Qu4 g1 hm PyProof.Rows.boot_min sa (by decide) (by decide) st rfl
 rw[if_neg e]at h;clear e
 by_cases e:x= "max"
 ·rw[if_pos e]at h;cases h;subst e;have hm:=ok.mg "max" (by decide+kernel)
  exact QeW (QpL ok.calm) Qun g1 hm PyProof.Rows.boot_max sa (by decide) (by decide) st rfl
 rw[if_neg e]at h;clear e
 by_cases e:x= "sum"
 ·rw[if_pos e]at h;cases h;subst e;have hm:=ok.mg "sum" (by decide+kernel)
  exact QeW (QqS ok.calm) Quz g1 hm PyProof.Rows.boot_sum sa (by decide) (by decide) st rfl
 rw[if_neg e]at h;clear e
 by_cases e:x= "all"
 ·rw[if_pos e]at h;cases h;subst e;have hm:=ok.mg "all" (by decide+kernel)
  exact QeW (Qqs ok.calm) Qvw g1 hm PyProof.Rows.boot_all sa (by decide) (by decide) st rfl
 rw[if_neg e]at h;clear e
 cases h
theorem Qwd(ok:Qar X Θ)(g1:Gl X x)(sa:SA X [a,b] (Qb fa (Qb fb Qh)))(st:starEach [a,b] X.env=(false,eval a X.env)::starEach [b] X.env)(pl:(backTo pos (starEach [b] X.env)).any (·.1)=false)(h:bf2 x fa fb=some f):SE X (.Call (.Name x p) [a,b] [] pos) f:=by
 unfold bf2 at h
 by_cases e:x= "min"
 ·rw[if_pos e]at h;cases h;subst e;have hm:=ok.mg "min" (by decide+kernel)
  exact QeW (Qqb ok.calm) QuC g1 hm PyProof.Rows.boot_min sa (by decide) (by decide) st pl
 rw[if_neg e]at h;clear e
 by_cases e:x= "max"
 ·rw[if_pos e]at h;cases h;subst e;have hm:=ok.mg "max" (by decide+kernel)
  exact QeW (Qrs ok.calm) Qvs g1 hm PyProof.Rows.boot_max sa (by decide) (by decide) st pl
 rw[if_neg e]at h;clear e
 by_cases e:x= "divmod"
 ·rw[if_pos e]at h;cases h;subst e;have hm:=ok.mg "divmod" (by decide+kernel)
  exact Qyq (x:= "divmod") g1 hm sa st pl
 rw[if_neg e]at h;clear e
 cases h
theorem Qym(ih:Qi6 n):∀X Θ x args f p pos,Qar X Θ->Θ.gl x=true->Qlf (n+1) Θ x args=some f->SE X (.Call (.Name x p) args [] pos) f:=by
 intro X Θ x args f p pos ok hg h
 obtain⟨g1,g2,g3⟩:=QeS ok.toCtxB hg
 match args,h with
 | [],h=>exact nomatch (show(none:Option DE)=some _ from h)
 | [a],h=>
  change(match QhX Θ x a with | some b=>(Ql n Θ b).map Qlh | none=>_)=some f at h
  split at h
  ·rename_i b hr
   refine mapR h λfb h1=>?_
   unfold QhX at hr
   split at hr
   ·rename_i y p' b' pos'
    split at hr
    ·rename_i hc
     cases hr
     obtain⟨c1,c2,c3,_⟩:=hc
     subst c1
     subst c2
     obtain⟨y1,y2,y3⟩:=QeS ok.toCtxB c3
     exact QuQ g1 (ok.mg _ (by decide+kernel)) y1 (ok.mg _ (by decide+kernel)) ok.calm (ih.E X Θ b fb ok h1) (Qae h1 [] X.env)
    ·cases hr
   ·cases hr
  change((Ql n Θ a).bind λfa=>bf1 x fa)=some f at h
  refine Qk h λfa h1 h=>?_
  have ha:=ih.E X Θ a fa ok h1
  have st:=Qae h1 [] X.env
  exact Qwa ok g1 (Qef ha Qgz st) st h
 | [a,b],h=>
  change(if x= "isinstance" then(Ql n Θ a).bind λfa=>(match b with | .Name y _=>if Θ.gl y then(Qs4 y).map λT=>Qgy T fa else none | _=>none)else(Ql n Θ a).bind λfa=>(Ql n Θ b).bind λfb=>bf2 x fa fb)=some f at h
  split at h
  ·rename_i e
   refine Qk h λfa h1 h=>?_
   have ha:=ih.E X Θ a fa ok h1
   split at h
   ·rename_i y p2
    split at h
    ·rename_i hy
     refine mapR h λT hT=>?_
     obtain⟨y1,y2,y3⟩:=QeS ok.toCtxB hy
     clear h
     subst e
     refine QwC g1 (ok.mg _ (by decide+kernel)) ha ?_ (Qae h1 _ X.env)
     unfold Qs4 at hT
     split at hT
     ·rename_i e;cases hT;subst e
      exact Qfq y1 (ok.mg _ (by decide+kernel)) PyProof.Rows.boot_int rfl
     ·split at hT
      ·rename_i e;cases hT;subst e
       exact Qfq y1 (ok.mg _ (by decide+kernel)) PyProof.Rows.boot_bool rfl
      ·split at hT
       ·rename_i e;cases hT;subst e
        exact Qfq y1 (ok.mg _ (by decide+kernel)) Zcg rfl
       ·split at hT
        ·rename_i e;cases hT;subst e
         exact Qfq y1 (ok.mg _ (by decide+kernel)) Zbv rfl
        ·split at hT
         ·rename_i e;cases hT;subst e
          exact Qfq y1 (ok.mg _ (by decide+kernel)) PyProof.Rows.boot_str rfl
         ·cases hT
    ·cases h
   ·cases h
  ·refine Qk h λfa h1 h=>?_
   refine Qk h λfb h2 h=>?_
   have ha:=ih.E X Θ a fa ok h1
   have hb:=ih.E X Θ b fb ok h2
   have sb:SA X [b] (Qb fb Qh):=Qef hb Qgz (Qae h2 [] X.env)
   have sa:SA X [a,b] (Qb fa (Qb fb Qh)):=Qef ha sb (Qae h1 [b] X.env)
   have pl:(backTo pos (starEach [b] X.env)).any (·.1)=false:=by rw[Qae h2 [] X.env];rfl
   exact Qwd ok g1 sa (Qae h1 [b] X.env) pl h
 | _::_::_::_,h=>exact nomatch (show(none:Option DE)=some _ from h)
theorem QyF{n:Nat}(ih:Qi6 n):∀X Θ e f,Qar X Θ->Qba (n+1) Θ e=some f->ST X e f:=by
 intro X Θ e f ok h
 have dflt:(Ql n Θ e).map QZ=some f->(∀whole,isTrue e X.env whole=(do let v ← whole;standAt e.pos;holding [v] (truthy v)))->ST X e f:=λh he=>by
  refine mapR h λfa h1=>?_
  exact Qxe (ih.E X Θ e fa ok h1) he
 cases e with
 | UnaryOp op a pos=>
  cases op with
  | Not=>
   change(Qba n Θ a).map Qd6=some f at h
   refine mapR h λfa h1=>?_
   exact Qxs (ih.T X Θ a fa ok h1)
  | _=>exact dflt h λ_=>rfl
 | BoolOp op es pos=>
  cases op with
  | And=>
   match es,h with
   | [],h=>exact nomatch (show(none:Option DT)=some _ from h)
   | [a],h=>exact(Qu1 (ih.T X Θ a f ok h)).st
   | a::b::r,h=>
    change((Qba n Θ a).bind λfa=>(Qba n Θ (.BoolOp .And (b::r) pos)).map λfb=>QjX fa fb)=some f at h
    refine bindR h λfa fb h1 h2=>?_
    have hb:=ih.T X Θ _ fb ok h2
    exact(Qv4 (ih.T X Θ a fa ok h1) (λH0 A0 wh pins s σ H Q I q=>by have:=hb H0 A0 pins s σ H Q I q;exact this)).st
  | Or=>
   match es,h with
   | [],h=>exact nomatch (show(none:Option DT)=some _ from h)
   | [a],h=>exact(Qw1 (ih.T X Θ a f ok h)).st
   | a::b::r,h=>
    change((Qba n Θ a).bind λfa=>(Qba n Θ (.BoolOp .Or (b::r) pos)).map λfb=>bOr fa fb)=some f at h
    refine bindR h λfa fb h1 h2=>?_
    have hb:=ih.T X Θ _ fb ok h2
    exact(Qx8 (ih.T X Θ a fa ok h1) (λH0 A0 wh pins s σ H Q I q=>by have:=hb H0 A0 pins s σ H Q I q;exact this)).st
 | Compare a ops bs pos=>
  match ops,bs,h with
  | [op],[b],h=>
   change((Ql n Θ a).bind λfa=>(Ql n Θ b).bind λfb=>(Qpe op).map λg=>QZ (dOp g fa fb))=some f at h
   refine Qk h λfa h1 h=>?_
   refine bindR h λfb g h2 h3=>?_
   obtain⟨r,o1,o2,o3⟩:=Qqu ok h3
   exact QxP o1 o2 o3 (ih.E X Θ a fa ok h1) (ih.E X Θ b fb ok h2) (Qrd h2 op)
  | [],_,h=>exact nomatch (show(none:Option DT)=some _ from h)
  | [_],[],h=>exact nomatch (show(none:Option DT)=some _ from h)
  | [_],_::_::_,h=>exact nomatch (show(none:Option DT)=some _ from h)
  | _::_::_,_,h=>exact nomatch (show(none:Option DT)=some _ from h)
 | IfExp c a b pos=>exact nomatch (show(none:Option DT)=some _ from h)
 | _=>exact dflt h λ_=>rfl
theorem Qyz(ih:Qi6 n):∀X Θ tg e f,Qar X Θ->Qhd (n+1) Θ tg e=some f->SI X tg e f/\∀x,foldedSetIterable e X.env x=pure x:=by
 intro X Θ tg e f ok h
 have dflt:(Ql n Θ e).map Qav=some f->SI X tg e f/\∀x,foldedSetIterable e X.env x=pure x:=λh=>by
  obtain⟨fa,h1,rfl⟩:=Zf.mp h
  exact⟨QxE (ih.E X Θ e fa ok h1),Qxm h1 X.env⟩
 cases e with
 | Call fn args kws pos=>
  cases fn with
  | Name x p=>
   cases kws with
   | cons k ks=>exact dflt h
   | nil=>
    change @ite _ _ _ _ _=_ at h
    split at h
    ·rename_i hg
     simp only[Zk]at hg
     obtain⟨g1,g2,g3⟩:=QeS ok.toCtxB hg.1
     match args,h with
     | [],h=>exact dflt h
     | [a],h=>
      dsimp only at h
      by_cases er:x= "range"
      ·rw[if_pos er]at h
       obtain⟨fa,h1,rfl⟩:=Zf.mp h
       subst er
       exact⟨Qqi g1 (ok.mg _ (by decide+kernel)) (ih.E X Θ a fa ok h1) (Qae h1 [] X.env),λ_=>rfl⟩
      rw[if_neg er]at h
      by_cases ez:x= "enumerate"
      ·rw[if_pos ez]at h
       split at h
       ·rename_i ht
        obtain⟨fa,h1,rfl⟩:=Zf.mp h
        subst ez
        cases tg with
        | Tuple es k tp=>exact⟨QtY g1 (ok.mg _ (by decide+kernel)) (ih.E X Θ a fa ok h1) (Qae h1 [] X.env),λ_=>rfl⟩
        | _=>exact nomatch (show false=true from ht)
       ·cases h
      rw[if_neg ez]at h
      exact dflt h
     | [a,b],h=>
      dsimp only at h
      by_cases er:x= "range"
      ·rw[if_pos er]at h
       obtain⟨fa,fb,h1,h2,rfl⟩:=QaT h
       subst er
       exact⟨QpE g1 (ok.mg _ (by decide+kernel)) (ih.E X Θ a fa ok h1) (ih.E X Θ b fb ok h2) (by rw[Qae h1 [b] X.env,Qae h2 [] X.env];rfl) (Qae h2 [] X.env),λ_=>rfl⟩
      rw[if_neg er]at h
      by_cases ez:x= "zip"
      ·rw[if_pos ez]at h
       split at h
       ·rename_i ht
        obtain⟨fa,fb,h1,h2,rfl⟩:=QaT h
        subst ez
        cases tg with
        | Tuple es k tp=>exact⟨Qw6 g1 (ok.mg _ (by decide+kernel)) (ih.E X Θ a fa ok h1) (ih.E X Θ b fb ok h2) (by rw[Qae h1 [b] X.env,Qae h2 [] X.env];rfl) (Qae h2 [] X.env),λ_=>rfl⟩
        | _=>exact nomatch (show false=true from ht)
       ·cases h
      rw[if_neg ez]at h
      exact dflt h
     | [a,b,c],h=>
      dsimp only at h
      by_cases er:x= "range"
      ·rw[if_pos er]at h
       refine Qk h λfa h1 h=>?_
       obtain⟨fb,fc,h2,h3,rfl⟩:=QaT h
       subst er
       exact⟨Qqt g1 (ok.mg _ (by decide+kernel)) (ih.E X Θ a fa ok h1) (ih.E X Θ b fb ok h2) (ih.E X Θ c fc ok h3) (Qae h1 [b,c] X.env) (Qae h2 [c] X.env) (Qae h3 [] X.env),λ_=>rfl⟩
      rw[if_neg er]at h
      by_cases ez:x= "zip"
      ·rw[if_pos ez]at h
       split at h
       ·rename_i ht
        refine Qk h λfa h1 h=>?_
        obtain⟨fb,fc,h2,h3,rfl⟩:=QaT h
        subst ez
        cases tg with
        | Tuple es k tp=>exact⟨QuU g1 (ok.mg _ (by decide+kernel)) (ih.E X Θ a fa ok h1) (ih.E X Θ b fb ok h2) (ih.E X Θ c fc ok h3) (Qae h1 [b,c] X.env) (Qae h2 [c] X.env) (Qae h3 [] X.env),λ_=>rfl⟩
        | _=>exact nomatch (show false=true from ht)
       ·cases h
      rw[if_neg ez]at h
      exact dflt h
     | _::_::_::_::_,h=>exact dflt h
    ·exact dflt h
  | _=>exact dflt h
 | _=>exact dflt h
theorem Qb5:∀n,Qi6 n
 | 0=>⟨λ_ _ _ _ _ h=>(nomatch (show(none:Option DE)=some _ from h)),λ_ _ _ _ _ _ _ _ _ h=>(nomatch (show(none:Option _)=some _ from h)),λ_ _ _ _ _ h=>(nomatch (show(none:Option _)=some _ from h)),λ_ _ _ _ _ h=>(nomatch (show(none:Option _)=some _ from h)),λ_ _ _ _ _ h=>(nomatch (show(none:Option _)=some _ from h)),λ_ _ _ _ _ h=>(nomatch (show(none:Option _)=some _ from h)),λ_ _ _ _ _ _ h=>(nomatch (show(none:Option _)=some _ from h))⟩
 | n+1=>by
  have ih:=Qb5 n
  refine⟨Qyp ih,Qym ih,QyF ih,λX Θ e f ok h=>?_,λX Θ e f ok h=>?_,λX Θ e f ok h=>?_,Qyz ih⟩
  ·match e,h with
   | [],h=>simp only[Qfp]at h;cases h;exact Qsz
   | [c],h=>simp only[Qfp]at h;exact Qsb (ih.T X Θ c f ok h)
   | _::_::_,h=>simp only[Qfp]at h;cases h
  ·match e,h with
   | [],h=>simp only[QbB]at h;cases h;exact Qgz
   | e::es,h=>
    simp only[QbB]at h
    refine bindR h λfa fs h1 h2=>?_
    exact Qef (ih.E X Θ e fa ok h1) (ih.A X Θ es fs ok h2) (Qae h1 es X.env)
  ·match e,h with
   | none,h=>simp only[Qi1]at h;cases h;exact Qu0
   | some e,h=>
    simp only[Qi1]at h
    refine mapR h λfa h1=>?_
    exact QuY (ih.E X Θ e fa ok h1)
section
noncomputable def QG:DS:=λ_=>none
theorem Qtn:S1 X st QG:=λH0 A0=>Qtu.mono λE σ H ⟨ρ,hs,F,o,rel,e,q⟩=>by cases e
theorem QfH:∀{n:Nat}{ρ:En}{o:Out},QaW g fb n ρ=some o->QaW g fb (n+1) ρ=some o
 | 0,_,_,h=>by cases h
 | n+1,ρ,o,h=>by
  unfold QaW at h ⊢
  refine Qk h λb hb h=>?_
  rw[hb]
  cases b with
  | false=>exact h
  | true=>
   rw[if_pos rfl]at h
   refine Qk h λo1 ho h=>?_
   rw[Za,if_pos rfl,ho]
   cases o1 with
   | nx ρ2=>exact QfH h
   | ct ρ2=>exact QfH h
   | bk ρ2=>exact h
   | rt d fr=>exact h
theorem Qm1(h:QaW g fb n ρ=some o)(hm:n<=m):QaW g fb m ρ=some o:=by
 induction hm with
 | refl=>exact h
 | step _ ih=>exact QfH ih
open Classical in
noncomputable def Qb3(g:DT)(fb:DS):DS:=λρ=>if h:∃n,(QaW g fb n ρ).isSome=true then QaW g fb h.choose ρ else none
theorem QcT:Qb3 g fb ρ=some o↔∃n,QaW g fb n ρ=some o:=by
 unfold Qb3
 constructor
 ·intro h
  split at h
  ·exact⟨_,h⟩
  ·cases h
 ·rintro⟨n,h⟩
  have hx:∃n,(QaW g fb n ρ).isSome=true:=⟨n,by rw[h];rfl⟩
  rw[dif_pos hx]
  obtain⟨o',ho'⟩:=ZbU.mp hx.choose_spec
  have h1:=Qm1 h (Nat.le_max_left n hx.choose)
  have h2:=Qm1 ho' (Nat.le_max_right n hx.choose)
  rw[h1]at h2
  rw[ho',← h2]
theorem Qp1(hp:PassesOwn (model X.prog X.w) X.A X.env X.xe)(hc:ST X c gc)(hb:SS X body f):S1 X (.While c body [] pos) (Qb3 gc f):=λH0 A0 pins s σ H D I h=>by
 obtain⟨ρ,hs,F,o,rel,e,q⟩:=h
 obtain⟨n,hn⟩:=QcT.mp e
 exact Qs7 (n:=n) hp hc hb H0 A0 pins s σ H D I ⟨ρ,hs,F,o,rel,hn,q⟩
theorem QpJ(g:DT)(fb:DS)(ρ:En):Qb3 g fb ρ=(g ρ).bind λb=>if b=true then(fb ρ).bind λo=>match o with
  | .nx ρ2=>Qb3 g fb ρ2
  | .ct ρ2=>Qb3 g fb ρ2
  | .bk ρ2=>some (.nx ρ2)
  | .rt d fr=>some (.rt d fr)
  else some (.nx ρ):=by
 apply Option.ext
 intro o
 rw[QcT]
 constructor
 ·rintro⟨n,h⟩
  cases n with
  | zero=>cases h
  | succ n=>
   unfold QaW at h
   refine Qk h λb hb h=>?_
   rw[hb]
   cases b with
   | false=>exact h
   | true=>
    rw[if_pos rfl]at h
    refine Qk h λo1 ho h=>?_
    rw[Za,if_pos rfl,ho]
    cases o1 with
    | nx ρ2=>exact QcT.mpr ⟨n,h⟩
    | ct ρ2=>exact QcT.mpr ⟨n,h⟩
    | bk ρ2=>exact h
    | rt d fr=>exact h
 ·intro h
  refine Qk h λb hb h=>?_
  cases b with
  | false=>exact⟨1,by unfold QaW;rw[hb];exact h⟩
  | true=>
   rw[if_pos rfl]at h
   refine Qk h λo1 ho h=>?_
   cases o1 with
   | nx ρ2=>
    obtain⟨n,hn⟩:=QcT.mp h
    exact⟨n+1,by unfold QaW;rw[hb];rw[Za,if_pos rfl,ho];exact hn⟩
   | ct ρ2=>
    obtain⟨n,hn⟩:=QcT.mp h
    exact⟨n+1,by unfold QaW;rw[hb];rw[Za,if_pos rfl,ho];exact hn⟩
   | bk ρ2=>exact⟨1,by unfold QaW;rw[hb];rw[Za,if_pos rfl,ho];exact h⟩
   | rt d fr=>exact⟨1,by unfold QaW;rw[hb];rw[Za,if_pos rfl,ho];exact h⟩
noncomputable def Qdp(t:Tg)(fa:DE):DS:=λρ=>(fa ρ).bind λr=>(Qby t r.d (Qa9 r.norm.M ρ)).map .nx
theorem QuN(he:SE X e fa)(hg:SG X tg t)(hs:swapsWithSole [tg] e pos.line X.env=pure false)(hw:swappedStores [tg] e X.env=pure none)(h1:(assignEach [tg] X.env).map (·.2)=[assign tg X.env]):
  S1 X (.Assign [tg] e pos) (Qdp t fa):=λH0 A0=>(Qqz (he H0 A0) (hg H0 A0) hs hw h1).mono λE σ H=>exK λρ hs F o rel e q=>by
 refine Qk e λr e1 e=>?_
 obtain⟨ρ',e2,rfl⟩:=Zf.mp e
 refine⟨ρ,hs,F,r,rel,e1,λv H' G p=>?_⟩
 have p':=p.norm
 have rp:=p'.rp
 rw[r.Qc3]at rp
 exact⟨Qa9 r.norm.M ρ,hs,F,r.d,G,ρ',(rel.ext p'.same).weak (Qbx _ _),rp,Shr.of rel p'.src,e2,λσ' F' rel' _ _=>q _ _ F' rel'⟩
theorem QvB(hN:X.N.Nodup)(hx1:X.N[i]? =some x)(hx:Loc X.env.scope x)(hf:X.fn x=true∨X.env.scope.names.lookup x=some .local)
  (hcalm:X.calm=true) (S:Qd3 X N' scope) (hi:SI X tg iter fi) (hcap:Qk7 X N' scope cap t.slots)
  (hin:∀cl C fp s3 H3,SG (cxc X N' scope cl C fp s3 H3) tg t/\Ql8 (cxc X N' scope cl C fp s3 H3) ifs ft/\SE (cxc X N' scope cl C fp s3 H3) elt fe) (hs:∀x,foldedSetIterable iter X.env x=pure x):
  S1 X (.Assign [.Name x pos'] (.ListComp elt [⟨tg,iter,ifs,0⟩] scope pos) spos) (Qt i (Q5 fi t cap ft fe)):=
 Qm3 λH0 A0=>(QuP hN hx1 hx hf hcalm S (hi H0 A0) (λcl C fp s3 H3=>⟨(hin cl C fp s3 H3).1 _ _,(hin cl C fp s3 H3).2.1 _ _,(hin cl C fp s3 H3).2.2 _ _⟩) hs).mono λE σ H h=>Qkx hcap h
end
end HS
namespace HS
open PySem PySem.Spec L2 PyProof.Rows
section
variable {X:Cx}{a b e:Expr}{fa fb:DE}{pf:DP}{x:Nat}{pos apos:Pos}
theorem Qki{X:Cx}{H:Hp}{ds:List D}{w:V}{Gm:List Addr}(h:Rp X.K H (.lst ds) w Gm):tyV X.K "list" w H:=by
 obtain⟨l,ws,L,rfl,hl,_⟩:=h.lst_inv
 exact .inl ⟨rfl,ws,QX hl⟩
theorem Qaa.unit{K:PySem.W.Frag}{ρ:En}{F:Nat->List Addr}{H:Hp}:Qaa K ρ F H H ⟨.non,true,[]⟩ .non []:= .flat (QK.refl _) .QmV
noncomputable def Qaj(xs:List α)(k:Nat)(y:α):List α:=xs.take k++y::xs.drop k
noncomputable def Qxd:V->List V->Hp->VK->Prop:=λx vs H Q=>∃l xs i y,x= .ref l/\vs=[.int i,y]/\H l=some (.lst xs)/\0<=i/\i<2^62/\xs.length<sizeLine/\Q .non (upd H l (.lst (Qaj xs (min i.toNat xs.length) y)))
theorem Qw0:MtM X "list.insert" Qxd:=by
 intro pins s σ H x vs v us Q I rx rv h
 obtain⟨l,xs,i,y,rfl,rfl,hH,h0,h1,hz,q⟩:=h
 cases rx
 obtain⟨u,w',rfl,⟨t,rfl⟩,rw'⟩:=vals2 rv
 obtain⟨z,its,n,r,hl,e⟩:=I.QoH hH
 have hfit:¬(!Builtin.List.listFitsIndex i)=true:=by
  unfold Builtin.List.listFitsIndex
  simp only[ZaH,Bool.and_eq_false_iff,decide_eq_false_iff_not]
  omega
 refine call_meets F.slot_list_insert ⟨_,e,rfl⟩ F.entry_list_insert (F.args_list_insert_3 _ _ _) (AutoSeq1.list_insert_list_int_val_1 l its.toArray n i t w' hfit (by rw[Zt];omega)) ⟨e,?_⟩
 refine⟨.non,_,I.QsF (its':=Qaj its (min i.toNat its.length) w') hH e ?_ ?_ ?_,rfl,q⟩
 ·dsimp only
  rw[if_neg (by omega)]
  apply Array.ext'
  simp[Qaj]
  rw[Zbx (by simp)]
 ·rw[hl]
  unfold Qaj
  exact(r.take _).append (.cons rw' (r.drop _))
 ·unfold Qaj
  rw[Zu,ZI,Zau,ZaC]
  omega
theorem Rps.QvR{K:PySem.W.Frag}{H:Hp}{d:D}{v:V}(hd:Rp K H d v []):∀{ds:List D}{vs:List V}{F:List Addr}(k:Nat),Rps K H ds vs F->Rps K H (Qaj ds k d) (Qaj vs k v) F
 | ds,vs,F,0,h=>by
  simp only[Qaj,List.take_zero,List.drop_zero,ZbL,Rps]
  exact⟨v,vs,[],F,rfl,rfl,hd,h⟩
 | [],vs,F,k+1,h=>by
  simp only[Rps]at h
  obtain⟨rfl,rfl⟩:=h
  simp only[Qaj,List.take_nil,List.drop_nil,ZbL,Rps]
  exact⟨v,[],[],[],rfl,rfl,hd,rfl,rfl⟩
 | d'::ds,vs,F,k+1,h=>by
  simp only[Rps]at h
  obtain⟨w,ws,F1,F2,rfl,rfl,r,q⟩:=h
  have ih:=Rps.QvR hd k q
  simp only[Qaj,ZbM,List.drop_succ_cons,ZbC,Rps]at ih ⊢
  exact⟨w,_,F1,F2,rfl,rfl,r,ih⟩
theorem QtW(hd:d.flat=true)(ds:List D)(k:Nat):nls (Qaj ds k d)=nls ds:=by
 unfold Qaj
 rw[QbY]
 simp only[nls,Qc0 d hd]
 have:=congrArg nls (ZaO k ds)
 rw[QbY]at this
 omega
noncomputable def Qg4(x:Nat)(pf:DP)(fi fa:DE):DS:=λρ=>match ρ[x]? with
 | some (some (d,true))=>(pf ρ).bind λis=>(fi ρ).bind λri=>(fa ρ).bind λr0=>match Qbz d is,ri.d with
  | some (.lst ds),.int i=>if r0.d.flat=true/\0<=i/\i<2^62/\ds.length<sizeLine then some (.nx (ρ.set x (some (Qa8 is d (.lst (Qaj ds (min i.toNat ds.length) r0.d)),true))))else none
  | _,_=>none
 | _=>none
theorem Qr4{fi:DE}{H0:Hp}{A0:List Addr}{E:Ends}{σ:L2.St}{H:Hp}:tS X.K H0 A0 (Qg4 x pf fi fa) E σ H->QiN (tBM X.K "list" Qxd (tP X.K H0 A0 x pf) (Qdv (tV X.K H0 A0 fi) (Qdv (tV X.K H0 A0 fa) Qff))) E σ H:=exK λρ hs F o rel e q=>by
 unfold Qg4 at e
 split at e
 ·rename_i d hx
  refine Qk e λis e2 e=>?_
  refine Qk e λri e3 e=>?_
  refine Qk e λr0 e1 e=>?_
  split at e
  ·rename_i ds i hp hr
   split at e
   ·rename_i hc
    cases e
    refine⟨ρ,hs,F,d,true,is,.lst ds,rel,hx,e2,hp,λv0 w H2 Gm s2 hv0 fo=>⟨Qki fo.rp,ρ,hs,F,ri,rel.ext s2,e3,λvi H3 Gi pi=>⟨ρ,hs,F,r0,(rel.ext s2).ext pi.same,e1,λvn H4 Gn p=>?_⟩⟩⟩
    have rel4:=((rel.ext s2).ext pi.same).ext p.same
    obtain⟨l,vsm,Gp,rfl,g1,g2,g3,g4,g5,g6,g7⟩:=rel4.write .unit rfl ZaE hx (by simp) hv0 ((fo.same pi.same).same p.same)
    have ri':=pi.rp
    rw[hr]at ri'
    have rn:=p.rp
    have z:=rn.Qbj hc.1
    subst z
    have n1:=g2.length
    rw[ri'.int_inv]
    refine⟨l,vsm,i,vn,rfl,rfl,g1,hc.2.1,hc.2.2.1,by omega,?_⟩
    obtain⟨F',rel'⟩:=g7 (Qaj ds (min i.toNat ds.length) r0.d) (Qaj vsm (min i.toNat vsm.length) vn) Gp (by rw[← n1];exact Rps.QvR (rn.upd g1 (by simp)) _ (g2.upd g1 g4)) (by unfold Qaj;rw[Zu,ZI,Zau,ZaC];omega) (by rw[QtW hc.1,g3]) (λa=>by omega)
    exact q _ _ F' rel'
   ·cases e
  ·cases e
 ·cases e
theorem Rps.erase{K:PySem.W.Frag}{H:Hp}:∀{ds:List D}{vs:List V}{F:List Addr}(k:Nat),QR ds=true->Rps K H ds vs F->Rps K H (ds.eraseIdx k) (vs.eraseIdx k) []
 | [],vs,F,k,_,h=>by
  simp only[Rps]at h
  obtain⟨rfl,rfl⟩:=h
  simp[Rps]
 | d::ds,vs,F,0,hf,h=>by
  have hF:=h.Qbj hf
  subst hF
  simp only[Rps]at h
  obtain⟨w,ws,F1,F2,rfl,eF,r,q⟩:=h
  have:F2=[]:=(Zch.mp eF.symm).2
  subst this
  simpa using q
 | d::ds,vs,F,k+1,hf,h=>by
  have hF:=h.Qbj hf
  subst hF
  simp only[Rps]at h
  obtain⟨w,ws,F1,F2,rfl,eF,r,q⟩:=h
  obtain⟨rfl,rfl⟩:=Zch.mp eF.symm
  simp only[QR,Zk]at hf
  have ih:=Rps.erase k hf.2 q
  simp only[ZaI,Rps]
  exact⟨w,_,[],[],rfl,rfl,r,ih⟩
theorem QhT:∀(ds:List D) (k:Nat),QR ds=true->QR (ds.eraseIdx k)=true
 | [],_,_=>rfl
 | d::ds,0,h=>by simp only[QR,Zk]at h;exact h.2
 | d::ds,k+1,h=>by
  simp only[QR,Zk]at h
  simp only[ZaI,QR,Zk]
  exact⟨h.1,QhT ds k h.2⟩
noncomputable def Qej(x y:Nat)(fi:DE):DS:=λρ=>match ρ[x]?,ρ[y]? with
 | some (some (.lst xs,true)),some (some (.lst ys,true))=>(fi ρ).bind λri=>match ri.d with
  | .int i=>if x≠y/\QR ys=true/\0<=i/\i<2^62/\xs.length<sizeLine then(ys[i.toNat]?).map λd=> .nx ((ρ.set y (some (.lst (ys.eraseIdx i.toNat),true))).set x (some (.lst (xs++[d]),true)))else none
  | _=>none
 | _,_=>none
theorem Qna{y:Nat}{fi:DE}{H0:Hp}{A0:List Addr}{E:Ends}{σ:L2.St}{H:Hp}:tS X.K H0 A0 (Qej x y fi) E σ H->QiN (tBM X.K "list" Qj1 (tP X.K H0 A0 x Qal) (Qdv (tBM X.K "list" QmC (tP X.K H0 A0 y Qal) (Qdv (tV X.K H0 A0 fi) Qff)) Qff)) E σ H:=exK λρ hs F o rel e q=>by
 unfold Qej at e
 split at e
 ·rename_i xs ys hx hy
  refine Qk e λri e3 e=>?_
  split at e
  ·rename_i i hr
   split at e
   ·rename_i hc
    obtain⟨hxy,hfl,h0,h1,hz⟩:=hc
    obtain⟨d,hd,rfl⟩:=Zf.mp e
    refine⟨ρ,hs,F,.lst xs,true,[],.lst xs,rel,hx,rfl,rfl,λv0 w H2 Gm s2 hv0 fo=>⟨Qki fo.rp,ρ,hs,F,.lst ys,true,[],.lst ys,rel.ext s2,hy,rfl,rfl,λv1 w1 H3 Gm1 s3 hv1 fo1=>⟨Qki fo1.rp,ρ,hs,F,ri,(rel.ext s2).ext s3,e3,λvi H4 Gi pi=>?_⟩⟩⟩
    have rel4:=((rel.ext s2).ext s3).ext pi.same
    obtain⟨l,vsm,Gp,rfl,g1,g2,g3,g4,g5,g6,g7⟩:=rel4.write .unit rfl ZaE hy (by simp) hv1 (fo1.same pi.same)
    have ri':=pi.rp
    rw[hr]at ri'
    rw[ri'.int_inv]
    have n1:=g2.length
    have hil:i.toNat<ys.length:=(Zd.mp hd).1
    obtain⟨yv,Gy,hyv,ryv,_⟩:=g2.nth hd
    have gz:=ryv.Qbj (by
     have gen:∀(l:List D) (k:Nat) (d:D),QR l=true->l[k]? =some d->d.flat=true:=by
      intro l
      induction l with
      | nil=>intro k d _ h;simp at h
      | cons a l ih=>
       intro k d hf h
       simp only[QR,Zk]at hf
       cases k with
       | zero=>simp at h;rw[← h];exact hf.1
       | succ k=>exact ih k d hf.2 (by simpa using h)
     exact gen ys _ _ hfl hd)
    subst gz
    refine⟨l,vsm,i,i.toNat,yv,rfl,rfl,g1,by omega,by omega,?_,hyv,?_⟩
    ·unfold seqIndex?
     simp only[if_neg (by omega:¬i<0)]
     rw[if_pos (by simp;omega)]
    obtain⟨F',rel'⟩:=g7 (ys.eraseIdx i.toNat) (vsm.eraseIdx i.toNat) [] (Rps.erase i.toNat hfl (g2.upd g1 g4)) (by rw[List.length_eraseIdx];split<;>omega) (by rw[QfQ _ (QhT ys _ hfl)];rfl) (λa=>by simp)
    simp only[Qa8,kill]at rel'
    have hx':(ρ.set y (some (.lst (ys.eraseIdx i.toNat),true)))[x]? =some (some (.lst xs,true)):=by rw[Zm (Ne.symm hxy)];exact hx
    obtain⟨v0',hv0',rp0⟩:=rel'.val x _ _ hx'
    rw[hv0]at hv0'
    cases hv0'
    have hw:w=v0:=fo.2.1
    subst hw
    obtain⟨l2,vs2,Gp2,el2,k1,k2,k3,k4,k5,k6,k7⟩:=rel'.write .unit rfl ZaE hx' (by simp) hv0 (is:=[]) ⟨rfl,rfl,rfl,rp0⟩
    cases el2
    refine⟨l2,vs2,yv,rfl,rfl,k1,by rw[← k2.length];exact hz,?_⟩
    have ryv':Rps X.K (upd (upd H4 l (.lst (vsm.eraseIdx i.toNat))) l2 (.lst (vs2++[yv]))) [d] [yv] []:=by
     simp only[Rps]
     exact⟨yv,[],[],[],rfl,rfl,(ryv.upd g1 (by simp)).upd k1 (by simp),rfl,rfl⟩
    have hfd:d.flat=true:=by
     have gen:∀(l:List D) (k:Nat) (d:D),QR l=true->l[k]? =some d->d.flat=true:=by
      intro l
      induction l with
      | nil=>intro k d _ h;simp at h
      | cons a l ih=>
       intro k d hf h
       simp only[QR,Zk]at hf
       cases k with
       | zero=>simp at h;rw[← h];exact hf.1
       | succ k=>exact ih k d hf.2 (by simpa using h)
     exact gen ys _ _ hfl hd
    obtain⟨F'',rel''⟩:=k7 (xs++[d]) (vs2++[yv]) (Gp2++[]) ((k2.upd k1 k4).append ryv') (by rw[Zu,Zba];omega) (by rw[Zay,QbY,k3];simp[nls,Qc0 d hfd]) (λa=>by rw[Zay];omega)
    exact q _ _ F'' rel''
   ·cases e
  ·cases e
 ·cases e
end
noncomputable def Qfu:Expr->Bool
 | .ListComp .. =>false
 | .SetComp .. =>false
 | .DictComp .. =>false
 | _=>true
theorem Qgl(h:Qfu e=true):swapsWith e t l env=pure false:=by
 cases e<;>first | rfl | cases h
noncomputable def Qp4:Expr->Bool
 | .Tuple .. =>true
 | _=>false
noncomputable def QcV(n:Nat)(Θ:Th)(e:Expr):Option (Nat×DP):=match n with
 | 0=>none
 | n+1=>match e with
  | .Name x _=>(Θ.slot x).map λi=>(i,Qal)
  | .Subscript a b _=>(QcV n Θ a).bind λq=>(Ql n Θ b).map λfb=>(q.1,Qhv q.2 fb)
  | _=>none
theorem QfD:∀(n:Nat) (X:Cx) (Θ:Th) (e:Expr) (q:Nat×DP),Qar X Θ->QcV n Θ e=some q->SPa X e q.1 q.2/\attributeBase e=λ_ env w=>w
 | 0,_,_,_,_,_,h=>(nomatch (show(none:Option _)=some _ from h))
 | n+1,X,Θ,e,q,ok,h=>by
  cases e with
  | Name x pos=>
   change Option.map _ _=_ at h
   obtain⟨i,hi,rfl⟩:=Zf.mp h
   exact⟨Qia (Qfk ok.toCtxB hi),by funext a b c;rfl⟩
  | Subscript a b pos=>
   change Option.bind _ _=_ at h
   obtain⟨q',fb,h1,h2,rfl⟩:=QaT h
   exact⟨Qvi (QfD n X Θ a q' ok h1).1 ((Qb5 n).E X Θ b fb ok h2) (Qow h2),by funext a b c;rfl⟩
  | _=>exact nomatch (show(none:Option _)=some _ from h)
noncomputable def Qka:Expr->Bool
 | .Name .. =>true
 | .Subscript _ (.Slice ..) _=>false
 | .Subscript (.Call ..) _ _=>false
 | .Subscript .. =>true
 | _=>false
noncomputable def Ql1:Operator->Option (D->D->Option D)
 | .Add=>some (gI λi j=>some (.int (i+j)))
 | .Sub=>some Qam
 | _=>none
theorem Qqf(h:Ql1 op=some g):∃r,OpR X (inplaceOp op) r/\Qbv X.K g r:=by
 cases op<;>cases h
 ·exact⟨_,Qua,Qfb (λi j d e=>by cases e;rfl) λi j d e H Q q=>by cases e;exact⟨i,j,rfl,rfl,q _ λ_=> .int_mk⟩⟩
 ·exact⟨_,Qvq,QqE⟩
noncomputable def QtS:Expr->Bool
 | .Slice .. =>true
 | _=>false
noncomputable def QiC(n:Nat)(Θ:Th)(o:Expr)(m:Str)(args:List Expr):Option DS:=match args with
  | []=>(QcV n Θ o).bind λq=>
    none
  | [e]=>if m= "append" then
     (match o,e with
      | .Name x _,.Call (.Attribute (.Name y _) pm apos) [i] [] cpos=>if pm= "pop" /\(apos.endLine == cpos.line)=true then(Θ.slot x).bind λsx=>(Θ.slot y).bind λsy=>(Ql n Θ i).map λfi=>Qej sx sy fi else none
      | o,e=>(QcV n Θ o).bind λq=>(Ql n Θ e).map λfa=>QfL q.1 q.2 fa)
    else
    none
  | [i,e]=>if m= "insert" then(QcV n Θ o).bind λq=>(Ql n Θ i).bind λfi=>(Ql n Θ e).map λfa=>Qg4 q.1 q.2 fi fa else none
  | _=>none
theorem QsS(ok:Qar X Θ)(h:QiC n Θ o m args=some f)(hl:(apos.endLine == cpos.line)=true):
  S1 X (.Expr (.Call (.Attribute o m apos) args [] cpos) pos) f:=by
 have base:∀{q:Nat×DP},QcV n Θ o=some q->SPa X o q.1 q.2/\attributeBase o m X.env (eval o X.env)=eval o X.env:=λ{q} h1=>by
  obtain⟨sp,ab⟩:=QfD n X Θ o _ ok h1
  exact⟨sp,by rw[ab]⟩
 have app:∀{e:Expr}{f:DS},m= "append" ->((QcV n Θ o).bind λq=>(Ql n Θ e).map λfa=>QfL q.1 q.2 fa)=some f->S1 X (.Expr (.Call (.Attribute o m apos) [e] [] cpos) pos) f:=λ{e f} em h=>by
  obtain⟨q,fa,h1,h2,rfl⟩:=QaT h
  obtain⟨sp,hb⟩:=base h1
  subst em
  have he:=(Qb5 n).E X Θ e fa ok h2
  have st:=Qae h2 [] X.env
  have sa:∀H0 A0,PA X [e] (Qdv (tV X.K H0 A0 fa) Qff):=λH0 A0=>Qaf (he H0 A0) QbJ st
  exact λH0 A0=>(Qg7 (Qlc ZaS ZbV ZbW QgD (sp H0 A0) (sa H0 A0) hb (by rw[st];rfl) hl st rfl) rfl).mono λE σ H q=>Qta q
 match args,h with
 | [],h=>
  unfold QiC at h
  dsimp only at h
  obtain⟨⟨x,pf⟩,h1,h⟩:=bind1 h
  obtain⟨sp,hb⟩:=base h1
  cases h
 | [e],h=>
  unfold QiC at h
  dsimp only at h
  by_cases em:m= "append"
  ·rw[if_pos em]at h
   split at h
   ·rename_i x p y p' pm apos' i cpos' hz
    split at h
    ·rename_i hc
     refine Qk h λsx h1 h=>?_
     obtain⟨sy,fi,h2,h3,rfl⟩:=QaT h
     obtain⟨rfl,hl2⟩:=hc
     subst em
     have spx:=Qia (Qfk ok.toCtxB h1 (pos:=p))
     have spy:=Qia (Qfk ok.toCtxB h2 (pos:=p'))
     have hi:=(Qb5 n).E X Θ i fi ok h3
     have st:=Qae h3 [] X.env
     have sa:∀H0 A0,PA X [i] (Qdv (tV X.K H0 A0 fi) Qff):=λH0 A0=>Qaf (hi H0 A0) QbJ st
     have pop:∀H0 A0,PE X (.Call (.Attribute (.Name y p') "pop" apos') [i] [] cpos') (tBM X.K "list" QmC (tP X.K H0 A0 sy Qal) (Qdv (tV X.K H0 A0 fi) Qff)):=λH0 A0=>
      Qlc ZaS PySem.F.slot_list_pop PySem.F.type_list_pop QrO (spy H0 A0) (sa H0 A0) rfl (by rw[st];rfl) hl2 st rfl
     exact λH0 A0=>(Qg7 (Qlc ZaS ZbV ZbW QgD (spx H0 A0) (Qaf (pop H0 A0) QbJ rfl) rfl rfl hl rfl rfl) rfl).mono λE σ H q=>Qna q
    ·cases h
   ·exact app em h
  rw[if_neg em]at h
  clear em
  clear app
  cases h
 | [i,e],h=>
  change(if m= "insert" then(QcV n Θ o).bind λq=>(Ql n Θ i).bind λfi=>(Ql n Θ e).map λfa=>Qg4 q.1 q.2 fi fa else none)=some f at h
  split at h
  ·rename_i em
   refine Qk h λq h1 h=>?_
   obtain⟨fi,fa,h2,h3,rfl⟩:=QaT h
   obtain⟨sp,hb⟩:=base h1
   subst em
   have hi:=(Qb5 n).E X Θ i fi ok h2
   have he:=(Qb5 n).E X Θ e fa ok h3
   have st2:=Qae h3 [] X.env
   have st:=Qae h2 [e] X.env
   have sa:∀H0 A0,PA X [i,e] (Qdv (tV X.K H0 A0 fi) (Qdv (tV X.K H0 A0 fa) Qff)):=λH0 A0=>Qaf (hi H0 A0) (Qaf (he H0 A0) QbJ st2) st
   exact λH0 A0=>(Qg7 (Qlc ZaS PySem.F.slot_list_insert PySem.F.type_list_insert Qw0 (sp H0 A0) (sa H0 A0) hb (by rw[st,st2];rfl) hl st (by rw[st2];rfl)) rfl).mono λE σ H q=>Qr4 q
  ·cases h
 | _::_::_::_,h=>exact nomatch (show(none:Option DS)=some _ from h)
end HS
namespace HS
open PySem PySem.Spec L2 PyProof.Rows
section
variable {K:PySem.W.Frag}{H0 H H':Hp}{A0:List Addr}{hs:List (V×D×List Addr)}{ρ:En}{F:Nat->List Addr}{σ:L2.St}{x i j:Nat}{ds es:List D}{a:Addr}{vs:List V}{v vn:V}{dn:D}
end
end HS
namespace HS
open PySem PySem.Spec L2 PyProof.Rows
mutual
noncomputable def Qk8(n:Nat)(Θ:Th)(st:Stmt):Option DS:=match n with
 | 0=>none
 | n+1=>match st with
  | .Pass _=>some Qq
  | .Break _=>some Qto
  | .Continue _=>some QsX
  | .Raise _ _ _=>some QG
  | .Return (some e) _=>(Ql n Θ e).map Q2
  | .Expr (.Constant (.str _) _ _) _=>some Qq
  | .Expr (.Call (.Attribute o m apos) args [] cpos) _=>if(apos.endLine == cpos.line)=true then QiC n Θ o m args else none
  | .Expr (.Call (.Name x p) args [] cpos) _=>(Ql n Θ (.Call (.Name x p) args [] cpos)).map QcR
  | .Assign [.Name x _] e _=>(Θ.Qdo x).bind λi=>(Ql n Θ e).map λfa=>Qt i (if Qka e=true then QaL fa else fa)
  | .Assign [.Tuple es k p] e _=>if Qfu e=true/\Qp4 e=false then(Qid Θ (.Tuple es k p)).bind λt=>(Ql n Θ e).map λfa=>Qdp t fa else none
  | .Assign [.Subscript a i _] e _=>match QgZ Θ a i e with
   | some q=>(Θ.slot q.1).bind λx=>(Ql n Θ q.2).map λfb=>QfX x (Qb fb Qh)
   | none=>(QcV n Θ a).bind λq=>(Ql n Θ i).bind λfi=>(Ql n Θ e).map λfa=>Qcp q.1 q.2 fi fa
  | .AugAssign (.Name x _) op e _=>(Θ.Qdo x).bind λi=>(Ql1 op).bind λg=>(Ql n Θ e).map λfa=>Qie g i fa
  | .AugAssign (.Subscript a i _) op e _=>(QcV n Θ a).bind λq=>(Ql n Θ i).bind λfi=>(Ql1 op).bind λg=>(Ql n Θ e).map λfa=>Qc5 g q.1 q.2 fi fa
  | .If c a b _=>(Qba n Θ c).bind λg=>(Qbh n Θ a).bind λf1=>(Qbh n Θ b).map λf2=>sIf g f1 f2
  | .For tg iter body [] _=>(Qid Θ tg).bind λt=>(Qhd n Θ tg iter).bind λfi=>(Qbh n Θ body).map λfb=>Qbf fi t fb
  | .While c body [] _=>(Qba n Θ c).bind λg=>(Qbh n Θ body).map λfb=>Qb3 g fb
  | .Try a b c d p=>Θ.tr (.Try a b c d p)
  | _=>none
noncomputable def Qbh(n:Nat)(Θ:Th)(sts:List Stmt):Option DS:=match n with
  | 0=>none
  | n+1=>match sts with
    | []=>some Qq
    | st::r=>
       (Qk8 n Θ st).bind λf=>(Qbh n Θ r).map λg=>Qe f g
end
theorem Qor(h:Ql n Θ e=some f):QtS e=false:=by
 cases n with
 | zero=>exact nomatch (show(none:Option DE)=some _ from h)
 | succ n=>cases e<;>first | rfl | (exact nomatch (show(none:Option DE)=some _ from h))
theorem QtX(h:Ql n Θ (.ListComp elt gens scope pos)=some f):∃m tg iter ifs t fi ft fe,n=m+1/\gens=[⟨tg,iter,ifs,0⟩]/\Qid (inner Θ scope) tg=some t/\QiT Θ scope t=true∧
  Qhd m Θ tg iter=some fi/\Qfp m (inner Θ scope) ifs=some ft/\Ql m (inner Θ scope) elt=some fe/\f=Q5 fi t (Qhh Θ scope) ft fe:=by
 cases n with
 | zero=>exact nomatch (show(none:Option DE)=some _ from h)
 | succ n=>
  match gens,h with
  | [⟨tg,iter,ifs,k⟩],h=>
   by_cases hk:k=0
   ·subst hk
    (conv at h=>lhs;whnf)
    refine Qk h λt ht h=>?_
    split at h
    ·rename_i hc
     simp only[Zk]at hc
     refine Qk h λfi h1 h=>?_
     obtain⟨ft,fe,h2,h3,rfl⟩:=QaT h
     exact⟨n,tg,iter,ifs,t,fi,ft,fe,rfl,rfl,ht,hc.1,h1,h2,h3,rfl⟩
    ·cases h
   ·exfalso
    cases k with
    | ofNat k=>
     cases k with
     | zero=>exact hk rfl
     | succ k=>exact nomatch (show(none:Option DE)=some _ from h)
    | negSucc k=>exact nomatch (show(none:Option DE)=some _ from h)
  | [],h=>exact nomatch (show(none:Option DE)=some _ from h)
  | ⟨_,_,_,.ofNat 0⟩::_::_,h=>exact nomatch (show(none:Option DE)=some _ from h)
  | ⟨_,_,_,.ofNat (k+1)⟩::_::_,h=>exact nomatch (show(none:Option DE)=some _ from h)
  | ⟨_,_,_,.negSucc k⟩::_::_,h=>exact nomatch (show(none:Option DE)=some _ from h)
theorem Qu2(ok:Qar X Θ)(hx:Θ.Qdo x=some i)(h:Ql n Θ e=some fa):S1 X (.Assign [.Name x p] e pos) (Qt i fa):=by
 have hN:X.N.Nodup:=by rw[ok.N];exact ok.nd
 obtain⟨h1,h2,h3⟩:=QeN ok.toCtxB hx
 by_cases hc:Qfu e=true
 ·have he:=(Qb5 n).E X Θ e fa ok h
  exact Qm3 λH0 A0=>QmS hN h1 h2 (he H0 A0) (Qgl hc) h3
 ·cases e with
  | ListComp elt gens scope cpos=>
   obtain⟨m,tg,iter,ifs,t,fi,ft,fe,rfl,rfl,ht,hco,g1,g2,g3,rfl⟩:=QtX h
   obtain⟨S,cap,inn⟩:=QlI ok hco
   obtain⟨i1,i2⟩:=(Qb5 m).I X Θ tg iter fi ok g1
   exact QvB hN h1 h2 h3 ok.calm S i1 cap (λcl C fp s3 H3=>⟨Qlb (inn cl C fp s3 H3) ht,(Qb5 m).Ts _ _ ifs ft (inn cl C fp s3 H3) g2,(Qb5 m).E _ _ elt fe (inn cl C fp s3 H3) g3⟩) i2
  | SetComp _ _ _ _=>cases n<;>exact nomatch (show(none:Option DE)=some _ from h)
  | DictComp _ _ _ _ _=>cases n<;>exact nomatch (show(none:Option DE)=some _ from h)
  | _=>exact absurd rfl hc
theorem Qts(ok:Qar X Θ)(hx:Θ.Qdo x=some i)(h:Ql n Θ e=some fa)(ha:Qka e=true):S1 X (.Assign [.Name x p] e pos) (Qt i (QaL fa)):=by
 have hN:X.N.Nodup:=by rw[ok.N];exact ok.nd
 obtain⟨h1,h2,h3⟩:=QeN ok.toCtxB hx
 have hc:Qfu e=true:=by cases e<;>first | rfl | cases ha
 have he:=Qrx ((Qb5 n).E X Θ e fa ok h)
 exact Qm3 λH0 A0=>QmS hN h1 h2 (he H0 A0) (Qgl hc) h3
theorem QqA:swapsWithSole [.Subscript a i p] e l env=pure false:=by
 cases e<;>rfl
structure QwH (n:Nat):Prop where
 S:∀X Θ st f,Qar X Θ->Qk8 n Θ st=some f->S1 X st f
 Ss:∀X Θ sts f,Qar X Θ->Qbh n Θ sts=some f->SS X sts f
theorem QxI(ih:QwH n):∀X Θ st f,Qar X Θ->Qk8 (n+1) Θ st=some f->S1 X st f:=by
 intro X Θ st f ok h
 have hN:X.N.Nodup:=by rw[ok.N];exact ok.nd
 have E:=Qb5 n
 cases st with
 | Pass pos=>change some Qq=some f at h;cases h;exact Qvh
 | Break pos=>change some Qto=some f at h;cases h;exact Qty
 | Continue pos=>change some QsX=some f at h;cases h;exact QuG
 | Raise a b pos=>change some QG=some f at h;cases h;exact Qtn
 | Return e pos=>
  cases e with
  | none=>exact nomatch (show(none:Option DS)=some _ from h)
  | some e=>
   change(Ql n Θ e).map Q2=some f at h
   obtain⟨fa,h1,rfl⟩:=Zf.mp h
   exact Qv7 (E.E X Θ e fa ok h1)
 | Expr e pos=>
  cases e with
  | Constant c k p=>
   cases c with
   | str x=>
    change some Qq=some f at h
    cases h
    exact λH0 A0=>Qwb.mono λE σ H ⟨ρ,hs,F,o,rel,e,q⟩=>by cases e;exact q σ H F rel
   | _=>exact nomatch (show(none:Option DS)=some _ from h)
  | Call fn args kws cpos=>
   cases fn with
   | Attribute o m apos=>
    cases kws with
    | nil=>
     change(if(apos.endLine == cpos.line)=true then QiC n Θ o m args else none)=some f at h
     split at h
     ·rename_i hl
      exact QsS ok h hl
     ·cases h
    | cons _ _=>exact nomatch (show(none:Option DS)=some _ from h)
   | Name x p=>
    cases kws with
    | nil=>
     change(Ql n Θ (.Call (.Name x p) args [] cpos)).map QcR=some f at h
     obtain⟨fa,h1,rfl⟩:=Zf.mp h
     exact λH0 A0=>Qvt (Qg7 (E.E X Θ _ fa ok h1 H0 A0) rfl)
    | cons _ _=>exact nomatch (show(none:Option DS)=some _ from h)
   | _=>exact nomatch (show(none:Option DS)=some _ from h)
  | _=>exact nomatch (show(none:Option DS)=some _ from h)
 | Assign ts e pos=>
  match ts,h with
  | [t],h=>
   cases t with
   | Name x p=>
    change((Θ.Qdo x).bind λi=>(Ql n Θ e).map λfa=>Qt i (if Qka e=true then QaL fa else fa))=some f at h
    obtain⟨i,fa,h1,h2,rfl⟩:=QaT h
    split
    ·rename_i ha;exact Qts ok h1 h2 ha
    ·exact Qu2 ok h1 h2
   | Tuple es k p=>
    change(if Qfu e=true/\Qp4 e=false then(Qid Θ (.Tuple es k p)).bind λt=>(Ql n Θ e).map λfa=>Qdp t fa else none)=some f at h
    split at h
    ·rename_i hc
     obtain⟨t,fa,h1,h2,rfl⟩:=QaT h
     refine QuN (E.E X Θ e fa ok h2) (Qlb ok h1) (by show swapsWith e (some (.Tuple es k p)) pos.line X.env=pure false;exact Qgl hc.1) ?_ rfl
     cases e<;>first | rfl | (cases hc.2)
    ·cases h
   | Subscript a i p=>
    have h:(match QgZ Θ a i e with | some q=>(Θ.slot q.1).bind λx=>(Ql n Θ q.2).map λfb=>QfX x (Qb fb Qh) | none=>(QcV n Θ a).bind λq=>(Ql n Θ i).bind λfi=>(Ql n Θ e).map λfa=>Qcp q.1 q.2 fi fa)=some f:=h
    cases qe:QgZ Θ a i e with
    | some q=>
     rw[qe]at h
     obtain⟨p1,p2,cp,j,r,rfl,rfl,rfl,hg⟩:=Qo0 qe
     obtain⟨x,fb,h1,h2,rfl⟩:=QaT h
     have st:=Qae h2 [] X.env
     exact Qt7 (by have:=ok.units;omega) (Qfk ok.toCtxB h1) (QeS ok.toCtxB hg).1 (ok.mg "tuple" (by decide+kernel)) (Qef (E.E X Θ q.2 fb ok h2) Qgz st) st rfl (Qh9 QoY (λ_ _=> .QbC) rfl) rfl
    | none=>
    rw[qe]at h
    change((QcV n Θ a).bind λq=>(Ql n Θ i).bind λfi=>(Ql n Θ e).map λfa=>Qcp q.1 q.2 fi fa)=some f at h
    refine Qk h λq h1 h=>?_
    obtain⟨fi,fa,h2,h3,rfl⟩:=QaT h
    obtain⟨sp,_⟩:=QfD n X Θ a q ok h1
    have ns:=Qor h2
    refine Qwz (E.E X Θ e fa ok h3) sp (E.E X Θ i fi ok h2) λte to ti he ho hi=>Qqz he (QxB ho hi set_list ?_) QqA ?_ rfl
    ·intro v;cases i<;>first | rfl | (cases ns)
    ·cases e<;>rfl
   | _=>exact nomatch (show(none:Option DS)=some _ from h)
  | [],h=>exact nomatch (show(none:Option DS)=some _ from h)
  | t::_::_,h=>cases t<;>exact nomatch (show(none:Option DS)=some _ from h)
 | AugAssign t op e pos=>
  cases t with
  | Name x p=>
   change((Θ.Qdo x).bind λi=>(Ql1 op).bind λg=>(Ql n Θ e).map λfa=>Qie g i fa)=some f at h
   refine Qk h λi h1 h=>?_
   obtain⟨g,fa,h2,h3,rfl⟩:=QaT h
   obtain⟨r,o1,o2⟩:=Qqf (X:=X) h2
   obtain⟨g1,g2,g3⟩:=QeN ok.toCtxB h1
   exact QxR o1 o2 (λte ti he hp=>QxO hN g1 g2 he hp g3) (E.E X Θ e fa ok h3)
  | Subscript a i p=>
   change((QcV n Θ a).bind λq=>(Ql n Θ i).bind λfi=>(Ql1 op).bind λg=>(Ql n Θ e).map λfa=>Qc5 g q.1 q.2 fi fa)=some f at h
   refine Qk h λq h1 h=>?_
   refine Qk h λfi h2 h=>?_
   obtain⟨g,fa,h3,h4,rfl⟩:=QaT h
   obtain⟨r,o1,o2⟩:=Qqf (X:=X) h3
   obtain⟨sp,_⟩:=QfD n X Θ a q ok h1
   have ns:=Qor h2
   exact Qt9 o1 o2 (E.E X Θ e fa ok h4) sp (E.E X Θ i fi ok h2) λov iv new=>by cases i<;>first | rfl | (cases ns)
  | _=>exact nomatch (show(none:Option DS)=some _ from h)
 | If c a b pos=>
  change((Qba n Θ c).bind λg=>(Qbh n Θ a).bind λf1=>(Qbh n Θ b).map λf2=>sIf g f1 f2)=some f at h
  refine Qk h λg h1 h=>?_
  obtain⟨f1,f2,h2,h3,rfl⟩:=QaT h
  exact Qyo (E.T X Θ c g ok h1) (ih.Ss X Θ a f1 ok h2) (ih.Ss X Θ b f2 ok h3)
 | For tg iter body els pos=>
  cases els with
  | nil=>
   change((Qid Θ tg).bind λt=>(Qhd n Θ tg iter).bind λfi=>(Qbh n Θ body).map λfb=>Qbf fi t fb)=some f at h
   refine Qk h λt h1 h=>?_
   obtain⟨fi,fb,h2,h3,rfl⟩:=QaT h
   obtain⟨i1,i2⟩:=E.I X Θ tg iter fi ok h2
   exact QwA ok.pass ok.calm i1 (Qlb ok h1) (ih.Ss X Θ body fb ok h3) i2
  | cons _ _=>exact nomatch (show(none:Option DS)=some _ from h)
 | While c body els pos=>
  cases els with
  | nil=>
   change((Qba n Θ c).bind λg=>(Qbh n Θ body).map λfb=>Qb3 g fb)=some f at h
   obtain⟨g,fb,h1,h2,rfl⟩:=QaT h
   exact Qp1 ok.pass (E.T X Θ c g ok h1) (ih.Ss X Θ body fb ok h2)
  | cons _ _=>exact nomatch (show(none:Option DS)=some _ from h)
 | Try a b c d pos=>exact ok.tr _ _ h
 | _=>exact nomatch (show(none:Option DS)=some _ from h)
theorem QtN:∀n,QwH n
 | 0=>⟨λ_ _ _ _ _ h=>(nomatch (show(none:Option DS)=some _ from h)),λ_ _ _ _ _ h=>(nomatch (show(none:Option DS)=some _ from h))⟩
 | n+1=>by
  have ih:=QtN n
  refine⟨QxI ih,λX Θ sts f ok h=>?_⟩
  match sts,h with
  | [],h=>change some Qq=some f at h;cases h;exact Qxp
  | st::r,h=>
   change((Qk8 n Θ st).bind λf=>(Qbh n Θ r).map λg=>Qe f g)=some f at h
   obtain⟨fs,fr,h1,h2,rfl⟩:=QaT h
   exact Qvv (ih.S X Θ st fs ok h1) (ih.Ss X Θ r fr ok h2)
noncomputable def Qau(k:Nat)(ds:List D):En:=ds.map (λd=>some (d,d.flat))++List.replicate (k-ds.length) none
noncomputable def outD:Out->Option (D×Bool)
 | .rt d fr=>some (d,fr)
 | .nx _=>some (.non,true)
 | _=>none
noncomputable def Qo(k:Nat)(f:DS):Den:=λds=>(f (Qau k ds)).bind outD
theorem Rps.parts{K:PySem.W.Frag}{H:Hp}:∀{ds:List D}{vs:List V}{F:List Addr},Rps K H ds vs F→
  ∃Fs:List (List Addr),(∀L∈Fs,∀a∈L,a∈F)/\∀(i:Nat) (d:D),ds[i]? =some d->∃v,vs[i]? =some v/\Rp K H d v (Fs.getD i [])
 | [],_,_,h=>⟨[],λL hL=>by simp at hL,λi d e=>by simp at e⟩
 | d::ds,_,_,h=>by
  simp only[Rps]at h
  obtain⟨v,ws,F1,F2,rfl,rfl,r,q⟩:=h
  obtain⟨Fs,h1,h2⟩:=Rps.parts q
  refine⟨F1::Fs,λL hL a ha=>?_,λi d' e=>?_⟩
  ·rcases Zq.mp hL with rfl | hL
   ·exact Zn _ ha
   ·exact Ze _ (h1 L hL a ha)
  ·cases i with
   | zero=>simp at e;subst e;exact⟨v,by simp,by simpa using r⟩
   | succ i=>obtain⟨w,hw,hr⟩:=h2 i d' (by simpa using e);exact⟨w,by simpa using hw,by simpa using hr⟩
theorem QhF{k:Nat}{ds:List D}{i:Nat}{d:D}{b:Bool}(h:(Qau k ds)[i]? =some (some (d,b))):ds[i]? =some d/\b=d.flat:=by
 unfold Qau at h
 by_cases hi:i<ds.length
 ·rw[Zal (by simpa using hi),Zp]at h
  cases e:ds[i]? with
  | none=>rw[e]at h;cases h
  | some a=>rw[e]at h;cases h;exact⟨rfl,rfl⟩
 ·rw[Zbe (by simpa using hi),ZbZ]at h
  split at h<;>cases h
theorem QpR{K:PySem.W.Frag}{H:Hp}{ds:List D}{vs:List V}{F:List Addr}{N:List Str}(r:Rps K H ds vs F):∃F0,Rel K H F [] (Qau N.length ds) F0 (start N vs) H:=by
 obtain⟨Fs,h1,h2⟩:=r.parts
 have hl:=r.length
 have src:∀i a,a∈Fs.getD i []->a∈F:=λi a ha=>by
  by_cases hi:i<Fs.length
  ·have:Fs.getD i []∈Fs:=by rw[Zae,ZQ hi];exact List.getElem_mem hi
   exact h1 _ this a ha
  ·rw[Zae,Zz (by omega)]at ha;simp at ha
 refine⟨λi=>Fs.getD i [],?_,λi d b e=>?_,λi d e=>?_,λi d b e a ha=> .inr (src i a ha),λt ht=>absurd ht (by simp),QK.refl _⟩
 ·unfold Qau L2.start;simp[hl]
 ·obtain⟨e1,_⟩:=QhF e
  obtain⟨v,hv,hr⟩:=h2 i d e1
  refine⟨v,?_,hr⟩
  have hi:i<vs.length:=(Zd.mp hv).1
  unfold L2.start
  rw[Zal (by simpa using hi),Zp,hv];rfl
 ·obtain⟨e1,e2⟩:=QhF e
  obtain⟨v,hv,hr⟩:=h2 i d e1
  have z:Fs.getD i []=[]:=hr.Qbj e2.symm
  simp only[z]
  exact⟨(Qc0 d e2.symm).symm,ZaE,λa ha=>by simp at ha,λ_ _ _ _ _ a ha=>by simp at ha,λ_ _ a ha=>by simp at ha⟩
section
variable (P:Program) (w:World) (K:PySem.W.Frag) (mg:Str->Option Value) (base:Heap)
def Known(k:Nat)(x:Str)(r:FnR):Prop:=∃f fd ps,QbV P w K mg base CX0 k f fd ps (spV K r.n r.den)/\mg x=some (.ref f)/\PySem.W.keepIn K (.ref f)=true∧
 ∀m,m<=r.dfl.length->∃ds dvs,Binds K fd ps ds/\Qw dvs ds/\∀H,Rps K H (r.dfl.drop (r.dfl.length-m)) dvs []
def Qc6(k:Nat)(Γ:List (Str×FnR)):Prop:=∀x r,look x Γ=some r->Known P w K mg base k x r
structure Qf0 (cs:List (Str×Int)):Prop where
 bn:∀x∈QmY,mg x=none
 cs:∀x i,look x cs=some i->∃t,mg x=some (.int i t)
end
section
variable {P:Program}{w:World}{K:PySem.W.Frag}{mg:Str->Option Value}{base:Heap}
theorem Qc6.nil{k:Nat}:Qc6 P w K mg base k []:=λx r h=>by cases h
theorem Known.mono{j k:Nat}{x:Str}{r:FnR}(h:Known P w K mg base j x r)(hk:j<=k):Known P w K mg base k x r:=by
 obtain⟨f,fd,ps,h1,h2⟩:=h
 exact⟨f,fd,ps,h1.mono hk,h2⟩
theorem Qc6.cons{k:Nat}{Γ:List (Str×FnR)}{x:Str}{r:FnR}(t:Qc6 P w K mg base k Γ)(h:Known P w K mg base (k+1) x r):Qc6 P w K mg base (k+1) ((x,r)::Γ):=λy q e=>by
 unfold look at e
 split at e
 ·rename_i z;cases e;subst z;exact h
 ·exact(t y q e).mono (ZbG _)
noncomputable def namesOf(sc:Scope):List Str:=(sc.names.filter λy=>QtC y.2).map (·.1)
noncomputable def QjK(st:Stmt)(Γ:List (Str×FnR))(cs:List (Str×Int)):Th:=⟨namesOf (QA st),(QA st).names,Γ,cs,λ_=>none⟩
theorem QuZ{CX:CXT}{xe:Value->Shared->Prop}{st:Stmt}{ps:List Str}{qual:Str}{f:Addr}{cdv:Value}{A:Around}{outer:List Env}{s:Shared}{H:Hp}{E:XK}{k:Nat}{Γ:List (Str×FnR)}{cs:List (Str×Int)}(S:QcY (namesOf (QA st)) ps (QA st))(M:Qf0 mg cs)(tab:Qc6 P w K mg base k Γ)
  (hr:QaI k (A.deeper (envOfC qual (QA st) s.heap.objs.size f cdv))) (hp:PassesOwn (model P w) (A.deeper (envOfC qual (QA st) s.heap.objs.size f cdv)) (envOfC qual (QA st) s.heap.objs.size f cdv) xe):
  Qar ((Qgn CX P w K mg base (namesOf (QA st)) qual (QA st) f cdv A outer s H E).QdJ xe) (QjK st Γ cs) where
 N:=rfl
 nd:=S.nd
 lc:=λx h=>by rw[Qbl]at h;exact h
 ce:=λx h=>by rw[Qbl]at h;exact⟨h,rfl⟩
 fe:=λx h=>by rw[Qbl]at h;exact absurd rfl (S.nofree _ (Zai h))
 gl:=λx h=>by rw[Qbl]at h;exact h
 calm:=decide_eq_true hr.hd
 pass:=hp
 tr:=λ_ _ h=>by cases h
 units:=hr.units
 mg:=M.bn
 fns:=λx r h=>by
  obtain⟨f',fd,ps',h1,h2,h3,h4⟩:=tab x r h
  exact⟨k,f',fd,ps',h1,hr,h2,h3,h4⟩
 cs:=M.cs
theorem QxC{st:Stmt}{ps:List Str}{qual:Str}{f:Addr}{cdv:Value}{A:Around}{outer:List Env}{s:Shared}{H:Hp}{E:XK}{k:Nat}{Γ:List (Str×FnR)}{cs:List (Str×Int)}(S:QcY (namesOf (QA st)) ps (QA st))(M:Qf0 mg cs)(tab:Qc6 P w K mg base k Γ)
  (hr:QaI k (A.deeper (envOfC qual (QA st) s.heap.objs.size f cdv))):Qar (Qgn CX0 P w K mg base (namesOf (QA st)) qual (QA st) f cdv A outer s H E).nox (QjK st Γ cs):=QuZ S M tab hr PassesOwn.never
theorem Qq5{x qual:Str}{st:Stmt}{f:Addr}{fd:FuncData}{ps:List Str}{k n:Nat}{Γ:List (Str×FnR)}{cs:List (Str×Int)}{g:DS}(F:Fun K x qual st f fd)(S:QcY (namesOf (QA st)) ps (QA st))(M:Qf0 mg cs)(tab:Qc6 P w K mg base k Γ)
  (hc:Qbh n (QjK st Γ cs) (QbW st)=some g):QbV P w K mg base CX0 (k+1) f fd ps (spV K ps.length (Qo (namesOf (QA st)).length g)):=by
 refine F.ok S (QtT rfl) λcdv A outer s H vs Q E hr h=>?_
 obtain⟨ds,L,d,fr,rps,hl,hd,q⟩:=h
 refine⟨_,(QtN n).Ss _ _ _ g (QxC S M tab hr) hc H L,?_⟩
 obtain⟨F0,rel⟩:=QpR (N:=namesOf (QA st)) rps
 unfold Qo at hd
 refine Qk hd λo ho hd=>?_
 refine⟨_,[],F0,o,rel,ho,?_⟩
 cases o with
 | nx ρ=>
  cases hd
  exact λσ H' F' rel'=>q .non H' [] ⟨rel'.same,.QmV,λa ha=>by simp at ha,λ_=>⟨ZaE,rfl,λa ha=>by simp at ha⟩⟩
 | bk ρ=>cases hd
 | ct ρ=>cases hd
 | rt d' fr'=>
  cases hd
  exact λv H' G r=>q v H' G r
structure Fact (K:PySem.W.Frag) (x:Str) (st:Stmt):Prop where
 ex:∃f fd,Fun K x x st f fd/\PySem.W.nsIn K mainGlobals x=some (some (.ref f))
theorem fact_mk{x:Str}{st:Stmt}{f:Addr}{oc:Value}{od an:Option Addr}{osl:Array (Option Value)}{kV doc pm cdv ct:Value}(a:PySem.W.nsIn K mainGlobals x=some (some (.ref f)))(l:K.lookup f=some ⟨oc,od,.func (PySem.W.fnOf x x (Qes st) (QbW st) (QA st) .none kV doc pm an cdv ct),osl⟩)
  (c:PySem.W.codeIn K cdv x=true) (k:PySem.W.keepIn K (.ref f)=true):Fact K x st:=⟨f,_,QvN l c k,a⟩
theorem l0{α:Type}{P:List α->Prop}(h:P []):∀l:List α,l.length=0->P l:=λl e=>(List.length_eq_zero_iff.mp e).symm▸h
theorem lc{α:Type}{n:Nat}{P:List α->Prop}(h:∀a,∀l:List α,l.length=n->P (a::l)):∀l:List α,l.length=n+1->P l
 | a::l,e=>h a l (Nat.succ.inj e)
def QB(x:Str)(st:Stmt)(ps:List Str):Prop:=∀(kV doc pm:Value) (an:Option Addr) (cdv ct:Value) (us:List Value),us.length=ps.length->bindArgs (PySem.W.fnOf x x (Qes st) (QbW st) (QA st) .none kV doc pm an cdv ct) ⟨us,[]⟩=pure (ps.zip us)
theorem QC{h:Heap}{x:Str}{st:Stmt}{ps:List Str}{k n:Nat}{Γ:List (Str×FnR)}{cs:List (Str×Int)}{g:DS}(X:K.In h)(G:h.Ns mainGlobals mg)(F:Fact K x st)(S:QcY (namesOf (QA st)) ps (QA st))(B:QB x st ps)(M:Qf0 mg cs)(tab:Qc6 P w K mg base k Γ)
  (hc:Qbh n (QjK st Γ cs) (QbW st)=some g):Known P w K mg base (k+1) x ⟨ps.length,[],Qo (namesOf (QA st)).length g⟩:=by
 obtain⟨f,fd,Fn,a⟩:=F.ex
 refine⟨f,fd,ps,Qq5 Fn S M tab hc,Zcr X G a,Fn.kp,λm hm=>⟨[],[],Fn.binds (B ·),.nil,λH=>by simp[Rps]⟩⟩
end
end HS
namespace HS
open PySem PySem.Spec L2 PyProof.Rows
theorem Qsm{l:PySem.W.OpenLaw}{k:Nat}{q:Program}{loose:List Str}{XP:(Str->Option Value)->Heap->Prop}{YP:World->Heap->Prop}{d:DefRec}{K:Params->PySem.W.Frag}{den:Den}{x:Str}
  (hn:l.most=some 63) (hdf:d.params.defaults=[]) (hr:QaI k callerA) (hY:∀(w:World) (h:Heap),YP w h->(K w.params).In h)
  (hden:∀ns:List Int,ns.length<=63->∃fr,den [.lst (ns.map .int)]=some (.bl true,fr))
  (F:∀(w:World) (mg:Str->Option Value) (fa:Addr) (h:Heap),(K w.params).In h->h.Ns mainGlobals mg->mg d.name=some (.ref fa)→
   ∃fd:FuncData,(∀(s:Shared) (u:Value),BindsTo s fd ⟨[u],[]⟩ [(x,u)])∧
    ∀base:Heap,(K w.params).In base->base.Ns mainGlobals mg->QbV l.prog w (K w.params) mg base CX0 k fa fd [x] (spV (K w.params) 1 den)):
  PySem.W.WalkO q loose XP YP l.row.toRowW d [] (λf vs=>PySem.call f vs):=by
 refine Att.QhC hn hdf λw s₀ s₁ mg mb fa o pm cd doc a vs ns G Y ho hd hcd hmg hobj hints hlen hg=>?_
 have KX:=hY w _ Y
 obtain⟨fd,hb,hF⟩:=F w mg fa _ KX G.T.g hmg
 have h63:(63:Nat)<=sizeLine:=by decide
 refine Qm4 KX G.T.g G.T.b G.T.builtins G.T.nolimit hg hobj hints (Zx hlen h63) hr hF hb (λH hO hS=>?_) λH e s' z=>z
 have fx:Fix (K w.params) H a (ns.map V.int):=by
  rcases hS with(h | ⟨o,h⟩) | ⟨o,its,n,hk,hc,hdn,hda,hz,rv⟩
  ·rcases hO a with z | ⟨o,xs,z⟩<;>rw[h]at z<;>cases z
  ·exact .inl ⟨o,h⟩
  ·have e:=KX a o hk
   rw[hobj]at e
   cases e
   cases hda
   exact .inr ⟨vs,_,hk,by rw[Zg];exact Zx hlen h63,by simpa using rv⟩
 obtain⟨fr,hfr⟩:=hden ns hlen
 have rp:Rp (K w.params) H (.lst (ns.map .int)) (.ref a) []:=by
  simp only[Rp]
  refine⟨by rw[Zg];exact Zx hlen h63,a,_,rfl,.inr ⟨fx,?_⟩⟩
  have gen:∀ns:List Int,Rps (K w.params) H (ns.map .int) (ns.map .int) []:=by
   intro ns
   induction ns with
   | nil=>simp[Rps]
   | cons n ns ih=>simp only[Zj,Rps];exact⟨_,_,[],[],rfl,rfl,.int_mk,ih⟩
  exact gen ns
 refine⟨[.lst (ns.map .int)],[],.bl true,fr,?_,rfl,hfr,λv H' G r=>r.rp.Qb4⟩
 simp only[Rps]
 exact⟨_,_,[],[],rfl,rfl,rp,rfl,rfl⟩
theorem Qyt{P:Program}{w:World}{K:PySem.W.Frag}{mg:Str->Option Value}{h:Heap}{x y:Str}{st:Stmt}{fa:Addr}{k n:Nat}{Γ:List (Str×FnR)}{cs:List (Str×Int)}{g:DS}(X:K.In h)(G:h.Ns mainGlobals mg)(hmg:mg x=some (.ref fa))
  (F:Fact K x st) (S:QcY (namesOf (QA st)) [y] (QA st)) (B:QB x st [y]) (M:Qf0 mg cs) (tab:∀base:Heap,Qc6 P w K mg base k Γ) (hc:Qbh n (QjK st Γ cs) (QbW st)=some g):
  ∃fd:FuncData,(∀(s:Shared) (u:Value),BindsTo s fd ⟨[u],[]⟩ [(y,u)])∧
    ∀base:Heap,K.In base->base.Ns mainGlobals mg->QbV P w K mg base CX0 (k+1) fa fd [y] (spV K 1 (Qo (namesOf (QA st)).length g)):=by
 obtain⟨f,fd,Fn,a⟩:=F.ex
 have e:=hmg.symm.trans (Zcr X G a)
 cases e
 refine⟨fd,λs u=>?_,λbase _ _=>Qq5 Fn S M (tab base) hc⟩
 obtain⟨oc,od,kV,doc,pm,an,cdv,ct,osl,rfl,lk,hcd⟩:=Fn.ex
 exact .of_eq (B kV doc pm an cdv ct [u] rfl)
end HS
namespace HS
open PySem PySem.Spec PyProof.Rows L2
section
variable {P:Program}{w:World}{K:PySem.W.Frag}{mg:Str->Option Value}{base:Heap}
end
end HS
namespace HS
open PySem L2
noncomputable def pairD(p:Int×Int):D:= .tup [.int p.1,.int p.2]
noncomputable def Qtt(p:Int×Int×Bool):D:= .tup [.int p.1,.int p.2.1,.bl p.2.2]
noncomputable def Qm(ns:List Int):D:= .lst (ns.map .int)
noncomputable def QL(ps:List (Int×Int)):D:= .lst (ps.map pairD)
noncomputable def Qs(m:Int)(R L:List (Int×Int)):D:= .tup [.int m,QL R,QL L]
theorem Qbd{α:Type}{f:α->D}(h:∀a,(f a).flat=true):∀l:List α,QR (l.map f)=true
 | []=>rfl
 | a::l=>by simp[QR,h a,Qbd h l]
@[simp] theorem QzH(i:Int):(D.int i).flat=true:=rfl
@[simp] theorem QzN(i:Bool):(D.bl i).flat=true:=rfl
@[simp] theorem Qzt:D.non.flat=true:=rfl
@[simp] theorem Qzr(x:Str):(D.str x).flat=true:=rfl
@[simp] theorem Qzs(xs:List D):(D.lst xs).flat=false:=rfl
@[simp] theorem Qy8(xs:List D):(D.tup xs).flat=QR xs:=rfl
@[simp] theorem Qy2:QR []=true:=rfl
@[simp] theorem QyR(d:D)(ds:List D):QR (d::ds)=(d.flat && QR ds):=rfl
@[simp] theorem Qy3(p:Int×Int):(pairD p).flat=true:=rfl
@[simp] theorem Qy9(p:Int×Int×Bool):(Qtt p).flat=true:=rfl
@[simp] theorem Qy0(ns:List Int):(Qm ns).flat=false:=rfl
@[simp] theorem Qya(ns:List (Int×Int)):(QL ns).flat=false:=rfl
@[simp] theorem QxU(ps:List (Int×Int)):QR (ps.map pairD)=true:=Qbd (λ_=>rfl) _
@[simp] theorem Qyh(ps:List (Int×Int×Bool)):QR (ps.map Qtt)=true:=Qbd (λ_=>rfl) _
@[simp] theorem Qi0(ns:List Int):QR (ns.map .int)=true:=Qbd (λ_=>rfl) _
@[simp] theorem QyZ(xs ys:List D):QR (xs++ys)=(QR xs && QR ys):=Qcr xs ys
def Run(f:DS)(ρ:En)(Q:Out->Prop):Prop:=∃o,f ρ=some o/\Q o
noncomputable def Nx(Q:En->Prop):Out->Prop
 | .nx ρ=>Q ρ
 | _=>False
noncomputable def Rt(Q:D->Bool->Prop):Out->Prop
 | .rt d fr=>Q d fr
 | _=>False
theorem Run.mono(h:Run f ρ Q)(m:∀o,Q o->Q' o):Run f ρ Q':=let ⟨o,h1,h2⟩:=h;⟨o,h1,m o h2⟩
theorem Qv(h:Q (.nx ρ)):Run Qq ρ Q:=⟨_,rfl,h⟩
theorem run_seq(h:Run f ρ (Nx λρ'=>Run g ρ' Q)):Run (Qe f g) ρ Q:=by
 obtain⟨o,h1,h2⟩:=h
 cases o with
 | nx ρ'=>
  obtain⟨o',h3,h4⟩:=h2
  exact⟨o',by simp[Qe,h1,h3],h4⟩
 | _=>exact False.elim h2
theorem Qah(h:Run f ρ λo=>match o with | .nx ρ'=>Run g ρ' Q | o=>Q o):Run (Qe f g) ρ Q:=by
 obtain⟨o,h1,h2⟩:=h
 cases o with
 | nx ρ'=>
  obtain⟨o',h3,h4⟩:=h2
  exact⟨o',by simp[Qe,h1,h3],h4⟩
 | bk ρ'=>exact⟨_,by simp[Qe,h1],h2⟩
 | ct ρ'=>exact⟨_,by simp[Qe,h1],h2⟩
 | rt d fr=>exact⟨_,by simp[Qe,h1],h2⟩
theorem Qj(h:fa ρ=some r)(q:Q (.nx (asg i r ρ))):Run (Qt i fa) ρ Q:=⟨_,by simp[Qt,h],q⟩
theorem Qn1(h:fa ρ=some r)(q:Q (.rt r.d (r.norm.fr && decide r.norm.M.Nodup))):Run (Q2 fa) ρ Q:=⟨_,by simp[Q2,h],q⟩
theorem Qaq(h:g ρ=some b)(q1:b=true->Run f1 ρ Q)(q2:b=false->Run f2 ρ Q):Run (sIf g f1 f2) ρ Q:=by
 cases b with
 | true=>obtain⟨o,h1,h2⟩:=q1 rfl;exact⟨o,by simp[sIf,h,h1],h2⟩
 | false=>obtain⟨o,h1,h2⟩:=q2 rfl;exact⟨o,by simp[sIf,h,h1],h2⟩
theorem Qad(h:Run f (Qau k ds) (Rt λd' fr'=>d'=d/\fr'=fr)):Qo k f ds=some (d,fr):=by
 obtain⟨o,h1,h2⟩:=h
 unfold Qo
 cases o with
 | rt d' fr'=>obtain⟨rfl,rfl⟩:=h2;rw[h1];rfl
 | _=>exact False.elim h2
theorem Qmh{α:Type}{t:Tg}{fb:DS}{toD:α->D}{Q:Out->Prop}(I:Nat->En->Prop):∀(xs ys:List α) (ρ:En),I ys.length ρ→
  (∀i x ρ,(ys++xs)[i]? =some x->ys.length<=i->I i ρ->∃ρ1,Qby t (toD x) ρ=some ρ1/\Run fb ρ1 λo=>match o with | .nx ρ2=>I (i+1) ρ2 | .ct ρ2=>I (i+1) ρ2 | .bk ρ2=>Q (.nx ρ2) | .rt d fr=>Q (.rt d fr))→
  (∀ρ,I (ys++xs).length ρ->Q (.nx ρ))->Run (Qc8 t fb (xs.map toD)) ρ Q
 | [],ys,ρ,h0,_,fin=>⟨_,rfl,fin ρ (by simpa using h0)⟩
 | x::xs,ys,ρ,h0,turn,fin=>by
  obtain⟨ρ1,h1,o,h2,h3⟩:=turn ys.length x ρ (by simp) (Zh _) h0
  have next:∀ρ2,I (ys.length+1) ρ2->Run (Qc8 t fb (xs.map toD)) ρ2 Q:=λρ2 hi=>
   Qmh I xs (ys++[x]) ρ2 (by simpa using hi) (λi y ρ' e hl=>turn i y ρ' (by simpa using e) (by simp at hl;omega)) (λρ' h=>fin ρ' (by simpa using h))
  cases o with
  | nx ρ2=>obtain⟨o',e1,e2⟩:=next ρ2 h3;exact⟨o',by simp[Qc8,h1,h2,e1],e2⟩
  | ct ρ2=>obtain⟨o',e1,e2⟩:=next ρ2 h3;exact⟨o',by simp[Qc8,h1,h2,e1],e2⟩
  | bk ρ2=>exact⟨_,by simp[Qc8,h1,h2],h3⟩
  | rt d fr=>exact⟨_,by simp[Qc8,h1,h2],h3⟩
theorem Qat{α:Type}{fi:DI}{t:Tg}{fb:DS}{toD:α->D}{ρ:En}{ir:IR}{Q:Out->Prop}(xs:List α)(I:Nat->En->Prop)(h:fi ρ=some ir)(hx:ir.items=xs.map toD)(h0:I 0 (Qa9 ir.M ρ))
  (turn:∀i x ρ,xs[i]? =some x->I i ρ->∃ρ1,Qby t (toD x) ρ=some ρ1/\Run fb ρ1 λo=>match o with | .nx ρ2=>I (i+1) ρ2 | .ct ρ2=>I (i+1) ρ2 | .bk ρ2=>Q (.nx ρ2) | .rt d fr=>Q (.rt d fr))
  (fin:∀ρ,I xs.length ρ->Q (.nx ρ)):Run (Qbf fi t fb) ρ Q:=by
 obtain⟨o,h1,h2⟩:=Qmh (t:=t) (fb:=fb) (toD:=toD) (Q:=Q) I xs [] (Qa9 ir.M ρ) h0 (λi x ρ e _=>turn i x ρ (by simpa using e)) (λρ h=>fin ρ (by simpa using h))
 exact⟨o,by simp[Qbf,h,hx,h1],h2⟩
theorem Qkq{α:Type}{t:Tg}{ft:DT}{fe:DE}{ρc:En}{toD:α->D}{keep:α->Bool}{out:α->D}:∀(xs:List α) (acc:List D),
  (∀x∈xs,∃ρ1,Qby t (toD x) ρc=some ρ1/\ft ρ1=some (keep x)/\(keep x=true->∃r,fe ρ1=some r/\r.d=out x/\r.norm.fr=true))→
  (xs.map toD).foldlM (QeR t ft fe ρc) (acc,true)=some (acc++(xs.filter keep).map out,true)
 | [],acc,_=>by simp
 | x::xs,acc,h=>by
  obtain⟨ρ1,h1,h2,h3⟩:=h x Zi
  have ih:=λacc=>Qkq xs acc (λy hy=>h y (Zc _ hy))
  cases hk:keep x with
  | false=>
   have e:QeR t ft fe ρc (acc,true) (toD x)=some (acc,true):=by simp[QeR,h1,h2,hk]
   simp[Zcd,e,ih,hk]
  | true=>
   obtain⟨r,h4,h5,h6⟩:=h3 hk
   have e:QeR t ft fe ρc (acc,true) (toD x)=some (acc++[out x],true):=by simp[QeR,h1,h2,hk,h4,h5,h6]
   simp[Zcd,e,ih,hk]
theorem Qon{α:Type}{fi:DI}{t:Tg}{cap:List (Option Nat)}{ft:DT}{fe:DE}{ρ:En}{ir:IR}{toD:α->D}{keep:α->Bool}{out:α->D}(xs:List α)(h:fi ρ=some ir)(hx:ir.items=xs.map toD)
  (turn:∀x∈xs,∃ρ1,Qby t (toD x) (Qee cap ρ)=some ρ1/\ft ρ1=some (keep x)/\(keep x=true->∃r,fe ρ1=some r/\r.d=out x/\r.norm.fr=true)):
  Q5 fi t cap ft fe ρ=some ⟨.lst ((xs.filter keep).map out),true,[]⟩:=by
 unfold Q5
 rw[h,Za,hx,Qkq xs [] turn]
 simp
theorem QQ{α:Type}{fi:DI}{t:Tg}{cap:List (Option Nat)}{fe:DE}{ρ:En}{ir:IR}{toD:α->D}{out:α->D}(xs:List α)(h:fi ρ=some ir)(hx:ir.items=xs.map toD)
  (turn:∀x∈xs,∃ρ1,Qby t (toD x) (Qee cap ρ)=some ρ1/\∃r,fe ρ1=some r/\r.d=out x/\r.norm.fr=true):
  Q5 fi t cap Qab fe ρ=some ⟨.lst (xs.map out),true,[]⟩:=by
 have:=Qon (keep:=λ_=>true) (ft:=Qab) xs h hx (cap:=cap) (t:=t) (fe:=fe) (out:=out) λx hx=>by
  obtain⟨ρ1,h1,h2⟩:=turn x hx
  exact⟨ρ1,h1,rfl,λ_=>h2⟩
 rw[this,ZbN.mpr λ_ _=>rfl]
@[simp] theorem QzA(d:D):R.norm ⟨d,true,[]⟩=⟨d,true,[]⟩:=by unfold R.norm;split<;>rfl
@[simp] theorem Qn(i:Nat)(d:D)(ρ:En):asg i ⟨d,true,[]⟩ ρ=ρ.set i (some (d,true)):=by unfold asg;simp[kill]
theorem Qbw{i:Nat}{d:D}{fr:Bool}{M:List Nat}{ρ:En}(h:d.flat=true):asg i ⟨d,fr,M⟩ ρ=ρ.set i (some (d,true)):=by
 unfold asg R.norm;simp[h,kill]
theorem QcE{i:Nat}{ρ:En}{d:D}{b:Bool}(h:ρ[i]? =some (some (d,b))):Qa i ρ=some (if d.flat then⟨d,true,[]⟩else if b then⟨d,true,[i]⟩else⟨d,false,[]⟩):=by
 unfold Qa
 rw[h]
 dsimp only
 split
 ·simp_all
 ·split<;>simp_all
theorem QxK{i:Nat}{ρ:En}{n:Int}{b:Bool}(h:ρ[i]? =some (some (.int n,b))):Qa i ρ=some ⟨.int n,true,[]⟩:=by rw[QcE h];rfl
@[simp] theorem Qpc(d:D)(ρ:En):dC d ρ=some ⟨d,true,[]⟩:=rfl
theorem QaK{g:D->D->Option D}{fa fb:DE}{ρ:En}{ra rb:R}{d:D}(ha:fa ρ=some ra)(hb:fb ρ=some rb)(h:g ra.d rb.d=some d):dOp g fa fb ρ=some ⟨d,true,[]⟩:=by simp[dOp,ha,hb,h]
theorem Qu{fa:DE}{fs:DA}{ρ:En}{r:R}{rs:RA}(ha:fa ρ=some r)(hs:fs ρ=some rs):Qb fa fs ρ=some ⟨r.d::rs.ds,r.fr && rs.fr,r.M++rs.M⟩:=by simp[Qb,ha,hs]
@[simp] theorem Q3(ρ:En):Qh ρ=some ⟨[],true,[]⟩:=rfl
noncomputable def vf(d:D)(b:Bool)(i:Nat):R:=if d.flat then⟨d,true,[]⟩else if b then⟨d,true,[i]⟩else⟨d,false,[]⟩
@[simp] theorem QzU(d:D)(b:Bool)(i:Nat):(vf d b i).d=d:=by unfold vf;split;rfl;split<;>rfl
@[simp] theorem Qmy(i j:Int)(h:0<=j):Qck i j=i % j:=by unfold Qck;rw[if_pos h]
@[simp] theorem Qit(i j:Int)(h:0<=j):Qc1 i j=i / j:=by unfold Qc1;rw[if_pos h]
theorem Qcb{i j:Int}(h:i.natAbs<2^64):Qdy i j=true:=by unfold Qdy;simp[h]
theorem Qeh{i j:Int}(h:j.natAbs<2^64):Qdy i j=true:=by unfold Qdy;simp[h]
theorem QhA{i j:Int}(h1:Builtin.Int.intBits i<=2^20)(h2:Builtin.Int.intBits j<=2^20):Qdy i j=true:=by
 unfold Qdy
 rw[decide_eq_true h1,decide_eq_true h2,Bool.and_self,Bool.or_true]
theorem Qeb:(sizeLine:Nat)=16777216:=sizeLine_eq
noncomputable def Qc(m:Nat)(f:Nat->Int):D:= .lst ((List.range m).map λi=> .int (f i))
noncomputable def QF(m n:Nat)(f:Nat->Nat->Int):D:= .lst ((List.range m).map λi=>Qc n (f i))
@[simp] theorem Qzx(m:Nat)(f:Nat->Int):(Qc m f).flat=false:=rfl
@[simp] theorem Qzu(m n:Nat)(f:Nat->Nat->Int):(QF m n f).flat=false:=rfl
@[simp] theorem Qy1(m:Nat)(f:Nat->Int):QR ((List.range m).map λi=>D.int (f i))=true:=Qbd (f:=λi=>D.int (f i)) (λ_=>rfl) _
noncomputable def up(f:Nat->Int)(i:Nat)(v:Int):Nat->Int:=λj=>if j=i then v else f j
noncomputable def up2(f:Nat->Nat->Int)(i j:Nat)(v:Int):Nat->Nat->Int:=λk=>if k=i then up (f k) j v else f k
theorem Qeq{n:Nat}{i:Int}(h0:0<=i)(h:i<n):ixN n i=some i.toNat:=by
 unfold ixN;rw[if_pos (by omega),if_pos (by omega)]
theorem Qfm{α:Type}{xs:List α}{i:Int}(h0:0<=i)(h:i<xs.length):atI xs i=xs[i.toNat]? :=by
 unfold atI;rw[Qeq h0 h];rfl
theorem Qgb{α:Type}{m:Nat}{f:Nat->α}{i:Nat}{v:α}:((List.range m).map f).set i v=(List.range m).map λj=>if j=i then v else f j:=by
 apply ZaR
 intro k
 rw[List.getElem?_set]
 simp only[Zg,ZM,Zp]
 by_cases hk:k<m
 ·rw[ZV hk]
  by_cases e:i=k
  ·subst e;simp[hk]
  ·simp[e,Ne.symm e]
 ·rw[Zz (by simp;omega)]
  by_cases e:i=k
  ·subst e;simp[hk]
  ·simp[e]
theorem QjH{m:Nat}{f:Nat->Int}{i:Nat}{v:Int}:((List.range m).map λj=>D.int (f j)).set i (.int v)=(List.range m).map λj=>D.int (up f i v j):=by
 rw[Qgb]
 congr 1;funext j;unfold up;split<;>rfl
theorem Qoj{m:Nat}{f:Nat->Int}{i:Int}(h0:0<=i)(h:i<m):atI ((List.range m).map λj=>D.int (f j)) i=some (.int (f i.toNat)):=by
 rw[Qfm h0 (by simpa using h),Zp,ZV (by omega)];rfl
theorem QnQ{m n:Nat}{f:Nat->Nat->Int}{i:Int}(h0:0<=i)(h:i<m):atI ((List.range m).map λj=>Qc n (f j)) i=some (Qc n (f i.toNat)):=by
 rw[Qfm h0 (by simpa using h),Zp,ZV (by omega)];rfl
theorem QfK{x m:Nat}{f:Nat->Int}{fi fa:DE}{ρ:En}{i:Int}{v:Int}{ri ra:R}{Q:Out->Prop}(hx:ρ[x]? =some (some (Qc m f,true)))(hi:fi ρ=some ri)(ei:ri.d= .int i)(ha:fa ρ=some ra)(ea:ra.d= .int v)(h0:0<=i)(h:i<m)
  (q:Q (.nx (ρ.set x (some (Qc m (up f i.toNat v),true))))):Run (Qcp x Qal fi fa) ρ Q:=by
 refine⟨_,?_,q⟩
 have hn:ra.norm=⟨.int v,true,[]⟩:=by unfold R.norm;rw[ea];rfl
 unfold Qcp
 rw[ha,Za,hx]
 simp only[Qal,Za,hi,ei,Qbz,Qc,Zg,ZM,Qeq h0 h,hn,ea,Qa8,QjH]
 simp[kill]
theorem QmK{g:D->D->Option D}{x m:Nat}{f:Nat->Int}{fi fa:DE}{ρ:En}{i w:Int}{ri ra:R}{Q:Out->Prop}(hx:ρ[x]? =some (some (Qc m f,true)))(hi:fi ρ=some ri)(ei:ri.d= .int i)(ha:fa ρ=some ra)(h0:0<=i)(h:i<m)
  (hg:g (.int (f i.toNat)) ra.d=some (.int w)) (q:Q (.nx (ρ.set x (some (Qc m (up f i.toNat w),true))))):Run (Qc5 g x Qal fi fa) ρ Q:=by
 refine⟨_,?_,q⟩
 have hj:((List.range m).map λj=>D.int (f j))[i.toNat]? =some (.int (f i.toNat)):=by rw[Zp,ZV (by omega)];rfl
 unfold Qc5
 rw[hx]
 simp only[Qal,Za,hi,ei,Qbz,Qc,Zg,ZM,Qeq h0 h,hj,ha,hg,Qa8,QjH,ZP]
theorem QlF{g:D->D->Option D}{x m n:Nat}{f:Nat->Nat->Int}{fp fi fa:DE}{ρ:En}{i j w:Int}{rp ri ra:R}{Q:Out->Prop}(hx:ρ[x]? =some (some (QF m n f,true)))(hp:fp ρ=some rp)(ep:rp.d= .int i)(hi:fi ρ=some ri)(ei:ri.d= .int j)(ha:fa ρ=some ra)
  (h0:0<=i) (h:i<m) (k0:0<=j) (k:j<n) (hg:g (.int (f i.toNat j.toNat)) ra.d=some (.int w)) (q:Q (.nx (ρ.set x (some (QF m n (up2 f i.toNat j.toNat w),true))))):Run (Qc5 g x (Qhv Qal fp) fi fa) ρ Q:=by
 refine⟨_,?_,q⟩
 have hj:((List.range n).map λk=>D.int (f i.toNat k))[j.toNat]? =some (.int (f i.toNat j.toNat)):=by rw[Zp,ZV (by omega)];rfl
 have hd:Qbz (QF m n f) [i]=some (Qc n (f i.toNat)):=by
  simp only[Qbz,QF,D.items,Za,QnQ h0 h]
 have hu:Qa8 [i] (QF m n f) (.lst (((List.range n).map λk=>D.int (f i.toNat k)).set j.toNat (.int w)))=QF m n (up2 f i.toNat j.toNat w):=by
  simp only[Qa8,QF,Zg,ZM,Qeq h0 h,QjH]
  rw[Qgb]
  congr 2;funext k
  unfold up2
  split
  ·rename_i e;subst e;rfl
  ·rfl
 unfold Qc5
 rw[hx]
 simp only[Qhv,Qal,Za,hp,ep,ZbL,hi,ei,hd,Qc,Zg,ZM,Qeq k0 k,hj,ha,hg,ZP]
 rw[hu]
theorem QcA{n:Nat}(h:fa ρ=some r)(e:r.d= .int n)(hn:n<=16777216):Qbk fa ρ=some ⟨(List.range n).map λ(k:Nat)=> .int (k:Int),[]⟩:=by
 unfold Qbk
 rw[h,Za,e]
 dsimp only
 rw[if_pos ⟨by omega,by omega⟩]
 simp[Qgo]
theorem Qoa{α:Type}(x:α):∀n:Nat,(List.replicate n [x]).flatten=(List.range n).map λ_=>x
 | 0=>rfl
 | n+1=>by
  rw[Zaj,Zan,Qoa x n,Zby,Zj,ZR];rfl
theorem Qg0{n:Nat}(h:fb ρ=some r)(e:r.d= .int n)(hn:n<=16777216):Qap (Qag (Qb (dC (.int z)) Qh)) fb ρ=some ⟨Qc n (λ_=>z),true,[]⟩:=by
 have h1:Qag (Qb (dC (.int z)) Qh) ρ=some ⟨.lst [.int z],true,[]⟩:=rfl
 unfold Qap
 rw[h1,Za,h,Za,e]
 dsimp only
 rw[if_pos ⟨by simp[Qeb];omega,by omega,by omega,rfl⟩]
 simp only[ZT,Qoa]
 rfl
noncomputable def Qkh:DS:=(Qe (Qt 2 (Q5 (Qav (Qa 0)) (.tp [1,2]) [none,none,none] Qab (Qa6 (Qb (Qa 1) (Qb (Qa 2) Qh))))) (Qe (Qt 3 (Q5 (Qav (Qa 0)) (.tp [1,2]) [none,none,none] Qab (Qa6 (Qb (Qa 2) (Qb (Qa 1) Qh))))) (Qe (Q2 (QO (QO (Qa 2) (Qa 3)) (dList (Qb (Qa 1) Qh)))) Qq)))
theorem Qof(ha:fa ρ=some ra)(ea:ra.d=QL A)(hb:fb ρ=some rb)(eb:rb.d=QL B)(hl:A.length+B.length<=16777216):QO fa fb ρ=some ⟨QL (A++B),true,[]⟩:=by
 unfold QO
 rw[ha,Za,hb,Za,ea,eb]
 simp only[QL,Zg,Qeb,if_pos hl,QaH]
 simp
theorem Qr5(h:fs ρ=some rs)(e:rs.ds=[QL A])(_:True=True):dList fs ρ=some ⟨QL A,true,[]⟩:=by
 unfold dList
 rw[h,Za,e]
 simp[QL,QaH]
theorem QE(h:fa ρ=some r)(q:Q r.d (r.norm.fr && decide r.norm.M.Nodup)):Run (Qe (Q2 fa) g) ρ (Rt Q):=Qah (Qn1 h q)
theorem Qrq{R L:List (Int×Int)}(hl:R.length+R.length+L.length<=16777216):Qo 4 Qkh [QL R,QL L]=some (QL (R++R.map Prod.swap++L),true):=by
 refine Qad ?_
 refine run_seq (Qj (QQ R rfl rfl λx _=>⟨[none,some (.int x.1,true),some (.int x.2,true)],rfl,⟨pairD x,true,[]⟩,rfl,rfl,rfl⟩) ?_)
 refine run_seq (Qj (QQ R rfl rfl λx _=>⟨[none,some (.int x.1,true),some (.int x.2,true)],rfl,⟨pairD x.swap,true,[]⟩,rfl,rfl,rfl⟩) ?_)
 have e1:(R.map λx=>pairD x.swap)=(R.map Prod.swap).map pairD:=by simp[ZR,Function.comp_def]
 rw[e1]
 exact QE (Qof (Qof rfl rfl rfl rfl (by simpa using(by omega:R.length+R.length<=16777216))) rfl (Qr5 rfl rfl rfl) rfl (by simpa using hl)) ⟨rfl,rfl⟩
theorem Qx(h:fs ρ=some r)(hd:den (r.ds++dfl)=some (d,true))(hl:r.ds.length+dfl.length=n):Qz n den dfl fs ρ=some ⟨d,true,[]⟩:=by
 unfold Qz
 rw[h,Za,if_pos hl,hd]
 simp
theorem QaE(h:fa ρ=some r)(e:r.d= .lst xs):Qav fa ρ=some ⟨xs,r.M⟩:=by
 unfold Qav
 rw[h,Za,e]
noncomputable def stepT(m:Nat)(f:Nat->Nat->Int)(s:Int×Int):Nat->Nat->Int:=
 let f1:=if s.1<m then up2 f s.1.toNat s.1.toNat (f s.1.toNat s.1.toNat-1)else f
 if s.1<m/\s.2<m then up2 f1 s.1.toNat s.2.toNat (f1 s.1.toNat s.2.toNat+1)else f1
noncomputable def Qf(m:Nat)(S:List (Int×Int)):Nat->Nat->Int:=S.foldl (stepT m) λ_ _=>0
noncomputable def QeM(Qdf:Den):DS:=(Qe (Qt 1 (QaL (Qr (Qa 0) (dC (.int 0))))) (Qe (Qt 2 (Q5 (Qbk (Qa 1)) (.nm 1) [none,none,some 1] Qab (Qap (Qag (Qb (dC (.int 0)) Qh)) (Qa 2)))) (Qe (Qbf (Qav (Qz 2 Qdf [] (Qb (Qr (Qa 0) (dC (.int 1))) (Qb (Qr (Qa 0) (dC (.int 2))) Qh)))) (.tp [3,4]) (Qe (sIf (QZ (dOp gLt (Qa 3) (Qa 1))) (Qe (Qc5 Qam 2 (Qhv Qal (Qa 3)) (Qa 3) (dC (.int 1))) Qq) Qq) (Qe (sIf (QjX (QZ (dOp gLt (Qa 3) (Qa 1))) (QZ (dOp gLt (Qa 4) (Qa 1)))) (Qe (Qc5 (gI λi j=>some (.int (i+j))) 2 (Qhv Qal (Qa 3)) (Qa 4) (dC (.int 1))) Qq) Qq) Qq))) (Qe (Q2 (Qa 2)) Qq))))
theorem Qs1{Qdf:Den}{m:Nat}{R L S:List (Int×Int)}(hm:m<=16777216)(hs:Qdf [QL R,QL L]=some (QL S,true))(hS:∀s∈S,0<=s.1/\0<=s.2):Qo 5 (QeM Qdf) [Qs m R L]=some (QF m m (Qf m S),true):=by
 refine Qad ?_
 refine run_seq (Qj rfl ?_)
 refine run_seq (Qj (QQ (List.range m) (QcA rfl rfl hm) rfl λx _=>⟨[none,some (.int x,true),some (.int m,true)],rfl,_,Qg0 rfl rfl hm,rfl,rfl⟩) ?_)
 refine run_seq (Qat S (λi ρ=>∃j1 j2,ρ=[some (Qs m R L,false),some (.int m,true),some (QF m m (Qf m (S.take i)),true),j1,j2]) (ir:=⟨S.map pairD,[]⟩) ?_ rfl ⟨none,none,rfl⟩ ?_ ?_)
 ·exact QaE (Qx (r:=⟨[QL R,QL L],false,[]⟩) rfl hs rfl) rfl
 ·rintro i s ρ hi ⟨j1,j2,rfl⟩
  refine⟨_,rfl,?_⟩
  obtain⟨s1,s2⟩:=hS s (ZL hi)
  refine run_seq (Run.mono (Q:=Nx λρ=>ρ=[some (Qs m R L,false),some (.int m,true),some (QF m m (if s.1<m then up2 (Qf m (S.take i)) s.1.toNat s.1.toNat (Qf m (S.take i) s.1.toNat s.1.toNat-1)else Qf m (S.take i)),true),some (.int s.1,true),some (.int s.2,true)]) ?_ ?_)
  ·refine Qaq rfl (λh=>?_) (λh=>?_)
   ·have h:=of_decide_eq_true h
    rw[if_pos h]
    exact run_seq (QlF rfl rfl rfl rfl rfl rfl s1 h s1 h rfl (Qv rfl))
   ·have h:=of_decide_eq_false h
    rw[if_neg h]
    exact Qv rfl
  ·intro o ho
   cases o with
   | nx ρ=>
    subst ho
    have fin:Qf m (S.take (i+1))=stepT m (Qf m (S.take i)) s:=by
     unfold Qf
     rw[ZbS,hi,List.foldl_append];rfl
    refine run_seq (Run.mono (Q:=Nx λρ=>ρ=[some (Qs m R L,false),some (.int m,true),some (QF m m (stepT m (Qf m (S.take i)) s),true),some (.int s.1,true),some (.int s.2,true)]) ?_ ?_)
    ·refine Qaq (b:=decide (s.1<m/\s.2<m)) ?_ (λh=>?_) (λh=>?_)
     ·by_cases h:s.1<(m:Int)
      ·simp[QjX,QZ,dOp,Qa,gLt,gI,D.tru,h]
      ·simp[QjX,QZ,dOp,Qa,gLt,gI,D.tru,h]
     ·have h:=of_decide_eq_true h
      refine run_seq (QlF rfl rfl rfl rfl rfl rfl s1 h.1 s2 h.2 rfl (Qv ?_))
      unfold stepT
      rw[if_pos h];rfl
     ·have h:=of_decide_eq_false h
      refine Qv ?_
      unfold stepT
      rw[if_neg h];rfl
    ·intro o ho
     cases o with
     | nx ρ=>
      subst ho
      exact Qv ⟨_,_,by rw[fin]⟩
     | _=>exact False.elim ho
   | _=>exact False.elim ho
 ·rintro ρ ⟨j1,j2,rfl⟩
  rw[ZbE]
  exact QE rfl ⟨rfl,rfl⟩
noncomputable def hit(i j:Nat)(s:Int×Int):Int:=(if s.1=i/\s.2=j then 1 else 0)-(if s.1=i/\i=j then 1 else 0)
theorem Qob:up2 f a b v i j=if i=a/\j=b then v else f i j:=by
 unfold up2 up
 by_cases h1:i=a
 ·by_cases h2:j=b
  ·simp[h1,h2]
  ·simp[h1,h2]
 ·simp[h1]
theorem QpP(hi:i<m)(hj:j<m)(h1:0<=s.1)(h2:0<=s.2):stepT m f s i j=f i j+hit i j s:=by
 unfold stepT hit
 have e1:(s.1=(i:Int))↔(i=s.1.toNat):=by omega
 have e2:(s.2=(j:Int))↔(j=s.2.toNat):=by omega
 simp only[e1,e2]
 by_cases c1:s.1<(m:Int)
 ·by_cases c2:s.2<(m:Int)
  ·simp only[c1,c2,and_self,if_true,Qob]
   generalize s.1.toNat=a
   generalize s.2.toNat=b
   by_cases d1:i=a
   ·subst d1
    by_cases d2:j=b
    ·subst d2
     by_cases d3:i=j
     ·subst d3;simp
     ·have d4:¬j=i:=λz=>d3 z.symm
      simp[d3,d4]
    ·by_cases d3:i=j
     ·subst d3;simp[d2];omega
     ·have d4:¬j=i:=λz=>d3 z.symm
      simp[d2,d3,d4]
   ·simp[d1]
  ·have d2:¬(j=s.2.toNat):=by omega
   simp only[c1,c2,and_false,if_false,if_true,Qob,d2]
   generalize s.1.toNat=a
   by_cases d1:i=a
   ·subst d1
    by_cases d3:i=j
    ·subst d3;simp;omega
    ·have d4:¬j=i:=λz=>d3 z.symm
     simp[d3,d4]
   ·simp[d1]
 ·have d1:¬(i=s.1.toNat):=by omega
  simp[c1,d1]
theorem QkM(hi:i<m)(hj:j<m):∀(S:List (Int×Int)) (f:Nat->Nat->Int),(∀s∈S,0<=s.1/\0<=s.2)->S.foldl (stepT m) f i j=f i j+(S.map (hit i j)).sum
 | [],f,_=>by simp
 | s::S,f,h=>by
  obtain⟨h1,h2⟩:=h s Zi
  rw[List.foldl_cons,QkM hi hj S _ (λt ht=>h t (Zc _ ht)),QpP hi hj h1 h2,Zj,ZF]
  omega
theorem Qa7(hi:i<m)(hj:j<m)(h:∀s∈S,0<=s.1/\0<=s.2):Qf m S i j=(S.map (hit i j)).sum:=by
 unfold Qf
 rw[QkM hi hj S _ h];simp
noncomputable def isI(i:Nat)(a:Int):Int:=if a=i then 1 else 0
noncomputable def Qy(R L:List (Int×Int))(i:Nat):Int:=(R.map λr=>isI i r.1+isI i r.2).sum+(L.map λl=>isI i l.1).sum
theorem sum_neg(S:List (Int×Int))(i:Nat)(h:∀s∈S,s.1≠s.2):(S.map (hit i i)).sum= -(S.map λs=>isI i s.1).sum:=by
 induction S with
 | nil=>rfl
 | cons s S ih=>
  rw[Zj,ZF,ih λt ht=>h t (Zc _ ht),Zj,ZF]
  have hn:=h s Zi
  unfold hit isI
  by_cases e:s.1=(i:Int)
  ·have:¬(s.2=(i:Int)):=λz=>hn (e.trans z.symm)
   simp[e,this];omega
  ·simp[e]
noncomputable def Qd(R L:List (Int×Int)):List (Int×Int):=R++R.map Prod.swap++L
theorem Qku(R L:List (Int×Int))(i:Nat):((Qd R L).map λs=>isI i s.1).sum=Qy R L i:=by
 unfold Qd Qy
 rw[Zaa,Zaa,Zbm,Zbm]
 have:(R.map λr=>isI i r.1+isI i r.2).sum=(R.map λs=>isI i s.1).sum+((R.map Prod.swap).map λs=>isI i s.1).sum:=by
  induction R with
  | nil=>rfl
  | cons r R ih=>simp only[Zj,ZF,ih,ZbF];omega
 omega
def Good(m:Nat)(s:Int×Int):Prop:=0<=s.1/\0<=s.2/\s.1<=m/\s.2<=m/\s.1≠s.2
theorem Qbc{m:Nat}{R L:List (Int×Int)}(hR:∀s∈R,Good m s)(hL:∀s∈L,Good m s):∀s∈Qd R L,Good m s:=λs hs=>by
 unfold Qd at hs
 rcases ZG.mp hs with hs | hs
 ·rcases ZG.mp hs with hs | hs
  ·exact hR s hs
  ·obtain⟨t,ht,rfl⟩:=ZN.mp hs
   obtain⟨h1,h2,h3,h4,h5⟩:=hR t ht
   exact⟨h2,h1,h4,h3,λz=>h5 z.symm⟩
 ·exact hL s hs
def QeG(d:Den):Prop:=∀(m:Nat) (R L:List (Int×Int)),m<=1000->R.length+R.length+L.length<=1000000->(∀s∈R,Good m s)->(∀s∈L,Good m s)->d [Qs m R L]=some (QF m m (Qf m (Qd R L)),true)
theorem QuL:QeG (Qo 5 (QeM (Qo 4 Qkh))):=λm R L hm hl hR hL=>by
 refine Qs1 (by omega) (Qrq (by omega)) λs hs=>?_
 obtain⟨h1,h2,_⟩:=Qbc hR hL s hs
 exact⟨h1,h2⟩
noncomputable def Qfc(Q7:Den):DS:=(Qe (Q2 (Q5 (QgY (Qz 1 Q7 [] (Qb (Qa 0) Qh))) (.tp [1,2]) [none,none,none] Qab (dOp Qam (dC (.int 0)) (Qr (Qa 2) (Qa 1))))) Qq)
theorem Qi7{α:Type}(m:Nat)(f:Nat->D):Qec ((List.range m).map f)=(List.range m).map λi=> .tup [.int i,f i]:=by
 apply ZaR
 intro k
 unfold Qec
 simp only[Zp,List.getElem?_zipIdx,Nat.zero_add]
 by_cases hk:k<m
 ·rw[ZV hk];rfl
 ·rw[Zz (by simp;omega)];rfl
theorem Qtx{d:Den}(hd:QeG d){m:Nat}{R L:List (Int×Int)}(hm:m<=1000)(hl:R.length+R.length+L.length<=1000000)(hR:∀s∈R,Good m s)(hL:∀s∈L,Good m s):Qo 1 (Qfc d) [Qs m R L]=some (Qc m (Qy R L),true):=by
 refine Qad ?_
 refine QE (QQ (toD:=λ(i:Nat)=> .tup [.int i,Qc m (Qf m (Qd R L) i)]) (out:=λ(i:Nat)=> .int (Qy R L i)) (ir:=⟨Qec ((List.range m).map λi=>Qc m (Qf m (Qd R L) i)),[]⟩) (List.range m) ?_ ?_ λi hi=>?_) ⟨rfl,rfl⟩
 ·unfold QgY
  rw[Qx (n:=1) (fs:=Qb (Qa 0) Qh) (ρ:=Qau 1 [Qs m R L]) (dfl:=[]) (r:=⟨[Qs m R L],false,[]⟩) rfl (hd m R L hm hl hR hL) rfl];rfl
 ·exact Qi7 (α:=Nat) m _
 ·have hi:=Zl.mp hi
  refine⟨[none,some (.int i,true),some (Qc m (Qf m (Qd R L) i),false)],rfl,⟨.int (0-Qf m (Qd R L) i i),true,[]⟩,?_,?_,rfl⟩
  ·have e:Qr (Qa 2) (Qa 1) [none,some (.int (i:Int),true),some (Qc m (Qf m (Qd R L) i),false)]=some ⟨.int (Qf m (Qd R L) i i),true,[]⟩:=by
    show((D.items (Qc m (Qf m (Qd R L) i))).bind λxs=>(atI xs (i:Int)).map λd=>(HS.R.norm ⟨d,false,[]⟩))=_
    unfold Qc
    rw[show D.items (.lst ((List.range m).map λj=>D.int (Qf m (Qd R L) i j)))=some ((List.range m).map λj=>D.int (Qf m (Qd R L) i j))from rfl,Za,Qoj (by omega) (by omega)]
    rfl
   exact QaK (rfl) e rfl
  ·have g:=Qbc hR hL
   rw[Qa7 hi hi λs hs=>⟨(g s hs).1,(g s hs).2.1⟩,sum_neg _ i λs hs=>(g s hs).2.2.2.2,Qku]
   show D.int (0- -(Qy R L i))=_
   rw[show(0:Int)- -(Qy R L i)=Qy R L i by omega]
theorem QnL(a b:Int):deq (.int a) (.int b)=decide (a=b):=by
 show PyData.eqv (.int a) (.int b)=_
 unfold PyData.eqv
 exact Bool.beq_eq_decide_eq a b
theorem QgR(ha:fa ρ=some ra)(ea:ra.d= .int a)(hb:fb ρ=some rb)(eb:rb.d= .int b):dOp gEq fa fb ρ=some ⟨.bl (decide (a=b)),true,[]⟩:=by
 refine QaK ha hb ?_
 rw[ea,eb]
 show some (D.bl (deq (.int a) (.int b)))=_
 rw[QnL]
theorem Qfy(ha:fa ρ=some ra)(ea:ra.d= .int a)(hb:fb ρ=some rb)(eb:rb.d= .int b):dOp gNe fa fb ρ=some ⟨.bl (!decide (a=b)),true,[]⟩:=by
 refine QaK ha hb ?_
 rw[ea,eb]
 show some (D.bl (!deq (.int a) (.int b)))=_
 rw[QnL]
theorem Q1(ha:fa ρ=some r)(e:r.d= .bl b):QZ fa ρ=some b:=by
 unfold QZ
 rw[ha,Za,e];rfl
theorem Qet(h:g ρ=some b):Qd6 g ρ=some (!b):=by unfold Qd6;rw[h];rfl
theorem QcB(ha:g1 ρ=some a)(hb:g2 ρ=some b):bOr g1 g2 ρ=some (a || b):=by
 unfold bOr;rw[ha];cases a<;>simp[hb]
theorem QaD(ha:fa ρ=some ra)(ea:ra.d= .int a)(hb:fb ρ=some rb)(eb:rb.d= .int b)(h:Qdy a b=true):Qap fa fb ρ=some ⟨.int (a*b),true,[]⟩:=by
 unfold Qap
 rw[ha,Za,hb,Za,ea,eb]
 simp[h]
theorem Q4(ha:fa ρ=some ra)(ea:ra.d= .int a)(hb:fb ρ=some rb)(eb:rb.d= .int b):QO fa fb ρ=some ⟨.int (a+b),true,[]⟩:=by
 unfold QO
 rw[ha,Za,hb,Za,ea,eb]
theorem QaY(ha:fa ρ=some ra)(ea:ra.d= .int a)(hb:fb ρ=some rb)(eb:rb.d= .int b)(h:0<b):dOp Qbb fa fb ρ=some ⟨.int (a % b),true,[]⟩:=by
 refine QaK ha hb ?_
 rw[ea,eb]
 show(if b≠0 then some (D.int (Qck a b))else none)=_
 rw[if_pos (by omega),Qmy _ _ (by omega)]
theorem Qcs(h:fa ρ=some r):QaL fa ρ=some ⟨r.d,false,r.M⟩:=by unfold QaL;rw[h];rfl
theorem QcI{fa fb:DE}{ρ:En}{ra rb:R}{m:Nat}{f:Nat->Int}{i:Int}(ha:fa ρ=some ra)(ea:ra.d=Qc m f)(hb:fb ρ=some rb)(eb:rb.d= .int i)(h0:0<=i)(h:i<m):Qr fa fb ρ=some ⟨.int (f i.toNat),true,[]⟩:=by
 unfold Qr
 rw[ha,Za,hb,Za,ea,eb]
 simp only[Qc,D.items,Za,Qoj h0 h,ZP]
 rfl
theorem Qbp{fa fb:DE}{ρ:En}{ra rb:R}{ns:List Int}{i:Int}{v:Int}(ha:fa ρ=some ra)(ea:ra.d= .lst (ns.map .int))(hb:fb ρ=some rb)(eb:rb.d= .int i)(h0:0<=i)(h:ns[i.toNat]? =some v):Qr fa fb ρ=some ⟨.int v,true,[]⟩:=by
 have hl:i<ns.length:=by have:=(Zd.mp h).1;omega
 unfold Qr
 rw[ha,Za,hb,Za,ea,eb]
 simp only[D.items,Za]
 rw[Qfm h0 (by simpa using hl),Zp,h]
 rfl
theorem Qin(h:fs ρ=some r)(hd:den (r.ds++dfl)=some (d,fr))(hl:r.ds.length+dfl.length=n):Qz n den dfl fs ρ=some (if fr=true then⟨d,true,[]⟩else HS.R.norm ⟨d,false,r.M⟩):=by
 unfold Qz
 rw[h,Za,if_pos hl,hd]
 rfl
theorem QkQ(h:d.flat=false):asg i (if fr=true then⟨d,true,[]⟩else HS.R.norm ⟨d,false,[]⟩) ρ=ρ.set i (some (d,fr)):=by
 cases fr
 ·simp[HS.R.norm,h,asg,Qa9]
 ·simp
noncomputable def QsE(t k:Int):Int:=(t+17)*(k*k+7*k+11)*69621 % 2147483647
noncomputable def QzB(m t k:Int):Int:=if QsE t k % (k+1)<k then(QsE t k % (k+1)+t) % m else m
noncomputable def QzD(m t kind:Int)(k:Int):Int×Int×Bool:=((k+t) % m,QzB m t k,decide (kind=2) || (decide (kind=3) && decide (QsE t k / 64 % 2=1)))
noncomputable def Qyx(m:Nat)(t kind:Int):List (Int×Int×Bool):=(List.range m).map λ(k:Nat)=>QzD m t kind k
def GoodW(m:Nat)(w:Int×Int×Bool):Prop:=Good m (w.1,w.2.1)/\(w.2.2=true->w.1<m)
noncomputable def Qx3(W:List (Int×Int×Bool)):D:= .lst (W.map Qtt)
@[simp] theorem Qyc(W:List (Int×Int×Bool)):(Qx3 W).flat=false:=rfl
theorem QvP{a x n:Int}(h1:0<x)(h2:x<n):(a+x) % n≠a % n:=λh=>by
 have h3:(a+x-a) % n=0:=Int.emod_eq_emod_iff_emod_sub_eq_zero.mp h
 rw[show a+x-a=x by omega,Int.emod_eq_of_lt (by omega) h2]at h3
 omega
theorem Qvz(hx:ρ[x]? =some (some (.lst xs,true)))(ha:fa ρ=some r)(hf:r.d.flat=true)(hl:xs.length<16777216)(q:Q (.nx (ρ.set x (some (.lst (xs++[r.d]),true))))):Run (QfL x Qal fa) ρ Q:=by
 refine⟨_,?_,q⟩
 have hn:r.norm=⟨r.d,true,[]⟩:=by unfold HS.R.norm;rw[if_pos hf]
 unfold QfL
 rw[hx]
 simp only[Qal,Za,ha,Qbz,Qli,hn,Qa8,kill,Qeb]
 simp[hl]
theorem Qn7{x y m:Nat}{f:Nat->Int}{ρ:En}{i:Int}{b:Bool}{Q:Out->Prop}(hx:ρ[x]? =some (some (Qc m f,true)))(hy:ρ[y]? =some (some (.int i,b)))(h0:0<=i)(h:i<m)
  (q:Q (.nx (ρ.set x (some (Qc m (up f i.toNat (f i.toNat+1)),true))))):Run (Qcp x Qal (Qa y) (QO (Qr (Qa x) (Qa y)) (dC (.int 1)))) ρ Q:=by
 have e1:Qa y ρ=some ⟨.int i,true,[]⟩:=QxK hy
 have e2:=QcE hx
 exact QfK hx e1 rfl (Q4 (QcI e2 (by simp) e1 rfl h0 h) rfl (Qpc (.int 1) _) rfl) rfl h0 h q
theorem Run.nx(h:Run f ρ (Nx Q))(m:∀ρ,Q ρ->Q' ρ):Run f ρ (Nx Q'):=h.mono λo ho=>by
 cases o with
 | nx ρ=>exact m ρ ho
 | _=>exact ho.elim
theorem QaA(h:Run f ρ (Nx P))(k:∀ρ',P ρ'->Run g ρ' Q):Run (Qe f g) ρ Q:=run_seq (h.nx k)
noncomputable def Qb2(w:Int×Int×Bool):Int×Int:=(if w.2.1<w.1 then w.2.1 else w.1,if w.2.1>w.1 then w.2.1 else w.1)
noncomputable def Qbg(w:Int×Int×Bool):Int×Int:=(w.1,w.2.1)
noncomputable def Qdi(W:List (Int×Int×Bool)):List (Int×Int):=(W.filter λw=> !w.2.2).map Qb2
noncomputable def QdA(W:List (Int×Int×Bool)):List (Int×Int):=(W.filter λw=>w.2.2).map Qbg
theorem QfW{m:Nat}{W:List (Int×Int×Bool)}(h:∀w∈W,GoodW m w):∀s∈Qdi W,Good m s/\s.1<s.2:=λs hs=>by
 obtain⟨w,hw,rfl⟩:=ZN.mp hs
 obtain⟨⟨h1,h2,h3,h4,h5⟩,_⟩:=h w (ZE.mp hw).1
 simp only at h1 h2 h3 h4 h5
 unfold Qb2 Good
 simp only
 split<;>split<;>omega
theorem QfS{m:Nat}{W:List (Int×Int×Bool)}(h:∀w∈W,GoodW m w):∀s∈QdA W,Good m s/\s.1<m:=λs hs=>by
 obtain⟨w,hw,rfl⟩:=ZN.mp hs
 obtain⟨h1,h2⟩:=h w (ZE.mp hw).1
 exact⟨h1,h2 (by simpa using(ZE.mp hw).2)⟩
theorem QkC(W:List (Int×Int×Bool)):(Qdi W).length<=W.length:=by unfold Qdi;rw[Zg];exact Zbb _ _
theorem Qky(W:List (Int×Int×Bool)):(QdA W).length<=W.length:=by unfold QdA;rw[Zg];exact Zbb _ _
structure Qxb (m:Nat) (t kind:Int) (R L:List (Int×Int)):Prop where
 ex:∃W,(∀w∈Qyx m t kind,w∈W)/\(∀w∈W,GoodW m w)/\W.length<=100/\R=Qdi W/\L=QdA W
theorem Qxb.good{m:Nat}{t kind:Int}{R L:List (Int×Int)}(h:Qxb m t kind R L):(∀s∈R,Good m s)/\(∀s∈L,Good m s)/\R.length<=100/\L.length<=100:=by
 obtain⟨W,_,h2,h3,rfl,rfl⟩:=h.ex
 exact⟨λs hs=>(QfW h2 s hs).1,λs hs=>(QfS h2 s hs).1,Zx (QkC W) h3,Zx (Qky W) h3⟩
theorem Qdn:up f i v k=if k=i then v else f k:=rfl
theorem QbH{fa:DE}{ρ:En}{r:R}{m:Int}{R L:List (Int×Int)}(h:fa ρ=some r)(e:r.d=Qs m R L):
  Qr fa (dC (.int 0)) ρ=some ⟨.int m,true,[]⟩/\Qr fa (dC (.int 1)) ρ=some ⟨QL R,r.fr,r.M⟩/\Qr fa (dC (.int 2)) ρ=some ⟨QL L,r.fr,r.M⟩:=by
 unfold Qr
 rw[h]
 simp only[Za,e,Qpc]
 exact⟨rfl,rfl,rfl⟩
theorem QmX{α:Type}{g:α->Int}{xs:List α}{i:Nat}{x:α}(h:xs[i]? =some x):((xs.take (i+1)).map g).sum=((xs.take i).map g).sum+g x:=by
 rw[ZbS,h,Zaa,Zbm];simp
def Qji(d:Den):Prop:=∀ns:List Int,d [.lst (ns.map .int),.lst (ns.map .int)]=some (.bl true,true)
theorem Qsg(ns:List Int):Qdx (ns.map D.int) (ns.map D.int)=ns.map λn=> .tup [.int n,.int n]:=by
 induction ns with
 | nil=>rfl
 | cons n ns ih=>unfold Qdx at ih ⊢;simp only[Zj,List.zip_cons_cons,ih]
theorem Qct(h:fa ρ=some r)(e:r.d= .lst xs):dBf QaS (Qb fa Qh) ρ=some ⟨.int xs.length,true,[]⟩:=by
 unfold dBf
 rw[Qu h (Q3 _),Za]
 simp[e,QaS]
theorem Qlw(h:Qji d)(m:Nat)(f:Nat->Int):d [Qc m f,Qc m f]=some (.bl true,true):=by
 have:=h ((List.range m).map f)
 rw[ZR]at this
 exact this
theorem QmD(ha:fa ρ=some ra)(ea:ra.d=d)(hb:fb ρ=some rb)(eb:rb.d=d)(hs:d.sim 8=true):dOp gNe fa fb ρ=some ⟨.bl false,true,[]⟩:=by
 refine QaK ha hb ?_
 rw[ea,eb]
 unfold gNe
 rw[hs,QrM hs];rfl
def Qgv(d:Den):Prop:=∀(m:Nat) (R L:List (Int×Int)),m<=1000->R.length+R.length+L.length<=1000000->(∀s∈R,Good m s)->(∀s∈L,Good m s)->d [Qs m R L]=some (Qc m (Qy R L),true)
theorem Qul(h:QeG d):Qgv (Qo 1 (Qfc d)):=λm R L h1 h2 h3 h4=>Qtx h h1 h2 h3 h4
theorem Qkp(h:0<b)(h2:b<2^200):QbA b=true:=by
 unfold QbA
 have h3:b.natAbs<2^8000:=ZA (by omega:b.natAbs<2^200) (ZJ (by decide) (by decide))
 simp only[Zk,decide_eq_true_eq]
 exact⟨by omega,h3⟩
theorem Qfw(ha:fa ρ=some ra)(ea:ra.d= .int a)(hb:fb ρ=some rb)(eb:rb.d= .int b)(h:0<b)(h2:b<2^200)
  (q:Q (.nx ((ρ.set i (some (.int (a / b),true))).set j (some (.int (a % b),true))))):Run (Qdp (.tp [i,j]) (dDm (Qb fa (Qb fb Qh)))) ρ Q:=by
 have e:dDm (Qb fa (Qb fb Qh)) ρ=some ⟨.tup [.int (a / b),.int (a % b)],true,[]⟩:=by
  unfold dDm
  rw[Qu ha (Qu hb (Q3 _)),Za]
  simp only[ea,eb]
  rw[if_pos (Qkp h h2),Qit _ _ (by omega),Qmy _ _ (by omega)]
 refine⟨_,?_,q⟩
 unfold Qdp
 rw[e]
 rfl
theorem Qzd(xs:List D):deq (.lst xs) (.lst [])=xs.isEmpty:=by cases xs<;>rfl
theorem Qzq(n:Nat)(ns:List Int):(Qm ns).sim (n+1)=true:=by
 unfold Qm
 simp only[D.sim,List.all_map,Zav]
 intro p _
 cases n<;>rfl
theorem QmZ{fa:DE}{ρ:En}{r:R}{ns:List Int}(ha:fa ρ=some r)(e:r.d= .lst (ns.map .int)):QZ (dOp gNe fa (Qag Qh)) ρ=some (!ns.isEmpty):=by
 refine Q1 (QaK ha rfl ?_) rfl
 rw[e]
 unfold gNe
 have:(D.lst (ns.map .int)).sim 8=true:=Qzq 7 ns
 rw[this]
 show some (D.bl (!deq (.lst (ns.map .int)) (.lst [])))=_
 rw[Qzd];simp
theorem Qp3(ha:fa ρ=some ra)(ea:ra.d= .int a)(hb:fb ρ=some rb)(eb:rb.d= .int b)(h:0<=b/\b<=1000/\a.natAbs<2^200):dOp Qex fa fb ρ=some ⟨.int (a^b.toNat),true,[]⟩:=by
 refine QaK ha hb ?_
 rw[ea,eb]
 show(if 0<=b/\b<=1000/\a.natAbs<2^200 then some (D.int (a^b.toNat))else none)=_
 rw[if_pos h]
theorem Qms(hx:ρ[x]? =some (some (Qm A,true)))(ha:fa ρ=some r)(hf:r.d= .int n)(hl:A.length<16777216)(q:Q (.nx (ρ.set x (some (Qm (A++[n]),true))))):Run (QfL x Qal fa) ρ Q:=by
 refine Qvz hx ha (by rw[hf];rfl) (by simpa using hl) ?_
 rw[hf]
 unfold Qm at q
 rw[Zaa]at q
 exact q
noncomputable abbrev B40:Int:=10000000000000000000000000000000000000000
noncomputable def QeD:DS:=(Qe (Qt 2 (dOp Qex (dC (.int 10)) (dC (.int 40)))) (Qe (Qt 3 (dC (.int 0))) (Qe (sIf (QZ (dOp gNe (Qa 0) (Qag Qh))) (Qe (Qt 3 (QaL (Qr (Qa 0) (dC (.int 0))))) Qq) Qq) (Qe (Qt 4 (Qag Qh)) (Qe (Qbf (Qbk (Qa 1)) (.nm 5) (Qe (Qdp (.tp [3,6]) (dDm (Qb (Qa 3) (Qb (Qa 2) Qh)))) (Qe (QfL 4 Qal (Qa 6)) Qq))) (Qe (sIf (QZ (dOp gGt (Qa 3) (dC (.int 0)))) (Qe (Q2 (Qa 4)) Qq) Qq) (Qe (Qt 7 (Qag Qh)) (Qe (Qbf (Qbk (Qa 1)) (.nm 5) (Qe (Qt 8 (dC (.int 7919))) (Qe (sIf (QZ (dOp gNe (Qa 0) (Qag Qh))) (Qe (Qt 8 (QaL (Qr (Qa 0) (dOp Qbb (Qa 5) (dBf QaS (Qb (Qa 0) Qh)))))) Qq) Qq) (Qe (Qt 8 (dOp Qbb (Qap (QO (QO (QO (Qa 8) (Qap (Qap (Qa 5) (Qa 5)) (dC (.int 7919)))) (Qap (Qa 5) (dC (.int 104729)))) (dC (.int 31))) (dC (.int 48271))) (dC (.int 2147483647)))) (Qe (Qt 8 (dOp Qbb (Qap (dOp Qbb (Qap (Qa 8) (Qa 8)) (dC (.int 2147483629))) (QO (Qap (dC (.int 2)) (Qa 5)) (dC (.int 69621)))) (dC (.int 2147483587)))) (Qe (QfL 7 Qal (dOp Qbb (Qap (Qa 8) (dOp Qex (dC (.int 618970019642690137449562111)) (dC (.int 2)))) (Qa 2))) Qq)))))) (Qe (Q2 (Qa 7)) Qq)))))))))
def CellsOk(d:Den):Prop:=∀(ns:List Int) (n:Nat),ns.length<=63->n<=200->∃cs:List Int,d [.lst (ns.map .int),.int n]=some (Qm cs,true)/\cs.length=n/\∀c∈cs,0<=c/\c<B40
theorem QsO:CellsOk (Qo 9 QeD):=λns n hl hn=>by
 have key:Run QeD (Qau 9 [.lst (ns.map .int),.int n]) (Rt λd fr=>∃cs:List Int,d=Qm cs/\fr=true/\cs.length=n/\∀c∈cs,0<=c/\c<B40):=by
  refine run_seq (Qj (r:=⟨.int B40,true,[]⟩) ?_ ?_)
  ·exact Qp3 (a:=10) (b:=40) rfl rfl rfl rfl (by decide)
  rw[Qn]
  refine run_seq (Qj (r:=⟨.int 0,true,[]⟩) rfl ?_)
  rw[Qn]
  refine QaA (P:=λρ=>∃z:Int,ρ=[some (.lst (ns.map .int),false),some (.int n,true),some (.int B40,true),some (.int z,true),none,none,none,none,none]) ?_ ?_
  ·refine Qaq (QmZ (ns:=ns) (r:=⟨.lst (ns.map .int),false,[]⟩) rfl rfl) (λh=>?_) (λ_=>Qv ⟨0,rfl⟩)
   cases ns with
   | nil=>cases h
   | cons a r=>exact run_seq (Qj (Qcs (Qbp rfl rfl rfl rfl (by decide) rfl)) (Qv ⟨a,by rw[Qbw rfl];rfl⟩))
  rintro ρ ⟨z,rfl⟩
  refine run_seq (Qj rfl ?_)
  rw[Qn]
  refine QaA (P:=λρ=>∃(z:Int) (cs:List Int) (j5 j6:Option (D×Bool)),cs.length=n/\(∀c∈cs,0<=c/\c<B40)/\ρ=[some (.lst (ns.map .int),false),some (.int n,true),some (.int B40,true),some (.int z,true),some (Qm cs,true),j5,j6,none,none]) ?_ ?_
  ·refine Qat (List.range n) (λi ρ=>∃(z:Int) (cs:List Int) (j5 j6:Option (D×Bool)),cs.length=i/\(∀c∈cs,0<=c/\c<B40)/\ρ=[some (.lst (ns.map .int),false),some (.int n,true),some (.int B40,true),some (.int z,true),some (Qm cs,true),j5,j6,none,none]) (QcA rfl rfl (by omega)) rfl ⟨z,[],none,none,rfl,by simp,rfl⟩ ?_ ?_
   ·rintro i k ρ hi ⟨z,cs,j5,j6,h1,h2,rfl⟩
    have hin:i<n:=by have:=(Zd.mp hi).1;simpa using this
    refine⟨_,rfl,?_⟩
    refine run_seq (Qfw rfl rfl rfl rfl (by decide) (by decide) ?_)
    refine run_seq (Qms rfl rfl rfl (by omega) (Qv ⟨z / B40,cs++[z % B40],_,_,by simp[h1],λc hc=>?_,rfl⟩))
    rcases ZG.mp hc with hc | hc
    ·exact h2 c hc
    ·rw[Zv.mp hc];exact⟨ZH _ (by decide),ZC _ (by decide)⟩
   ·rintro ρ ⟨z,cs,j5,j6,h1,h2,rfl⟩
    exact⟨z,cs,j5,j6,by simpa using h1,h2,rfl⟩
  rintro ρ ⟨z,cs,j5,j6,h1,h2,rfl⟩
  refine Qah (Qaq (Q1 rfl rfl) (λ_=>QE (Q:=λd fr=>∃cs:List Int,d=Qm cs/\fr=true/\cs.length=n/\∀c∈cs,0<=c/\c<B40) rfl ⟨cs,rfl,rfl,h1,h2⟩ |> λh=>h.mono λo ho=>by cases o<;>first | exact ho | exact ho.elim) (λ_=>Qv ?_))
  refine run_seq (Qj rfl ?_)
  rw[Qn]
  refine QaA (P:=λρ=>∃(cs':List Int) (j5 j8:Option (D×Bool)),cs'.length=n/\(∀c∈cs',0<=c/\c<B40)/\ρ=[some (.lst (ns.map .int),false),some (.int n,true),some (.int B40,true),some (.int z,true),some (Qm cs,true),j5,j6,some (Qm cs',true),j8]) ?_ ?_
  ·refine Qat (List.range n) (λi ρ=>∃(cs':List Int) (j5 j8:Option (D×Bool)),cs'.length=i/\(∀c∈cs',0<=c/\c<B40)/\ρ=[some (.lst (ns.map .int),false),some (.int n,true),some (.int B40,true),some (.int z,true),some (Qm cs,true),j5,j6,some (Qm cs',true),j8]) (QcA rfl rfl (by omega)) rfl ⟨[],_,none,rfl,by simp,rfl⟩ ?_ ?_
   ·rintro i k ρ hi ⟨cs',j5,j8,h3,h4,rfl⟩
    have hin:i<n:=by have:=(Zd.mp hi).1;simpa using this
    have hk:k<n:=by have:=ZL hi;simpa using this
    refine⟨_,rfl,?_⟩
    refine run_seq (Qj rfl ?_)
    rw[Qn]
    refine QaA (P:=λρ=>∃y:Int,ρ=[some (.lst (ns.map .int),false),some (.int n,true),some (.int B40,true),some (.int z,true),some (Qm cs,true),some (.int k,true),j6,some (Qm cs',true),some (.int y,true)]) ?_ ?_
    ·refine Qaq (QmZ rfl rfl) (λh=>?_) (λ_=>Qv ⟨7919,rfl⟩)
     have hne:0<ns.length:=by cases ns with
      | nil=>cases h
      | cons a r=>simp
     have m1:=ZH (k:Int) (by omega:(ns.length:Int)≠0)
     have m2:=ZC (k:Int) (by omega:(0:Int)<ns.length)
     have hg:ns[((k:Int) % ns.length).toNat]? =some (ns[((k:Int) % ns.length).toNat]'(by omega)):=ZQ _
     have elen:dBf QaS (Qb (Qa 0) Qh) [some (.lst (ns.map .int),false),some (.int n,true),some (.int B40,true),some (.int z,true),some (Qm cs,true),some (.int k,true),j6,some (Qm cs',true),some (.int 7919,true)]=some ⟨.int ns.length,true,[]⟩:=by
      rw[Qct rfl rfl,Zg]
     exact run_seq (Qj (Qcs (Qbp rfl rfl (QaY rfl rfl elen rfl (by omega)) rfl m1 hg)) (Qv ⟨_,by rw[Qbw rfl];rfl⟩))
    rintro ρ ⟨y,rfl⟩
    refine run_seq (Qj (QaY (QaD (Q4 (Q4 (Q4 rfl rfl (QaD (QaD rfl rfl rfl rfl (Qcb (by omega))) rfl rfl rfl (Qeh (by decide))) rfl) rfl (QaD rfl rfl rfl rfl (Qeh (by decide))) rfl) rfl rfl rfl) rfl rfl rfl (Qeh (by decide))) rfl rfl rfl (by decide)) ?_)
    rw[Qn]
    generalize ew:(y+(k:Int)*k*7919+(k:Int)*104729+31)*48271 % 2147483647=w
    have w1:0<=w:=by rw[← ew];exact ZH _ (by decide)
    have w2:w<2147483647:=by rw[← ew];exact ZC _ (by decide)
    refine run_seq (Qj (QaY (QaD (QaY (QaD rfl rfl rfl rfl (Qcb (by omega))) rfl rfl rfl (by decide)) rfl (Q4 (QaD rfl rfl rfl rfl (Qcb (by decide))) rfl rfl rfl) rfl (Qeh (by omega))) rfl rfl rfl (by decide)) ?_)
    rw[Qn]
    generalize eu:w*w % 2147483629*(2*(k:Int)+69621) % 2147483587=u
    have u1:0<=u:=by rw[← eu];exact ZH _ (by decide)
    have u2:u<2147483587:=by rw[← eu];exact ZC _ (by decide)
    have epow:dOp Qex (dC (.int 618970019642690137449562111)) (dC (.int 2)) [some (.lst (ns.map .int),false),some (.int n,true),some (.int B40,true),some (.int z,true),some (Qm cs,true),some (.int k,true),j6,some (Qm cs',true),some (.int u,true)]=some ⟨.int (618970019642690137449562111^2),true,[]⟩:=Qp3 (b:=2) rfl rfl rfl rfl (by decide)
    refine run_seq (Qms rfl (QaY (QaD rfl rfl epow rfl (Qcb (by omega))) rfl rfl rfl (by decide)) rfl (by omega) (Qv ⟨_,_,_,?_,λc hc=>?_,rfl⟩))
    ·simp[h3]
    ·rcases ZG.mp hc with hc | hc
     ·exact h4 c hc
     ·rw[Zv.mp hc];exact⟨ZH _ (by decide),ZC _ (by decide)⟩
   ·rintro ρ ⟨cs',j5,j8,h3,h4,rfl⟩
    exact⟨cs',j5,j8,by simpa using h3,h4,rfl⟩
  rintro ρ ⟨cs',j5,j8,h3,h4,rfl⟩
  exact QE rfl ⟨cs',rfl,rfl,h3,h4⟩
 obtain⟨o,h1,h2⟩:=key
 cases o with
 | rt d fr=>
  obtain⟨cs,rfl,rfl,h3,h4⟩:=h2
  exact⟨cs,by unfold Qo;rw[h1];rfl,h3,h4⟩
 | _=>exact h2.elim
theorem Qol{α β:Type}(f:α->β)(xs:List α)(k:Nat)(y:α):(Qaj xs k y).map f=Qaj (xs.map f) k (f y):=by
 unfold Qaj;simp[List.map_take,List.map_drop]
theorem Qfl{α:Type}{xs:List α}{k:Nat}{y z:α}:z∈Qaj xs k y↔z=y∨z∈xs:=by
 unfold Qaj
 rw[ZG,Zq]
 constructor
 ·rintro(h | h | h)
  ·exact .inr (List.mem_of_mem_take h)
  ·exact .inl h
  ·exact .inr (List.mem_of_mem_drop h)
 ·rintro(h | h)
  ·exact .inr (.inl h)
  ·rw[← ZaO k xs,ZG]at h
   rcases h with h | h
   ·exact .inl h
   ·exact .inr (.inr h)
theorem Qoe{α:Type}(xs:List α)(k:Nat)(y:α):(Qaj xs k y).length=xs.length+1:=by
 unfold Qaj;rw[Zu,ZI,Zau,ZaC];omega
theorem QkF{α β:Type}(f:α->β):∀(l:List α) (k:Nat),(l.map f).eraseIdx k=(l.eraseIdx k).map f
 | [],_=>rfl
 | _::_,0=>rfl
 | a::l,k+1=>by simp only[Zj,ZaI,QkF f l k]
theorem QiS{α:Type}:∀(l:List α) (k:Nat) (b:α),l[k]? =some b->(b::l.eraseIdx k).Perm l
 | [],_,_,h=>by simp at h
 | a::l,0,b,h=>by simp at h;subst h;exact .refl _
 | a::l,k+1,b,h=>by
  have:=QiS l k b (by simpa using h)
  simp only[ZaI]
  exact(List.Perm.swap a b _).trans (this.cons a)
theorem QoF{x y:Nat}{fi:DE}{ρ:En}{ri:R}{A B:List Int}{i b:Int}{Q:Out->Prop}(hx:ρ[x]? =some (some (Qm A,true)))(hy:ρ[y]? =some (some (Qm B,true)))(hi:fi ρ=some ri)(ei:ri.d= .int i)(hxy:x≠y)(h0:0<=i)(h1:i<2^62)(hb:B[i.toNat]? =some b)(hl:A.length<16777216)
  (q:Q (.nx ((ρ.set y (some (Qm (B.eraseIdx i.toNat),true))).set x (some (Qm (A++[b]),true))))):Run (Qej x y fi) ρ Q:=by
 refine⟨_,?_,q⟩
 unfold Qej
 rw[hx,hy]
 simp only[Qm,Za,hi,ei,Zg,Qeb]
 rw[if_pos ⟨hxy,Qi0 B,h0,h1,hl⟩,Zp,hb]
 simp only[ZP,Zaa]
 rw[QkF]
 rfl
def Esc(m:Nat)(W:List (Int×Int×Bool)):Prop:=∀A:Nat->Prop,(∃p,p<m/\A p)->∃w∈W,w.1<m/\A w.1.toNat/\(w.2.1=m∨¬A w.2.1.toNat)
theorem Esc.mono{m:Nat}{W W':List (Int×Int×Bool)}(h:Esc m W)(s:∀w∈W,w∈W'):Esc m W':=λA hA=>let ⟨w,hw,r⟩:=h A hA;⟨w,s w hw,r⟩
def Qgi(m:Nat)(O:List Int)(w:Int×Int×Bool)(j:Nat):Prop:=O[j]? =some w.1/\(w.2.1=m∨∃i,i<j/\O[i]? =some w.2.1)
theorem Qgi.app{m:Nat}{O O':List Int}{w:Int×Int×Bool}{j:Nat}(h:Qgi m O w j):Qgi m (O++O') w j:=by
 obtain⟨h1,h2⟩:=h
 have hj:j<O.length:=(Zd.mp h1).1
 refine⟨by rw[Zal hj];exact h1,?_⟩
 rcases h2 with h2 | ⟨i,hi,h2⟩
 ·exact .inl h2
 ·exact .inr ⟨i,hi,by rw[Zal (by omega)];exact h2⟩
theorem QxG{m:Nat}{O:List Int}{W:List (Int×Int×Bool)}(hp:O.Perm ((List.range m).map λ(k:Nat)=>(k:Int)))(hW:∀j,j<m->∃w∈W,Qgi m O w j):Esc m W:=λA hpt=>by
 obtain⟨p,hp1,hp2⟩:=hpt
 have hl:O.length=m:=by rw[hp.length_eq];simp
 have nd:O.Nodup:=hp.nodup_iff.mpr (by
  rw[ZbP,List.pairwise_map]
  exact List.Pairwise.imp (λh z=>h (by omega)) ZaT)
 have mem:∀x∈O,0<=x/\x<m:=λx hx=>by
  obtain⟨k,hk,rfl⟩:=ZN.mp (hp.mem_iff.mp hx)
  have:=Zl.mp hk
  omega
 have ex:∃(j:Nat) (x:Int),O[j]? =some x/\A x.toNat:=by
  have:(p:Int)∈O:=hp.mem_iff.mpr (ZN.mpr ⟨p,Zl.mpr hp1,rfl⟩)
  obtain⟨j,hj⟩:=List.getElem?_of_mem this
  exact⟨j,_,hj,by simpa using hp2⟩
 have least:∃(j:Nat),(∃x:Int,O[j]? =some x/\A x.toNat)/\∀i:Nat,i<j->¬ ∃x:Int,O[i]? =some x/\A x.toNat:=by
  obtain⟨j,hj⟩:=ex
  induction j using Nat.strongRecOn with
  | _ j ih=>
   by_cases h:∃i:Nat,i<j/\∃x:Int,O[i]? =some x/\A x.toNat
   ·obtain⟨i,hi,h⟩:=h;exact ih i hi h
   ·exact⟨j,hj,λi hi hx=>h ⟨i,hi,hx⟩⟩
 obtain⟨j,⟨x,hx,hA⟩,hmin⟩:=least
 have hj:j<m:=by rw[← hl];exact(Zd.mp hx).1
 obtain⟨w,hw,h1,h2⟩:=hW j hj
 rw[hx]at h1
 cases h1
 refine⟨w,hw,(mem _ (ZL hx)).2,hA,?_⟩
 rcases h2 with h2 | ⟨i,hi,h2⟩
 ·exact .inl h2
 ·exact .inr λhA'=>hmin i hi ⟨_,h2,hA'⟩
theorem Qq4{m:Nat}{O:List Int}{w:Int×Int×Bool}{j:Nat}(nd:O.Nodup)(mem:∀x∈O,0<=x/\x<m)(h:Qgi m O w j):GoodW m w:=by
 obtain⟨h1,h2⟩:=h
 have a:=mem _ (ZL h1)
 refine⟨⟨a.1,?_,by dsimp only;omega,?_,?_⟩,λ_=>a.2⟩
 ·rcases h2 with h2 | ⟨i,hi,h2⟩
  ·dsimp only;omega
  ·exact(mem _ (ZL h2)).1
 ·rcases h2 with h2 | ⟨i,hi,h2⟩
  ·dsimp only;omega
  ·have:=mem _ (ZL h2);dsimp only;omega
 ·rcases h2 with h2 | ⟨i,hi,h2⟩
  ·dsimp only;omega
  ·dsimp only
   intro z
   rw[z,← h2]at h1
   have hil:i<O.length:=(Zd.mp h2).1
   have hjl:j<O.length:=by
    by_cases q:j<O.length
    ·exact q
    ·rw[Zz (by omega),h2]at h1;cases h1
   have:=(List.getElem?_inj hjl nd).mp h1
   omega
theorem QsN{m:Nat}{a s:Int}{ln:Bool}(h0:0<=a)(h1:a<=m)(hs:0<=s)(hs2:s<m)(hl:ln=true->a<m):GoodW m (a,(a+1+s) % (m+1),ln):=by
 have h5:=ZH (a+1+s) (by omega:(m:Int)+1≠0)
 have h6:=ZC (a+1+s) (by omega:(0:Int)<m+1)
 have h7:=QvP (a:=a) (x:=1+s) (n:=(m:Int)+1) (by omega) (by omega)
 rw[← Zcs,show a % ((m:Int)+1)=a from Int.emod_eq_of_lt h0 (by omega)]at h7
 exact⟨⟨h0,h5,h1,by dsimp only;omega,λz=>h7 z.symm⟩,hl⟩
noncomputable def Qi(m:Nat)(g:Nat->Int):Int:=((List.range m).map g).sum
theorem QT(m:Nat)(g:Nat->Int):Qi (m+1) g=Qi m g+g m:=by
 unfold Qi;rw[Zcl,Zaa,Zbm];simp
theorem Qp(h:∀i,i<m->f i=g i):Qi m f=Qi m g:=by
 unfold Qi;rw[Zs λi hi=>h i (Zl.mp hi)]
theorem QJ(m:Nat)(f g:Nat->Int):Qi m (λi=>f i+g i)=Qi m f+Qi m g:=by
 induction m with
 | zero=>rfl
 | succ m ih=>rw[QT,QT,QT,ih];omega
theorem Qaz(m:Nat)(f:Nat->Int):Qi m (λi=> -f i)= -Qi m f:=by
 induction m with
 | zero=>rfl
 | succ m ih=>rw[QT,QT,ih];omega
theorem Q0(m:Nat):Qi m (λ_=>0)=0:=by
 induction m with
 | zero=>rfl
 | succ m ih=>rw[QT,ih];rfl
theorem Qdc(m:Nat)(c:Int)(f:Nat->Int):Qi m (λi=>c*f i)=c*Qi m f:=by
 induction m with
 | zero=>simp[Qi]
 | succ m ih=>rw[QT,QT,ih,Zbf]
theorem Qp5(m n:Nat)(f:Nat->Nat->Int):Qi m (λi=>Qi n λj=>f i j)=Qi n λj=>Qi m λi=>f i j:=by
 induction m with
 | zero=>show 0=Qi n λj=>0;rw[Q0]
 | succ m ih=>
  rw[QT,ih,← QJ]
  exact Qp λj _=>by rw[QT]
theorem Q8(hp:p<m)(v:Int)(f:Nat->Int):Qi m (λi=>(if i=p then v else 0)*f i)=v*f p:=by
 induction m with
 | zero=>omega
 | succ m ih=>
  rw[QT]
  by_cases h:p=m
  ·subst h
   rw[if_pos rfl,Qp (g:=λ_=>0) λi hi=>by rw[if_neg (by omega)];simp,Q0];simp
  ·rw[ih (by omega),if_neg (λz=>h z.symm)];simp
noncomputable def Qg(m:Nat)(T:Nat->Nat->Int)(f c:Nat->Int):Nat->Int:=λj=>f j+Qi m λi=>c i*T i j
theorem Qhj(h:∀i,i<m->f i=g i):Qc m f=Qc m g:=by
 unfold Qc
 congr 1
 refine Zs λi hi=>?_
 rw[h i (Zl.mp hi)]
noncomputable def Qfd:DS:=(Qe (Qbf (Qav (Qa 1)) (.nm 2) (Qe (sIf (QZ (dOp gNe (dBf QaS (Qb (Qa 2) Qh)) (Qr (Qa 0) (dC (.int 0))))) (Qe QG Qq) Qq) Qq)) Qq)
def Qd0(d:Den):Prop:=∀(m:Nat) (R L:List (Int×Int)) (fs:List (Nat->Int)),d [Qs m R L,.lst (fs.map λf=>Qc m f)]=some (.non,true)
theorem Que:Qd0 (Qo 3 Qfd):=λm R L fs=>by
 have key:Run Qfd (Qau 3 [Qs m R L,.lst (fs.map λf=>Qc m f)]) (Nx λ_=>True):=by
  refine run_seq (Qat fs (λ_ ρ=>∃j2,ρ=[some (Qs m R L,false),some (.lst (fs.map λf=>Qc m f),false),j2]) rfl rfl ⟨none,rfl⟩ ?_ ?_)
  ·rintro i f ρ _ ⟨j2,rfl⟩
   refine⟨_,rfl,?_⟩
   refine run_seq (Qaq (b:=false) (Q1 (Qfy (Qct rfl rfl) rfl (QbH rfl rfl).1 rfl) (by simp)) (λh=>by cases h) (λ_=>Qv (Qv ⟨_,rfl⟩)))
  ·rintro ρ ⟨j2,rfl⟩
   exact Qv trivial
 obtain⟨o,h1,h2⟩:=key
 unfold Qo
 rw[h1]
 cases o with
 | nx ρ=>rfl
 | _=>exact h2.elim
noncomputable def QnN(QN:Den)(Q7:Den):DS:=(Qe (QcR (Qz 2 QN [] (Qb (Qa 0) (Qb (Qag (Qb (Qa 1) (Qb (Qa 2) Qh))) Qh)))) (Qe (Qt 3 (dList (Qb (Qa 1) Qh))) (Qe (Qbf (QaJ (Qz 1 Q7 [] (Qb (Qa 0) Qh)) (Qa 2)) (.tp [4,5]) (Qe (Qt 3 (Q5 (QaJ (Qa 3) (Qa 4)) (.tp [1,2]) [none,none,none,some 5] Qab (QO (Qa 1) (Qap (Qa 3) (Qa 2))))) Qq)) (Qe (Q2 (Qa 3)) Qq))))
theorem Qcz(h:fa ρ=some r)(q:Q (.nx ρ)):Run (QcR fa) ρ Q:=⟨_,by simp[QcR,h],q⟩
theorem Qjn(f g:Nat->D):Qdx ((List.range m).map f) ((List.range m).map g)=(List.range m).map λi=> .tup [f i,g i]:=by
 generalize List.range m=l
 induction l with
 | nil=>rfl
 | cons n ns ih=>unfold Qdx at ih ⊢;simp only[Zj,List.zip_cons_cons,ih]
theorem QcC(h:fs ρ=some rs)(e:rs.ds=[Qc m f]):dList fs ρ=some ⟨Qc m f,true,[]⟩:=by
 unfold dList
 rw[h,Za,e]
 simp[Qc,QaH]
theorem QbU(ha:fa ρ=some ra)(ea:ra.d= .lst ((List.range m).map f))(hb:fb ρ=some rb)(eb:rb.d= .lst ((List.range m).map g)):QaJ fa fb ρ=some ⟨(List.range m).map λi=> .tup [f i,g i],ra.M++rb.M⟩:=by
 unfold QaJ
 rw[ha,Za,hb,Za,ea,eb]
 simp only[Qjn]
theorem Qt5(i j:Nat)(s:Int×Int):(hit i j s).natAbs<=1:=by unfold hit;split<;>split<;>decide
theorem Qe7(i j:Nat):∀S:List (Int×Int),((S.map (hit i j)).sum).natAbs<=S.length
 | []=>by simp
 | s::S=>by
  have:=Qe7 i j S
  have:=Qt5 i j s
  rw[Zj,ZF,ZI]
  omega
def Qha(d:Den):Prop:=∀(m:Nat) (R L:List (Int×Int)) (f c:Nat->Int),m<=1000->R.length+R.length+L.length<=1000000->(∀s∈R,Good m s)->(∀s∈L,Good m s)->d [Qs m R L,Qc m f,Qc m c]=some (Qc m (Qg m (Qf m (Qd R L)) f c),true)
theorem QsA(hn:Qd0 dn)(ht:QeG dt):Qha (Qo 6 (QnN dn dt)):=λm R L f c hm hl hR hL=>by
 have gS:=Qbc hR hL
 have tb:∀i j,i<m->j<m->(Qf m (Qd R L) i j).natAbs<2^64:=λi j hi hj=>by
  rw[Qa7 hi hj λs hs=>⟨(gS s hs).1,(gS s hs).2.1⟩]
  have:=Qe7 i j (Qd R L)
  have:(Qd R L).length<=1000000:=by unfold Qd;simp;omega
  omega
 refine Qad ?_
 refine run_seq (Qcz (Qx rfl (hn m R L [f,c]) rfl) ?_)
 refine run_seq (Qj (QcC rfl rfl) ?_)
 rw[Qn]
 refine QaA (P:=λρ=>∃j4 j5,ρ=[some (Qs m R L,false),some (Qc m f,false),some (Qc m c,false),some (Qc m (Qg m (Qf m (Qd R L)) f c),true),j4,j5]) ?_ ?_
 ·refine Qat (List.range m) (λk ρ=>∃j4 j5,ρ=[some (Qs m R L,false),some (Qc m f,false),some (Qc m c,false),some (Qc m (λj=>f j+Qi k λi=>c i*Qf m (Qd R L) i j),true),j4,j5]) (QbU (Qx rfl (ht m R L hm hl hR hL) rfl) rfl rfl rfl) rfl ⟨none,none,?_⟩ ?_ ?_
  ·show [some (Qs m R L,false),some (Qc m f,false),some (Qc m c,false),some (Qc m f,true),none,none]=_
   have:Qc m f=Qc m λj=>f j+Qi 0 λi=>c i*Qf m (Qd R L) i j:=Qhj λi _=>by show f i=f i+0;omega
   rw[← this]
  ·rintro k k' ρ hk ⟨j4,j5,rfl⟩
   have hk':k<m/\k=k':=by
    obtain⟨h1,h2⟩:=Zd.mp hk
    simp at h1 h2;exact⟨h1,h2⟩
   obtain⟨hkm,rfl⟩:=hk'
   refine⟨_,rfl,?_⟩
   refine run_seq (Qj ?_ (Qv ⟨_,_,by rw[Qn];rfl⟩))
   have e:=QQ (fi:=QaJ (Qa 3) (Qa 4)) (t:= .tp [1,2]) (cap:=[none,none,none,some 5]) (fe:=QO (Qa 1) (Qap (Qa 3) (Qa 2))) (ρ:=[some (Qs m R L,false),some (Qc m f,false),some (Qc m c,false),some (Qc m (λj=>f j+Qi k λi=>c i*Qf m (Qd R L) i j),true),some (Qc m (Qf m (Qd R L) k),false),some (.int (c k),true)])
    (List.range m) (QbU rfl rfl rfl rfl) rfl λj hj=>by
     have hj:=Zl.mp hj
     exact⟨[none,some (.int (f j+Qi k λi=>c i*Qf m (Qd R L) i j),true),some (.int (Qf m (Qd R L) k j),true),some (.int (c k),true)],rfl,_,Q4 rfl rfl (QaD rfl rfl rfl rfl (Qeh (tb k j hkm hj))) rfl,rfl,rfl⟩
   refine e.trans ?_
   congr 2
   show D.lst _=D.lst _
   congr 1
   refine Zs λj _=>?_
   show _=D.int (f j+Qi (k+1) λi=>c i*Qf m (Qd R L) i j)
   rw[QT,Zcs]
  ·rintro ρ ⟨j4,j5,rfl⟩
   rw[ZM]
   exact⟨j4,j5,rfl⟩
 rintro ρ ⟨j4,j5,rfl⟩
 exact QE rfl ⟨rfl,rfl⟩
theorem Qjw{a b:Nat}(ha:fa ρ=some ra)(ea:ra.d=Qm cs)(hl:fl ρ=some rl)(el:rl.d= .int a)(hh:fh ρ=some rh)(eh:rh.d= .int b):Qiv fa (Qdr fl) (Qdr fh) ρ=some ⟨Qm ((cs.drop (min a cs.length)).take (min b cs.length-min a cs.length)),true,[]⟩:=by
 unfold Qiv Qdr
 simp only[ha,hl,hh,Za,ea,el,eh,Qm,cutD,Zg,HT.QvH,← List.map_drop,← List.map_take,QaH,Qi0,if_true]
theorem Qou{cs:List Int}{a b:Nat}{c:Int}(h:c∈(cs.drop a).take b):c∈cs:=List.mem_of_mem_drop (List.mem_of_mem_take h)
structure QY (m:Nat) (R L:List (Int×Int)):Prop where
 ex:∃W,Esc m W/\(∀w∈W,GoodW m w)/\W.length<=200/\R=Qdi W/\L=QdA W
theorem QY.good{m:Nat}{R L:List (Int×Int)}(h:QY m R L):(∀s∈R,Good m s)/\(∀s∈L,Good m s)/\R.length<=200/\L.length<=200/\(∀s∈R,s.1<s.2)/\∀s∈L,s.1<m:=by
 obtain⟨W,_,h2,h3,rfl,rfl⟩:=h.ex
 exact⟨λs hs=>(QfW h2 s hs).1,λs hs=>(QfS h2 s hs).1,Zx (QkC W) h3,Zx (Qky W) h3,λs hs=>(QfW h2 s hs).2,λs hs=>(QfS h2 s hs).2⟩
theorem QdU{α:Type}(m:Nat)(g:Nat->α->Int):∀S:List α,Qi m (λj=>(S.map (g j)).sum)=(S.map λs=>Qi m λj=>g j s).sum
 | []=>by simp[Q0]
 | s::S=>by
  simp only[Zj,ZF]
  rw[QJ,QdU m g S]
theorem Qj4{α:Type}(c:Int)(f:α->Int):∀S:List α,c*(S.map f).sum=(S.map λs=>c*f s).sum
 | []=>by simp
 | s::S=>by simp only[Zj,ZF,Zbf,Qj4 c f S]
theorem Qsd:Qc m (Qg m T f λ_=>0)=Qc m f:=Qhj λj _=>by
 unfold Qg
 rw[Qp (g:=λ_=>0) λi _=>by simp,Q0];omega
theorem Qjr(h:fa ρ=some r)(e:r.d=Qc m f):dBf QeP (Qb fa Qh) ρ=some ⟨.int (Qi m f),true,[]⟩:=by
 unfold dBf
 rw[Qu h (Q3 _),Za]
 have:Qc m f= .lst (((List.range m).map f).map .int):=by unfold Qc;rw[ZR];rfl
 simp only[e,this,QeP,Qf2,ZP]
 rfl
structure TP (m:Nat) (T:Nat->Nat->Int):Prop where
 neg:∀p,p<m->T p p<0
 pos:∀i j,i<m->j<m->i≠j->0<=T i j
 bnd:∀i j,i<m->j<m->(T i j).natAbs<2^64
 wt:∃w:Nat->Int,(∀j,0<=w j)/\∀i,i<m->Qi m (λj=>T i j*w j)<= -1
inductive Leg (m:Nat) (T:Nat->Nat->Int) (f:Nat->Int):(Nat->Int)->Prop where
 | nil:Leg m T f λ_=>0
 | step {c:Nat->Int}{p:Nat}{t:Int}:Leg m T f c->p<m->0<=t->t*(0-T p p)<=Qg m T f c p->Leg m T f (up c p (c p+t))
def Stb(m:Nat)(T:Nat->Nat->Int)(g:Nat->Int):Prop:=∀p,p<m->g p<0-T p p
theorem QjI(hp:p<m)(j:Nat):Qg m T f (up c p (c p+v)) j=Qg m T f c j+v*T p j:=by
 unfold Qg
 have e2:(λi=>up c p (c p+v) i*T i j)=λi=>c i*T i j+(if i=p then v else 0)*T i j:=by
  funext i
  unfold up
  by_cases h:i=p
  ·subst h;simp only[if_true];rw[ZU]
  ·simp[h]
 rw[e2,QJ,Q8 hp]
 omega
theorem Leg.nonneg(h:Leg m T f c):∀i,0<=c i:=by
 induction h with
 | nil=>intro i;exact Zak _
 | step _ _ ht _ ih=>
  intro i
  unfold up
  split
  ·have:=ih ‹Nat›;rename_i p _ _ _ _ _;have:=ih p;omega
  ·exact ih i
theorem Qbn(h:∀i,i<m->f i<=g i):Qi m f<=Qi m g:=by
 induction m with
 | zero=>exact Zak _
 | succ m ih=>
  rw[QT,QT]
  have:=ih λi hi=>h i (by omega)
  have:=h m (by omega)
  omega
theorem Leg.least(tp:TP m T)(h:Leg m T f c)(h0:∀i,i<m->0<=c' i)(hs:Stb m T (Qg m T f c')):∀i,i<m->c i<=c' i:=by
 induction h with
 | nil=>exact h0
 | @step c p t _ hp ht hle ih=>
  intro i hi
  unfold up
  split
  ·rename_i e
   subst e
   have key:Qg m T f c i+(c' i-c i)*T i i<=Qg m T f c' i:=by
    unfold Qg
    have e1:Qi m (λk=>c k*T k i)+(c' i-c i)*T i i=Qi m (λk=>c k*T k i+(if k=i then c' i-c i else 0)*T k i):=by rw[QJ,Q8 hi]
    have e2:Qi m (λk=>c k*T k i+(if k=i then c' i-c i else 0)*T k i)<=Qi m (λk=>c' k*T k i):=by
     refine Qbn λk hk=>?_
     by_cases hki:k=i
     ·subst hki;rw[if_pos rfl,← ZU];rw[show c k+(c' k-c k)=c' k by omega];exact Zak _
     ·rw[if_neg hki,ZO,Zbh]
      exact ZZ (ih k hk) (tp.pos k i hk hi hki)
    omega
   have h1:=hs i hi
   have h2:=tp.neg i hi
   by_cases hlt:c i+t<=c' i
   ·exact hlt
   ·exfalso
    have h3:(c' i-c i+1)<=t:=by omega
    have h4:(c' i-c i+1)*(0-T i i)<=t*(0-T i i):=ZZ h3 (by omega)
    have h5:(c' i-c i+1)*(0-T i i)=(0-T i i)-(c' i-c i)*T i i:=by rw[ZU,Zap,Int.mul_sub,Zax];omega
    omega
  ·exact ih i hi
theorem Leg.unique(tp:TP m T)(hc:Leg m T f c)(hd:Leg m T f d)(sc:Stb m T (Qg m T f c))(sd:Stb m T (Qg m T f d)):∀i,i<m->c i=d i:=λi hi=>by
 have h1:=hc.least tp (λi _=>hd.nonneg i) sd i hi
 have h2:=hd.least tp (λi _=>hc.nonneg i) sc i hi
 omega
theorem Qoc{m:Nat}{T:Nat->Nat->Int}{f c b:Nat->Int}(j:Nat):Qg m T (λi=>2*f i+b i) (λi=>2*c i) j=2*Qg m T f c j+b j:=by
 unfold Qg
 have e:(λi=>2*c i*T i j)=λi=>2*(c i*T i j):=by funext i;rw[Zar]
 rw[e,Qdc];show 2*f j+b j+2*_=2*(f j+_)+b j;omega
theorem QU(j:Nat)(h1:f j=g j)(h2:∀i,i<m->c i=d i):Qg m T f c j=Qg m T g d j:=by
 unfold Qg
 rw[h1,Qp λi hi=>by rw[h2 i hi]]
theorem Leg.Qw3(h:Leg m T f c)(b:Nat->Int)(hb:∀i,0<=b i):∃d,Leg m T (λi=>2*f i+b i) d/\∀i,d i=2*c i:=by
 induction h with
 | nil=>exact⟨_,.nil,λi=>by simp⟩
 | @step c p t _ hp ht hle ih=>
  obtain⟨d,hd,e⟩:=ih
  have ed:d=λi=>2*c i:=funext e
  subst ed
  refine⟨_,.step (t:=2*t) hd hp (by omega) ?_,λi=>?_⟩
  ·rw[Qoc]
   have:=hb p
   have e2:2*t*(0-T p p)=2*(t*(0-T p p)):=by rw[Zar]
   omega
  ·show up (λi=>2*c i) p (2*c p+2*t) i=2*up c p (c p+t) i
   unfold up
   split
   ·omega
   ·rfl
theorem Leg.cast(h:Leg m T f c)(e:∀i,c i=d i):Leg m T f d:=by
 have:c=d:=funext e
 rw[← this];exact h
theorem Leg.QiI(h:Leg m T f c)(e:∀i,i<m->f i=g i):Leg m T g c:=by
 induction h with
 | nil=>exact .nil
 | @step c p t _ hp ht hle ih=>exact .step ih hp ht (by rw[← QU p (e p hp) (λ_ _=>rfl)];exact hle)
noncomputable def wtF(m:Nat)(w g:Nat->Int):Int:=Qi m λj=>g j*w j
theorem Qyj(hw:∀i,i<m->Qi m (λj=>T i j*w j)<= -1)(hp:p<m)(ht:0<=t):wtF m w (Qg m T f (up c p (c p+t)))<=wtF m w (Qg m T f c)-t:=by
 unfold wtF
 have e:(λj=>Qg m T f (up c p (c p+t)) j*w j)=λj=>Qg m T f c j*w j+t*(T p j*w j):=by
  funext j;rw[QjI hp,ZU,Zar]
 rw[e,QJ,Qdc]
 have h1:t*Qi m (λj=>T p j*w j)<=t*(-1):=ZW (hw p hp) ht
 omega
theorem QpK(hw:∀j,0<=w j)(hg:∀j,j<m->0<=g j):0<=wtF m w g:=by
 have:=Qbn λi hi=>Zas (hg i hi) (hw i)
 rw[Q0]at this
 exact this
theorem QgT(I:Nat->En->Prop)(step:∀n ρ,I n ρ->∃b,g ρ=some b/\(b=false->Q (.nx ρ))/\(b=true->Run fb ρ λo=>match o with | .nx ρ2=>∃n',n'<n/\I n' ρ2 | .ct ρ2=>∃n',n'<n/\I n' ρ2 | .bk ρ2=>Q (.nx ρ2) | .rt d fr=>Q (.rt d fr))):
  ∀(n:Nat) (ρ:En),I n ρ->Run (Qb3 g fb) ρ Q:=by
 intro n
 induction n using Nat.strongRecOn with
 | _ n ih=>
  intro ρ h
  obtain⟨b,hb,hf,ht⟩:=step n ρ h
  unfold Run
  rw[QpJ,hb,Za]
  cases b with
  | false=>exact⟨_,by simp,hf rfl⟩
  | true=>
   obtain⟨o,ho,hq⟩:=ht rfl
   rw[if_pos rfl,ho,Za]
   cases o with
   | nx ρ2=>obtain⟨n',hn,hI⟩:=hq;exact ih n' hn ρ2 hI
   | ct ρ2=>obtain⟨n',hn,hI⟩:=hq;exact ih n' hn ρ2 hI
   | bk ρ2=>exact⟨_,rfl,hq⟩
   | rt d fr=>exact⟨_,rfl,hq⟩
theorem Qur(ha:fa ρ=some ra)(ea:ra.d= .int a)(hb:fb ρ=some rb)(eb:rb.d= .int b)(h:0<b)(h2:b<2^200):dOp QeC fa fb ρ=some ⟨.int (a / b),true,[]⟩:=by
 refine QaK ha hb ?_
 rw[ea,eb]
 show(if QbA b=true then some (D.int (Qc1 a b))else none)=_
 rw[if_pos (Qkp h h2),Qit _ _ (by omega)]
theorem Qcu{i:Nat}(ha:fa ρ=some ra)(ea:ra.d=Qc m f)(hb:fb ρ=some rb)(eb:rb.d= .int i)(h:i<m):Qr fa fb ρ=some ⟨.int (f i),true,[]⟩:=by
 have:=QcI ha ea hb eb (by omega) (by omega)
 rw[ZT]at this
 exact this
noncomputable def QgH:DS:=(Qe (Qt 3 (dList (Qb (Qa 1) Qh))) (Qe (Qt 4 (dList (Qb (Qa 2) Qh))) (Qe (Qt 5 (dC (.bl true))) (Qe (Qb3 (QZ (Qa 5)) (Qe (Qt 5 (dC (.bl false))) (Qe (Qbf (QgY (Qa 0)) (.tp [6,7]) (Qe (Qt 8 (dOp QeC (Qr (Qa 3) (Qa 6)) (dOp Qam (dC (.int 0)) (Qr (Qa 7) (Qa 6))))) (Qe (sIf (QZ (dOp gGt (Qa 8) (dC (.int 0)))) (Qe (Qt 5 (dC (.bl true))) (Qe (Qc5 (gI λi j=>some (.int (i+j))) 4 Qal (Qa 6) (Qa 8)) (Qe (Qt 3 (Q5 (QaJ (Qa 3) (Qa 7)) (.tp [1,2]) [none,none,none,some 8] Qab (QO (Qa 1) (Qap (Qa 3) (Qa 2))))) Qq))) Qq) Qq))) Qq))) (Qe (Q2 (Qa6 (Qb (Qa 3) (Qb (Qa 4) Qh)))) Qq)))))
def QgJ(d:Den):Prop:=∀(m:Nat) (T:Nat->Nat->Int) (f k:Nat->Int),m<=1000->TP m T->Leg m T f k->(∀j,j<m->0<=Qg m T f k j)->∃k',d [QF m m T,Qc m (Qg m T f k),Qc m k]=some (.tup [Qc m (Qg m T f k'),Qc m k'],true)/\Leg m T f k'/\(∀j,j<m->0<=Qg m T f k' j)/\Stb m T (Qg m T f k')
theorem QoN{h s:Int}(hs:0<s)(ht:¬0<h / s)(h0:0<=h):h<s:=by
 have:=ZaZ h0 (by omega:0<=s)
 have e:h / s=0:=by omega
 have:=ZC h hs
 have:=ZbA h s
 rw[e]at this;omega
theorem QpA{h s:Int}(hs:0<s):h / s*s<=h:=Int.ediv_mul_le h (by omega)
theorem Qpb:QgJ (Qo 9 QgH):=λm T f k hm tp hk hpos=>by
 obtain⟨w,hw0,hw⟩:=tp.wt
 have key:Run QgH (Qau 9 [QF m m T,Qc m (Qg m T f k),Qc m k]) (Rt λd fr=>∃k',d= .tup [Qc m (Qg m T f k'),Qc m k']/\fr=true/\Leg m T f k'/\(∀j,j<m->0<=Qg m T f k' j)/\Stb m T (Qg m T f k')):=by
  refine run_seq (Qj (QcC rfl rfl) ?_)
  rw[Qn]
  refine run_seq (Qj (QcC rfl rfl) ?_)
  rw[Qn]
  refine run_seq (Qj rfl ?_)
  rw[Qn]
  refine run_seq (Run.mono (Q:=Nx λρ=>∃k' j5 j6 j7 j8,Leg m T f k'/\(∀j,j<m->0<=Qg m T f k' j)/\Stb m T (Qg m T f k')/\ρ=[some (QF m m T,false),some (Qc m (Qg m T f k),false),some (Qc m k,false),some (Qc m (Qg m T f k'),true),some (Qc m k',true),j5,j6,j7,j8]) ?_ ?_)
  ·refine QgT (λn ρ=>∃k' bz j6 j7 j8,Leg m T f k'/\(∀j,j<m->0<=Qg m T f k' j)/\(bz=false->Stb m T (Qg m T f k'))/\n=(wtF m w (Qg m T f k')).toNat+(if bz=true then 1 else 0)/\ρ=[some (QF m m T,false),some (Qc m (Qg m T f k),false),some (Qc m k,false),some (Qc m (Qg m T f k'),true),some (Qc m k',true),some (.bl bz,true),j6,j7,j8]) ?_ _ _ ⟨k,true,none,none,none,hk,hpos,λh=>by(cases h),rfl,rfl⟩
   rintro n ρ ⟨k',bz,j6,j7,j8,hL,hP,hS,rfl,rfl⟩
   refine⟨bz,Q1 rfl rfl,λh=>⟨k',_,_,_,_,hL,hP,hS h,rfl⟩,λhb=>?_⟩
   subst hb
   refine run_seq (Qj rfl ?_)
   rw[Qn]
   refine Qah (Run.mono (Q:=Nx λρ=>∃k2 b2 j6 j7 j8,Leg m T f k2/\(∀j,j<m->0<=Qg m T f k2 j)/\(b2=false->Stb m T (Qg m T f k2))/\(wtF m w (Qg m T f k2)+(if b2=true then 1 else 0)<=wtF m w (Qg m T f k'))/\ρ=[some (QF m m T,false),some (Qc m (Qg m T f k),false),some (Qc m k,false),some (Qc m (Qg m T f k2),true),some (Qc m k2,true),some (.bl b2,true),j6,j7,j8]) ?_ ?_)
   ·refine Qat (List.range m) (λi ρ=>∃k2 b2 j6 j7 j8,Leg m T f k2/\(∀j,j<m->0<=Qg m T f k2 j)/\(b2=false->∀p,p<i->Qg m T f k2 p<0-T p p)/\(wtF m w (Qg m T f k2)+(if b2=true then 1 else 0)<=wtF m w (Qg m T f k'))/\ρ=[some (QF m m T,false),some (Qc m (Qg m T f k),false),some (Qc m k,false),some (Qc m (Qg m T f k2),true),some (Qc m k2,true),some (.bl b2,true),j6,j7,j8]) rfl (Qi7 (α:=Nat) m _) ⟨k',false,_,_,_,hL,hP,λ_ p hp=>absurd hp (by omega),by simp,rfl⟩ ?_ ?_
    ·rintro i p ρ hi ⟨k2,b2,j6,j7,j8,hL2,hP2,hS2,hW2,rfl⟩
     have hp':i<m/\i=p:=by
      obtain⟨h1,h2⟩:=Zd.mp hi
      simp at h1 h2;exact⟨h1,h2⟩
     obtain⟨him,rfl⟩:=hp'
     have hneg:=tp.neg i him
     have hb:=tp.bnd i i him him
     have h0:=hP2 i him
     refine⟨_,rfl,?_⟩
     refine run_seq (Qj (Qur (Qcu rfl rfl rfl rfl him) rfl (QaK rfl (Qcu rfl rfl rfl rfl him) rfl) rfl (by omega) (by omega)) ?_)
     rw[Qn]
     generalize et:Qg m T f k2 i / (0-T i i)=t
     have t0:0<=t:=by rw[← et];exact ZaZ h0 (by omega)
     refine Qah (Qaq (Q1 rfl rfl) (λh=>?_) (λh=>?_))
     ·have h:=of_decide_eq_true h
      have hle:t*(0-T i i)<=Qg m T f k2 i:=by rw[← et];exact QpA (by omega)
      refine run_seq (Qj rfl ?_)
      rw[Qn]
      refine run_seq (QmK rfl rfl rfl rfl (by omega) (by omega) rfl ?_)
      rw[ZT]
      refine run_seq (Qj (r:=⟨Qc m (Qg m T f (up k2 i (k2 i+t))),true,[]⟩) ?_ (Qv (Qv ?_)))
      ·have e:=QQ (fi:=QaJ (Qa 3) (Qa 7)) (t:= .tp [1,2]) (cap:=[none,none,none,some 8]) (fe:=QO (Qa 1) (Qap (Qa 3) (Qa 2))) (ρ:=[some (QF m m T,false),some (Qc m (Qg m T f k),false),some (Qc m k,false),some (Qc m (Qg m T f k2),true),some (Qc m (up k2 i (k2 i+t)),true),some (.bl true,true),some (.int i,true),some (Qc m (T i),false),some (.int t,true)])
        (List.range m) (QbU rfl rfl rfl rfl) rfl λj hj=>by
         have hj:=Zl.mp hj
         exact⟨[none,some (.int (Qg m T f k2 j),true),some (.int (T i j),true),some (.int t,true)],rfl,_,Q4 rfl rfl (QaD rfl rfl rfl rfl (Qeh (tp.bnd i j him hj))) rfl,rfl,rfl⟩
       refine e.trans ?_
       congr 2
       show D.lst _=D.lst _
       congr 1
       refine Zs λj _=>?_
       rw[QjI him]
      ·rw[Qn]
       have hup:=Qyj hw (f:=f) (c:=k2) him t0
       refine⟨up k2 i (k2 i+t),true,_,_,_,.step hL2 him t0 hle,λj hj=>?_,λz=>(by cases z),?_,rfl⟩
       ·rw[QjI him]
        by_cases hji:j=i
        ·subst hji
         have:t*T j j= -(t*(0-T j j)):=by rw[Zbi,ZaV,Zcp]
         omega
        ·have:=hP2 j hj
         have:=Zas t0 (tp.pos i j him hj (λz=>hji z.symm))
         omega
       ·rw[if_pos rfl]
        have:(0:Int)<=if b2=true then 1 else 0:=by split<;>omega
        omega
     ·have h:=of_decide_eq_false h
      refine Qv (Qv ⟨k2,b2,_,_,_,hL2,hP2,λhb2 p hp=>?_,hW2,rfl⟩)
      by_cases hpi:p=i
      ·subst hpi;exact QoN (by omega) (by rw[et];exact h) h0
      ·exact hS2 hb2 p (by omega)
    ·rintro ρ ⟨k2,b2,j6,j7,j8,hL2,hP2,hS2,hW2,rfl⟩
     rw[ZM]at hS2
     exact⟨k2,b2,_,_,_,hL2,hP2,hS2,hW2,rfl⟩
   ·intro o ho
    cases o with
    | nx ρ=>
     obtain⟨k2,b2,j6,j7,j8,hL2,hP2,hS2,hW2,rfl⟩:=ho
     refine Qv ⟨_,?_,k2,b2,_,_,_,hL2,hP2,hS2,rfl,rfl⟩
     have n1:=QpK hw0 hP2
     rw[if_pos rfl]
     cases b2<;>simp at hW2 ⊢ <;>omega
    | _=>exact ho.elim
  ·intro o ho
   cases o with
   | nx ρ=>
    obtain⟨k',j5,j6,j7,j8,hL,hP,hS,rfl⟩:=ho
    exact QE rfl ⟨k',rfl,rfl,hL,hP,hS⟩
   | _=>exact ho.elim
 obtain⟨o,h1,h2⟩:=key
 cases o with
 | rt d fr=>
  obtain⟨k',rfl,rfl,h3,h4,h5⟩:=h2
  exact⟨k',by unfold Qo;rw[h1];rfl,h3,h4,h5⟩
 | _=>exact h2.elim
def Qls(m:Nat)(S:List (Int×Int)):Prop:=∀A:Nat->Prop,(∃p,p<m/\A p)->∃s∈S,s.1<m/\A s.1.toNat/\(s.2=m∨¬A s.2.toNat)
theorem Qks(h:Esc m W):Qls m (Qd (Qdi W) (QdA W)):=λA hA=>by
 obtain⟨w,hw,h1,h2,h3⟩:=h A hA
 refine⟨(w.1,w.2.1),?_,h1,h2,h3⟩
 unfold Qd
 cases e:w.2.2 with
 | true=>exact Ze _ (ZN.mpr ⟨w,ZE.mpr ⟨hw,e⟩,rfl⟩)
 | false=>
  have hr:Qb2 w∈Qdi W:=ZN.mpr ⟨w,ZE.mpr ⟨hw,by simp[e]⟩,rfl⟩
  by_cases hlt:w.2.1<w.1
  ·refine Zn _ (Ze _ (ZN.mpr ⟨Qb2 w,hr,?_⟩))
   unfold Qb2
   rw[if_pos hlt,if_neg (by omega)];rfl
  ·refine Zn _ (Zn _ ?_)
   have:Qb2 w=(w.1,w.2.1):=by
    unfold Qb2
    rw[if_neg hlt]
    by_cases hgt:w.2.1>w.1
    ·rw[if_pos hgt]
    ·rw[if_neg hgt];rw[show w.2.1=w.1 by omega]
   rw[← this];exact hr
inductive Rk (m:Nat) (S:List (Int×Int)):Nat->Nat->Prop where
 | pit {s:Int×Int}{n:Nat}:s∈S->s.2=m->Rk m S (n+1) s.1.toNat
 | step {s:Int×Int}{k n:Nat}:s∈S->s.2≠m->Rk m S k s.2.toNat->k<n->Rk m S n s.1.toNat
theorem QlA{P:Nat->Prop}(h:∃n,P n):∃n,P n/\∀k,k<n->¬P k:=by
 obtain⟨n,hn⟩:=h
 induction n using Nat.strongRecOn with
 | _ n ih=>
  by_cases h:∃k,k<n/\P k
  ·obtain⟨k,hk,h⟩:=h;exact ih k hk h
  ·exact⟨n,hn,λk hk hx=>h ⟨k,hk,hx⟩⟩
theorem Qx9(he:Qls m S):∀p,p<m->∃n,Rk m S n p:=λp hp=>by
 by_cases h:∃n,Rk m S n p
 ·exact h
 ·exfalso
  obtain⟨s,hs,h1,h2,h3⟩:=he (λp=>¬ ∃n,Rk m S n p) ⟨p,hp,h⟩
  by_cases e:s.2=m
  ·exact h2 ⟨1,.pit hs e⟩
  ·rcases h3 with h3 | h3
   ·exact e h3
   ·have:∃n,Rk m S n s.2.toNat:=ZD λz=>h3 z
    obtain⟨k,hk⟩:=this
    exact h2 ⟨k+1,.step hs e hk (by omega)⟩
theorem Qvf{m:Nat}{S:List (Int×Int)}(hg:∀s∈S,Good m s)(he:Qls m S):∃r:Nat->Nat,r m=0/\∀p,p<m->∃s∈S,s.1=p/\r s.2.toNat<r p:=by
 have h:∀p,∃n,(p<m->Rk m S n p/\∀k,k<n->¬Rk m S k p)/\(p=m->n=0):=λp=>by
  by_cases hp:p<m
  ·obtain⟨n,hn⟩:=QlA (Qx9 he p hp)
   exact⟨n,λ_=>hn,λz=>by omega⟩
  ·exact⟨0,λz=>absurd z hp,λ_=>rfl⟩
 obtain⟨r,hr⟩:=Classical.axiomOfChoice h
 refine⟨r,(hr m).2 rfl,λp hp=>?_⟩
 have h1:=((hr p).1 hp).1
 generalize r p=n at h1
 cases h1 with
 | @pit s n hs e=>
  obtain⟨g1,g2,g3,g4,g5⟩:=hg s hs
  exact⟨s,hs,by omega,by rw[e,ZT,(hr m).2 rfl];omega⟩
 | @step s k n hs e hk hkn=>
  obtain⟨g1,g2,g3,g4,g5⟩:=hg s hs
  refine⟨s,hs,by omega,?_⟩
  have hl:s.2.toNat<m:=by omega
  have:=((hr s.2.toNat).1 hl).2 k
  have:¬k<r s.2.toNat:=λz=>this z hk
  omega
theorem QlC(r:Nat->Nat):∀m:Nat,∃N,∀p,p<=m->r p<=N
 | 0=>⟨r 0,λp hp=>by rw[show p=0 by omega];exact Zh _⟩
 | m+1=>by
  obtain⟨N,hN⟩:=QlC r m
  refine⟨N+r (m+1),λp hp=>?_⟩
  by_cases e:p=m+1
  ·subst e;omega
  ·have:=hN p (by omega);omega
theorem QpG(hi:i<m)(g:Good m s)(w:Nat->Int)(hw:w m=0):Qi m (λj=>hit i j s*w j)=if s.1=i then w s.2.toNat-w i else 0:=by
 obtain⟨g1,g2,g3,g4,g5⟩:=g
 by_cases h:s.1=i
 ·rw[if_pos h]
  have e:Qi m (λj=>hit i j s*w j)=Qi m (λj=>(if j=s.2.toNat then 1 else 0)*w j+(if j=i then-1 else 0)*w j):=Qp λj _=>by
   have:hit i j s=(if j=s.2.toNat then 1 else 0)+(if j=i then-1 else 0):=by
    unfold hit
    by_cases a:s.2=j
    ·by_cases b:i=j
     ·rw[if_pos ⟨h,a⟩,if_pos ⟨h,b⟩,if_pos (by omega),if_pos b.symm];omega
     ·rw[if_pos ⟨h,a⟩,if_neg (λz=>b z.2),if_pos (by omega),if_neg (λz=>b z.symm)];omega
    ·by_cases b:i=j
     ·rw[if_neg (λz=>a z.2),if_pos ⟨h,b⟩,if_neg (by omega),if_pos b.symm];omega
     ·rw[if_neg (λz=>a z.2),if_neg (λz=>b z.2),if_neg (by omega),if_neg (λz=>b z.symm)];omega
   rw[this,ZU]
  rw[e,QJ,Q8 hi]
  by_cases hm:s.2.toNat<m
  ·rw[Q8 hm];omega
  ·have e2:Qi m (λj=>(if j=s.2.toNat then 1 else 0)*w j)=0:=by
    rw[Qp λj hj=>by rw[if_neg (by omega),ZO],Q0]
   rw[e2,show s.2.toNat=m by omega,hw];omega
 ·rw[if_neg h]
  rw[Qp (g:=λ_=>0) λj hj=>by
   unfold hit
   rw[if_neg (λz=>h z.1),if_neg (λz=>h z.1)];rw[Int.sub_self,ZO],Q0]
theorem QfU{α:Type}{g:α->Int}{X:Int}:∀S:List α,(∀s∈S,g s<=X)->(S.map g).sum<=S.length*X
 | [],_=>by simp
 | a::S,h=>by
  have h1:=h a (by simp)
  have h2:=QfU S λs hs=>h s (by simp[hs])
  simp only[Zj,ZF,ZI,Zbp,ZU]
  rw[show((1:Nat):Int)*X=X by simp]
  omega
theorem Qje{α:Type}{g:α->Int}{X Y:Int}:∀(S:List α),(∀s∈S,g s<=X)->(∃s∈S,g s<=Y)->(S.map g).sum<=S.length*X-X+Y
 | [],_,h=>by obtain⟨s,hs,_⟩:=h;exact absurd hs (by simp)
 | a::S,h,h2=>by
  obtain⟨s,hs,hy⟩:=h2
  have hb:∀s∈S,g s<=X:=λs hs=>h s (by simp[hs])
  simp only[Zj,ZF,ZI,Zbp,ZU]
  rw[show((1:Nat):Int)*X=X by simp]
  rcases Zq.mp hs with e | hs
  ·subst e
   have:=QfU S hb
   omega
  ·have:=Qje S hb ⟨s,hs,hy⟩
   have:=h a (by simp)
   omega
theorem QcN{α:Type}{g:α->Int}:∀S:List α,(∀s∈S,0<=g s)->0<=(S.map g).sum
 | [],_=>by simp
 | a::S,h=>by
  have h1:=h a (by simp)
  have h2:=QcN S λs hs=>h s (by simp[hs])
  simp only[Zj,ZF]
  omega
theorem QsK{m:Nat}{S:List (Int×Int)}(hg:∀s∈S,Good m s)(he:Qls m S)(hl:S.length<2^60):TP m (Qf m S):=by
 have hn:∀s∈S,0<=s.1/\0<=s.2:=λs hs=>⟨(hg s hs).1,(hg s hs).2.1⟩
 have pos:∀i j,i<m->j<m->i≠j->0<=Qf m S i j:=λi j hi hj hij=>by
  rw[Qa7 hi hj hn]
  refine QcN S λs _=>?_
  unfold hit
  rw[if_neg (λz=>hij z.2) (c:=s.1=i/\i=j)]
  split<;>omega
 obtain⟨r,r0,hr⟩:=Qvf hg he
 obtain⟨N,hN⟩:=QlC r m
 have M1:1<=S.length+1:=by omega
 have wt:∃w:Nat->Int,(∀j,0<=w j)/\∀i,i<m->Qi m (λj=>Qf m S i j*w j)<= -1:=by
  refine⟨λv=>(((S.length+1)^N:Nat):Int)-(((S.length+1)^(N-r v):Nat):Int),λj=>?_,λi hi=>?_⟩
  ·have:=ZJ M1 (Nat.sub_le N (r j))
   show(0:Int)<=(((S.length+1)^N:Nat):Int)-(((S.length+1)^(N-r j):Nat):Int)
   omega
  ·generalize hw:(λv=>(((S.length+1)^N:Nat):Int)-(((S.length+1)^(N-r v):Nat):Int))=w
   have hw':∀v,w v=(((S.length+1)^N:Nat):Int)-(((S.length+1)^(N-r v):Nat):Int):=λv=>by rw[← hw]
   have wm:w m=0:=by rw[hw',r0,Nat.sub_zero];omega
   have e:Qi m (λj=>Qf m S i j*w j)=(S.map λs=>if s.1=(i:Int)then w s.2.toNat-w i else 0).sum:=by
    rw[Qp (g:=λj=>(S.map λs=>hit i j s*w j).sum) λj hj=>by
     rw[Qa7 hi hj hn,Zat,Qj4]
     congr 1
     exact Zs λs _=>Zat _ _]
    rw[QdU m (λj s=>hit i j s*w j) S]
    congr 1
    exact Zs λs hs=>QpG hi (hg s hs) w wm
   rw[e]
   obtain⟨s0,hs0,e0,hlt⟩:=hr i hi
   generalize hX:(((S.length+1)^(N-r i):Nat):Int)=X
   have X1:1<=X:=by
    have:0<(S.length+1)^(N-r i):=Nat.pow_pos (by omega)
    omega
   have key:=Qje (Y:=X-(S.length+1)*X) S (λs _=>by
    show(if s.1=i then w s.2.toNat-w i else 0)<=X
    split
    ·rw[hw',hw' i,hX]
     have:0<=(((S.length+1)^(N-r s.2.toNat):Nat):Int):=Int.natCast_nonneg _
     omega
    ·omega) ⟨s0,hs0,by
    show(if s0.1=i then w s0.2.toNat-w i else 0)<=_
    rw[if_pos e0,hw',hw' i,hX]
    have hb:=hN i (by omega)
    have h1:(S.length+1)^(N-r i+1)<=(S.length+1)^(N-r s0.2.toNat):=ZJ M1 (by omega)
    rw[Nat.pow_succ]at h1
    have h2:((((S.length+1)^(N-r i)*(S.length+1):Nat)):Int)<=(((S.length+1)^(N-r s0.2.toNat):Nat):Int):=by exact_mod_cast h1
    rw[Int.natCast_mul,hX,Zat]at h2
    rw[show((S.length+1:Nat):Int)=(S.length:Int)+1 by omega]at h2
    omega⟩
   have:((S.length:Int)+1)*X=S.length*X+X:=by rw[ZU,Zap]
   omega
 refine⟨λp hp=>?_,pos,λi j hi hj=>?_,wt⟩
 ·obtain⟨w,w0,hw⟩:=wt
  have h1:=hw p hp
  by_cases hneg:Qf m S p p<0
  ·exact hneg
  ·exfalso
   have:0<=Qi m (λj=>Qf m S p j*w j):=by
    have:=Qbn (f:=λ_=>0) (g:=λj=>Qf m S p j*w j) λj hj=>by
     by_cases e:p=j
     ·subst e;exact Zas (by omega) (w0 _)
     ·exact Zas (pos p j hp hj e) (w0 _)
    rw[Q0]at this
    exact this
   omega
 ·rw[Qa7 hi hj hn]
  have:=Qe7 i j S
  omega
theorem QY.tp{m:Nat}{R L:List (Int×Int)}(h:QY m R L):TP m (Qf m (Qd R L)):=by
 have hg:=h.good
 refine QsK (Qbc hg.1 hg.2.1) ?_ ?_
 ·obtain⟨W,h1,_,_,rfl,rfl⟩:=h.ex
  exact Qks h1
 ·unfold Qd
  simp only[Zu,Zg]
  omega
theorem QY.neg{m:Nat}{R L:List (Int×Int)}(h:QY m R L){i:Nat}(hi:i<m):0-Qf m (Qd R L) i i=Qy R L i:=by
 have hg:=h.good
 have hs:=Qbc hg.1 hg.2.1
 rw[Qa7 hi hi (λs z=>⟨(hs s z).1,(hs s z).2.1⟩),sum_neg _ _ (λs z=>(hs s z).2.2.2.2),Qku]
 omega
theorem QY.QsM{m:Nat}{R L:List (Int×Int)}(h:QY m R L){i:Nat}(hi:i<m):0<Qy R L i:=by
 have:=h.neg hi
 have:=h.tp.neg i hi
 omega
theorem QkK(m:Nat)(f:Nat->Int):Qc m f= .lst (((List.range m).map f).map D.int):=by
 unfold Qc;rw[ZR];rfl
theorem QnI:∀{ns:List Int},ns≠[]->∃m,Qix ns=some m
 | [],h=>absurd rfl h
 | [n],_=>⟨n,rfl⟩
 | n::k::r,_=>by
  obtain⟨m,hm⟩:=QnI (ns:=k::r) (by simp)
  exact⟨if m<n then m else n,by simp only[Qix,hm,ZP]⟩
theorem Qn8:∀{ns:List Int},ns≠[]->∃m,Qh7 ns=some m
 | [],h=>absurd rfl h
 | [n],_=>⟨n,rfl⟩
 | n::k::r,_=>by
  obtain⟨m,hm⟩:=Qn8 (ns:=k::r) (by simp)
  exact⟨if n<m then m else n,by simp only[Qh7,hm,ZP]⟩
theorem Qq8(h:0<m)(f:Nat->Int):(List.range m).map f≠[]:=by
 intro z
 have:=congrArg List.length z
 simp at this
 omega
theorem Qvx(m0:0<m)(f:Nat->Int):∃v,(∃i,i<m/\v=f i)/\(∀i,i<m->v<=f i)/\∀{fa:DE}{ρ:En}{r:R},fa ρ=some r->r.d=Qc m f->dBf Qhq (Qb fa Qh) ρ=some ⟨.int v,true,[]⟩:=by
 obtain⟨v,hv⟩:=QnI (Qq8 m0 f)
 obtain⟨h1,h2⟩:=Qhg hv
 refine⟨v,?_,λi hi=>h2 _ (ZN.mpr ⟨i,Zl.mpr hi,rfl⟩),λ{fa ρ r} h e=>?_⟩
 ·obtain⟨i,hi,e⟩:=ZN.mp h1
  exact⟨i,Zl.mp hi,e.symm⟩
 ·unfold dBf
  rw[Qu h (Q3 _),Za]
  simp only[e,QkK,Qhq,Qf2,Za,hv,ZP]
theorem Qos(m0:0<m)(f:Nat->Int):∃v,(∃i,i<m/\v=f i)/\(∀i,i<m->f i<=v)/\∀{fa:DE}{ρ:En}{r:R},fa ρ=some r->r.d=Qc m f->dBf QfO (Qb fa Qh) ρ=some ⟨.int v,true,[]⟩:=by
 obtain⟨v,hv⟩:=Qn8 (Qq8 m0 f)
 obtain⟨h1,h2⟩:=Qhy hv
 refine⟨v,?_,λi hi=>h2 _ (ZN.mpr ⟨i,Zl.mpr hi,rfl⟩),λ{fa ρ r} h e=>?_⟩
 ·obtain⟨i,hi,e⟩:=ZN.mp h1
  exact⟨i,Zl.mp hi,e.symm⟩
 ·unfold dBf
  rw[Qu h (Q3 _),Za]
  simp only[e,QkK,QfO,Qf2,Za,hv,ZP]
noncomputable def QeH(QN:Den):DS:=(Qe (QcR (Qz 2 QN [] (Qb (Qa 0) (Qb (Qa 1) Qh)))) (Qe (Qbf (Qav (Qa 1)) (.nm 2) (Qe (sIf (QZ (dOp gLt (dBf Qhq (Qb (Qa 2) Qh)) (dC (.int 0)))) (Qe QG Qq) Qq) Qq)) Qq))
def QjS(d:Den):Prop:=∀(m:Nat) (R L:List (Int×Int)) (fs:List (Nat->Int)),0<m->(∀f∈fs,∀j,j<m->0<=f j)->d [Qs m R L,.lst (fs.map λf=>Qc m f)]=some (.non,true)
theorem Qso(hn:Qd0 dn):QjS (Qo 3 (QeH dn)):=λm R L fs m0 hf=>by
 have key:Run (QeH dn) (Qau 3 [Qs m R L,.lst (fs.map λf=>Qc m f)]) (Nx λ_=>True):=by
  refine run_seq (Qcz (Qx rfl (hn m R L fs) rfl) ?_)
  refine run_seq (Qat fs (λ_ ρ=>∃j2,ρ=[some (Qs m R L,false),some (.lst (fs.map λf=>Qc m f),false),j2]) rfl rfl ⟨none,rfl⟩ ?_ ?_)
  ·rintro i f ρ hi ⟨j2,rfl⟩
   refine⟨_,rfl,?_⟩
   obtain⟨v,⟨q,hq,e⟩,_,hv⟩:=Qvx m0 f
   have h0:=hf f (ZL hi) q hq
   refine run_seq (Qaq (b:=false) (Q1 (QaK (hv rfl rfl) rfl rfl) ?_) (λh=>by cases h) (λ_=>Qv (Qv ⟨_,rfl⟩)))
   show D.bl _=_
   rw[decide_eq_false (by omega)]
  ·rintro ρ ⟨j2,rfl⟩
   exact Qv trivial
 obtain⟨o,h1,h2⟩:=key
 unfold Qo
 rw[h1]
 cases o with
 | nx ρ=>rfl
 | _=>exact h2.elim
noncomputable def Qj5(QbK:Den)(Q7:Den)(Qdh:Den):DS:=(Qe (QcR (Qz 2 QbK [] (Qb (Qa 0) (Qb (Qag (Qb (Qa 1) Qh)) Qh)))) (Qe (Qt 2 (Qz 1 Q7 [] (Qb (Qa 0) Qh))) (Qe (Qt 3 (Qap (Qag (Qb (dC (.int 0)) Qh)) (Qr (Qa 0) (dC (.int 0))))) (Qe (Qt 4 (Qap (Qag (Qb (dC (.int 0)) Qh)) (Qr (Qa 0) (dC (.int 0))))) (Qe (Qt 5 (Qa6 (Qb (Qa 3) (Qb (Qa 4) Qh)))) (Qe (Qt 6 (dBf QfO (Qb (Qa 1) Qh))) (Qe (Qbf (Qfv (dOp Qam (Qlk (Qa 6)) (dC (.int 1))) (Qh5 (dC (.int 1))) (Qh5 (dC (.int 1)))) (.nm 7) (Qe (Qt 3 (Q5 (QaJ (Qr (Qa 5) (dC (.int 0))) (Qa 1)) (.tp [1,2]) [none,none,none,some 7] Qab (QO (Qap (dC (.int 2)) (Qa 1)) (dOp Qbb (dOp QlO (Qa 2) (Qa 3)) (dC (.int 2)))))) (Qe (Qt 4 (Q5 (Qav (Qr (Qa 5) (dC (.int 1)))) (.nm 1) [none,none] Qab (Qap (dC (.int 2)) (Qa 1)))) (Qe (Qt 5 (Qz 3 Qdh [] (Qb (Qa 2) (Qb (Qa 3) (Qb (Qa 4) Qh))))) Qq)))) (Qe (Q2 (Qa 5)) Qq))))))))
noncomputable def QdT(m:Nat)(T:Nat->Nat->Int)(f c:Nat->Int):D:= .tup [Qc m (Qg m T f c),Qc m c]
structure Told (m:Nat) (T:Nat->Nat->Int) (f c:Nat->Int):Prop where
 leg:Leg m T f c
 pos:∀j,j<m->0<=Qg m T f c j
 stb:Stb m T (Qg m T f c)
def QjT(d:Den):Prop:=∀(m:Nat) (R L:List (Int×Int)) (f:Nat->Int),0<m->m<=1000->QY m R L->(∀j,j<m->0<=f j/\f j<2^200)->∃c,d [Qs m R L,Qc m f]=some (QdT m (Qf m (Qd R L)) f c,true)/\Told m (Qf m (Qd R L)) f c
theorem Qrj(ha:fa ρ=some ra)(ea:ra.d= .int ((n:Int)-1))(hb:fb ρ=some rb)(eb:rb.d= .int (-1))(hc:fc ρ=some rc)(ec:rc.d= .int (-1))(hn:n<=16777216):Qfv fa fb fc ρ=some ⟨(List.range n).map λ(k:Nat)=> .int ((n:Int)-1-k),[]⟩:=by
 unfold Qfv
 rw[ha,Za,hb,Za,hc,Za,ea,eb,ec]
 show(if(n:Int)-1- -1<=16777216/\_ then _ else _)=_
 rw[if_pos ⟨by omega,by omega,by omega,by omega,by omega⟩]
 rw[show((n:Int)-1- -1).toNat=n by omega]
 rfl
theorem Qv6{fa fb:DE}{ρ:En}{ra rb:R}{a:Int}{k:Nat}(ha:fa ρ=some ra)(ea:ra.d= .int a)(hb:fb ρ=some rb)(eb:rb.d= .int k):dOp QlO fa fb ρ=some ⟨.int (a / 2^k),true,[]⟩:=by
 refine QaK ha hb ?_
 rw[ea,eb]
 show(if(0:Int)<=k then some (D.int (a / 2^(k:Int).toNat))else none)=_
 rw[if_pos (by omega),ZT]
theorem QsG(x:Int)(s:Nat):x / 2^s=2*(x / 2^(s+1))+x / 2^s % 2:=by
 have e:x / 2^(s+1)=x / 2^s / 2:=by rw[Int.pow_succ,Int.ediv_ediv_of_nonneg (Int.pow_nonneg (by decide))]
 rw[e]
 omega
theorem Qjc(e:∀j,j<m->f j=g j)(h:Told m T f c):Told m T g c where
 leg:=h.leg.QiI e
 pos:=λj hj=>by rw[← QU j (e j hj) (λ_ _=>rfl)];exact h.pos j hj
 stb:=λj hj=>by rw[← QU j (e j hj) (λ_ _=>rfl)];exact h.stb j hj
theorem QhR(e:∀j,j<m->f j=g j):QdT m T f c=QdT m T g c:=by
 unfold QdT
 rw[Qhj λj hj=>QU j (e j hj) λ_ _=>rfl]
theorem QsH(hn:QjS dn)(ht:QeG dt)(hs:QgJ ds):QjT (Qo 8 (Qj5 dn dt ds)):=λm R L f m0 hm hw hf=>by
 have hg:=hw.good
 have tp:=hw.tp
 have htoll:=ht m R L hm (by omega) hg.1 hg.2.1
 generalize hT:Qf m (Qd R L)=T at tp htoll ⊢
 obtain⟨top,⟨q,hq,etop⟩,hmax,evmax⟩:=Qos m0 f
 have htop0:0<=top:=by rw[etop];exact(hf q hq).1
 have hB:Builtin.Int.intBits top<=200:=by
  rw[intBits_le_iff]
  have:top<2^200:=by rw[etop];exact(hf q hq).2
  have e2:((2^200:Nat):Int)=(2:Int)^200:=by rw[Int.natCast_pow];rfl
  generalize (2:Int)^200=z at this e2
  generalize (2:Nat)^200=z' at e2 ⊢
  omega
 have hlt:∀j,j<m->f j / 2^Builtin.Int.intBits top=0:=λj hj=>by
  have h1:=(intBits_le_iff (m:=Builtin.Int.intBits top)).mp (Zh _)
  refine Int.ediv_eq_zero_of_lt (hf j hj).1 ?_
  have h2:=hmax j hj
  have e2:((2^Builtin.Int.intBits top:Nat):Int)=(2:Int)^Builtin.Int.intBits top:=by rw[Int.natCast_pow];rfl
  rw[← e2]
  omega
 generalize hBe:Builtin.Int.intBits top=B at hB hlt
 have key:Run (Qj5 dn dt ds) (Qau 8 [Qs m R L,Qc m f]) (Rt λd fr=>∃c,d=QdT m T f c/\fr=true/\Told m T f c):=by
  have hneed:=hn m R L [f] m0 (λg hg' j hj=>by rw[Zv.mp hg'];exact(hf j hj).1)
  refine run_seq (Qcz (Qx rfl hneed rfl) ?_)
  refine run_seq (Qj (Qx rfl htoll rfl) ?_)
  rw[Qn]
  refine run_seq (Qj (Qg0 rfl rfl (by omega)) ?_)
  rw[Qn]
  refine run_seq (Qj (Qg0 rfl rfl (by omega)) ?_)
  rw[Qn]
  refine run_seq (Qj rfl ?_)
  refine run_seq (Qj (evmax rfl rfl) ?_)
  rw[Qn]
  refine QaA (P:=λρ=>∃c j3 j4 j7,Told m T f c/\ρ=[some (Qs m R L,false),some (Qc m f,false),some (QF m m T,true),j3,j4,some (QdT m T f c,true),some (.int top,true),j7]) ?_ ?_
  ·refine Qat (List.range B) (λi ρ=>∃c j3 j4 j7,Told m T (λj=>f j / 2^(B-i)) c/\ρ=[some (Qs m R L,false),some (Qc m f,false),some (QF m m T,true),j3,j4,some (QdT m T (λj=>f j / 2^(B-i)) c,true),some (.int top,true),j7])
    (Qrj (QaK (ra:=⟨.int B,true,[]⟩) (by rw[← hBe];rfl) rfl rfl) rfl rfl rfl rfl rfl (by omega)) rfl ⟨λ_=>0,none,none,none,?_,?_⟩ ?_ ?_
   ·refine Qjc (λj hj=>(hlt j hj).symm) ⟨.nil,λj hj=>?_,λj hj=>?_⟩
    ·unfold Qg
     rw[Qp λi _=>by rw[ZO],Q0]
     exact Zak _
    ·unfold Qg
     rw[Qp λi _=>by rw[ZO],Q0]
     have:=tp.neg j hj
     show(0:Int)+0<_
     omega
   ·show _=[some (Qs m R L,false),some (Qc m f,false),some (QF m m T,true),none,none,some (QdT m T (λj=>f j / 2^B) λ_=>0,true),some (.int top,true),none]
    rw[← QhR λj hj=>(hlt j hj).symm]
    unfold QdT
    rw[Qsd]
    rfl
   ·rintro i i' ρ hi ⟨c,j3,j4,j7,hc,rfl⟩
    have hi':i<B/\i=i':=by
     obtain⟨h1,h2⟩:=Zd.mp hi
     simp at h1 h2;exact⟨h1,h2⟩
    obtain⟨hiB,rfl⟩:=hi'
    obtain⟨s,hsB⟩:∃s:Nat,B-i=s+1:=⟨B-i-1,by omega⟩
    have es:(B:Int)-1-i=(s:Int):=by omega
    have es2:B-(i+1)=s:=by omega
    rw[hsB]at hc
    rw[hsB,es2,es]
    generalize hF:(λj=>f j / 2^(s+1))=F at hc
    have hF':∀j,F j=f j / 2^(s+1):=λj=>by rw[← hF]
    refine⟨_,rfl,?_⟩
    have e2:∀j,2*F j+f j / 2^s % 2=f j / 2^s:=λj=>by rw[hF',← QsG]
    have erow:∀j,2*Qg m T F c j+f j / 2^s % 2=Qg m T (λj=>f j / 2^s) (λi=>2*c i) j:=λj=>by
     have:=Qoc (m:=m) (T:=T) (f:=F) (c:=c) (b:=λj=>f j / 2^s % 2) j
     rw[← this]
     exact(QU j (e2 j).symm λ_ _=>rfl).symm
    refine run_seq (Qj (r:=⟨Qc m (Qg m T (λj=>f j / 2^s) (λi=>2*c i)),true,[]⟩) ?_ ?_)
    ·have e:=QQ (fi:=QaJ (Qr (Qa 5) (dC (.int 0))) (Qa 1)) (t:= .tp [1,2]) (cap:=[none,none,none,some 7]) (fe:=QO (Qap (dC (.int 2)) (Qa 1)) (dOp Qbb (dOp QlO (Qa 2) (Qa 3)) (dC (.int 2)))) (ρ:=[some (Qs m R L,false),some (Qc m f,false),some (QF m m T,true),j3,j4,some (QdT m T F c,true),some (.int top,true),some (.int s,true)])
      (List.range m) (QbU rfl rfl rfl rfl) rfl λj hj=>
       ⟨[none,some (.int (Qg m T F c j),true),some (.int (f j),true),some (.int s,true)],rfl,_,Q4 (QaD rfl rfl rfl rfl (Qcb (by decide))) rfl (QaY (Qv6 rfl rfl rfl rfl) rfl rfl rfl (by decide)) rfl,rfl,rfl⟩
     refine e.trans ?_
     congr 2
     show D.lst _=D.lst _
     congr 1
     refine Zs λj _=>?_
     rw[erow]
    ·rw[Qn]
     refine run_seq (Qj (r:=⟨Qc m (λi=>2*c i),true,[]⟩) ?_ ?_)
     ·exact QQ (List.range m) (QaE rfl rfl) rfl λj hj=>⟨[none,some (.int (c j),true)],rfl,_,QaD rfl rfl rfl rfl (Qcb (by decide)),rfl,rfl⟩
     ·rw[Qn]
      obtain⟨d2,hd2,ed2⟩:=hc.leg.Qw3 (λj=>f j / 2^s % 2) (λj=>ZH _ (by decide))
      have hleg:Leg m T (λj=>f j / 2^s) (λi=>2*c i):=(hd2.cast ed2).QiI λj _=>e2 j
      have hpos:∀j,j<m->0<=Qg m T (λj=>f j / 2^s) (λi=>2*c i) j:=λj hj=>by
       rw[← erow]
       have:=hc.pos j hj
       have:=ZH (f j / 2^s) (by decide:(2:Int)≠0)
       omega
      obtain⟨k',h1,h2,h3,h4⟩:=hs m T _ _ hm tp hleg hpos
      refine run_seq (Qj (Qx rfl h1 rfl) (Qv ?_))
      rw[Qn]
      exact⟨k',_,_,_,⟨h2,h3,h4⟩,rfl⟩
   ·rintro ρ ⟨c,j3,j4,j7,hc,rfl⟩
    rw[ZM,Nat.sub_self]at *
    have e:∀j,j<m->f j / 2^0=f j:=λj _=>by rw[Int.pow_zero,Int.ediv_one]
    exact⟨c,_,_,_,Qjc e hc,by rw[QhR e]⟩
  ·rintro ρ ⟨c,j3,j4,j7,hc,rfl⟩
   exact QE rfl ⟨c,rfl,rfl,hc⟩
 obtain⟨o,h1,h2⟩:=key
 cases o with
 | rt d fr=>
  obtain⟨c,rfl,rfl,h3⟩:=h2
  exact⟨c,by unfold Qo;rw[h1];rfl,h3⟩
 | _=>exact h2.elim
noncomputable def QhH:DS:=(Qe (sIf (bOr (Qd6 (QZ (Qgy "list" (Qa 0)))) (QZ (dOp gNe (dBf QaS (Qb (Qa 0) Qh)) (dBf QaS (Qb (Qa 1) Qh))))) (Qe (Q2 (dC (.bl false))) Qq) Qq) (Qe (Qbf (QaJ (Qa 0) (Qa 1)) (.tp [2,3]) (Qe (sIf (bOr (Qd6 (QZ (Qgy "int" (Qa 2)))) (bOr (QZ (Qgy "bool" (Qa 2))) (QZ (dOp gNe (Qa 2) (Qa 3))))) (Qe (Q2 (dC (.bl false))) Qq) Qq) Qq)) (Qe (Q2 (dC (.bl true))) Qq)))
theorem QyO:Qji (Qo 4 QhH):=λns=>by
 refine Qad ?_
 refine Qah (Qaq (b:=false) (QcB (a:=false) (b:=false) (Qet (b:=true) (Q1 (b:=true) rfl rfl)) (Q1 (b:=false) (r:=⟨.bl false,true,[]⟩) ?_ rfl)) (λh=>by cases h) (λ_=>Qv ?_))
 ·rw[Qfy (Qct (xs:=ns.map D.int) rfl rfl) rfl (Qct (xs:=ns.map D.int) rfl rfl) rfl];simp
 refine Qah (Qat (toD:=λn=> .tup [.int n,.int n]) ns (λ_ ρ=>∃j2 j3,ρ=[some (.lst (ns.map .int),false),some (.lst (ns.map .int),false),j2,j3]) (ir:=⟨Qdx (ns.map D.int) (ns.map D.int),[]⟩) rfl (Qsg ns) ⟨none,none,rfl⟩ ?_ ?_)
 ·rintro i n ρ _ ⟨j2,j3,rfl⟩
  refine⟨_,rfl,?_⟩
  refine Qah (Qaq (b:=false) (QcB (a:=false) (b:=false) (Qet (b:=true) (Q1 (b:=true) rfl rfl)) (QcB (a:=false) (b:=false) (Q1 (b:=false) rfl rfl) (Q1 (b:=false) (r:=⟨.bl false,true,[]⟩) ?_ rfl))) (λh=>by cases h) (λ_=>Qv (Qv ⟨_,_,rfl⟩)))
  rw[Qfy (a:=n) (b:=n) rfl rfl rfl rfl];simp
 ·rintro ρ ⟨j2,j3,rfl⟩
  exact QE rfl ⟨rfl,rfl⟩
noncomputable def Qcl(m:Nat)(f:Nat->Int):Nat->Int:=λi=>if i<m then f i else 0
noncomputable def QdP(o:Nat->Int)(s:Int×Int)(j:Nat):Int:=(if s.2=j then o s.1.toNat else 0)-(if s.1=j then o s.1.toNat else 0)
theorem QpV(hj:j<m)(g:Good m s)(c:Nat->Int):Qi m (λi=>c i*hit i j s)=QdP (Qcl m c) s j:=by
 obtain⟨g1,g2,g3,g4,g5⟩:=g
 have e:Qi m (λi=>c i*hit i j s)=Qi m (λi=>(if i=s.1.toNat then(if s.2=j then 1 else 0)-(if s.1=j then 1 else 0)else 0)*c i):=Qp λi _=>by
  have:hit i j s=(if i=s.1.toNat then(if s.2=j then 1 else 0)-(if s.1=j then 1 else 0)else 0):=by
   unfold hit
   by_cases a:s.1=i
   ·rw[if_pos (show i=s.1.toNat by omega)]
    congr 1
    ·by_cases b:s.2=j
     ·rw[if_pos ⟨a,b⟩,if_pos b]
     ·rw[if_neg (λz=>b z.2),if_neg b]
    ·by_cases b:i=j
     ·rw[if_pos ⟨a,b⟩,if_pos (by omega)]
     ·rw[if_neg (λz=>b z.2),if_neg (by omega)]
   ·rw[if_neg (λz=>a z.1),if_neg (λz=>a z.1),if_neg (by omega)];rfl
  rw[this,Zat]
 rw[e]
 unfold QdP Qcl
 by_cases hm:s.1.toNat<m
 ·rw[Q8 hm,if_pos hm]
  by_cases a:s.2=j
  ·rw[if_pos a,if_pos a]
   by_cases b:s.1=j
   ·rw[if_pos b,if_pos b];omega
   ·rw[if_neg b,if_neg b];omega
  ·rw[if_neg a,if_neg a]
   by_cases b:s.1=j
   ·rw[if_pos b,if_pos b];omega
   ·rw[if_neg b,if_neg b];omega
 ·rw[Qp (g:=λ_=>0) λi hi=>by rw[if_neg (by omega),ZO],Q0,if_neg hm]
  simp
theorem QvE{m:Nat}{R L:List (Int×Int)}(hR:∀s∈R,Good m s)(hL:∀s∈L,Good m s)(f c:Nat->Int){j:Nat}(hj:j<m):
  Qg m (Qf m (Qd R L)) f c j=Qcl m f j+(R.map λs=>QdP (Qcl m c) s j+QdP (Qcl m c) s.swap j).sum+(L.map λs=>QdP (Qcl m c) s j).sum:=by
 have gS:=Qbc hR hL
 have e:Qi m (λi=>c i*Qf m (Qd R L) i j)=((Qd R L).map λs=>QdP (Qcl m c) s j).sum:=by
  rw[Qp (g:=λi=>((Qd R L).map λs=>c i*hit i j s).sum) λi hi=>by
   rw[Qa7 hi hj λs hs=>⟨(gS s hs).1,(gS s hs).2.1⟩,Qj4]]
  rw[QdU m (λi s=>c i*hit i j s) (Qd R L)]
  congr 1
  exact Zs λs hs=>QpV hj (gS s hs) c
 unfold Qg
 rw[e,show Qcl m f j=f j by unfold Qcl;rw[if_pos hj]]
 unfold Qd
 rw[Zaa,Zbq,Zaa,Zbq,ZR]
 have:∀R:List (Int×Int),(R.map λs=>QdP (Qcl m c) s j+QdP (Qcl m c) s.swap j).sum=(R.map λs=>QdP (Qcl m c) s j).sum+(R.map ((λs=>QdP (Qcl m c) s j) ∘ Prod.swap)).sum:=by
  intro R
  induction R with
  | nil=>rfl
  | cons s R ih=>simp only[Zj,ZF,ih,Function.comp];omega
 rw[this]
 omega
theorem Qok{a:Int}{k:Nat}{ρ:En}(h1:a.natAbs<2^200)(h2:k<=1000):dOp Qex (dC (.int a)) (dC (.int k)) ρ=some ⟨.int (a^k),true,[]⟩:=by
 refine QaK (ra:=⟨.int a,true,[]⟩) (rb:=⟨.int k,true,[]⟩) rfl rfl ?_
 show(if 0<=(k:Int)/\(k:Int)<=1000/\a.natAbs<2^200 then some (D.int (a^(k:Int).toNat))else none)=_
 rw[if_pos ⟨by omega,by omega,h1⟩,ZT]
theorem QlE(h:fs ρ=some rs)(hl:rs.ds.length<=64):Qag fs ρ=some ⟨.lst rs.ds,rs.fr,rs.M⟩:=by
 unfold Qag
 rw[h,Za,if_pos hl]
theorem QjB(n m:Nat)(f:Nat->Int):(Qc m f).sim (n+1)=true:=by
 unfold Qc
 simp only[D.sim,List.all_map,Zav]
 intro p _
 cases n<;>rfl
theorem QnV{fa fb:DE}{ρ:En}{ra rb:R}{m n:Nat}{f:Nat->Nat->Int}{i:Int}(ha:fa ρ=some ra)(ea:ra.d=QF m n f)(hb:fb ρ=some rb)(eb:rb.d= .int i)(h0:0<=i)(h:i<m):Qr fa fb ρ=some ⟨Qc n (f i.toNat),ra.fr,ra.M⟩:=by
 unfold Qr
 rw[ha,Za,hb,Za,ea,eb]
 simp only[QF,D.items,Za,QnQ h0 h,ZP]
 rfl
noncomputable def QiF:DS:=(Qe (Q2 (dOp gEq (dBf QaS (Qb (Qr (Qa 0) (dC (.int 2))) Qh)) (dC (.int 0)))) Qq)
def Qj8(d:Den):Prop:=∀(m:Int) (R L:List (Int×Int)),d [Qs m R L]=some (.bl (decide ((L.length:Int)=0)),true)
theorem QrA:Qj8 (Qo 1 QiF):=λm R L=>by
 refine Qad ?_
 refine QE (QgR (Qct (QbH (r:=⟨Qs m R L,false,[]⟩) rfl rfl).2.2 rfl) rfl rfl rfl) ⟨?_,rfl⟩
 simp
theorem Qfj:∀{l:List Nat},l.Nodup->(∀o∈l,o<m)->(l.map g).sum=Qi m λo=>if o∈l then g o else 0
 | [],_,_=>by
  rw[Qp (g:=λ_=>0) λi _=>by rw[if_neg (by simp)],Q0];rfl
 | a::l,nd,h=>by
  have nd':=Zah.mp nd
  rw[Zj,ZF,Qfj nd'.2 λo ho=>h o (by simp[ho])]
  have e:=Q8 (m:=m) (p:=a) (h a (by simp)) 1 g
  rw[show g a=1*g a by rw[Zap],← e,← QJ]
  refine Qp λo _=>?_
  by_cases ho:o=a
  ·subst ho
   rw[if_pos rfl,if_neg nd'.1,if_pos (by simp)];omega
  ·rw[if_neg ho]
   by_cases hl:o∈l
   ·rw[if_pos hl,if_pos (by simp[hl])];omega
   ·rw[if_neg hl,if_neg (by simp[ho,hl])];omega
theorem Qvo{m:Nat}{g:Nat->Int}{l k:List Nat}(hl:l.Nodup)(hk:k.Nodup)(sub:∀o∈l,o∈k)(hm:∀o∈k,o<m)(pos:∀o∈k,0<=g o):(l.map g).sum<=(k.map g).sum:=by
 rw[Qfj hl λo ho=>hm o (sub o ho),Qfj hk hm]
 refine Qbn λo _=>?_
 by_cases h:o∈l
 ·rw[if_pos h,if_pos (sub o h)];exact Zak _
 ·rw[if_neg h]
  by_cases h2:o∈k
  ·rw[if_pos h2];exact pos o h2
  ·rw[if_neg h2];exact Zak _
theorem Qtd{m:Nat}{R:List (Int×Int)}(hR:∀s∈R,Good m s){i j:Nat}(hi:i<m)(hj:j<m)(hij:i≠j):Qf m (Qd R []) i j=Qf m (Qd R []) j i:=by
 have gS:=Qbc (L:=[]) hR (λs hs=>absurd hs (by simp))
 have hn:∀s∈Qd R [],0<=s.1/\0<=s.2:=λs hs=>⟨(gS s hs).1,(gS s hs).2.1⟩
 rw[Qa7 hi hj hn,Qa7 hj hi hn]
 unfold Qd
 rw[Zay,Zaa,Zaa,Zbq,Zbq,ZR,ZR]
 have e:∀i j:Nat,i≠j->∀s:Int×Int,(hit i j ∘ Prod.swap) s=hit j i s:=λi j h s=>by
  unfold hit
  simp only[Function.comp,ZbF,ZbX]
  rw[if_neg (λz=>h z.2) (c:=s.2=i/\i=j),if_neg (λz=>h z.2.symm) (c:=s.1=j/\j=i)]
  congr 1
  by_cases a:s.2=i
  ·by_cases b:s.1=j
   ·rw[if_pos ⟨a,b⟩,if_pos ⟨b,a⟩]
   ·rw[if_neg (λz=>b z.2),if_neg (λz=>b z.1)]
  ·rw[if_neg (λz=>a z.1),if_neg (λz=>a z.2)]
 rw[Zs λs _=>e i j hij s,Zs λs _=>e j i (λz=>hij z.symm) s]
 omega
noncomputable def Qak(T:Nat->Nat->Int)(p:Nat)(l:List Nat):Int:=((l.filter λo=>decide (o≠p)).map (T p)).sum
noncomputable def Qb1(T:Nat->Nat->Int)(a:Nat->Int)(l:List Nat):List Nat:=l.filter λp=>decide (Qak T p l<=a p)
noncomputable def Qc7(T:Nat->Nat->Int)(a:Nat->Int)(l:List Nat):List Nat:=l.filter λp=> !(Qb1 T a l).contains p
theorem QsQ(tp:TP m T)(sym:∀i j,i<m->j<m->i≠j->T i j=T j i)(h:Told m T f c)(nd:l.Nodup)(ne:l≠[])(hl:∀p∈l,p<m/\0<c p):Qb1 T (Qg m T f c) l≠[]:=λz=>by
 have hno:∀p∈l,Qg m T f c p<Qak T p l:=λp hp=>by
  have:¬p∈Qb1 T (Qg m T f c) l:=by rw[z];simp
  unfold Qb1 at this
  rw[ZE]at this
  by_cases h2:Qak T p l<=Qg m T f c p
  ·exact absurd ⟨hp,by rw[decide_eq_true h2]⟩ this
  ·omega
 have key:=h.leg.least tp (c':=λi=>c i-(if i∈l then 1 else 0)) (λi hi=>by
  have:=h.leg.nonneg i
  show 0<=c i-(if i∈l then 1 else 0)
  split
  ·have:=(hl i ‹_›).2;omega
  ·omega) (λj hj=>by
  have e:Qg m T f (λi=>c i-(if i∈l then 1 else 0)) j=Qg m T f c j-Qi m λi=>if i∈l then T i j else 0:=by
   unfold Qg
   have e1:(λi=>(c i-(if i∈l then 1 else 0))*T i j)=λi=>c i*T i j+ -(if i∈l then T i j else 0):=by
    funext i
    rw[Int.sub_mul]
    split<;>omega
   rw[e1,QJ,Qaz]
   omega
  rw[e]
  have hs:=h.stb j hj
  by_cases hjl:j∈l
  ·have hn:=hno j hjl
   have e2:(Qi m λi=>if i∈l then T i j else 0)=Qak T j l+T j j:=by
    unfold Qak
    rw[Qfj (m:=m) (nd.filter _) λo ho=>(hl o (ZE.mp ho).1).1]
    have e3:=Q8 (m:=m) (p:=j) hj 1 (λi=>T j i)
    rw[show T j j=1*T j j by rw[Zap],← e3,← QJ]
    refine Qp λi hi=>?_
    by_cases hij:i=j
    ·subst hij
     rw[if_pos hjl,if_pos rfl,if_neg (by simp)];omega
    ·rw[if_neg hij]
     by_cases hil:i∈l
     ·rw[if_pos hil,if_pos (ZE.mpr ⟨hil,by simpa using hij⟩),sym i j hi hj hij];omega
     ·rw[if_neg hil,if_neg (λz=>hil (ZE.mp z).1)];omega
   rw[e2]
   omega
  ·have:0<=Qi m λi=>if i∈l then T i j else 0:=by
    have:=Qbn (m:=m) (f:=λ_=>0) (g:=λi=>if i∈l then T i j else 0) λi hi=>by
     show(0:Int)<=if i∈l then T i j else 0
     split
     ·refine tp.pos i j hi hj λe=>?_
      subst e
      exact hjl ‹_›
     ·exact Zak _
    rw[Q0]at this
    exact this
   omega)
 cases l with
 | nil=>exact ne rfl
 | cons p l=>
  have:=key p (hl p (by simp)).1
  have:c p<=c p-(if p∈p::l then 1 else 0):=this
  rw[if_pos (by simp)]at this
  omega
noncomputable def QeA(QcP:Den):DS:=(Qe (sIf (Qd6 (QZ (Qz 1 QcP [] (Qb (Qa 0) Qh)))) (Qe QG Qq) Qq) Qq)
def QjQ(d:Den):Prop:=∀(m:Nat) (R:List (Int×Int)),d [Qs m R []]=some (.non,true)
theorem QrR(hp:Qj8 dp):QjQ (Qo 1 (QeA dp)):=λm R=>by
 have key:Run (QeA dp) (Qau 1 [Qs m R []]) (Nx λ_=>True):=by
  refine run_seq (Qaq (b:=false) (Qet (b:=true) (Q1 (b:=true) (Qx (r:=⟨[Qs m R []],false,[]⟩) rfl (hp m R []) rfl) rfl)) (λh=>by cases h) (λ_=>Qv (Qv trivial)))
 obtain⟨o,h1,h2⟩:=key
 unfold Qo
 rw[h1]
 cases o with
 | nx ρ=>rfl
 | _=>exact h2.elim
theorem Qoo[Decidable A](hx:0<=x):∀{l:List Nat},l.Nodup->(l.map λ(o:Nat)=>if A/\x=(o:Int)then(1:Int)else 0).sum=if A/\x.toNat∈l then 1 else 0
 | [],_=>by simp
 | a::l,nd=>by
  have nd':=Zah.mp nd
  rw[Zj,ZF,Qoo hx nd'.2]
  by_cases hA:A
  ·by_cases h:x=a
   ·have:x.toNat=a:=by omega
    rw[if_pos ⟨hA,h⟩,if_neg (λz=>nd'.1 (this▸z.2)),if_pos ⟨hA,by simp[this]⟩];rfl
   ·have:¬x.toNat=a:=by omega
    rw[if_neg (λz=>h z.2)]
    by_cases h2:x.toNat∈l
    ·rw[if_pos ⟨hA,h2⟩,if_pos ⟨hA,by simp[h2]⟩];rfl
    ·rw[if_neg (λz=>h2 z.2),if_neg (λz=>by rcases Zq.mp z.2 with e | e;exact this e;exact h2 e)];rfl
  ·rw[if_neg (λz=>hA z.1),if_neg (λz=>hA z.1),if_neg (λz=>hA z.1)];rfl
theorem Qko{β:Type}:∀S:List β,(S.map λ_=>(0:Int)).sum=0
 | []=>rfl
 | _::S=>by rw[Zj,ZF,Qko S];rfl
theorem QgG{α β:Type}(g:α->β->Int):∀(l:List α) (S:List β),(l.map λo=>(S.map (g o)).sum).sum=(S.map λs=>(l.map λo=>g o s).sum).sum
 | [],S=>(Qko S).symm
 | a::l,S=>by
  rw[Zj,ZF,QgG g l S]
  clear QgG
  induction S with
  | nil=>rfl
  | cons s S ih=>simp only[Zj,ZF]at ih ⊢;omega
noncomputable def QS(p:Nat)(l:List Nat)(s:Int×Int):Int:=if(s.1=p/\s.2.toNat∈l)∨(s.2=p/\s.1.toNat∈l)then 1 else 0
theorem QkA{m:Nat}{R:List (Int×Int)}(hR:∀s∈R,Good m s){p:Nat}(hp:p<m){l:List Nat}(nd:l.Nodup)(hl:∀o∈l,o<m)(hpl:p∉l):(l.map (Qf m (Qd R []) p)).sum=(R.map (QS p l)).sum:=by
 have gS:=Qbc (L:=[]) hR (λs hs=>absurd hs (by simp))
 have hn:∀s∈Qd R [],0<=s.1/\0<=s.2:=λs hs=>⟨(gS s hs).1,(gS s hs).2.1⟩
 have e1:l.map (Qf m (Qd R []) p)=l.map λo=>((Qd R []).map (hit p o)).sum:=Zs λo ho=>Qa7 hp (hl o ho) hn
 rw[e1,QgG (λo s=>hit p o s) l (Qd R [])]
 have e2:(Qd R []).map (λs=>(l.map λo=>hit p o s).sum)=(Qd R []).map λs=>if s.1=(p:Int)/\s.2.toNat∈l then(1:Int)else 0:=Zs λs hs=>by
  rw[← Qoo (hn s hs).2 nd]
  congr 1
  refine Zs λo ho=>?_
  unfold hit
  rw[if_neg (λz=>hpl (z.2▸ho)) (c:=s.1=p/\p=o)];omega
 rw[e2]
 unfold Qd
 rw[Zay,Zaa,Zbq,ZR]
 clear e1 e2 hn gS
 induction R with
 | nil=>rfl
 | cons s R ih=>
  have hs:=hR s (by simp)
  obtain⟨h1,h2,h3,h4,h5⟩:=hs
  have ih:=ih λs hs=>hR s (by simp[hs])
  simp only[Zj,ZF,Function.comp,ZbF,ZbX]at ih ⊢
  have:(if s.1=p/\s.2.toNat∈l then(1:Int)else 0)+(if s.2=p/\s.1.toNat∈l then 1 else 0)=QS p l s:=by
   unfold QS
   by_cases a:s.1=p/\s.2.toNat∈l
   ·rw[if_pos a,if_neg (λz=>h5 (a.1.trans z.1.symm)) (c:=s.2=p/\s.1.toNat∈l),if_pos (Or.inl a)];rfl
   ·by_cases b:s.2=p/\s.1.toNat∈l
    ·rw[if_neg a,if_pos b,if_pos (Or.inr b)];rfl
    ·rw[if_neg a,if_neg b,if_neg (λz=>z.elim a b)];rfl
  omega
noncomputable def Qlp(w:Int×Int×Bool):Int×Int×Bool:=(w.1,w.2.1,false)
theorem Qqh(he:Esc m W)(hg:∀w∈W,GoodW m w)(hl:W.length<=200):QY m (W.map Qb2) []:=by
 refine⟨W.map Qlp,λA hA=>?_,λw hw=>?_,by rw[Zg];exact hl,?_,?_⟩
 ·obtain⟨w,h1,h2⟩:=he A hA
  exact⟨Qlp w,ZN.mpr ⟨w,h1,rfl⟩,h2⟩
 ·obtain⟨w',h1,rfl⟩:=ZN.mp hw
  exact⟨(hg w' h1).1,λz=>by cases z⟩
 ·unfold Qdi
  rw[ZbN.mpr λw hw=>by obtain⟨w',_,rfl⟩:=ZN.mp hw;rfl,ZR]
  rfl
 ·unfold QdA
  rw[List.filter_eq_nil_iff.mpr λw hw=>by obtain⟨w',_,rfl⟩:=ZN.mp hw;simp[Qlp]]
  rfl
noncomputable def Qo8:Option Int->D
 | none=> .non
 | some i=> .int i
@[simp] theorem QsC(o:Option Int):(Qo8 o).flat=true:=by cases o<;>rfl
noncomputable def Qy5(m:Nat)(F:Nat->Option Int):D:= .lst ((List.range m).map λi=>Qo8 (F i))
@[simp] theorem QzL(m:Nat)(F:Nat->Option Int):(Qy5 m F).flat=false:=rfl
@[simp] theorem Qy4(m:Nat)(F:Nat->Option Int):QR ((List.range m).map λi=>Qo8 (F i))=true:=Qbd (f:=λi=>Qo8 (F i)) (λ_=>QsC _) _
noncomputable def QI(T:Nat->Nat->Int)(h:Nat->Int)(m:Nat):Nat->List Nat
 | 0=>List.range m
 | k+1=>Qc7 T h (QI T h m k)
noncomputable def Qas(T:Nat->Nat->Int)(h:Nat->Int)(m:Nat):Nat->Nat->Option Int
 | 0,_=>none
 | k+1,p=>if p∈Qb1 T h (QI T h m k)then some ((k:Int)+1)else Qas T h m k p
theorem QbZ:∀k,(QI T h m k).Nodup
 | 0=>ZaT
 | k+1=>(QbZ k).filter _
theorem Qdb:p∈Qc7 T h l↔p∈l/\p∉Qb1 T h l:=by
 unfold Qc7
 rw[ZE]
 simp
theorem Qcx:p∈Qb1 T h l↔p∈l/\Qak T p l<=h p:=by
 unfold Qb1
 rw[ZE]
 simp
theorem QdB(hkj:k<=j)(hp:p∈QI T h m j):p∈QI T h m k:=by
 induction j with
 | zero=>rw[show k=0 by omega];exact hp
 | succ j ih=>
  by_cases e:k=j+1
  ·rw[e];exact hp
  ·exact ih (by omega) (Qdb.mp hp).1
theorem QdK(hp:p∈QI T h m k):p<m:=Zl.mp (QdB (Zac k) hp)
theorem Qd2:∀k p,p<m->(Qas T h m k p=none↔p∈QI T h m k)
 | 0,p,hp=>⟨λ_=>Zl.mpr hp,λ_=>rfl⟩
 | k+1,p,hp=>by
  show(if p∈Qb1 T h (QI T h m k)then some ((k:Int)+1)else Qas T h m k p)=none↔p∈Qc7 T h (QI T h m k)
  rw[Qdb]
  by_cases hr:p∈Qb1 T h (QI T h m k)
  ·rw[if_pos hr]
   exact⟨λz=>(by cases z),λz=>absurd hr z.2⟩
  ·rw[if_neg hr,Qd2 k p hp]
   exact⟨λz=>⟨z,hr⟩,λz=>z.1⟩
theorem QdV:∀k p t,Qas T h m k p=some t->∃j:Nat,j<k/\t=(j:Int)+1/\p∈QI T h m j/\p∉QI T h m (j+1)/\Qak T p (QI T h m j)<=h p
 | 0,_,_,e=>by cases e
 | k+1,p,t,e=>by
  unfold Qas at e
  by_cases hr:p∈Qb1 T h (QI T h m k)
  ·rw[if_pos hr]at e
   cases e
   exact⟨k,by omega,rfl,(Qcx.mp hr).1,λz=>(Qdb.mp z).2 hr,(Qcx.mp hr).2⟩
  ·rw[if_neg hr]at e
   obtain⟨j,h1,h2⟩:=QdV k p t e
   exact⟨j,by omega,h2⟩
theorem QfY(pos:∀i j,i<m->j<m->i≠j->0<=T i j)(hp:p<m)(hl:l.Nodup)(hk:k.Nodup)(hm:∀o∈k,o<m)(sub:∀o∈l,o∈k):Qak T p l<=Qak T p k:=by
 unfold Qak
 refine Qvo (m:=m) (hl.filter _) (hk.filter _) (λo ho=>?_) (λo ho=>hm o (ZE.mp ho).1) (λo ho=>pos p o hp (hm o (ZE.mp ho).1) λe=>?_)
 ·obtain⟨h1,h2⟩:=ZE.mp ho
  exact ZE.mpr ⟨sub o h1,h2⟩
 ·have:=(ZE.mp ho).2
  simp at this
  exact this e.symm
theorem QgN(pos:∀i j,i<m->j<m->i≠j->0<=T i j)(hg:∀j,j<m->h j<=g j):∀k p,p∈QI T g m k->p∈QI T h m k
 | 0,p,hp=>hp
 | k+1,p,hp=>by
  obtain⟨h1,h2⟩:=Qdb.mp hp
  have h3:=QgN pos hg k p h1
  refine Qdb.mpr ⟨h3,λz=>h2 (Qcx.mpr ⟨h1,?_⟩)⟩
  have h4:=(Qcx.mp z).2
  have h5:=hg p (QdK h1)
  have h6:=QfY pos (QdK h1) (QbZ (T:=T) (h:=g) (m:=m) k) (QbZ (T:=T) (h:=h) (m:=m) k) (λo ho=>QdK ho) (λo ho=>QgN pos hg k o ho)
  omega
theorem Qrh(pos:∀i j,i<m->j<m->i≠j->0<=T i j)(hg:∀j,j<m->h j<=g j)(hp:p<m)(e:Qas T h m m p=some t):∃t',Qas T g m m p=some t'/\t'<=t:=by
 obtain⟨j,h1,h2,_,h4,_⟩:=QdV m p t e
 have h5:p∉QI T g m (j+1):=λz=>h4 (QgN pos hg _ _ z)
 cases e2:Qas T g m m p with
 | none=>exact absurd (QdB (by omega) ((Qd2 m p hp).mp e2)) h5
 | some t'=>
  obtain⟨j',g1,g2,g3,_⟩:=QdV m p t' e2
  refine⟨t',rfl,?_⟩
  by_cases hj:j+1<=j'
  ·exact absurd (QdB hj g3) h5
  ·omega
theorem QqL{fa fb:DE}{ρ:En}{ra rb:R}{i j:Int}{n:Nat}(ha:fa ρ=some ra)(ea:ra.d= .int i)(hb:fb ρ=some rb)(eb:rb.d= .int j)(hn:(n:Int)=j-i)(hl:n<=16777216)(h1: -(2^62)<=i)(h2:i<2^61):Qeg fa fb ρ=some ⟨(List.range n).map λ(k:Nat)=> .int (i+k),[]⟩:=by
 unfold Qeg
 rw[ha,Za,hb,Za,ea,eb]
 show(if j-i<=16777216/\_ then _ else _)=_
 rw[if_pos ⟨by omega,by omega,by omega,by omega,by omega⟩]
 rw[show(j-i).toNat=n by omega]
 rfl
noncomputable def prs(W:List (Int×Int×Bool)):List (Int×Int):=W.map Qbg
theorem Qm8(p:Nat)(l:List Nat)(s:Int×Int):0<=QS p l s/\QS p l s<=1:=by unfold QS;split<;>omega
theorem Qrz{T:Nat->Nat->Int}{h:Nat->Int}{m:Nat}{k p:Nat}(hp:p<m){j:Nat}(hj:j<=k):p∈QI T h m j↔(Qas T h m k p=none∨∃t,Qas T h m k p=some t/\(j:Int)+1<=t):=by
 cases e:Qas T h m k p with
 | none=>exact⟨λ_=> .inl rfl,λ_=>QdB hj ((Qd2 k p hp).mp e)⟩
 | some t=>
  obtain⟨i,h1,h2,h3,h4,_⟩:=QdV k p t e
  constructor
  ·intro z
   refine .inr ⟨t,rfl,?_⟩
   by_cases hh:j<=i
   ·omega
   ·exact absurd (QdB (show i+1<=j by omega) z) h4
  ·rintro(z | ⟨t',z,hz⟩)
   ·cases z
   ·cases z
    exact QdB (show j<=i by omega) h3
theorem QmM{T:Nat->Nat->Int}{h:Nat->Int}{l:List Nat}:Qc7 T h l=l∨(Qc7 T h l).length<l.length:=by
 by_cases e:(Qc7 T h l).length<l.length
 ·exact .inr e
 ·left
  unfold Qc7 at e ⊢
  have h1:=Zbb (λp=> !(Qb1 T h l).contains p) l
  rw[ZbN]
  intro a ha
  have h2:=List.length_filter_eq_length_iff.mp (Nat.le_antisymm (Zbb _ l) (Nat.le_of_not_lt e))
  exact h2 a ha
theorem Ql2{T:Nat->Nat->Int}{h:Nat->Int}{m:Nat}:∀k,QI T h m (k+1)=QI T h m k∨(QI T h m (k+1)).length+(k+1)<=m
 | 0=>by
  rcases QmM (T:=T) (h:=h) (l:=QI T h m 0)with e | e
  ·exact .inl e
  ·right
   have:(QI T h m 0).length=m:=ZM
   show(Qc7 T h (QI T h m 0)).length+1<=m
   omega
 | k+1=>by
  rcases Ql2 (T:=T) (h:=h) (m:=m) k with e | e
  ·left
   show Qc7 T h (QI T h m (k+1))=QI T h m (k+1)
   rw[e]
   exact e
  ·rcases QmM (T:=T) (h:=h) (l:=QI T h m (k+1))with e2 | e2
   ·exact .inl e2
   ·right
    show(Qc7 T h (QI T h m (k+1))).length+(k+1+1)<=m
    omega
theorem QmH{T:Nat->Nat->Int}{h:Nat->Int}{m p:Nat}(hp:p∈QI T h m m):h p<Qak T p (QI T h m m):=by
 have hm:0<m:=ZaM (Zac _) (QdK hp)
 have key:QI T h m (m+1)=QI T h m m:=by
  rcases Ql2 (T:=T) (h:=h) (m:=m) m with e | e
  ·exact e
  ·omega
 have h1:p∈Qc7 T h (QI T h m m):=by
  show p∈QI T h m (m+1)
  rw[key];exact hp
 have h2:=(Qdb.mp h1).2
 by_cases h3:Qak T p (QI T h m m)<=h p
 ·exact absurd (Qcx.mpr ⟨hp,h3⟩) h2
 ·omega
theorem Qo9{m:Nat}{s:Int×Int}(g:Good m s){p:Nat}{l:List Nat}:QS p (l.filter λo=>decide (o≠p)) s=QS p l s:=by
 obtain⟨g1,g2,g3,g4,g5⟩:=g
 unfold QS
 have e1:(s.1=p/\s.2.toNat∈l.filter λo=>decide (o≠p))↔(s.1=p/\s.2.toNat∈l):=by
  rw[ZE]
  constructor
  ·rintro⟨a,b,_⟩;exact⟨a,b⟩
  ·rintro⟨a,b⟩;exact⟨a,b,decide_eq_true (by omega)⟩
 have e2:(s.2=p/\s.1.toNat∈l.filter λo=>decide (o≠p))↔(s.2=p/\s.1.toNat∈l):=by
  rw[ZE]
  constructor
  ·rintro⟨a,b,_⟩;exact⟨a,b⟩
  ·rintro⟨a,b⟩;exact⟨a,b,decide_eq_true (by omega)⟩
 simp only[e1,e2]
theorem Qe8{m:Nat}{R:List (Int×Int)}(hR:∀s∈R,Good m s){p:Nat}(hp:p<m){l:List Nat}(nd:l.Nodup)(hl:∀o∈l,o<m):Qak (Qf m (Qd R [])) p l=(R.map (QS p l)).sum:=by
 unfold Qak
 rw[QkA hR hp (nd.filter _) (λo ho=>hl o (ZE.mp ho).1) (λz=>by have:=(ZE.mp z).2;simp at this)]
 rw[Zs λs hs=>Qo9 (hR s hs)]
theorem QiJ{m:Nat}{R:List (Int×Int)}(hR:∀s∈R,Good m s)(p:Nat):(R.map (QS p (List.range (m+1)))).sum=Qy R [] p:=by
 unfold Qy
 rw[Zbg,List.sum_nil,Zbh]
 congr 1
 refine Zs λs hs=>?_
 obtain⟨g1,g2,g3,g4,g5⟩:=hR s hs
 unfold QS isI
 have e1:s.2.toNat∈List.range (m+1):=Zl.mpr (by omega)
 have e2:s.1.toNat∈List.range (m+1):=Zl.mpr (by omega)
 by_cases a:s.1=p
 ·have b:¬s.2=p:=by omega
  simp[a,b,e1,e2]
 ·by_cases b:s.2=p
  ·simp[a,b,e1,e2]
  ·simp[a,b,e1,e2]
theorem Qod:∀bs:List Bool,QjU (bs.map D.bl)=some bs
 | []=>rfl
 | b::bs=>by
  show Option.bind (some b) (λi=>(QjU (bs.map D.bl)).map λr=>i::r)=_
  rw[Qod bs];rfl
noncomputable def Qyk(F:Nat->Option Int)(t:Int)(o:Nat):Bool:=match F o with
 | none=>true
 | some u=>decide (t<=u)
noncomputable def Qyg(m:Nat)(F:Nat->Option Int)(t:Int):List Nat:=(List.range m).filter (Qyk F t)
noncomputable def QsT(R:List (Int×Int))(m:Nat)(F:Nat->Option Int)(p:Nat)(t:Int):Int:=(R.map (QS p (Qyg m F t))).sum
structure QzR (R:List (Int×Int)) (m:Nat) (h:Nat->Int) (F:Nat->Option Int):Prop where
 rg:∀p t,p<m->F p=some t->1<=t/\t<=m
 no:∀p,p<m->F p=none->h p<QsT R m F p ((m:Int)+1)
 en:∀p t,p<m->F p=some t->QsT R m F p t<=h p
 la:∀p t,p<m->F p=some t->1<t->h p<QsT R m F p (t-1)
theorem QhL{α:Type}:∀{l:List α}{j:Nat}{a:α},l[j]? =some a->(a::l.eraseIdx j).Perm l
 | [],_,_,h=>by simp at h
 | b::l,0,a,h=>by simp at h;subst h;exact List.Perm.refl _
 | b::l,j+1,a,h=>by
  have ih:=QhL (l:=l) (j:=j) (a:=a) (by simpa using h)
  rw[ZaI]
  exact(List.Perm.swap b a _).trans (ih.cons b)
theorem Qjj{α:Type}{g:α->Int}:∀{S:List α},(∀s∈S,0<=g s)->(∃s∈S,0<g s)->0<(S.map g).sum
 | [],_,⟨_,h,_⟩=>absurd h (by simp)
 | a::S,h0,⟨s,hs,hp⟩=>by
  rw[Zj,ZF]
  have h1:=h0 a (by simp)
  have h2:=QcN S λs hs=>h0 s (by simp[hs])
  rcases Zq.mp hs with rfl | hs
  ·omega
  ·have:=Qjj (λs hs=>h0 s (by simp[hs])) ⟨s,hs,hp⟩
   omega
theorem Qqe{m:Nat}{R:List (Int×Int)}(hw:QY m R []):Qls m (Qd R []):=by
 obtain⟨W,h1,h2,h3,h4,h5⟩:=hw.ex
 have:=Qks h1
 rw[← h4,← h5]at this
 exact this
theorem Qu3{m:Nat}{R:List (Int×Int)}(hw:QY m R [])(A:Nat->Prop)(hA:∃p,p<m/\A p):∃p,p<m/\A p/\∃s∈R,(s.1=p/\(s.2=m∨¬A s.2.toNat))∨(s.2=p/\(s.1=m∨¬A s.1.toNat)):=by
 obtain⟨s,h1,h2,h3,h4⟩:=Qqe hw A hA
 unfold Qd at h1
 rw[Zay]at h1
 have hg:=hw.good.1
 rcases ZG.mp h1 with h | h
 ·obtain⟨g1,_⟩:=hg s h
  exact⟨s.1.toNat,by omega,h3,s,h,.inl ⟨by omega,h4⟩⟩
 ·obtain⟨r,hr,rfl⟩:=ZN.mp h
  obtain⟨g1,g2,_⟩:=hg r hr
  simp only[ZbF,ZbX]at h2 h3 h4
  exact⟨r.2.toNat,by omega,h3,r,hr,.inr ⟨by omega,h4⟩⟩
theorem QiE{α:Type}{f g h:α->Int}:∀{S:List α},(∀s∈S,f s+g s<=h s)->(S.map f).sum+(S.map g).sum<=(S.map h).sum
 | [],_=>by simp
 | a::S,H=>by
  have h1:=H a (by simp)
  have h2:=QiE (S:=S) λs hs=>H s (by simp[hs])
  simp only[Zj,ZF]
  omega
theorem Qed{α:Type}{f h:α->Int}:∀{S:List α},(∀s∈S,f s<=h s)->(S.map f).sum<=(S.map h).sum
 | [],_=>by simp
 | a::S,H=>by
  have h1:=H a (by simp)
  have h2:=Qed (S:=S) λs hs=>H s (by simp[hs])
  simp only[Zj,ZF]
  omega
theorem QqY{p:Nat}{l k:List Nat}{s:Int×Int}(hd:∀x∈l,x∈k):QS p l s<=QS p k s:=by
 unfold QS
 by_cases c:(s.1=p/\s.2.toNat∈l)∨(s.2=p/\s.1.toNat∈l)
 ·rw[if_pos c,if_pos (c.elim (λz=> .inl ⟨z.1,hd _ z.2⟩) λz=> .inr ⟨z.1,hd _ z.2⟩)]
  exact Zak _
 ·rw[if_neg c]
  split<;>omega
theorem Leg.mono(h:Leg m T f c)(e:∀i,i<m->f i<=g i):Leg m T g c:=by
 induction h with
 | nil=>exact .nil
 | @step c p t _ hp ht hle ih=>
  refine .step ih hp ht ?_
  have:=e p hp
  unfold Qg at hle ⊢
  omega
theorem Qij(j:Nat):Qg m T (Qg m T f c) d j=Qg m T f (λi=>c i+d i) j:=by
 unfold Qg
 have e:(λi=>(c i+d i)*T i j)=λi=>c i*T i j+d i*T i j:=by funext i;rw[ZU]
 rw[e,QJ]
 show f j+Qi m (λi=>c i*T i j)+_=_
 omega
theorem QuX(j:Nat):Qg m T (λi=>f i+g i) (λi=>c i+d i) j=Qg m T f c j+Qg m T g d j:=by
 unfold Qg
 have e:(λi=>(c i+d i)*T i j)=λi=>c i*T i j+d i*T i j:=by funext i;rw[ZU]
 rw[e,QJ]
 show f j+g j+_=_
 omega
theorem Leg.trans(h:Leg m T f c)(h2:Leg m T (Qg m T f c) d):Leg m T f (λi=>c i+d i):=by
 induction h2 with
 | nil=>exact h.cast λi=>by simp
 | @step d p t _ hp ht hle ih=>
  rw[Qij]at hle
  refine(Leg.step ih hp ht hle).cast λi=>?_
  unfold up
  split
  ·rename_i e;subst e;show c i+d i+t=c i+(d i+t);omega
  ·rfl
theorem Told.lay(hC:Told m T F C)(hF:∀j,j<m->F j<=F' j)(hh:∀j,j<m->h j=Qg m T F C j+(F' j-F j))(hc:Told m T h c):Told m T F' (λi=>C i+c i)/\∀j,j<m->Qg m T h c j=Qg m T F' (λi=>C i+c i) j:=by
 have e1:∀j,j<m->h j=Qg m T F' C j:=λj hj=>by
  rw[hh j hj]
  unfold Qg
  omega
 have e2:∀j,j<m->Qg m T h c j=Qg m T F' (λi=>C i+c i) j:=λj hj=>by
  rw[← Qij]
  exact QU j (e1 j hj) λ_ _=>rfl
 exact⟨⟨(hC.leg.mono hF).trans (hc.leg.QiI e1),λj hj=>by rw[← e2 j hj];exact hc.pos j hj,λj hj=>by rw[← e2 j hj];exact hc.stb j hj⟩,e2⟩
theorem Told.both(hf:Told m T f c)(hg:Told m T g d)(g0:∀j,j<m->0<=g j)(he:Told m T (λj=>Qg m T f c j+Qg m T g d j) e):Told m T (λj=>f j+g j) (λi=>c i+d i+e i)/\∀j,j<m->Qg m T (λj=>Qg m T f c j+Qg m T g d j) e j=Qg m T (λj=>f j+g j) (λi=>c i+d i+e i) j:=by
 have l1:Leg m T (λj=>f j+g j) c:=hf.leg.mono λj hj=>by have:=g0 j hj;show f j<=f j+g j;omega
 have a1:∀j,Qg m T (λj=>f j+g j) c j=Qg m T f c j+g j:=λj=>by unfold Qg;show f j+g j+_=_;omega
 have l2:Leg m T (Qg m T (λj=>f j+g j) c) d:=hg.leg.mono λj hj=>by rw[a1];have:=hf.pos j hj;omega
 have l3:Leg m T (λj=>f j+g j) (λi=>c i+d i):=l1.trans l2
 have a3:∀j,j<m->Qg m T f c j+Qg m T g d j=Qg m T (λj=>f j+g j) (λi=>c i+d i) j:=λj _=>(QuX j).symm
 have e2:∀j,j<m->Qg m T (λj=>Qg m T f c j+Qg m T g d j) e j=Qg m T (λj=>f j+g j) (λi=>c i+d i+e i) j:=λj hj=>by
  rw[← Qij (c:=λi=>c i+d i) (d:=e)]
  exact QU j (a3 j hj) λ_ _=>rfl
 exact⟨⟨l3.trans (he.leg.QiI a3),λj hj=>by rw[← e2 j hj];exact he.pos j hj,λj hj=>by rw[← e2 j hj];exact he.stb j hj⟩,e2⟩
theorem Told.one(tp:TP m T)(h:Told m T f c)(g:Told m T f d):∀i,i<m->c i=d i:=h.leg.unique tp g.leg h.stb g.stb
theorem Qhu{m:Nat}{R:List (Int×Int)}(hR:∀s∈R,Good m s):∀i j,i<m->j<m->i≠j->Qf m (Qd R []) i j=Qf m (Qd R []) j i:=λi j hi hj hij=>Qtd hR hi hj hij
theorem Qom{m:Nat}{T:Nat->Nat->Int}(sym:∀i j,i<m->j<m->i≠j->T i j=T j i){l:List Nat}(nd:l.Nodup)(hl:∀o∈l,o<m){j:Nat}(hj:j<m):(Qi m λi=>(if i∈l then 1 else 0)*T i j)=Qak T j l+if j∈l then T j j else 0:=by
 unfold Qak
 rw[Qfj (m:=m) (nd.filter _) λo ho=>hl o (ZE.mp ho).1]
 have e3:=Q8 (m:=m) (p:=j) hj (if j∈l then 1 else 0) (λi=>T j i)
 have e4:(if j∈l then T j j else 0)=(if j∈l then 1 else 0)*T j j:=by split<;>simp
 rw[e4,← e3,← QJ]
 refine Qp λi hi=>?_
 by_cases hij:i=j
 ·subst hij
  rw[if_pos rfl]
  have:¬i∈l.filter λo=>decide (o≠i):=by simp
  rw[if_neg this];omega
 ·rw[if_neg hij]
  by_cases hil:i∈l
  ·rw[if_pos hil,if_pos (ZE.mpr ⟨hil,by simpa using hij⟩),sym i j hi hj hij];omega
  ·rw[if_neg hil,if_neg (λz=>hil (ZE.mp z).1)];omega
theorem Qxy{m:Nat}{R:List (Int×Int)}(hR:∀s∈R,Good m s){p:Nat}(hp:p<m){l:List Nat}(nd:l.Nodup)(hl:∀o∈l,o<m){s:Int×Int}(hs:s∈R)(ho:(s.1=p/\(s.2=m∨s.2.toNat∉l))∨(s.2=p/\(s.1=m∨s.1.toNat∉l))):Qak (Qf m (Qd R [])) p l+1<=Qy R [] p:=by
 rw[Qe8 hR hp nd hl,← QiJ hR p]
 obtain⟨g1,g2,g3,g4,g5⟩:=hR s hs
 have hm:m∉l:=λz=>by have:=hl m z;omega
 have h1:QS p l s=0/\QS p (List.range (m+1)) s=1:=by
  have e1:s.2.toNat∈List.range (m+1):=Zl.mpr (by omega)
  have e2:s.1.toNat∈List.range (m+1):=Zl.mpr (by omega)
  unfold QS
  rcases ho with⟨a,h⟩ | ⟨a,h⟩
  ·have b:¬s.2=p:=by omega
   have x:s.2.toNat∉l:=by
    rcases h with h | h
    ·rw[h,ZT];exact hm
    ·exact h
   simp[a,b,x,e1]
  ·have b:¬s.1=p:=by omega
   have x:s.1.toNat∉l:=by
    rcases h with h | h
    ·rw[h,ZT];exact hm
    ·exact h
   simp[a,b,x,e2]
 have le:∀r∈R,QS p l r<=QS p (List.range (m+1)) r:=λr _=>QqY λx hx=>Zl.mpr (by have:=hl x hx;omega)
 clear ho g5 g4 g3 g2 g1 hR
 induction R with
 | nil=>simp at hs
 | cons r R ih=>
  simp only[Zj,ZF]
  rcases Zq.mp hs with e | e
  ·subst e
   have:=Qed (S:=R) (f:=QS p l) (h:=QS p (List.range (m+1))) λr hr=>le r (by simp[hr])
   omega
  ·have h2:=ih e λr hr=>le r (by simp[hr])
   have h3:=le r (by simp)
   omega
theorem Qo6{m:Nat}{R:List (Int×Int)}(hw:QY m R []){f c:Nat->Int}(hf:∀j,j<m->Qy R [] j-1<=f j)(hc:Told m (Qf m (Qd R [])) f c):∀i,i<m->Qas (Qf m (Qd R [])) (Qg m (Qf m (Qd R [])) f c) m m i≠none:=by
 have hR:=hw.good.1
 have tp:=hw.tp
 have c0:=hc.leg.nonneg
 intro i hi z
 have hcold:=(Qd2 m i hi).mp z
 have nd:=QbZ (T:=Qf m (Qd R [])) (h:=Qg m (Qf m (Qd R [])) f c) (m:=m) m
 have lt:∀o∈QI (Qf m (Qd R [])) (Qg m (Qf m (Qd R [])) f c) m m,o<m:=λo ho=>QdK ho
 have few:∀p∈QI (Qf m (Qd R [])) (Qg m (Qf m (Qd R [])) f c) m m,Qg m (Qf m (Qd R [])) f c p<Qak (Qf m (Qd R [])) p (QI (Qf m (Qd R [])) (Qg m (Qf m (Qd R [])) f c) m m):=λp hp=>QmH hp
 generalize QI (Qf m (Qd R [])) (Qg m (Qf m (Qd R [])) f c) m m=C at *
 by_cases hall:∀p∈C,0<c p
 ·have:=QsQ tp (Qhu hR) hc nd (List.ne_nil_of_mem hcold) λp hp=>⟨lt p hp,hall p hp⟩
  obtain⟨p,hp⟩:=List.exists_mem_of_ne_nil _ this
  obtain⟨p1,p2⟩:=Qcx.mp hp
  have:=few p p1
  omega
 ·obtain⟨q,hq1,hq2⟩:∃q,q∈C/\¬0<c q:=by
   refine ZD λw=>hall λp hp=>?_
   exact ZD λw2=>w ⟨p,hp,w2⟩
  obtain⟨p,h1,⟨h2,h2'⟩,s,h3,h4⟩:=Qu3 hw (λx=>x∈C/\¬0<c x) ⟨q,lt q hq1,hq1,hq2⟩
  have cp:c p=0:=by have:=c0 p;omega
  have sum0:∀o,o<m->o≠p->0<=c o*Qf m (Qd R []) o p:=λo ho hop=>Zas (c0 o) (tp.pos o p ho h1 hop)
  have hsum:0<=Qi m λi=>c i*Qf m (Qd R []) i p:=by
   have:=Qbn (m:=m) (f:=λ_=>0) (g:=λi=>c i*Qf m (Qd R []) i p) λi hi=>by
    by_cases e:i=p
    ·subst e;rw[cp,ZO];exact Zak _
    ·exact sum0 i hi e
   rw[Q0]at this
   exact this
  have fp:=hf p h1
  have st:=hc.stb p h1
  rw[hw.neg h1]at st
  have fw:=few p h2
  obtain⟨g1,g2,g3,g4,g5⟩:=hR s h3
  obtain⟨x,hx,hend⟩:∃x:Nat,x<=m/\((s.1=p/\s.2=x)∨(s.2=p/\s.1=x))/\(x=m∨¬(x∈C/\¬0<c x)):=by
   rcases h4 with⟨a,b⟩ | ⟨a,b⟩
   ·exact⟨s.2.toNat,by omega,.inl ⟨a,by omega⟩,b.elim (λz=> .inl (by omega)) .inr⟩
   ·exact⟨s.1.toNat,by omega,.inr ⟨a,by omega⟩,b.elim (λz=> .inl (by omega)) .inr⟩
  by_cases hxC:x∈C
  ·
   have hxm:=lt x hxC
   have cx:1<=c x:=by
    rcases hend.2 with e | e
    ·omega
    ·have:=ZD λw:¬0<c x=>e ⟨hxC,w⟩
     omega
   have hxp:x≠p:=by
    rcases hend.1 with⟨a,b⟩ | ⟨a,b⟩<;>omega
   have hT:1<=Qf m (Qd R []) x p:=by
    rw[Qhu hR x p hxm h1 hxp]
    have:=QkA hR h1 (l:=[x]) (by simp) (by simpa using hxm) (by simpa using hxp.symm)
    simp only[Zj,Zbg,ZF,List.sum_nil,Zbh]at this
    rw[this]
    have:0<(R.map (QS p [x])).sum:=Qjj (λs _=>(Qm8 p _ s).1) ⟨s,h3,by
     unfold QS
     rw[if_pos (by rcases hend.1 with⟨a,b⟩ | ⟨a,b⟩;exact .inl ⟨a,by simp;omega⟩;exact .inr ⟨a,by simp;omega⟩)];decide⟩
    omega
   have one:1<=Qi m λi=>c i*Qf m (Qd R []) i p:=by
    have:=Qbn (m:=m) (f:=λi=>(if i=x then 1 else 0)*(1:Int)) (g:=λi=>c i*Qf m (Qd R []) i p) λi hi=>by
     by_cases e:i=x
     ·subst e
      rw[if_pos rfl]
      have:=Zco cx hT (by decide) (by omega)
      omega
     ·rw[if_neg e,ZO]
      by_cases e2:i=p
      ·subst e2;rw[cp,ZO];exact Zak _
      ·exact sum0 i hi e2
    rw[Q8 hxm 1 (λ_=>1)]at this
    omega
   unfold Qg at st
   omega
  ·have:=Qxy hR h1 nd lt h3 (by
    rcases hend.1 with⟨a,b⟩ | ⟨a,b⟩
    ·exact .inl ⟨a,.inr (by rw[b,ZT];exact hxC)⟩
    ·exact .inr ⟨a,.inr (by rw[b,ZT];exact hxC)⟩)
   unfold Qg at fw
   omega
abbrev QyL(i:Int):Prop:=Builtin.Int.intBits i<=2^20
noncomputable def QlL:DS:=(Qe (Q2 (Q5 (Qav (Qa 0)) (.nm 1) [none,none,some 1] Qab (Qr (Qa 1) (Qa 2)))) Qq)
def Qf1(d:Den):Prop:=∀(n m:Nat) (f:Nat->Nat->Int) (j:Nat),j<m->d [QF n m f,.int j]=some (Qc n (λi=>f i j),true)
theorem Qq9:Qf1 (Qo 2 QlL):=λn m f j hj=>
 Qad (QE (QQ (List.range n) (QaE rfl rfl) rfl λi _=>⟨_,rfl,⟨.int (f i j),true,[]⟩,Qcu rfl rfl rfl rfl hj,rfl,rfl⟩) ⟨rfl,rfl⟩)
noncomputable def Qlu(QbX:Den):DS:=(Qe (Q2 (Q5 (Qbk (dBf QaS (Qb (Qa 0) Qh))) (.nm 1) [none,none,some 0] Qab (Qz 2 QbX [] (Qb (Qa 2) (Qb (Qa 1) Qh))))) Qq)
theorem Qhr{n:Nat}(h:fa ρ=some r)(e:r.d=QF n m f):dBf QaS (Qb fa Qh) ρ=some ⟨.int n,true,[]⟩:=by
 rw[Qct h e];simp
def Qiy(d:Den):Prop:=∀(n:Nat) (f:Nat->Nat->Int),n<=1000->d [QF n n f]=some (QF n n (λj i=>f i j),true)
theorem QpX(hc:Qf1 dc):Qiy (Qo 1 (Qlu dc)):=λn f hn=>
 Qad (QE (QQ (List.range n) (QcA (Qhr rfl rfl) rfl (by omega)) rfl λj hj=>⟨[none,some (.int j,true),some (QF n n f,false)],rfl,⟨Qc n (λi=>f i j),true,[]⟩,Qx rfl (hc n n f j (Zl.mp hj)) rfl,rfl,rfl⟩) ⟨rfl,rfl⟩)
theorem Qmi(ha:fa ρ=some ra)(ea:ra.d=Qc m f)(hb:fb ρ=some rb)(eb:rb.d=Qc k g)(hl:m+k<=1000):QO fa fb ρ=some ⟨Qc (m+k) (λi=>if i<m then f i else g (i-m)),true,[]⟩:=by
 have e:Qc (m+k) (λi=>if i<m then f i else g (i-m))= .lst (((List.range m).map λi=>D.int (f i))++((List.range k).map λi=>D.int (g i))):=by
  unfold Qc
  rw[List.range_add,Zaa,ZR]
  congr 2
  ·refine Zs λi hi=>?_
   show D.int (if i<m then f i else g (i-m))=_
   rw[if_pos (Zl.mp hi)]
  ·refine Zs λi hi=>?_
   show D.int (if m+i<m then f (m+i)else g (m+i-m))=_
   rw[if_neg (by omega),Nat.add_sub_cancel_left]
 rw[e]
 unfold QO
 rw[ha,Za,hb,Za,ea,eb]
 simp only[Qc,Zg,ZM,Qeb]
 rw[if_pos (by omega)]
 unfold QaH
 rw[if_pos]
 rw[Qcr,Zk]
 exact⟨Qbd (λ_=>rfl) _,Qbd (λ_=>rfl) _⟩
noncomputable def sm:Nat->(Nat->Int)->Int
 | 0,_=>0
 | n+1,f=>sm n f+f n
theorem Qbt:∀{n:Nat},(∀i,i<n->f i=g i)->sm n f=sm n g
 | 0,_=>rfl
 | n+1,h=>by unfold sm;rw[Qbt λi hi=>h i (by omega),h n (by omega)]
theorem Qi4(x y:Int)(f g:Nat->Int):∀n,sm n (λi=>x*f i+y*g i)=x*sm n f+y*sm n g
 | 0=>by simp[sm]
 | n+1=>by
  unfold sm
  rw[Qi4 x y f g n,Zbf,Zbf]
  show _+(x*f n+y*g n)=_
  omega
theorem QjZ:∀{n:Nat},(∀i,i<n->f i=0)->sm n f=0
 | 0,_=>rfl
 | n+1,h=>by unfold sm;rw[QjZ λi hi=>h i (by omega),h n (by omega)];rfl
theorem QeE:∀{n:Nat},c<n->(∀i,i<n->i≠c->f i=0)->sm n f=f c
 | 0,hc,_=>by omega
 | n+1,hc,h=>by
  unfold sm
  by_cases e:c=n
  ·rw[QjZ λi hi=>h i (by omega) (by omega),e];omega
  ·rw[QeE (c:=c) (by omega) λi hi=>h i (by omega),h n (by omega) (Ne.symm e)];omega
theorem Qjm:∀{n:Nat},c<d->d<n->(∀i,i<n->i≠c->i≠d->f i=0)->sm n f=f c+f d
 | 0,_,hc,_=>by omega
 | n+1,hcd,hd,h=>by
  unfold sm
  by_cases e:d=n
  ·rw[QeE (c:=c) (by omega) λi hi ne=>h i (by omega) ne (by omega),e]
  ·rw[Qjm (c:=c) (d:=d) hcd (by omega) λi hi=>h i (by omega),h n (by omega) (by omega) (by omega)];omega
theorem QnM(x:Int)(f:Nat->Int):∀n,sm n (λi=>f i*x)=sm n f*x
 | 0=>by simp[sm]
 | n+1=>by unfold sm;rw[QnM x f n,ZU]
noncomputable def skp(j c:Nat):Nat:=if c<j then c else c+1
noncomputable def sgn(j:Nat):Int:=if j % 2=0 then 1 else-1
theorem Qik(j:Nat):sgn (j+1)= -sgn j:=by
 unfold sgn
 by_cases h:j % 2=0
 ·rw[if_pos h,if_neg (by omega)]
 ·rw[if_neg h,if_pos (by omega)];rfl
noncomputable def det:Nat->(Nat->Nat->Int)->Int
 | 0,_=>1
 | n+1,m=>sm (n+1) λj=>sgn j*m j 0*det n λc r=>m (skp j c) (r+1)
noncomputable def cup(m:Nat->Nat->Int)(c:Nat)(a:Nat->Int):Nat->Nat->Int:=λj=>if j=c then a else m j
theorem Q6(m:Nat->Nat->Int)(c:Nat)(a:Nat->Int):cup m c a c=a:=by unfold cup;rw[if_pos rfl]
theorem QP(m:Nat->Nat->Int)(a:Nat->Int)(h:j≠c):cup m c a j=m j:=by unfold cup;rw[if_neg h]
theorem QaP(m:Nat->Nat->Int)(c:Nat):cup m c (m c)=m:=by
 funext j
 by_cases h:j=c
 ·rw[h,Q6]
 ·rw[QP _ _ h]
theorem Qjs(m:Nat->Nat->Int)(c:Nat)(a b:Nat->Int):cup (cup m c a) c b=cup m c b:=by
 funext j
 by_cases h:j=c
 ·rw[h,Q6,Q6]
 ·rw[QP _ _ h,QP _ _ h,QP _ _ h]
theorem QaN(m:Nat->Nat->Int)(a b:Nat->Int)(h:c≠d):cup (cup m c a) d b=cup (cup m d b) c a:=by
 funext j
 by_cases h1:j=c
 ·subst h1;rw[QP _ _ h,Q6,Q6]
 ·by_cases h2:j=d
  ·subst h2;rw[Q6,QP _ _ h1,Q6]
  ·rw[QP _ _ h2,QP _ _ h1,QP _ _ h1,QP _ _ h2]
theorem QdY:∀{n:Nat}{m k:Nat->Nat->Int},(∀j,j<n->∀r,r<n->m j r=k j r)->det n m=det n k
 | 0,_,_,_=>rfl
 | n+1,m,k,h=>by
  unfold det
  refine Qbt λj hj=>?_
  rw[h j hj 0 (by omega),QdY (n:=n) (m:=λc r=>m (skp j c) (r+1)) (k:=λc r=>k (skp j c) (r+1)) λc hc r hr=>h _ (by unfold skp;split<;>omega) _ (by omega)]
theorem QgK(m:Nat->Nat->Int)(c:Nat)(v:Nat->Int):(λc' r=>cup m c v (skp c c') (r+1))=λc' r=>m (skp c c') (r+1):=by
 funext c' r
 rw[QP _ _ (by unfold skp;split<;>omega)]
theorem QfG(m:Nat->Nat->Int)(v:Nat->Int)(h:c≠j):(λc' r=>cup m c v (skp j c') (r+1))=cup (λc' r=>m (skp j c') (r+1)) (if c<j then c else c-1) (λr=>v (r+1)):=by
 funext c' r
 by_cases e:c'=if c<j then c else c-1
 ·rw[e,Q6]
  have:skp j (if c<j then c else c-1)=c:=by
   unfold skp
   by_cases q:c<j
   ·rw[if_pos q,if_pos q]
   ·rw[if_neg q,if_neg (by omega)];omega
  rw[this,Q6]
 ·rw[QP _ _ e,QP]
  intro z
  refine e ?_
  unfold skp at z
  by_cases q:c'<j
  ·rw[if_pos q]at z;rw[if_pos (by omega)];omega
  ·rw[if_neg q]at z;rw[if_neg (by omega)];omega
theorem QjR(x y:Int)(a b:Nat->Int):∀(n:Nat) (m:Nat->Nat->Int) (c:Nat),c<n->∀(a b:Nat->Int),det n (cup m c λr=>x*a r+y*b r)=x*det n (cup m c a)+y*det n (cup m c b)
 | 0,_,_,h,_,_=>by omega
 | n+1,m,c,h,a,b=>by
  unfold det
  rw[← Qi4]
  refine Qbt λj hj=>?_
  by_cases e:j=c
  ·subst e
   rw[QgK,QgK,QgK,Q6,Q6,Q6]
   generalize det n _=q
   generalize sgn j=s
   simp only[Zbf,ZU,Zar,ZbT]
  ·rw[QfG m _ (Ne.symm e),QfG m _ (Ne.symm e),QfG m _ (Ne.symm e),QP _ _ e,QP _ _ e,QP _ _ e]
   rw[QjR x y a b n _ _ (by split<;>omega)]
   generalize det n _=q
   generalize det n _=q'
   generalize sgn j*m j 0=s
   simp only[Zbf,ZbT]
theorem Qho(h:c<n)(a b:Nat->Int):det n (cup m c λr=>a r+b r)=det n (cup m c a)+det n (cup m c b):=by
 have:=QjR 1 1 a b n m c h a b
 simpa only[Zap]using this
theorem Qht(h:c<n)(x:Int)(a:Nat->Int):det n (cup m c λr=>x*a r)=x*det n (cup m c a):=by
 have:=QjR x 0 a a n m c h a a
 simpa only[ZO,Zbh]using this
theorem Qhn:∀(n:Nat) (m:Nat->Nat->Int) (c:Nat),c+1<n->m c=m (c+1)->det n m=0
 | 0,_,_,h,_=>by omega
 | n+1,m,c,h,e=>by
  unfold det
  rw[Qjm (c:=c) (d:=c+1) (by omega) h]
  ·have:(λc' r=>m (skp c c') (r+1))=λc' r=>m (skp (c+1) c') (r+1):=by
    funext c' r
    unfold skp
    by_cases q:c'<c
    ·rw[if_pos q,if_pos (by omega)]
    ·rw[if_neg q]
     by_cases q2:c'=c
     ·rw[if_pos (by omega),q2,e]
     ·rw[if_neg (by omega)]
   rw[this,Qik,e]
   generalize det n _=q
   rw[Zaq,Zaq];omega
  ·intro j hj h1 h2
   have:det n (λc' r=>m (skp j c') (r+1))=0:=by
    by_cases q:c<j
    ·refine Qhn n _ c (by omega) ?_
     funext r
     show m (skp j c) (r+1)=m (skp j (c+1)) (r+1)
     unfold skp
     rw[if_pos q,if_pos (by omega),e]
    ·refine Qhn n _ (c-1) (by omega) ?_
     funext r
     show m (skp j (c-1)) (r+1)=m (skp j (c-1+1)) (r+1)
     unfold skp
     rw[if_neg (by omega),if_neg (by omega),show c-1+1=c by omega,e]
   rw[this,Zax]
theorem QhI(hc:c<n)(hd:d<n)(hcd:c≠d)(hz:∀k:Nat->Nat->Int,k c=k d->det n k=0)(a b:Nat->Int):det n (cup (cup m c a) d b)= -det n (cup (cup m c b) d a):=by
 have z:=hz (cup (cup m c λr=>a r+b r) d λr=>a r+b r) (by rw[Q6,QP _ _ hcd,Q6])
 have za:=hz (cup (cup m c a) d a) (by rw[Q6,QP _ _ hcd,Q6])
 have zb:=hz (cup (cup m c b) d b) (by rw[Q6,QP _ _ hcd,Q6])
 rw[Qho hd,QaN _ _ _ hcd,Qho hc,QaN _ _ _ hcd,Qho hc,QaN _ _ _ (Ne.symm hcd),QaN _ _ _ (Ne.symm hcd),QaN _ _ _ (Ne.symm hcd),QaN _ _ _ (Ne.symm hcd),za,zb]at z
 omega
theorem QjM:∀(g n:Nat) (m:Nat->Nat->Int) (i:Nat),i+g+1<n->m i=m (i+g+1)->det n m=0
 | 0,n,m,i,h,e=>Qhn n m i h e
 | g+1,n,m,i,h,e=>by
  have:=QhI (m:=m) (c:=i+g+1) (by omega) (by omega) (by omega) (λk hk=>Qhn n k _ (by omega) hk) (m (i+g+1)) (m (i+g+1+1))
  rw[QaP,QaP]at this
  rw[this,QjM g n _ i (by omega)]
  ·rfl
  ·rw[QP _ _ (by omega),QP _ _ (by omega),QP _ _ (by omega),Q6]
   exact e
theorem QiG(hi:i<n)(hj:j<n)(hij:i≠j)(e:m i=m j):det n m=0:=by
 rcases Nat.lt_or_gt_of_ne hij with h | h
 ·exact QjM (j-i-1) n m i (by omega) (by rw[show i+(j-i-1)+1=j by omega];exact e)
 ·exact QjM (i-j-1) n m j (by omega) (by rw[show j+(i-j-1)+1=i by omega];exact e.symm)
theorem QdL(hc:c<n)(hd:d<n)(hcd:c≠d)(a b:Nat->Int):det n (cup (cup m c a) d b)= -det n (cup (cup m c b) d a):=QhI hc hd hcd (λk hk=>QiG hc hd hcd hk) a b
theorem Qg9(h:c<n)(x:Nat->Int)(E:Nat->Nat->Int):∀k,det n (cup m c λr=>sm k λs=>x s*E s r)=sm k λs=>x s*det n (cup m c (E s))
 | 0=>by
  have:=Qht (m:=m) h 0 λ_=>0
  rw[ZO]at this
  unfold sm
  simpa using this
 | k+1=>by
  unfold sm
  rw[Qho h,Qg9 h x E k,Qht h]
theorem Qrc:∀{n:Nat}(σ:Nat->Nat),(∀j,j<n+1->σ j<n)->∃i j,i<n+1/\j<n+1/\i≠j/\σ i=σ j
 | 0,σ,h=>absurd (h 0 (by omega)) (by omega)
 | n+1,σ,h=>by
  by_cases q:∃i,i<n+1/\σ i=σ (n+1)
  ·obtain⟨i,hi,e⟩:=q
   exact⟨i,n+1,by omega,by omega,by omega,e⟩
  ·have ne:∀i,i<n+1->σ i≠σ (n+1):=λi hi e=>q ⟨i,hi,e⟩
   have hv:=h (n+1) (by omega)
   obtain⟨i,j,hi,hj,hij,e⟩:=Qrc (n:=n) (λj=>if σ (n+1)<σ j then σ j-1 else σ j) λj hj=>by
    have:=h j (by omega)
    have:=ne j hj
    show(if σ (n+1)<σ j then σ j-1 else σ j)<n
    by_cases c:σ (n+1)<σ j
    ·rw[if_pos c];omega
    ·rw[if_neg c];omega
   refine⟨i,j,by omega,by omega,hij,?_⟩
   have a:=ne i hi
   have b:=ne j hj
   have e:(if σ (n+1)<σ i then σ i-1 else σ i)=(if σ (n+1)<σ j then σ j-1 else σ j):=e
   by_cases c:σ (n+1)<σ i
   ·rw[if_pos c]at e
    by_cases d:σ (n+1)<σ j
    ·rw[if_pos d]at e;omega
    ·rw[if_neg d]at e;omega
   ·rw[if_neg c]at e
    by_cases d:σ (n+1)<σ j
    ·rw[if_pos d]at e;omega
    ·rw[if_neg d]at e;omega
theorem QlP{n:Nat}{E:Nat->Nat->Int}{x:Nat->Nat->Int}:∀(k:Nat) (W:Nat->Nat->Int) (σ:Nat->Nat),k<=n+1->(∀j,j<n+1->σ j<n)->(∀j,j<k->W j=λr=>sm n λs=>x j s*E s r)->(∀j,k<=j->j<n+1->W j=E (σ j))->det (n+1) W=0
 | 0,W,σ,hk,hσ,_,h2=>by
  obtain⟨i,j,hi,hj,hij,e⟩:=Qrc σ hσ
  exact QiG hi hj hij (by rw[h2 i (by omega) hi,h2 j (by omega) hj,e])
 | k+1,W,σ,hk,hσ,h1,h2=>by
  have:=Qg9 (n:=n+1) (m:=W) (c:=k) (by omega) (x k) E n
  rw[← h1 k (by omega),QaP]at this
  rw[this]
  refine QjZ λs hs=>?_
  rw[QlP k (cup W k (E s)) (λj=>if j=k then s else σ j) (by omega) (λj hj=>by show(if j=k then s else σ j)<n;by_cases e:j=k;(rw[if_pos e];exact hs);(rw[if_neg e];exact hσ j hj)) (λj hj=>by rw[QP _ _ (by omega)];exact h1 j (by omega)) λj h3 h4=>?_,Zax]
  show cup W k (E s) j=E (if j=k then s else σ j)
  by_cases e:j=k
  ·rw[e,Q6,if_pos rfl]
  ·rw[QP _ _ e,if_neg e];exact h2 j (by omega) h4
noncomputable def cyc(m:Nat->Nat->Int)(a:Nat->Int)(l k:Nat):Nat->Nat->Int:=λc=>if c<k then m c else if c=k then a else if c<=l then m (c-1)else m c
theorem Qtv(m:Nat->Nat->Int)(a:Nat->Int)(hk:k<l)(hl:l<n):det n (cyc m a l k)= -det n (cyc m a l (k+1)):=by
 have h:=QdL (n:=n) (m:=cyc m a l k) (c:=k) (d:=k+1) (by omega) (by omega) (by omega) a (m k)
 have e1:cup (cup (cyc m a l k) k a) (k+1) (m k)=cyc m a l k:=by
  have q1:cyc m a l k k=a:=by unfold cyc;rw[if_neg (by omega),if_pos rfl]
  have q2:cyc m a l k (k+1)=m k:=by unfold cyc;rw[if_neg (by omega),if_neg (by omega),if_pos (by omega),Zbt]
  have:=QaP (cyc m a l k) k
  rw[q1]at this
  rw[this,← q2,QaP]
 have e2:cup (cup (cyc m a l k) k (m k)) (k+1) a=cyc m a l (k+1):=by
  funext c
  by_cases h1:c=k+1
  ·subst h1;rw[Q6];unfold cyc;rw[if_neg (by omega),if_pos rfl]
  ·rw[QP _ _ h1]
   by_cases h2:c=k
   ·subst h2;rw[Q6];unfold cyc;rw[if_pos (by omega)]
   ·rw[QP _ _ h2]
    unfold cyc
    by_cases h3:c<k
    ·rw[if_pos h3,if_pos (by omega)]
    ·rw[if_neg h3,if_neg h2,if_neg (show ¬c<k+1 by omega),if_neg h1]
 rw[e1,e2]at h
 exact h
theorem QnK(m:Nat->Nat->Int)(a:Nat->Int)(hl:l<n):∀g k,k+g=l->det n (cyc m a l k)=sgn g*det n (cup m l a)
 | 0,k,h=>by
  have:cyc m a l k=cup m l a:=by
   funext c
   unfold cyc cup
   by_cases h1:c=l
   ·rw[if_neg (by omega),if_pos (by omega),if_pos h1]
   ·rw[if_neg h1]
    by_cases h2:c<k
    ·rw[if_pos h2]
    ·rw[if_neg h2,if_neg (by omega),if_neg (by omega)]
  rw[this];unfold sgn;simp
 | g+1,k,h=>by
  rw[Qtv m a (by omega) hl,QnK m a hl g (k+1) (by omega),Qik,Zaq]
theorem Qw7(j:Nat):sgn j*sgn j=1:=by unfold sgn;split<;>rfl
noncomputable def bE(r s q:Nat):Int:=if q=0 then(if s=r then 1 else 0)else if s=q-1 then 1 else 0
theorem QmE(m:Nat->Nat->Int)(a:Nat->Int)(hr:r<n):det n m*a r=sm n λl=>det n (cup m l a)*m l r:=by
 have v0:∃v:Nat->Nat->Int,v=λj=>if j=0 then a else m (j-1):=⟨_,rfl⟩
 obtain⟨v,hv⟩:=v0
 have hv0:v 0=a:=by rw[hv];rfl
 have hvs:∀j,v (j+1)=m j:=λj=>by rw[hv];show(if j+1=0 then a else m (j+1-1))=_;rw[if_neg (by omega),Zbt]
 have z:det (n+1) (λj s=>if s=0 then v j r else v j (s-1))=0:=by
  have key:det (n+1) (λj q=>sm n λs=>v j s*bE r s q)=0:=
   QlP (n+1) _ (λ_=>r) (by omega) (λ_ _=>hr) (λj _=>rfl) (λj h1 h2=>by omega)
  rw[← key]
  refine QdY λj hj s hs=>?_
  by_cases e:s=0
  ·subst e
   rw[if_pos rfl,QeE hr]
   ·unfold bE;rw[if_pos rfl,if_pos rfl,ZaU]
   ·intro i _ ne;unfold bE;rw[if_pos rfl,if_neg ne,Zax]
  ·rw[if_neg e,QeE (c:=s-1) (by omega)]
   ·unfold bE;rw[if_neg e,if_pos rfl,ZaU]
   ·intro i _ ne;unfold bE;rw[if_neg e,if_neg ne,Zax]
 unfold det at z
 have term:∀j,(sgn j*(if(0:Nat)=0 then v j r else v j (0-1))*det n λc q=>if q+1=0 then v (skp j c) r else v (skp j c) (q+1-1))=sgn j*v j r*det n λc=>v (skp j c):=λj=>by
  rw[if_pos rfl]
  congr 1
 have first:∀(k:Nat) (f:Nat->Int),sm (k+1) f=f 0+sm k λi=>f (i+1):=λk f=>by
  induction k with
  | zero=>show 0+f 0=f 0+0;omega
  | succ k ih=>show sm (k+1) f+f (k+1)=_;rw[ih];show _=f 0+(sm k (λi=>f (i+1))+f (k+1));omega
 rw[Qbt λj _=>term j,first]at z
 have t0:(λc=>v (skp 0 c))=m:=by funext c;unfold skp;rw[if_neg (by omega),hvs]
 have tl:∀l,l<n->sgn (l+1)*v (l+1) r*det n (λc=>v (skp (l+1) c))= -(det n (cup m l a)*m l r):=λl hl=>by
  have:(λc=>v (skp (l+1) c))=cyc m a l 0:=by
   funext c
   unfold skp cyc
   by_cases h0:c=0
   ·subst h0;rw[if_pos (show 0<l+1 by omega),if_neg (show ¬0<0 by omega),if_pos rfl,hv0]
   ·obtain⟨c',rfl⟩:∃c',c=c'+1:=⟨c-1,by omega⟩
    rw[if_neg (show ¬c'+1<0 by omega),if_neg h0]
    by_cases h1:c'+1<=l
    ·rw[if_pos (show c'+1<l+1 by omega),if_pos h1,hvs,Zbt]
    ·rw[if_neg (show ¬c'+1<l+1 by omega),if_neg h1,hvs]
  rw[this,QnK m a hl l 0 (by omega),hvs,Qik]
  have q:=Qw7 l
  generalize det n (cup m l a)=d at *
  generalize m l r=x at *
  have: -sgn l*x*(sgn l*d)= -(sgn l*sgn l*(d*x)):=by
   rw[Zaq,Zaq,Zar,ZbT x,← Zar,Zat x d]
  rw[this,q,Zap]
 rw[t0,hv0]at z
 have neg:=Qi4 (-1) 0 (λl=>det n (cup m l a)*m l r) (λ_=>0) n
 rw[Qbt (g:=λl=> -1*(det n (cup m l a)*m l r)+0*0) λl hl=>by rw[tl l hl];omega]at z
 have s0:sgn 0=1:=rfl
 rw[neg,s0,Zap]at z
 rw[Zat]
 omega
theorem Qst(m:Nat->Nat->Int)(u a:Nat->Int)(hk:k<n)(hi:i<n)(hki:k≠i):det n m*det n (cup (cup m k u) i a)=det n (cup m k u)*det n (cup m i a)-det n (cup m i u)*det n (cup m k a):=by
 have h1:det n m*det n (cup (cup m k u) i a)=det n (cup (cup m i a) k λr=>det n m*u r):=by
  rw[Qht hk,QaN _ _ _ hki]
 have h2:det n (cup (cup m i a) k λr=>det n m*u r)=det n (cup (cup m i a) k λr=>sm n λl=>det n (cup m l u)*m l r):=by
  refine QdY λj hj r hr=>?_
  by_cases e:j=k
  ·subst e;rw[Q6,Q6];exact QmE m u hr
  ·rw[QP _ _ e,QP _ _ e]
 rw[h1,h2,Qg9 hk (λl=>det n (cup m l u)) m n]
 have tk:det n (cup (cup m i a) k (m k))=det n (cup m i a):=by rw[QaN _ _ _ (Ne.symm hki),QaP]
 have ti:det n (cup (cup m i a) k (m i))= -det n (cup m k a):=by
  rw[QdL hi hk (Ne.symm hki),QaP]
 have tn:∀l,l<n->l≠k->l≠i->det n (cup (cup m i a) k (m l))=0:=λl hl h1 h2=>QiG hk hl (Ne.symm h1) (by rw[Q6,QP _ _ h1,QP _ _ h2])
 rcases Nat.lt_or_gt_of_ne hki with h | h
 ·rw[Qjm h hi λl hl a b=>by rw[tn l hl a b,Zax],tk,ti,ZaV];omega
 ·rw[Qjm h hk λl hl a b=>by rw[tn l hl b a,Zax],tk,ti,ZaV];omega
noncomputable def Qbi(j r:Nat):Int:=if j=r then 1 else 0
theorem Qic:∀n,det n Qbi=1
 | 0=>rfl
 | n+1=>by
  unfold det
  rw[QeE (c:=0) (by omega) λi _ ne=>by unfold Qbi;rw[if_neg ne,Zax,ZO]]
  have:(λc r=>Qbi (skp 0 c) (r+1))=Qbi:=by
   funext c r
   have e:skp 0 c=c+1:=by unfold skp;rw[if_neg (by omega)]
   rw[e]
   unfold Qbi
   by_cases h:c=r
   ·rw[if_pos h,if_pos (by omega)]
   ·rw[if_neg h,if_neg (by omega)]
  rw[this,Qic n]
  unfold Qbi sgn
  simp
theorem QmN(a:Nat->Int)(hi:i<n):det n (cup Qbi i a)=a i:=by
 have:=QmE Qbi a hi
 rw[Qic,Zap,QeE (c:=i) hi λl _ ne=>by rw[show Qbi l i=0 by unfold Qbi;rw[if_neg ne],Zax]]at this
 rw[this,show Qbi i i=1 by unfold Qbi;rw[if_pos rfl],ZaU]
structure Clr (n N k:Nat) (A m R:Nat->Nat->Int) (d:Int):Prop where
 le:k<=n
 det:HS.det n m=d
 nz:d≠0
 ent:∀i j,i<n->j<N->R i j=HS.det n (cup m i (A j))
 own:∀j,j<k->m j=A j
theorem Clr.start(n N:Nat)(A:Nat->Nat->Int):Clr n N 0 A Qbi (λi j=>A j i) 1:=⟨by omega,Qic n,by decide,λi j hi _=>(QmN (A j) hi).symm,λj hj=>by omega⟩
theorem Clr.exact{n N k:Nat}{A m R:Nat->Nat->Int}{d:Int}(h:Clr n N k A m R d)(hk:k<n)(kN:k<N){i j:Nat}(hi:i<n)(hj:j<N)(ne:i≠k):R k k*R i j-R i k*R k j=d*HS.det n (cup (cup m k (A k)) i (A j)):=by
 rw[h.ent k k hk kN,h.ent i j hi hj,h.ent i k hi kN,h.ent k j hk hj,← Qst m (A k) (A j) hk hi (Ne.symm ne),h.det]
theorem Clr.step{n N k:Nat}{A m R R':Nat->Nat->Int}{d:Int}(h:Clr n N k A m R d)(hk:k<n)(kN:k<N)(hp:R k k≠0)(h1:∀j,j<N->R' k j=R k j)(h2:∀i j,i<n->i≠k->j<N->∀q,R k k*R i j-R i k*R k j=d*q->R' i j=q):Clr n N (k+1) A (cup m k (A k)) R' (R k k):=by
 refine⟨hk,(h.ent k k hk kN).symm,hp,λi j hi hj=>?_,λj hj=>?_⟩
 ·by_cases e:i=k
  ·subst e
   rw[h1 j hj,h.ent i j hi hj,Qjs]
  ·exact h2 i j hi e hj _ (h.exact hk kN hi hj e)
 ·by_cases e:j=k
  ·subst e;rw[Q6]
  ·rw[QP _ _ e];exact h.own j (by omega)
theorem Clr.swap{n N k:Nat}{A m R R':Nat->Nat->Int}{d:Int}(h:Clr n N k A m R d){i:Nat}(hk:k<n)(hi:i<n)(hki:k<i)(h1:∀j,j<N->R' k j=R i j)(h2:∀j,j<N->R' i j= -R k j)(h3:∀l j,l<n->l≠k->l≠i->j<N->R' l j=R l j):∃m',Clr n N k A m' R' d:=by
 have ne:k≠i:=by omega
 have neg:∀(c:Nat),c<n->∀(M:Nat->Nat->Int) (a:Nat->Int),HS.det n (cup M c λr=> -a r)= -HS.det n (cup M c a):=λc hc M a=>by
  have:=Qht (m:=M) hc (-1) a
  simpa only[Zaq,Zap]using this
 refine⟨cup (cup m k (m i)) i λr=> -m k r,h.le,?_,h.nz,λl j hl hj=>?_,λj hj=>?_⟩
 ·rw[neg i hi,QdL hk hi ne,Zcp,QaP,QaP];exact h.det
 ·by_cases e1:l=k
  ·subst e1
   rw[h1 j hj,h.ent i j hi hj,QaN _ _ _ (Ne.symm ne),Qjs,neg i hi,QdL hl hi ne,Zcp,QaP]
  ·by_cases e2:l=i
   ·subst e2
    rw[h2 j hj,h.ent k j hk hj,Qjs,QdL hk hl ne,QaN _ _ _ ne]
    have:=QaP m l
    rw[this]
   ·rw[h3 l j hl e1 e2 hj,h.ent l j hl hj,QaN _ _ _ (Ne.symm e2),neg i hi,QaN _ _ _ (Ne.symm e1),QdL hk hi ne,Zcp]
    rw[QaN _ _ _ e1,QaP,QaN _ _ _ e2,QaP]
 ·rw[QP _ _ (by omega),QP _ _ (by omega)];exact h.own j hj
theorem Clr.tell{n N k:Nat}{A m R:Nat->Nat->Int}{d:Int}(h:Clr n N k A m R d){j r:Nat}(hj:j<N)(hr:r<n):d*A j r=sm n λl=>R l j*m l r:=by
 have:=QmE m (A j) hr
 rw[h.det]at this
 rw[this]
 exact Qbt λl hl=>by rw[h.ent l j hl hj]
noncomputable def bnd(B:Nat):Nat->Nat
 | 0=>1
 | n+1=>(n+1)*(B*bnd B n)
theorem QpN:∀{n:Nat},(∀i,i<n->(f i).natAbs<=C)->(sm n f).natAbs<=n*C
 | 0,_=>by simp[sm]
 | n+1,h=>by
  unfold sm
  have h1:=QpN (n:=n) λi hi=>h i (by omega)
  have h2:=h n (by omega)
  have:=Int.natAbs_add_le (sm n f) (f n)
  rw[ZaK]
  omega
theorem Quw(j:Nat):(sgn j).natAbs=1:=by unfold sgn;split<;>rfl
theorem Qhe:∀{n:Nat}{m:Nat->Nat->Int},(∀j,j<n->∀r,r<n->(m j r).natAbs<=B)->(det n m).natAbs<=bnd B n
 | 0,_,_=>by show(1:Int).natAbs<=1;decide
 | n+1,m,h=>by
  unfold det bnd
  refine QpN λj hj=>?_
  rw[ZbQ,ZbQ,Quw,Nat.one_mul]
  refine Nat.mul_le_mul (h j hj 0 (by omega)) (Qhe λc hc r hr=>h _ ?_ _ (by omega))
  unfold skp
  split<;>omega
theorem Qkk(hn:n<=8):bnd (2^200) n<2^2000:=by
 have h:∀k,k<9->bnd (2^200) k<2^2000:=by decide+kernel
 exact h n (by omega)
def QoX(n:Nat)(m:Nat->Nat->Int):Prop:=∀j,j<n->∀r,r<n->(m j r).natAbs<=2^200
def QgA(n:Nat)(A:Nat->Nat->Int):Prop:=∀k,k<n->∀c:Nat->Int,(∀r,r<=k->sm (k+1) (λl=>c l*A l r)=0)->c k=0
structure Qc2 (n N k:Nat) (A m R:Nat->Nat->Int) (d:Int):Prop where
 clr:Clr n N k A m R d
 unit:∀l,k<=l->l<n->m l=Qbi l
 col:QoX n m
theorem QoX.put(h:QoX n m)(ha:∀r,r<n->(a r).natAbs<=2^200):QoX n (cup m i a):=λj hj r hr=>by
 by_cases e:j=i
 ·subst e;rw[Q6];exact ha r hr
 ·rw[QP _ _ e];exact h j hj r hr
theorem Qc2.start(n N:Nat)(A:Nat->Nat->Int):Qc2 n N 0 A Qbi (λi j=>A j i) 1:=⟨Clr.start n N A,λ_ _ _=>rfl,λj _ r _=>by unfold Qbi;split<;>decide⟩
theorem Qc2.small{n N k:Nat}{A m R:Nat->Nat->Int}{d:Int}(h:Qc2 n N k A m R d)(hn:n<=8)(hA:∀j,j<N->∀r,r<n->(A j r).natAbs<=2^200):d.natAbs<2^2000/\∀i j,i<n->j<N->(R i j).natAbs<2^2000:=by
 have b:=Qkk hn
 refine⟨?_,λi j hi hj=>?_⟩
 ·rw[← h.clr.det];exact ZaM (Qhe h.col) b
 ·rw[h.clr.ent i j hi hj];exact ZaM (Qhe (h.col.put (hA j hj))) b
theorem Qiq:∀{n:Nat},k<=n->(∀i,k<=i->i<n->f i=0)->sm n f=sm k f
 | 0,h,_=>by rw[Nat.le_zero.mp h]
 | n+1,h,z=>by
  by_cases e:k=n+1
  ·rw[e]
  ·show sm n f+f n=sm k f
   rw[Qiq (n:=n) (by omega) λi h1 h2=>z i h1 (by omega),z n (by omega) (by omega),Zbh]
theorem Qc2.QtD{n N k:Nat}{A m R:Nat->Nat->Int}{d:Int}(h:Qc2 n N k A m R d)(hk:k<n)(kN:k<N)(hl:QgA n A):R k k≠0:=λz=>by
 refine h.clr.nz ?_
 have:=hl k hk (λl=>if l=k then-d else R l k) λr hr=>by
  have t:=h.clr.tell kN (show r<n by omega)
  rw[Qiq (k:=k) (by omega)]at t
  ·show(sm k λl=>(if l=k then-d else R l k)*A l r)+(if k=k then-d else R k k)*A k r=0
   rw[if_pos rfl,Qbt (g:=λl=>R l k*m l r) λl hl=>by rw[if_neg (by omega),h.clr.own l hl],← t,Zaq]
   omega
  ·intro l h1 h2
   by_cases e:l=k
   ·rw[e,z,ZO]
   ·rw[h.unit l (by omega) h2,show Qbi l r=0 by unfold Qbi;rw[if_neg (by omega)],Zax]
 rw[if_pos rfl]at this
 omega
theorem Qc2.step{n N k:Nat}{A m R R':Nat->Nat->Int}{d:Int}(h:Qc2 n N k A m R d)(hk:k<n)(kN:k<N)(hA:∀j,j<N->∀r,r<n->(A j r).natAbs<=2^200)(hp:R k k≠0)(h1:∀j,j<N->R' k j=R k j)(h2:∀i j,i<n->i≠k->j<N->∀q,R k k*R i j-R i k*R k j=d*q->R' i j=q):Qc2 n N (k+1) A (cup m k (A k)) R' (R k k):=
 ⟨h.clr.step hk kN hp h1 h2,λl h3 h4=>by rw[QP _ _ (by omega)];exact h.unit l (by omega) h4,h.col.put (hA k kN)⟩
theorem Qcy(h:i.natAbs<2^2000):QyL i:=Zx (PyProof.Rows.intBits_le h) (by decide)
theorem QoP(hd:d≠0)(h:a=d*q):Qc1 a d=q:=by
 rw[Qhz,h,Int.mul_fdiv_cancel_left q hd]
theorem Qb6(ha:fa ρ=some ra)(ea:ra.d= .int a)(hb:fb ρ=some rb)(eb:rb.d= .int b):dOp Qam fa fb ρ=some ⟨.int (a-b),true,[]⟩:=by
 refine QaK ha hb ?_
 rw[ea,eb];rfl
theorem QjJ(ha:fa ρ=some ra)(ea:ra.d= .int a)(hb:fb ρ=some rb)(eb:rb.d= .int b)(hz:b≠0)(h2:b.natAbs<2^2000)(h:a=b*q):dOp QeC fa fb ρ=some ⟨.int q,true,[]⟩:=by
 refine QaK ha hb ?_
 rw[ea,eb]
 show(if QbA b=true then some (D.int (Qc1 a b))else none)=_
 have:QbA b=true:=by
  unfold QbA
  simp only[Zk,decide_eq_true_eq]
  exact⟨hz,ZA h2 (ZJ (by decide) (by decide))⟩
 rw[if_pos this,QoP hz h]
noncomputable def QhJ:DS:=(Qe (Q2 (Q5 (QaJ (Qa 0) (Qa 1)) (.tp [1,2]) [none,none,none,some 2,some 3,some 0,some 1] Qab (dOp QeC (dOp Qam (Qap (Qr (Qa 6) (Qa 3)) (Qa 1)) (Qap (Qr (Qa 5) (Qa 3)) (Qa 2))) (Qa 4)))) Qq)
def Qjx(d:Den):Prop:=∀(N k:Nat) (a p q:Nat->Int) (b:Int),k<N->b≠0->b.natAbs<2^2000->(∀j,j<N->(a j).natAbs<2^2000/\(p j).natAbs<2^2000)->(∀j,j<N->p k*a j-a k*p j=b*q j)->d [Qc N a,Qc N p,.int k,.int b]=some (Qc N q,true)
theorem QrJ:Qjx (Qo 4 QhJ):=λN k a p q b hk hb hb2 hs hq=>
 Qad (QE (QQ (List.range N) (QbU rfl rfl rfl rfl) rfl λi hi=>⟨[none,some (.int (a i),true),some (.int (p i),true),some (.int k,true),some (.int b,true),some (Qc N a,false),some (Qc N p,false)],rfl,⟨.int (q i),true,[]⟩,by
  have hi':=Zl.mp hi
  refine QjJ (Qb6 (QaD (Qcu rfl rfl rfl rfl hk) rfl rfl rfl (QhA (Qcy (hs k hk).2) (Qcy (hs i hi').1))) rfl (QaD (Qcu rfl rfl rfl rfl hk) rfl rfl rfl (QhA (Qcy (hs k hk).1) (Qcy (hs i hi').2))) rfl) rfl rfl rfl hb hb2 (hq i hi'),rfl,rfl⟩) ⟨rfl,rfl⟩)
noncomputable def QgX(Qao:Den):DS:=(Qe (Qt 2 (Q5 (Qeg (Qa 1) (dBf QaS (Qb (Qa 0) Qh))) (.nm 1) [none,none,some 1,some 0] (QZ (dOp gNe (Qr (Qr (Qa 3) (Qa 1)) (Qa 2)) (dC (.int 0)))) (Qa 1))) (Qe (sIf (bOr (Qd6 (QZ (Qa 2))) (QZ (dOp gEq (Qr (Qa 2) (dC (.int 0))) (Qa 1)))) (Qe (Q2 (Qa 0)) Qq) Qq) (Qe (Qt 3 (dList (Qb (Qa 0) Qh))) (Qe (Qcp 3 Qal (Qa 1) (Qr (Qa 0) (Qr (Qa 2) (dC (.int 0))))) (Qe (Qcp 3 Qal (Qr (Qa 2) (dC (.int 0))) (Qz 1 Qao [] (Qb (Qr (Qa 0) (Qa 1)) Qh))) (Qe (Q2 (Qa 3)) Qq))))))
def Qkd(d:Den):Prop:=∀(n N k:Nat) (f:Nat->Nat->Int),k<n->n<=1000->k<N->f k k≠0->d [QF n N f,.int k]=some (QF n N f,false)
theorem Qrt:Qkd (Qo 4 (QgX dop)):=λn N k f hk hn kN hp=>by
 have eI:=Qon (fi:=Qeg (Qa 1) (dBf QaS (Qb (Qa 0) Qh))) (t:= .nm 1) (cap:=[none,none,some 1,some 0]) (ft:=QZ (dOp gNe (Qr (Qr (Qa 3) (Qa 1)) (Qa 2)) (dC (.int 0)))) (fe:=Qa 1) (ρ:=[some (QF n N f,false),some (.int k,true),none,none])
  (toD:=λ(i:Nat)=> .int ((k:Int)+i)) (keep:=λi=> !decide (f (k+i) k=0)) (out:=λ(i:Nat)=> .int ((k:Int)+i)) (List.range (n-k)) (QqL (i:=k) (j:=n) (n:=n-k) (ra:=⟨.int k,true,[]⟩) rfl rfl (Qhr (n:=n) (m:=N) (f:=f) (r:=⟨QF n N f,false,[]⟩) rfl rfl) rfl (by omega) (by omega) (by omega) (by omega)) rfl λi hi=>⟨[none,some (.int ((k:Int)+i),true),some (.int k,true),some (QF n N f,false)],rfl,by
   have hi':=Zl.mp hi
   refine Q1 (Qfy (a:=f (k+i) k) (b:=0) (Qcu (m:=N) (f:=f (k+i)) (i:=k) ((QnV (m:=n) (n:=N) (f:=f) (i:=(k:Int)+i) (ra:=⟨QF n N f,false,[]⟩) (rb:=⟨.int ((k:Int)+i),true,[]⟩) rfl rfl rfl rfl (by omega) (by omega)).trans (by rw[show((k:Int)+i).toNat=k+i by omega])) rfl (rb:=⟨.int k,true,[]⟩) rfl rfl kN) rfl rfl rfl) rfl,λ_=>⟨⟨.int ((k:Int)+i),true,[]⟩,rfl,rfl,rfl⟩⟩
 have hr:List.range (n-k)=0::(List.range (n-k-1)).map (· +1):=by
  rw[show n-k=(n-k-1)+1 by omega,Zby];rfl
 rw[hr,Zca,if_pos (by show(!decide (f (k+0) k=0))=true;rw[Nat.add_zero,decide_eq_false hp];rfl),Zj]at eI
 generalize ((((List.range (n-k-1)).map (· +1)).filter λi=> !decide (f (k+i) k=0)).map λ(i:Nat)=>D.int ((k:Int)+i))=xs at eI
 refine Qad ?_
 refine run_seq (Qj eI ?_)
 rw[Qn]
 refine Qah (Qaq (b:=true) ((QcB (a:=false) (b:=true) (Qet (b:=true) (show QZ (Qa 2) _=some true from rfl)) (Q1 (b:=true) (QgR (a:=k) (b:=k) (ra:=⟨.int k,true,[]⟩) ?_ rfl (rb:=⟨.int k,true,[]⟩) rfl rfl) (by simp))).trans rfl) (λ_=>?_) (λh=>by cases h))
 ·unfold Qr
  show((D.items (.lst (.int ((k:Int)+(0:Nat))::xs))).bind λys=>(atI ys (0:Int)).map λd=>(HS.R.mk d true [2]).norm)=_
  simp only[D.items,Za]
  rw[Qfm (show(0:Int)<=0 by decide) (by simp)]
  show some (HS.R.mk (.int ((k:Int)+(0:Nat))) true [2]).norm=_
  rw[show(k:Int)+(0:Nat)=k by omega];rfl
 ·exact Qah (Qn1 (r:=⟨QF n N f,false,[]⟩) rfl ⟨rfl,rfl⟩)
noncomputable def QeX(QbE:Den)(Qca:Den):DS:=(Qe (Qt 1 (QaL (Qa 0))) (Qe (Qt 2 (dC (.int 1))) (Qe (Qbf (Qbk (dBf QaS (Qb (Qa 0) Qh))) (.nm 3) (Qe (Qt 1 (Qz 2 QbE [] (Qb (Qa 1) (Qb (Qa 3) Qh)))) (Qe (Qt 4 (QaL (Qr (Qa 1) (Qa 3)))) (Qe (sIf (QZ (dOp gEq (Qr (Qa 4) (Qa 3)) (dC (.int 0)))) (Qe (Q2 (Qa6 (Qb (Qa 1) (Qb (dC (.int 0)) Qh)))) Qq) Qq) (Qe (Qt 1 (Q5 (Qav (Qa 1)) (.nm 1) [none,none,some 3,some 2,some 4] Qab (Qz 4 Qca [] (Qb (Qa 1) (Qb (Qa 4) (Qb (Qa 2) (Qb (Qa 3) Qh))))))) (Qe (Qcp 1 Qal (Qa 3) (Qa 4)) (Qe (Qt 2 (QaL (Qr (Qa 4) (Qa 3)))) Qq))))))) (Qe (Q2 (Qa6 (Qb (Qa 1) (Qb (Qa 2) Qh)))) Qq))))
theorem Qig(h:fs ρ=some r)(e:den (r.ds++dfl)=some (d,false))(hn:r.ds.length+dfl.length=n):Qz n den dfl fs ρ=some (R.norm ⟨d,false,r.M⟩):=by
 unfold Qz
 rw[h,Za,if_pos hn,e]
 rfl
theorem Qq6{k:Nat}(hx:ρ[x]? =some (some (QF n N g,true)))(hi:fi ρ=some ⟨.int k,true,[]⟩)(ha:fa ρ=some ⟨Qc N p,false,[]⟩)(hk:k<n)
  (q:Q (.nx (ρ.set x (some (QF n N (λi j=>if i=k then p j else g i j),false))))):Run (Qcp x Qal fi fa) ρ Q:=by
 refine⟨_,?_,q⟩
 unfold Qcp
 rw[ha,Za,hx]
 have hn:(HS.R.mk (Qc N p) false []).norm=⟨Qc N p,false,[]⟩:=by unfold R.norm Qc;rfl
 simp only[Qal,Za,hi,QF,Qbz,Zg,ZM,hn]
 rw[Qeq (show(0:Int)<=k by omega) (by omega)]
 simp only[Za,ZT]
 have e:((List.range n).map λi=>Qc N (g i)).set k (Qc N p)=(List.range n).map λi=>Qc N (λj=>if i=k then p j else g i j):=by
  refine ZaR λi=>?_
  rw[List.getElem?_set]
  by_cases h:k=i
  ·subst h
   rw[if_pos rfl,if_pos (by simpa using hk),Zp,ZV hk]
   simp
  ·rw[if_neg h,Zp,Zp]
   by_cases h2:i<n
   ·rw[ZV h2]
    simp only[ZP,if_neg (Ne.symm h)]
   ·rw[Zz (by simpa using h2)];rfl
 rw[e]
 rfl
def QgQ(d:Den):Prop:=∀(n N:Nat) (A:Nat->Nat->Int),n<=8->n<=N->(∀j,j<N->∀r,r<n->(A j r).natAbs<=2^200)->QgA n A->∃m R b,d [QF n N (λi j=>A j i)]=some (.tup [QF n N R,.int b],false)/\Qc2 n N n A m R b
theorem Qpq(hp:Qkd dp)(ht:Qjx dt):QgQ (Qo 5 (QeX dp dt)):=λn N A n8 hN hA hl=>by
 have key:Run (QeX dp dt) [some (QF n N (λi j=>A j i),false),none,none,none,none] λo=>match o with | .rt d fr=>fr=false/\∃m R b,d= .tup [QF n N R,.int b]/\Qc2 n N n A m R b | _=>False:=by
  refine run_seq (Qj (Qcs (r:=⟨QF n N (λi j=>A j i),false,[]⟩) rfl) ?_)
  refine run_seq (Qj (r:=⟨.int 1,true,[]⟩) rfl ?_)
  rw[Qn]
  refine Qah (Qat (toD:=λ(k:Nat)=> .int (k:Int)) (List.range n) (λk ρ=>∃m R b j3 j4,Qc2 n N k A m R b/\ρ=[some (QF n N (λi j=>A j i),false),some (QF n N R,false),some (.int b,true),j3,j4]) (QcA (n:=n) (Qhr (n:=n) (m:=N) (f:=λi j=>A j i) (r:=⟨QF n N (λi j=>A j i),false,[]⟩) rfl rfl) rfl (by omega)) rfl ⟨_,_,_,none,none,Qc2.start n N A,rfl⟩ ?_ ?_)
  ·rintro k k' ρ hk ⟨m,R,b,j3,j4,C,rfl⟩
   have hk':k<n/\k=k':=by
    obtain⟨h1,h2⟩:=Zd.mp hk
    simp at h1 h2;exact⟨h1,h2⟩
   obtain⟨hkn,rfl⟩:=hk'
   have kN:k<N:=by omega
   have pv:=C.QtD hkn kN hl
   obtain⟨sb,sR⟩:=C.small n8 hA
   have ep:=hp n N k R hkn (by omega) kN pv
   refine⟨[some (QF n N (λi j=>A j i),false),some (QF n N R,false),some (.int b,true),some (.int k,true),j4],rfl,?_⟩
   refine run_seq (Qj (r:=⟨QF n N R,false,[]⟩) ((Qig (r:=⟨[QF n N R,.int k],false,[]⟩) rfl ep rfl).trans rfl) ?_)
   refine run_seq (Qj (r:=⟨Qc N (R k),false,[]⟩) ((Qcs (QnV (m:=n) (n:=N) (f:=R) (i:=k) (ra:=⟨QF n N R,false,[]⟩) (rb:=⟨.int k,true,[]⟩) rfl rfl rfl rfl (by omega) (by omega))).trans rfl) ?_)
   refine Qah (Qaq (b:=false) (Q1 (QgR (a:=R k k) (b:=0) (Qcu (m:=N) (f:=R k) (i:=k) (ra:=⟨Qc N (R k),false,[]⟩) (rb:=⟨.int k,true,[]⟩) rfl rfl rfl rfl kN) rfl rfl rfl) (by simp[pv])) (λh=>by cases h) (λ_=>Qv ?_))
   have ex:∀i j,∃q,i<n->i≠k->j<N->R k k*R i j-R i k*R k j=b*q:=λi j=>by
    by_cases h:i<n/\i≠k/\j<N
    ·exact⟨_,λh1 h2 h3=>C.clr.exact hkn kN h1 h3 h2⟩
    ·exact⟨0,λh1 h2 h3=>absurd ⟨h1,h2,h3⟩ h⟩
   have zz:∀j,R k k*R k j-R k k*R k j=b*0:=λj=>by rw[Int.sub_self,Zax]
   have eT:∀i,i<n->dt [Qc N (R i),Qc N (R k),.int k,.int b]=some (Qc N (λj=>if i=k then 0 else(ex i j).choose),true):=λi hi=>
    ht N k (R i) (R k) _ b kN C.clr.nz sb (λj hj=>⟨sR i j hi hj,sR k j hkn hj⟩) λj hj=>by
     by_cases e:i=k
     ·rw[if_pos e,e];exact zz j
     ·rw[if_neg e];exact(ex i j).choose_spec hi e hj
   refine run_seq (Qj (r:=⟨QF n N (λi j=>if i=k then 0 else(ex i j).choose),true,[]⟩) (QQ (toD:=λ(i:Nat)=>Qc N (R i)) (out:=λ(i:Nat)=>Qc N (λj=>if i=k then 0 else(ex i j).choose)) (List.range n) (QaE (r:=⟨QF n N R,false,[]⟩) rfl rfl) rfl λi hi=>⟨[none,some (Qc N (R i),false),some (.int k,true),some (.int b,true),some (Qc N (R k),false)],rfl,⟨Qc N (λj=>if i=k then 0 else(ex i j).choose),true,[]⟩,Qx (r:=⟨[Qc N (R i),Qc N (R k),.int k,.int b],false,[]⟩) rfl (eT i (Zl.mp hi)) rfl,rfl,rfl⟩) ?_)
   rw[Qn]
   refine run_seq (Qq6 (n:=n) (N:=N) (k:=k) (p:=R k) (g:=λi j=>if i=k then 0 else(ex i j).choose) rfl rfl rfl hkn ?_)
   refine run_seq (Qj (r:=⟨.int (R k k),false,[]⟩) ((Qcs (Qcu (m:=N) (f:=R k) (i:=k) (ra:=⟨Qc N (R k),false,[]⟩) (rb:=⟨.int k,true,[]⟩) rfl rfl rfl rfl kN)).trans rfl) (Qv ?_))
   rw[Qbw rfl]
   refine⟨_,_,_,_,_,C.step (R':=λi j=>if i=k then R k j else(λi j=>if i=k then 0 else(ex i j).choose) i j) hkn kN hA pv (λj _=>by show(if k=k then R k j else _)=_;rw[if_pos rfl]) (λi j hi ne hj q hq=>?_),rfl⟩
   show(if i=k then R k j else if i=k then 0 else(ex i j).choose)=q
   rw[if_neg ne,if_neg ne]
   exact Zbj C.clr.nz (((ex i j).choose_spec hi ne hj).symm.trans hq)
  ·rintro ρ ⟨m,R,b,j3,j4,C,rfl⟩
   rw[ZM]at C
   exact QE (r:=⟨.tup [QF n N R,.int b],false,[]⟩) rfl ⟨rfl,m,R,b,rfl,C⟩
 obtain⟨o,h1,h2⟩:=key
 cases o with
 | rt d fr=>
  obtain⟨rfl,m,R,b,rfl,C⟩:=h2
  exact⟨m,R,b,by show Option.bind (QeX dp dt [some (QF n N (λi j=>A j i),false),none,none,none,none]) outD=_;rw[h1];rfl,C⟩
 | _=>exact h2.elim
theorem Qhx(f:Nat->Int):∀n,sm n f=Qi n f
 | 0=>rfl
 | n+1=>by rw[QT,← Qhx f n];rfl
theorem Qeo(h:∀i,i<m->0<=f i):0<=Qi m f:=by
 have:=Qbn h
 rw[Q0]at this
 exact this
theorem Qsn{m k:Nat}{T:Nat->Nat->Int}(tp:TP m T){c:Nat->Int}(h0:∀l,k<l->c l=0)(h:∀r,r<m->r<=k->0<=Qi m (λl=>c l*T l r)):∀l,l<m->c l<=0:=by
 obtain⟨w,w0,hw⟩:=tp.wt
 have p0:∀l,0<=(if 0<c l then c l else 0):=λl=>by split<;>omega
 have v0:∀r,r<m->0<=Qi m (λl=>(if 0<c l then c l else 0)*T l r):=λr hr=>by
  by_cases h1:0<c r
  ·have hrk:r<=k:=by
    by_cases z:k<r
    ·rw[h0 r z]at h1;omega
    ·omega
   have e:Qi m (λl=>(if 0<c l then c l else 0)*T l r)=Qi m (λl=>((if 0<c l then c l else 0)-c l)*T l r)+Qi m (λl=>c l*T l r):=by
    rw[← QJ m (λl=>((if 0<c l then c l else 0)-c l)*T l r) (λl=>c l*T l r)]
    exact Qp λl _=>by rw[← ZU];congr 1;omega
   rw[e]
   refine Int.add_nonneg ?_ (h r hr hrk)
   refine Qeo λl hl=>?_
   by_cases e2:l=r
   ·subst e2;rw[if_pos h1,Int.sub_self,ZO];exact Zak _
   ·refine Zas ?_ (tp.pos l r hl hr e2)
    split<;>omega
  ·refine Qeo λl hl=>?_
   by_cases e2:l=r
   ·subst e2;rw[if_neg h1,ZO];exact Zak _
   ·exact Zas (p0 l) (tp.pos l r hl hr e2)
 have s1:0<=Qi m λr=>Qi m (λl=>(if 0<c l then c l else 0)*T l r)*w r:=by
  have:Qi m (λ_=>(0:Int))<=Qi m λr=>Qi m (λl=>(if 0<c l then c l else 0)*T l r)*w r:=Qbn λr hr=>Zas (v0 r hr) (w0 r)
  rw[Q0]at this
  exact this
 have s2:(Qi m λr=>Qi m (λl=>(if 0<c l then c l else 0)*T l r)*w r)=Qi m λl=>(if 0<c l then c l else 0)*Qi m λr=>T l r*w r:=by
  have e1:(λr=>Qi m (λl=>(if 0<c l then c l else 0)*T l r)*w r)=λr=>Qi m λl=>(if 0<c l then c l else 0)*(T l r*w r):=by
   funext r
   rw[Zat,← Qdc]
   exact Qp λl _=>by rw[Zat (w r),Zar]
  rw[e1,Qp5]
  exact Qp λl _=>by rw[Qdc]
 have s3:(Qi m λl=>(if 0<c l then c l else 0)*Qi m λr=>T l r*w r)<=Qi m λl=> -(if 0<c l then c l else 0):=Qbn λl hl=>by
  have:=ZW (hw l hl) (p0 l)
  omega
 rw[Qaz]at s3
 intro l hl
 have big:(if 0<c l then c l else 0)<=Qi m λl=>(if 0<c l then c l else 0):=by
  have:=Q8 (m:=m) hl (if 0<c l then c l else 0) (λ_=>1)
  have h2:Qi m (λi=>(if i=l then(if 0<c l then c l else 0)else 0)*1)<=Qi m λl=>(if 0<c l then c l else 0):=Qbn λi _=>by
   rw[ZaU]
   by_cases e:i=l
   ·subst e;rw[if_pos rfl];exact Zak _
   ·rw[if_neg e];exact p0 i
  omega
 by_cases z:0<c l
 ·rw[if_pos z]at big;omega
 ·omega
theorem QnP{m k:Nat}{T:Nat->Nat->Int}(tp:TP m T){c:Nat->Int}(h0:∀l,k<l->c l=0)(h:∀r,r<m->r<=k->Qi m (λl=>c l*T l r)=0):∀l,l<m->c l<=0:=Qsn tp h0 λr hr hk=>Int.le_of_eq (h r hr hk).symm
theorem Qn4{m:Nat}{T:Nat->Nat->Int}(tp:TP m T):QgA m λl r=>0-T l r:=λk hk c h=>by
 have ext:∀r,r<=k->Qi m (λl=>(if l<=k then c l else 0)*T l r)=0:=λr hr=>by
  have e:=h r hr
  rw[← Qhx,Qiq (k:=k+1) (by omega)]
  ·have n:=Qi4 (-1) 0 (λl=>c l*(0-T l r)) (λ_=>0) (k+1)
   rw[e]at n
   rw[Qbt (g:=λl=> -1*(c l*(0-T l r))+0*0) λl hl=>by rw[if_pos (by omega),Zbi,ZaV];omega,n]
   omega
  ·intro l h1 h2;rw[if_neg (by omega),ZO]
 have a:=QnP tp (λl hl=>by show(if l<=k then c l else 0)=0;rw[if_neg (by omega)]) (λr _ hr=>ext r hr) k hk
 have b:=QnP (k:=k) tp (λl hl=>by show(if l<=k then-c l else 0)=0;rw[if_neg (by omega)]) (λr _ hr=>by
  have:=ext r hr
  rw[Qp (g:=λl=> -((if l<=k then c l else 0)*T l r)) λl _=>by split<;>simp[Zaq],Qaz,this];rfl) k hk
 have a:(if k<=k then c k else 0)<=0:=a
 have b:(if k<=k then-c k else 0)<=0:=b
 rw[if_pos (Zh k)]at a b
 omega
noncomputable def QiU:DS:=(Qe (Q2 (Q5 (Qav (Qa 0)) (.nm 1) [none,none] Qab (dOp Qam (dC (.int 0)) (Qa 1)))) Qq)
def Qla(d:Den):Prop:=∀(n:Nat) (a:Nat->Int),d [Qc n a]=some (Qc n λi=>0-a i,true)
theorem QwT:Qla (Qo 1 QiU):=λn a=>Qad (QE (QQ (List.range n) (QaE rfl rfl) rfl λi _=>⟨[none,some (.int (a i),true)],rfl,⟨.int (0-a i),true,[]⟩,rfl,rfl,rfl⟩) ⟨rfl,rfl⟩)
noncomputable def QhS(Qao:Den)(Q7:Den):DS:=(Qe (Q2 (Q5 (Qav (Qz 1 Q7 [] (Qb (Qa 0) Qh))) (.nm 1) [none,none] Qab (Qz 1 Qao [] (Qb (Qa 1) Qh)))) Qq)
def Qiu(d:Den):Prop:=∀(m:Nat) (R L:List (Int×Int)),m<=1000->R.length+R.length+L.length<=1000000->(∀s∈R,Good m s)->(∀s∈L,Good m s)->d [Qs m R L]=some (QF m m λi j=>0-Qf m (Qd R L) i j,true)
theorem Qrk(ho:Qla dop)(ht:QeG dt):Qiu (Qo 1 (QhS dop dt)):=λm R L hm hl hR hL=>by
 have et:=ht m R L hm hl hR hL
 generalize Qf m (Qd R L)=T at *
 exact Qad (QE (QQ (List.range m) (QaE (Qx rfl et rfl) rfl) rfl λi _=>⟨[none,some (Qc m (T i),false)],rfl,⟨Qc m λj=>0-T i j,true,[]⟩,Qx rfl (ho m (T i)) rfl,rfl,rfl⟩) ⟨rfl,rfl⟩)
noncomputable def QfV:DS:=(Qe (Qt 1 (dC (.int 0))) (Qe (Qbf (Qav (Qa 0)) (.nm 2) (Qe (Qt 3 (QaL (Qa 2))) (Qe (Qb3 (QZ (dOp gNe (Qa 3) (dC (.int 0)))) (Qe (Qt 4 (dOp Qbb (Qa 1) (Qa 3))) (Qe (Qt 1 (QaL (Qa 3))) (Qe (Qt 3 (QaL (Qa 4))) Qq)))) Qq))) (Qe (Q2 (dBf QoU (Qb (Qa 1) Qh))) Qq)))
theorem QsW:(t∣b/\t∣Qck a b)↔(t∣a/\t∣b):=by
 have e:Qck a b=a-b*Qc1 a b:=by
  rw[Qhz,show Qck a b=a.fmod b from Qhw a b,Int.fmod_def]
 rw[e]
 constructor
 ·rintro⟨h1,h2⟩
  refine⟨?_,h1⟩
  have:=Int.dvd_add h2 (Zce (c:=Qc1 a b) h1)
  rwa[Int.sub_add_cancel]at this
 ·rintro⟨h1,h2⟩
  exact⟨h2,Int.dvd_sub h1 (Zce h2)⟩
theorem Quv(h:b≠0):(Qck a b).natAbs<b.natAbs:=by
 rw[show Qck a b=a.fmod b from Qhw a b]
 by_cases hb:0<b
 ·have h1:=Zci a hb
  have h2:=Int.fmod_lt_of_pos a hb
  omega
 ·have hb':0< -b:=by omega
  have h1:=Zci (-a) hb'
  have h2:=Int.fmod_lt_of_pos (-a) hb'
  have h3:=Int.neg_fmod_neg a b
  omega
def Qh1(d:Den):Prop:=∀(xs:List Int),∃g:Int,d [Qm xs]=some (.int g,true)/\0<=g/\∀t,t∣g↔∀x∈xs,t∣x
theorem QqM:Qh1 (Qo 5 QfV):=λxs=>by
 have key:Run QfV [some (Qm xs,false),none,none,none,none] λo=>match o with | .rt d fr=>fr=true/\∃g,d= .int g/\0<=g/\∀t,t∣g↔∀x∈xs,t∣x | _=>False:=by
  refine run_seq (Qj rfl ?_)
  rw[Qn]
  refine Qah (Qat xs (λk ρ=>∃g j2 j3 j4,(∀t,t∣g↔∀x∈xs.take k,t∣x)/\ρ=[some (Qm xs,false),some (.int g,true),j2,j3,j4]) (QaE rfl rfl) rfl ⟨0,none,none,none,λt=>by simp,rfl⟩ ?_ ?_)
  ·rintro k x ρ hk ⟨g,j2,j3,j4,hg,rfl⟩
   refine⟨[some (Qm xs,false),some (.int g,true),some (.int x,true),j3,j4],rfl,?_⟩
   refine run_seq (Qj rfl ?_)
   rw[Qbw rfl]
   refine QaA (P:=λρ=>∃g' j4,(∀t,t∣g'↔(t∣g/\t∣x))/\ρ=[some (Qm xs,false),some (.int g',true),some (.int x,true),some (.int 0,true),j4]) ?_ ?_
   ·refine QgT (λn ρ=>∃g' r j4,n=r.natAbs/\(∀t,(t∣g'/\t∣r)↔(t∣g/\t∣x))/\ρ=[some (Qm xs,false),some (.int g',true),some (.int x,true),some (.int r,true),j4]) ?_ x.natAbs _ ⟨g,x,j4,rfl,λ_=>Iff.rfl,rfl⟩
    rintro n ρ ⟨g',r,j4,rfl,hd,rfl⟩
    refine⟨!decide (r=0),Q1 (Qfy rfl rfl rfl rfl) rfl,λh=>?_,λh=>?_⟩
    ·have hr:r=0:=by simpa using h
     subst hr
     exact⟨g',j4,λt=>by rw[← hd t];simp,rfl⟩
    ·have hr:r≠0:=by simpa using h
     refine run_seq (Qj (QaK rfl rfl (by show(if r≠0 then some (D.int (Qck g' r))else none)=_;rw[if_pos hr])) ?_)
     rw[Qn]
     refine run_seq (Qj rfl ?_)
     rw[Qbw rfl]
     refine run_seq (Qj rfl (Qv ?_))
     rw[Qbw rfl]
     exact⟨_,Quv hr,r,Qck g' r,_,rfl,λt=>QsW.trans (hd t),rfl⟩
   ·rintro ρ ⟨g',j4,hd,rfl⟩
    refine Qv ⟨g',_,_,_,λt=>?_,rfl⟩
    rw[hd t,hg t,List.take_succ,hk]
    simp only[ZG,Option.toList_some,Zv]
    exact⟨λ⟨a,b⟩ y hy=>hy.elim (a y) λe=>e▸b,λa=>⟨λy hy=>a y (.inl hy),a x (.inr rfl)⟩⟩
  ·rintro ρ ⟨g,j2,j3,j4,hg,rfl⟩
   rw[ZbE]at hg
   refine QE rfl ⟨rfl,_,rfl,by split<;>omega,λt=>?_⟩
   rw[← hg t]
   split
   ·exact Int.dvd_neg
   ·exact Iff.rfl
 obtain⟨o,h1,h2⟩:=key
 cases o with
 | rt d fr=>
  obtain⟨rfl,g,rfl,g0,hg⟩:=h2
  exact⟨g,by show Option.bind (QfV [some (Qm xs,false),none,none,none,none]) outD=_;rw[h1];rfl,g0,hg⟩
 | _=>exact h2.elim
noncomputable def Qe0(Qde:Den):DS:=(Qe (Qt 1 (Qz 1 Qde [] (Qb (Qa 0) Qh))) (Qe (sIf (QZ (dOp gEq (Qr (Qa 1) (dC (.int 1))) (dC (.int 0)))) (Qe QG Qq) Qq) (Qe (Q2 (Qa 1)) Qq)))
def QfE(d:Den):Prop:=∀(n N:Nat) (A:Nat->Nat->Int),n<=8->n<=N->(∀j,j<N->∀r,r<n->(A j r).natAbs<=2^200)->QgA n A->∃m R b,d [QF n N (λi j=>A j i)]=some (.tup [QF n N R,.int b],false)/\Qc2 n N n A m R b
theorem QnD(hc:QgQ dc):QfE (Qo 2 (Qe0 dc)):=λn N A n8 hN hA hl=>by
 obtain⟨m,R,b,ec,C⟩:=hc n N A n8 hN hA hl
 refine⟨m,R,b,Qad ?_,C⟩
 refine run_seq (Qj ((Qig (r:=⟨[QF n N (λi j=>A j i)],false,[]⟩) rfl ec rfl).trans rfl) ?_)
 refine Qah (Qaq (b:=false) (Q1 (QgR rfl rfl rfl rfl) (by simp[C.clr.nz])) (λh=>by cases h) (λ_=>Qv ?_))
 exact QE rfl ⟨rfl,rfl⟩
noncomputable def QgM(QdM:Den)(Qa1:Den)(QbX:Den)(QdN:Den):DS:=(Qe (Qt 2 (dBf QaS (Qb (Qa 0) Qh))) (Qe (sIf (QZ (dOp gNe (dBf QaS (Qb (Qa 1) Qh)) (Qa 2))) (Qe QG Qq) Qq) (Qe (Qt 3 (Qz 1 Qa1 [] (Qb (Q5 (QaJ (Qz 1 QdM [] (Qb (Qa 0) Qh)) (Qa 1)) (.tp [1,2]) [none,none,none] Qab (QO (Qa 1) (Qag (Qb (Qa 2) Qh)))) Qh))) (Qe (Qt 4 (Qz 2 QbX [] (Qb (Qr (Qa 3) (dC (.int 0))) (Qb (Qa 2) Qh)))) (Qe (Qt 5 (Qz 1 QdN [] (Qb (QO (Qa 4) (Qag (Qb (Qr (Qa 3) (dC (.int 1))) Qh))) Qh))) (Qe (sIf (QZ (dOp gLt (Qr (Qa 3) (dC (.int 1))) (dC (.int 0)))) (Qe (Qt 5 (dOp Qam (dC (.int 0)) (Qa 5))) Qq) Qq) (Qe (Q2 (Qa6 (Qb (Q5 (Qav (Qa 4)) (.nm 1) [none,none,some 5] Qab (dOp QeC (Qa 1) (Qa 2))) (Qb (dOp QeC (Qr (Qa 3) (dC (.int 1))) (Qa 5)) Qh)))) Qq)))))))
theorem Qio(ha:fa ρ=some ra)(ea:ra.d=Qc m f)(hb:fb ρ=some ⟨.int x,true,[]⟩)(hm:m<=1000):QO fa (Qag (Qb fb Qh)) ρ=some ⟨Qc (m+1) (up f m x),true,[]⟩:=by
 have hb:Qag (Qb fb Qh) ρ=some ⟨.lst [.int x],true,[]⟩:=(QlE (Qu hb (Q3 _)) (by simp)).trans rfl
 unfold QO
 rw[ha,Za,hb,Za,ea]
 simp only[Qc,Zg,ZM,Qeb]
 rw[if_pos (by simp;omega)]
 unfold QaH
 rw[if_pos (by rw[Qcr,Zk];exact⟨Qbd (λ_=>rfl) _,rfl⟩)]
 congr 3
 rw[Zcl,Zaa]
 congr 1
 ·refine Zs λi hi=>?_
  rw[Qdn,if_neg (by have:=Zl.mp hi;omega)]
 ·show _=[D.int (up f m x m)]
  rw[Qdn,if_pos rfl]
theorem Qs0(n:Nat)(f:Nat->Int):Qc n f=Qm ((List.range n).map f):=by unfold Qc Qm;rw[ZR];rfl
def Qh8(d:Den):Prop:=∀(n:Nat) (f:Nat->Nat->Int) (row:Nat->Int),n<=8->(∀j r,j<n->r<n->(f j r).natAbs<=2^200)->(∀r,r<n->(row r).natAbs<=2^200)->QgA n f->∃tops q,d [QF n n f,Qc n row]=some (.tup [Qc n tops,.int q],true)/\0<q/\q.natAbs<2^2000/\(∀r,r<n->q*row r=sm n λl=>tops l*f l r)/\(∀l,l<n->(tops l).natAbs<2^2000)/\(q≠1->∃l,l<n/\¬q∣tops l)
theorem Qqc(ht:Qiy dt)(hc:QfE dc)(hl:Qf1 dl)(hm:Qh1 dm):Qh8 (Qo 6 (QgM dt dc dl dm)):=λn f row n8 hf hr hL=>by
 have hA:∀j,j<n+1->∀r,r<n->((λj r=>if j=n then row r else f j r) j r).natAbs<=2^200:=λj hj r hr'=>by
  show(if j=n then row r else f j r).natAbs<=_
  split
  ·exact hr r hr'
  ·exact hf j r (by omega) hr'
 have hL':QgA n λj r=>if j=n then row r else f j r:=λk hk c h=>hL k hk c λr hr=>by
  rw[← h r hr]
  exact Qbt λl hl=>by show c l*f l r=c l*(if l=n then row r else f l r);rw[if_neg (by omega)]
 obtain⟨m,R,b,ec,C⟩:=hc n (n+1) _ n8 (by omega) hA hL'
 obtain⟨sb,sR⟩:=C.small n8 hA
 obtain⟨g,eg,g0,hg⟩:=hm ((List.range (n+1)).map (up (λi=>R i n) n b))
 have gb:g∣b:=(hg g).mp ⟨1,by omega⟩ b (ZN.mpr ⟨n,Zl.mpr (by omega),by rw[Qdn,if_pos rfl]⟩)
 have gR:∀i,i<n->g∣R i n:=λi hi=>(hg g).mp ⟨1,by omega⟩ _ (ZN.mpr ⟨i,Zl.mpr (by omega),by rw[Qdn,if_neg (by omega)]⟩)
 have bz:=C.clr.nz
 have gz:g≠0:=λz=>by rw[z]at gb;obtain⟨x,hx⟩:=gb;rw[ZO]at hx;exact bz hx
 obtain⟨p,hp⟩:∃p,p=if b<0 then 0-g else g:=⟨_,rfl⟩
 have pz:p≠0:=by rw[hp];split<;>omega
 have pd:∀x,g∣x->∃y,x=p*y:=λx hpt=>by
  obtain⟨y,hy⟩:=hpt
  rw[hp]
  split
  ·exact⟨-y,by rw[hy,Zbi,Int.neg_mul_neg]⟩
  ·exact⟨y,hy⟩
 obtain⟨q,hq⟩:=pd b gb
 have tp:∀i,∃y,i<n->R i n=p*y:=λi=>by
  by_cases h:i<n
  ·obtain⟨y,hy⟩:=pd _ (gR i h);exact⟨y,λ_=>hy⟩
  ·exact⟨0,λh'=>absurd h' h⟩
 have gle:g.natAbs<=b.natAbs:=Zbc.mpr gb |> λh=>ZbY (by omega) h
 have ple:p.natAbs<2^2000:=by rw[hp];split<;>omega
 have q0:0<q:=by
  by_cases h:b<0
  ·rw[if_pos h]at hp
   refine ZD λz=>?_
   have:=Int.mul_nonneg_of_nonpos_of_nonpos (a:=p) (b:=q) (by omega) (by omega)
   omega
  ·rw[if_neg h]at hp
   refine ZD λz=>?_
   have:=Int.mul_nonpos_of_nonneg_of_nonpos (a:=p) (b:=q) (by omega) (by omega)
   omega
 have qle:q.natAbs<2^2000:=by
  have:q∣b:=⟨p,by rw[hq,Zat]⟩
  have:=ZbY (by omega) (Zbc.mpr this)
  omega
 have tops_small:∀l,l<n->((tp l).choose).natAbs<2^2000:=λl hl=>by
  have h:=(tp l).choose_spec hl
  have:=sR l n hl (by omega)
  by_cases z:(tp l).choose=0
  ·rw[z];exact ZaM (Zac _) this
  ·have d:(tp l).choose∣R l n:=⟨p,by rw[Zat];exact h⟩
   have nz:R l n≠0:=by rw[h];exact Int.mul_ne_zero pz z
   have:=ZbY (by omega) (Zbc.mpr d)
   omega
 have low:q≠1->∃l,l<n/\¬q∣(tp l).choose:=λq1=>ZD λhno=>by
  have all:∀l,l<n->q∣(tp l).choose:=λl hl=>ZD λz=>hno ⟨l,hl,z⟩
  have bg:b∣g:=(hg b).mpr λx hx=>by
   obtain⟨i,hi,rfl⟩:=ZN.mp hx
   rw[Qdn]
   split
   ·exact⟨1,by omega⟩
   ·rename_i z
    have hi':i<n:=by have:=Zl.mp hi;omega
    obtain⟨y,hy⟩:=all i hi'
    exact⟨y,by rw[(tp i).choose_spec hi',hy,hq,Zar]⟩
  have h1:=ZbY (by omega) (Zbc.mpr bg)
  have pg:p.natAbs=g.natAbs:=by rw[hp];split<;>omega
  have h2:b.natAbs=g.natAbs*q.natAbs:=by rw[hq,ZbQ,pg]
  have h3:2<=q.natAbs:=by omega
  have h4:=Nat.mul_le_mul_left g.natAbs h3
  omega
 refine⟨λi=>(tp i).choose,q,Qad ?_,q0,qle,λr hr'=>?_,tops_small,low⟩
 ·refine run_seq (Qj (Qhr (n:=n) (m:=n) (f:=f) (r:=⟨QF n n f,false,[]⟩) rfl rfl) ?_)
  rw[Qn]
  refine Qah (Qaq (b:=false) (Q1 (b:=false) (r:=⟨.bl false,true,[]⟩) ((Qfy ((Qct rfl rfl).trans (by rw[Zg,ZM])) rfl rfl rfl).trans (by simp)) rfl) (λh=>by cases h) (λ_=>Qv ?_))
  have et:=ht n f (by omega)
  have eZ:Q5 (QaJ (Qz 1 dt [] (Qb (Qa 0) Qh)) (Qa 1)) (.tp [1,2]) [none,none,none] Qab (QO (Qa 1) (Qag (Qb (Qa 2) Qh))) [some (QF n n f,false),some (Qc n row,false),some (.int n,true),none,none,none]=some ⟨QF n (n+1) (λi j=>(λj r=>if j=n then row r else f j r) j i),true,[]⟩:=by
   refine(QQ (List.range n) (QbU (Qx (r:=⟨[QF n n f],false,[]⟩) rfl et rfl) rfl rfl rfl) rfl λi hi=>⟨[none,some (Qc n (λj=>f j i),false),some (.int (row i),true)],rfl,⟨Qc (n+1) (up (λj=>f j i) n (row i)),true,[]⟩,Qio rfl rfl rfl (by omega),rfl,rfl⟩).trans ?_
   have eT:QF n (n+1) (λi j=>(λj r=>if j=n then row r else f j r) j i)= .lst ((List.range n).map λi=>Qc (n+1) (up (λj=>f j i) n (row i))):=by
    unfold QF
    refine congrArg D.lst (Zs λi _=>?_)
    unfold Qc
    exact congrArg D.lst (Zs λj _=>by rw[Qdn])
   rw[eT]
  refine run_seq (Qj ((Qig (Qu eZ (Q3 _)) ec rfl).trans rfl) ?_)
  refine run_seq (Qj (Qx rfl (hl n (n+1) R n (by omega)) rfl) ?_)
  rw[Qn]
  refine run_seq (Qj (Qx (Qu (Qio rfl rfl rfl (by omega)) (Q3 _)) (by show dm [Qc (n+1) (up (λi=>R i n) n b)]=_;rw[Qs0];exact eg) rfl) ?_)
  rw[Qn]
  refine QaA (P:=λρ=>ρ=[some (QF n n f,false),some (Qc n row,false),some (.int n,true),some (.tup [QF n (n+1) R,.int b],false),some (Qc n (λi=>R i n),true),some (.int p,true)]) ?_ ?_
  ·refine Qaq (Q1 (QaK rfl rfl rfl) rfl) (λh=>?_) (λh=>?_)
   ·refine run_seq (Qj rfl (Qv ?_))
    rw[Qn,hp,if_pos (of_decide_eq_true h)];rfl
   ·refine Qv ?_
    rw[hp,if_neg (of_decide_eq_false h)];rfl
  ·rintro ρ rfl
   refine QE (r:=⟨.tup [Qc n λi=>(tp i).choose,.int q],true,[]⟩) ?_ ⟨rfl,rfl⟩
   unfold Qa6
   refine(congrArg (λz=>Option.bind z _) (Qu (QQ (List.range n) (QaE rfl rfl) rfl λi hi=>⟨[none,some (.int (R i n),true),some (.int p,true)],rfl,⟨.int (tp i).choose,true,[]⟩,QjJ rfl rfl rfl rfl pz ple ((tp i).choose_spec (Zl.mp hi)),rfl,rfl⟩) (Qu (QjJ rfl rfl rfl rfl pz ple hq) (Q3 _)))).trans ?_
   rfl
 ·have t:=C.clr.tell (j:=n) (by omega) hr'
  have t:b*row r=sm n λl=>R l n*m l r:=by
   have e:(if n=n then row r else f n r)=row r:=if_pos rfl
   rw[← e];exact t
  rw[Qbt (g:=λl=>((tp l).choose*f l r)*p) λl hl=>by
   rw[C.clr.own l hl]
   show R l n*(if l=n then row r else f l r)=_
   rw[if_neg (by omega),Zat _ p,← Zar,← (tp l).choose_spec hl],QnM,hq]at t
  refine Zbj pz ?_
  rw[← Zar,t,Zat]
noncomputable def Qf8(Qb9:Den)(QbL:Den):DS:=(Qe (Qt 2 (Qz 2 QbL [] (Qb (Qz 1 Qb9 [] (Qb (Qa 0) Qh)) (Qb (Qa 1) Qh)))) (Qe (Q2 (Q5 (Qav (Qr (Qa 2) (dC (.int 0)))) (.nm 1) [none,none,some 2] Qab (dOp QeC (Qa 1) (Qr (Qa 2) (dC (.int 1)))))) Qq))
theorem QnZ(ha:fa ρ=some ra)(ea:ra.d= .int a)(hb:fb ρ=some rb)(eb:rb.d= .int b)(h:0<b)(h2:b.natAbs<2^2000):dOp QeC fa fb ρ=some ⟨.int (a / b),true,[]⟩:=by
 refine QaK ha hb ?_
 rw[ea,eb]
 show(if QbA b=true then some (D.int (Qc1 a b))else none)=_
 have:QbA b=true:=by
  unfold QbA
  simp only[Zk,decide_eq_true_eq]
  exact⟨by omega,ZA h2 (ZJ (by decide) (by decide))⟩
 rw[if_pos this,Qit _ _ (by omega)]
theorem Qly(h:∀i,i<m-> -C<=f i/\f i<=C): -(m*C)<=Qi m f/\Qi m f<=m*C:=by
 induction m with
 | zero=>simp[Qi]
 | succ m ih=>
  rw[QT]
  have h1:=ih λi hi=>h i (by omega)
  have h2:=h m (by omega)
  have e:((m+1:Nat):Int)*C=m*C+C:=by rw[Zbp,ZU];simp
  omega
theorem QqP{m:Nat}{T:Nat->Nat->Int}(hm:m<=8)(hT:∀i j,i<m->j<m->(T i j).natAbs<2^64){f tops:Nat->Int}{q:Int}(q0:0<q)(h:∀r,r<m->q*f r=sm m λl=>tops l*(0-T l r)):∀r,r<m-> -(2^67)<=Qg m T f (λl=>tops l / q) r/\Qg m T f (λl=>tops l / q) r<=2^67:=λr hr=>by
 have e:q*Qg m T f (λl=>tops l / q) r=Qi m λl=> -(tops l % q)*T l r:=by
  unfold Qg
  rw[Zbf,h r hr,Qhx,← Qdc,← QJ]
  refine Qp λl _=>?_
  have:=ZbA (tops l) q
  have e2:q*(tops l / q*T l r)=(q*(tops l / q))*T l r:=by rw[Zar]
  rw[e2,show q*(tops l / q)=tops l-tops l % q by omega,Zbi,ZaV,Int.sub_mul,Zaq]
  omega
 have b:=Qly (f:=λl=> -(tops l % q)*T l r) (C:=q*2^64) λl hl=>by
  have h1:=ZH (tops l) (by omega:q≠0)
  have h2:=ZC (tops l) q0
  have h3:=hT l r hl hr
  have h4:tops l % q*(T l r)<=q*2^64/\ -(q*2^64)<=tops l % q*(T l r):=by
   have a1:tops l % q*T l r<=tops l % q*2^64:=ZW (by omega) h1
   have a2:tops l % q*2^64<=q*2^64:=ZZ (by omega) (by decide)
   have a3:tops l % q*(-(2^64))<=tops l % q*T l r:=ZW (by omega) h1
   rw[ZaV]at a3
   omega
  rw[Zaq]
  omega
 rw[← e]at b
 have hm':(m:Int)*(q*2^64)<=8*(q*2^64):=ZZ (by omega) (by omega)
 generalize Qg m T f (λl=>tops l / q) r=x at b ⊢
 constructor
 ·refine ZD λz=>?_
  have:=ZW (show x<= -(2^67)-1 by omega) (show 0<=q by omega)
  rw[Int.mul_sub,ZaV,ZaU]at this
  omega
 ·refine ZD λz=>?_
  have:=ZW (show(2^67+1:Int)<=x by omega) (show 0<=q by omega)
  rw[Zbf,ZaU]at this
  omega
def Qkg(d:Den):Prop:=∀(m:Nat) (R L:List (Int×Int)) (f:Nat->Int),m<=8->QY m R L->(∀j,j<m->(f j).natAbs<=2^200)->∃c,d [Qs m R L,Qc m f]=some (Qc m c,true)/\∀r,r<m-> -(2^67)<=Qg m (Qf m (Qd R L)) f c r/\Qg m (Qf m (Qd R L)) f c r<=2^67
theorem QrL(ht:Qiu dt)(hs:Qh8 ds):Qkg (Qo 3 (Qf8 dt ds)):=λm R L f m8 hw hf=>by
 have hg:=hw.good
 have tp:=hw.tp
 have et:=ht m R L (by omega) (by omega) hg.1 hg.2.1
 generalize Qf m (Qd R L)=T at *
 obtain⟨tops,q,es,q0,q1,hq,_,_⟩:=hs m (λi j=>0-T i j) f m8 (λj r hj hr=>by have:=tp.bnd j r hj hr;have:(2:Nat)^64<=2^200:=ZJ (by decide) (by decide);omega) hf (Qn4 tp)
 refine⟨λl=>tops l / q,Qad ?_,QqP m8 tp.bnd q0 hq⟩
 refine run_seq (Qj (Qx (Qu (Qx rfl et rfl) (Qu rfl (Q3 _))) es rfl) ?_)
 rw[Qn]
 refine QE (QQ (List.range m) (QaE rfl rfl) rfl λi _=>⟨[none,some (.int (tops i),true),some (.tup [Qc m tops,.int q],false)],rfl,⟨.int (tops i / q),true,[]⟩,QnZ rfl rfl rfl rfl q0 q1,rfl,rfl⟩) ⟨rfl,rfl⟩
noncomputable def QeY(Qan:Den):DS:=(Qe (Q2 (Q5 (Qav (Qz 1 Qan [] (Qb (Qa 0) Qh))) (.nm 1) [none,none] Qab (Qap (dC (.int 2)) (Qa 1)))) Qq)
def Qg2(d:Den):Prop:=∀(m:Nat) (R L:List (Int×Int)),m<=1000->R.length+R.length+L.length<=1000000->(∀s∈R,Good m s)->(∀s∈L,Good m s)->d [Qs m R L]=some (Qc m λi=>2*Qy R L i,true)
theorem Qpk(hs:Qgv ds):Qg2 (Qo 1 (QeY ds)):=λm R L hm hl hR hL=>
 Qad (QE (QQ (List.range m) (QaE (Qx rfl (hs m R L hm hl hR hL) rfl) rfl) rfl λi _=>⟨[none,some (.int (Qy R L i),true)],rfl,⟨.int (2*Qy R L i),true,[]⟩,QaD rfl rfl rfl rfl (Qcb (by decide)),rfl,rfl⟩) ⟨rfl,rfl⟩)
theorem Qrl(hN:n<=N)(hA:∀j,j<N->∀r,r<n->(A j r).natAbs<=2^200)(hl:QgA n A):∀k,k<=n->∃m R d,Qc2 n N k A m R d
 | 0,_=>⟨_,_,_,Qc2.start n N A⟩
 | k+1,hk=>by
  obtain⟨m,R,d,C⟩:=Qrl hN hA hl k (by omega)
  have pv:=C.QtD (show k<n by omega) (by omega) hl
  have ex:∀i j,∃q,i<n->i≠k->j<N->R k k*R i j-R i k*R k j=d*q:=λi j=>by
   by_cases h:i<n/\i≠k/\j<N
   ·exact⟨_,λh1 h2 h3=>C.clr.exact (by omega) (by omega) h1 h3 h2⟩
   ·exact⟨0,λh1 h2 h3=>absurd ⟨h1,h2,h3⟩ h⟩
  refine⟨_,λi j=>if i=k then R k j else(ex i j).choose,_,C.step (by omega) (by omega) hA pv (λj _=>by rw[if_pos rfl]) λi j hi ne hj q hq=>?_⟩
  rw[if_neg ne]
  exact Zbj C.clr.nz (((ex i j).choose_spec hi ne hj).symm.trans hq)
theorem QlJ{n N:Nat}(n8:n<=8){A:Nat->Nat->Int}{g v:Nat->Int}(hA:∀j,j<n->∀r,r<n->(A j r).natAbs<=2^200)(hl:QgA n A)(hg:∀r,r<n->(g r).natAbs<=2^200)(h:∀r,r<n->g r=sm n λl=>v l*A l r):∀l,l<n->(v l).natAbs<2^2000:=λl hln=>by
 obtain⟨m,R,d,C⟩:=Qrl (Zh n) hA hl n (Zh n)
 have e1:det n (cup A l g)=v l*det n A:=by
  have e:det n (cup A l g)=det n (cup A l λr=>sm n λi=>v i*A i r):=by
   refine QdY λj hj r hr=>?_
   by_cases q:j=l
   ·subst q;rw[Q6,Q6];exact h r hr
   ·rw[QP _ _ q,QP _ _ q]
  rw[e,Qg9 hln v A n,QeE hln λi hi ne=>by rw[QiG hln hi (Ne.symm ne) (by rw[Q6,QP _ _ ne]),Zax],QaP]
 have e2:det n A=d:=by
  rw[← C.clr.det]
  exact QdY λj hj r _=>by rw[C.clr.own j hj]
 have b:=ZaM (Qhe (m:=cup A l g) λj hj r hr=>by
  by_cases q:j=l
  ·subst q;rw[Q6];exact hg r hr
  ·rw[QP _ _ q];exact hA j hj r hr) (Qkk n8)
 rw[e1,e2,ZbQ]at b
 have dz:=C.clr.nz
 have:=Nat.le_mul_of_pos_right (v l).natAbs (show 0<d.natAbs by omega)
 omega
noncomputable def QM(m:Nat)(T:Nat->Nat->Int)(v:Nat->Int):Nat->Int:=λj=>2*(0-T j j)-Qg m T (λj=>2*(0-T j j)) v j
theorem Qkr(j:Nat):QM m T v j= -Qi m λi=>v i*T i j:=by
 unfold QM Qg;show 2*(0-T j j)-(2*(0-T j j)+_)=_;omega
def Rec(m:Nat)(T:Nat->Nat->Int)(v x:Nat->Int):Prop:=∃(y u:Nat->Int),(∀j,j<m->0<=y j)/\Told m T (λj=>y j+QM m T v j) u/\∀j,j<m->x j=Qg m T (λj=>y j+QM m T v j) u j
structure Dbl (m:Nat) (T:Nat->Nat->Int) (v:Nat->Int):Prop where
 told:Told m T (λj=>2*(0-T j j)) v
theorem Dbl.big(h:Dbl m T v)(hj:j<m):(0-T j j)+1<=QM m T v j/\QM m T v j<=2*(0-T j j):=by
 have h1:=h.told.stb j hj
 have h2:=h.told.pos j hj
 unfold QM
 omega
noncomputable def Qn2(QN:Den)(Qbm:Den)(QcK:Den)(QaO:Den)(QdF:Den):DS:=(Qe (QcR (Qz 2 QN [] (Qb (Qa 0) (Qb (Qag (Qb (Qa 1) Qh)) Qh)))) (Qe (Qt 2 (Qz 2 Qbm [] (Qb (Qa 0) (Qb (Qa 1) Qh)))) (Qe (Qt 3 (Qz 3 QcK [] (Qb (Qa 0) (Qb (Qa 1) (Qb (Qa 2) Qh))))) (Qe (Qt 4 (Qz 2 QdF [] (Qb (Qa 0) (Qb (Qz 1 QaO [] (Qb (Qa 0) Qh)) Qh)))) (Qe (Qt 5 (Q5 (QaJ (Qz 1 QaO [] (Qb (Qa 0) Qh)) (Qr (Qa 4) (dC (.int 0)))) (.tp [1,2]) [none,none,none] Qab (dOp Qam (Qa 1) (Qa 2)))) (Qe (Qt 6 (QO (dBf QfO (Qb (QO (Qag (Qb (dC (.int 0)) Qh)) (Q5 (QaJ (Qa 3) (Qa 5)) (.tp [1,2]) [none,none,none] Qab (dOp Qam (dC (.int 0)) (dOp QeC (Qa 1) (Qa 2))))) Qh)) (dC (.int 1)))) (Qe (Qt 7 (Q5 (QaJ (Qa 3) (Qa 5)) (.tp [1,2]) [none,none,none,some 6] Qab (QO (Qa 1) (Qap (Qa 3) (Qa 2))))) (Qe (Qt 8 (Qz 2 QdF [] (Qb (Qa 0) (Qb (Qa 7) Qh)))) (Qe (Qt 9 (Q5 (Qgp (Qa 2) (Qr (Qa 4) (dC (.int 1))) (Qr (Qa 8) (dC (.int 1)))) (.tp [1,2,3]) [none,none,none,none,some 6] Qab (QO (dOp Qam (Qa 1) (Qap (Qa 4) (Qa 2))) (Qa 3)))) (Qe (Q2 (Qa6 (Qb (Qr (Qa 8) (dC (.int 0))) (Qb (Qa 9) Qh)))) Qq))))))))))
theorem Qyw:QeU ((List.range m).map f) ((List.range m).map g) ((List.range m).map h)=(List.range m).map λi=> .tup [f i,g i,h i]:=by
 unfold QeU
 refine ZaR λi=>?_
 by_cases hi:i<m
 ·have a:∀(k:Nat->D),((List.range m).map k)[i]? =some (k i):=λk=>by rw[Zp,ZV hi];rfl
  have e1:(((List.range m).map g).zip ((List.range m).map h))[i]? =some (g i,h i):=Zaz.mpr ⟨a g,a h⟩
  have e2:(((List.range m).map f).zip (((List.range m).map g).zip ((List.range m).map h)))[i]? =some (f i,(g i,h i)):=Zaz.mpr ⟨a f,e1⟩
  rw[Zp,e2,a]
  rfl
 ·rw[Zz (by simp;omega),Zz (by simp;omega)]
theorem QsI(ha:fa ρ=some ra)(ea:ra.d= .lst ((List.range m).map f))(hb:fb ρ=some rb)(eb:rb.d= .lst ((List.range m).map g))(hc:fc ρ=some rc)(ec:rc.d= .lst ((List.range m).map h)):Qgp fa fb fc ρ=some ⟨(List.range m).map λi=> .tup [f i,g i,h i],ra.M++(rb.M++rc.M)⟩:=by
 unfold Qgp
 rw[ha,Za,hb,Za,hc,Za,ea,eb,ec]
 show(if _ then _ else _)=_
 rw[if_pos (by simp),Qyw]
def Qjq(d:Den):Prop:=∀(m:Nat) (R L:List (Int×Int)) (f:Nat->Int),0<m->m<=8->QY m R L->(∀j,j<m->(f j).natAbs<=2^200)->∃k v,d [Qs m R L,Qc m f]=some (.tup [Qc m (Qg m (Qf m (Qd R L)) f k),Qc m k],true)/\Dbl m (Qf m (Qd R L)) v/\Rec m (Qf m (Qd R L)) v (Qg m (Qf m (Qd R L)) f k)/\Stb m (Qf m (Qd R L)) (Qg m (Qf m (Qd R L)) f k)/\∀j,j<m->0<=Qg m (Qf m (Qd R L)) f k j
set_option maxHeartbeats 0 in
theorem Qti{dn dc da dd ds:Den}(hn:Qd0 dn)(hc:Qkg dc)(ha:Qha da)(hd:Qg2 dd)(hs:QjT ds):Qjq (Qo 10 (Qn2 dn dc da dd ds)):=λm R L f m0 m8 hw hf=>by
 have hg:=hw.good
 have tp:=hw.tp
 obtain⟨c,ec,bc⟩:=hc m R L f m8 hw hf
 have ea:=ha m R L f c (by omega) (by omega) hg.1 hg.2.1
 have ed:=hd m R L (by omega) (by omega) hg.1 hg.2.1
 have sp:∀j,j<m->Qy R L j=0-Qf m (Qd R L) j j:=λj hj=>(hw.neg hj).symm
 rw[show(Qc m λi=>2*Qy R L i)=Qc m λi=>2*(0-Qf m (Qd R L) i i)from congrArg D.lst (Zs λi hi=>by show D.int (2*Qy R L i)=D.int (2*(0-Qf m (Qd R L) i i));rw[sp i (Zl.mp hi)])]at ed
 obtain⟨v,ev,hv⟩:=hs m R L (λi=>2*(0-Qf m (Qd R L) i i)) m0 (by omega) hw λj hj=>by
  have:=tp.neg j hj
  have:=tp.bnd j j hj hj
  have:(2:Int)^66<=2^200:=by decide
  omega
 have DD:Dbl m (Qf m (Qd R L)) v:=⟨hv⟩
 have still:=hs m R L
 generalize Qf m (Qd R L)=T at *
 generalize hlow:Qg m T f c=low at *
 have big:=λj hj=>DD.big (j:=j) hj
 have hmo:∀j,j<m->2*(0-T j j)-Qg m T (λi=>2*(0-T i i)) v j=QM m T v j:=λj hj=>rfl
 generalize hmore:QM m T v=mo at *
 have vb:∀l,l<m->(v l).natAbs<2^2000:=QlJ (N:=m) m8 (g:=mo) (λj hj r hr=>by have:=tp.bnd j r hj hr;have:(2:Nat)^64<=2^200:=ZJ (by decide) (by decide);omega) (Qn4 tp) (λr hr=>by
  have b:=big r hr
  have:=tp.neg r hr
  have:=tp.bnd r r hr hr
  have:(2:Nat)^66<=2^200:=ZJ (by decide) (by decide)
  omega) λr hr=>by
  rw[← hmore,Qkr,Qhx,← Qaz]
  exact Qp λi _=>by rw[Zbi,ZaV]
 obtain⟨top,⟨i0,hi0,etop⟩,hmax,evmax⟩:=Qos (m:=1+m) (by omega) (λi=>if i<1 then 0 else 0-low (i-1) / mo (i-1))
 have top0:0<=top:=by have:=hmax 0 (by omega);rw[if_pos (by omega)]at this;exact this
 have topj:∀j,j<m->0-low j / mo j<=top:=λj hj=>by
  have:=hmax (j+1) (by omega)
  rw[if_neg (by omega),Zbt]at this
  exact this
 have mo0:∀j,j<m->0<mo j:=λj hj=>by have:=big j hj;have:=tp.neg j hj;omega
 have mo1:∀j,j<m->mo j<2^66:=λj hj=>by have:=big j hj;have:=tp.bnd j j hj hj;omega
 have topU:top<=2^67:=by
  rw[etop]
  split
  ·decide
  ·rename_i h
   have hj:i0-1<m:=by omega
   have b:=bc (i0-1) hj
   have p:=mo0 (i0-1) hj
   have: -(2^67)<=low (i0-1) / mo (i0-1):=by
    rw[Int.le_ediv_iff_mul_le p]
    have:=ZW (show(1:Int)<=mo (i0-1) by omega) (show(0:Int)<=2^67 by decide)
    rw[Zaq]
    omega
   omega
 have y0:∀j,j<m->0<=low j+top*mo j:=λj hj=>by
  have h1:=ZZ (topj j hj) (show 0<=mo j from Int.le_of_lt (mo0 j hj))
  have h2:=ZbA (low j) (mo j)
  have h3:=ZH (low j) (by have:=mo0 j hj;omega:mo j≠0)
  rw[Zbi,Zaq,Zat (low j / mo j)]at h1
  omega
 have hi:∀j,j<m->0<=low j+(top+1)*mo j/\low j+(top+1)*mo j<2^200:=λj hj=>by
  have h1:=y0 j hj
  have h2:=mo0 j hj
  have h3:=mo1 j hj
  have h4:=Zco (show top+1<=2^67+1 by omega) (show mo j<=2^66 by omega) (by omega) (by decide)
  have h5:(2:Int)^67+(2^67+1)*2^66<2^200:=by decide
  have h6:=(bc j hj).2
  rw[ZU,Zap]at h4 ⊢
  omega
 obtain⟨u,eu,hu⟩:=still (λj=>low j+(top+1)*mo j) m0 (by omega) hw hi
 have key:∀j,Qg m T (λj=>low j+(top+1)*mo j) u j=Qg m T f (λi=>c i-(top+1)*v i+u i) j:=λj=>by
  rw[← hlow,← hmore]
  unfold Qg
  show f j+Qi m (λi=>c i*T i j)+(top+1)*QM m T v j+Qi m (λi=>u i*T i j)=f j+Qi m λi=>(c i-(top+1)*v i+u i)*T i j
  rw[Qkr,ZaV,← Qdc]
  have:(λi=>(c i-(top+1)*v i+u i)*T i j)=λi=>(c i*T i j+ -((top+1)*(v i*T i j)))+u i*T i j:=by
   funext i;rw[ZU,Int.sub_mul,Zar];omega
  rw[this,QJ,QJ,Qaz]
  omega
 have row:Qc m (Qg m T (λj=>low j+(top+1)*mo j) u)=Qc m (Qg m T f (λi=>c i-(top+1)*v i+u i)):=congrArg D.lst (Zs λj _=>by rw[key j])
 refine⟨λi=>c i-(top+1)*v i+u i,v,Qad ?_,DD,⟨λj=>low j+top*mo j,u,y0,?_,λj _=>?_⟩,λj hj=>?_,λj hj=>?_⟩
 ·refine run_seq (Qcz (Qx rfl (hn m R L [f]) rfl) ?_)
  refine run_seq (Qj (Qx rfl ec rfl) ?_)
  rw[Qn]
  refine run_seq (Qj (Qx rfl ea rfl) ?_)
  rw[Qn]
  refine run_seq (Qj (Qx (Qu rfl (Qu (Qx rfl ed rfl) (Q3 _))) ev rfl) ?_)
  rw[Qn]
  refine run_seq (Qj (r:=⟨Qc m mo,true,[]⟩) (QQ (List.range m) (QbU (Qx rfl ed rfl) rfl rfl rfl) rfl λj hj=>⟨[none,some (.int (2*(0-T j j)),true),some (.int (Qg m T (λi=>2*(0-T i i)) v j),true)],rfl,⟨.int (2*(0-T j j)-Qg m T (λi=>2*(0-T i i)) v j),true,[]⟩,rfl,by rw[← hmo j (Zl.mp hj)],rfl⟩) ?_)
  rw[Qn]
  refine run_seq (Qj (Q4 (evmax (Qmi rfl rfl (QQ (List.range m) (QbU rfl rfl rfl rfl) rfl λj hj=>⟨[none,some (.int (low j),true),some (.int (mo j),true)],rfl,⟨.int (0-low j / mo j),true,[]⟩,Qb6 rfl rfl (QnZ rfl rfl rfl rfl (mo0 j (Zl.mp hj)) (by have:=mo0 j (Zl.mp hj);have:=mo1 j (Zl.mp hj);have:(2:Nat)^66<=2^2000:=ZJ (by decide) (by decide);omega)) rfl,rfl,rfl⟩) rfl (by omega)) rfl) rfl rfl rfl) ?_)
  rw[Qn]
  refine run_seq (Qj (QQ (List.range m) (QbU rfl rfl rfl rfl) rfl λj hj=>⟨[none,some (.int (low j),true),some (.int (mo j),true),some (.int (top+1),true)],rfl,⟨.int (low j+(top+1)*mo j),true,[]⟩,Q4 rfl rfl (QaD rfl rfl rfl rfl (QhA (Qcy (by have:(2:Nat)^68<=2^2000:=ZJ (by decide) (by decide);omega)) (Qcy (by have:=mo0 j (Zl.mp hj);have:=mo1 j (Zl.mp hj);have:(2:Nat)^66<=2^2000:=ZJ (by decide) (by decide);omega)))) rfl,rfl,rfl⟩) ?_)
  rw[Qn]
  refine run_seq (Qj (Qx rfl eu rfl) ?_)
  rw[Qn]
  refine run_seq (Qj (QQ (List.range m) (QsI rfl rfl rfl rfl rfl rfl) rfl λi hi=>⟨[none,some (.int (c i),true),some (.int (v i),true),some (.int (u i),true),some (.int (top+1),true)],rfl,⟨.int (c i-(top+1)*v i+u i),true,[]⟩,Q4 (Qb6 rfl rfl (QaD rfl rfl rfl rfl ?_) rfl) rfl rfl rfl,rfl,rfl⟩) ?_)
  rotate_left
  ·rw[Qn]
   refine QE (r:=⟨.tup [Qc m (Qg m T (λj=>low j+(top+1)*mo j) u),Qc m λi=>c i-(top+1)*v i+u i],true,[8,9]⟩) rfl ⟨by rw[row],rfl⟩
  ·exact QhA (Qcy (by have:(2:Nat)^68<=2^2000:=ZJ (by decide) (by decide);omega)) (Qcy (vb i (Zl.mp hi)))
 ·refine⟨hu.leg.QiI λj hj=>?_,λj hj=>?_,λj hj=>?_⟩
  ·show _=low j+top*mo j+QM m T v j;rw[hmore,ZU,Zap];omega
  ·have:=hu.pos j hj
   rw[QU (g:=λj=>low j+top*mo j+QM m T v j) j (by show _=low j+top*mo j+QM m T v j;rw[hmore,ZU,Zap];omega) λi _=>rfl]at this
   exact this
  ·have:=hu.stb j hj
   rw[QU (g:=λj=>low j+top*mo j+QM m T v j) j (by show _=low j+top*mo j+QM m T v j;rw[hmore,ZU,Zap];omega) λi _=>rfl]at this
   exact this
 ·rw[← key j]
  exact QU j (by show _=low j+top*mo j+QM m T v j;rw[hmore,ZU,Zap];omega) λi _=>rfl
 ·rw[← key j];exact hu.stb j hj
 ·rw[← key j];exact hu.pos j hj
theorem Dbl.round{m:Nat}{T:Nat->Nat->Int}{v:Nat->Int}(h:Dbl m T v)(tp:TP m T){y u:Nat->Int}(y0:∀j,j<m->0<=y j)(hu:Told m T (λj=>y j+QM m T v j) u):Told m T (λj=>y j+QM m T v j+QM m T v j) (λi=>v i+u i)/\∀j,j<m->Qg m T (λj=>y j+QM m T v j) u j=Qg m T (λj=>y j+QM m T v j+QM m T v j) (λi=>v i+u i) j:=by
 refine h.told.lay (λj hj=>?_) (λj hj=>?_) hu
 ·have b:=h.big hj
  have:=h.told.stb j hj
  have e:QM m T v j=2*(0-T j j)-Qg m T (λj=>2*(0-T j j)) v j:=rfl
  have:=y0 j hj
  omega
 ·have e:QM m T v j=2*(0-T j j)-Qg m T (λj=>2*(0-T j j)) v j:=rfl
  omega
theorem Rec.comes{m:Nat}{T:Nat->Nat->Int}{v x w:Nat->Int}(tp:TP m T)(h:Dbl m T v)(hr:Rec m T v x)(hw:Told m T (λj=>x j+QM m T v j) w):∀j,j<m->Qg m T (λj=>x j+QM m T v j) w j=x j:=λj hj=>by
 obtain⟨y,u,y0,hu,ex⟩:=hr
 obtain⟨t2,e2⟩:=h.round tp y0 hu
 obtain⟨t1,e1⟩:=hu.lay (F':=λj=>y j+QM m T v j+QM m T v j) (λj hj=>by have:=h.big hj;have:=tp.neg j hj;show _<=y j+QM m T v j+QM m T v j;omega) (λj hj=>by show x j+_=_;rw[ex j hj];omega) hw
 have one:=t1.one tp t2
 rw[e1 j hj,ex j hj,e2 j hj]
 exact QU j rfl one
theorem Dbl.pos(tp:TP m T)(h:Dbl m T v)(hj:j<m):1<=v j:=by
 refine ZD λz=>?_
 have v0:v j=0:=by have:=h.told.leg.nonneg j;omega
 have s:=h.told.stb j hj
 have:0<=Qi m λi=>v i*T i j:=Qeo λi hi=>by
  by_cases e:i=j
  ·rw[e,v0,ZO];exact Zak _
  ·exact Zas (h.told.leg.nonneg i) (tp.pos i j hi hj e)
 have e:Qg m T (λj=>2*(0-T j j)) v j=2*(0-T j j)+Qi m λi=>v i*T i j:=rfl
 have:=tp.neg j hj
 omega
theorem Rec.QtF{m:Nat}{T:Nat->Nat->Int}{v y u:Nat->Int}(tp:TP m T)(h:Dbl m T v)(y0:∀j,j<m->0<=y j)(hu:Told m T (λj=>y j+QM m T v j) u):∀N:Nat,Told m T (λj=>(y j+N*QM m T v j)+QM m T v j) (λi=>u i+N*v i)/\∀j,j<m->Qg m T (λj=>(y j+N*QM m T v j)+QM m T v j) (λi=>u i+N*v i) j=Qg m T (λj=>y j+QM m T v j) u j
 | 0=>by
  have e1:(λj=>(y j+((0:Nat):Int)*QM m T v j)+QM m T v j)=λj=>y j+QM m T v j:=by funext j;simp
  have e2:(λi=>u i+((0:Nat):Int)*v i)=u:=by funext i;simp
  rw[e1,e2]
  exact⟨hu,λ_ _=>rfl⟩
 | N+1=>by
  obtain⟨t,e⟩:=Rec.QtF tp h y0 hu N
  obtain⟨t2,e2⟩:=h.round tp (λj hj=>by
   have:=h.big hj
   have:=tp.neg j hj
   have:=Zas (show(0:Int)<=N by omega) (show 0<=QM m T v j by omega)
   have:=y0 j hj
   show 0<=y j+N*QM m T v j
   omega) t
  have e3:(λj=>(y j+((N+1:Nat):Int)*QM m T v j)+QM m T v j)=λj=>y j+N*QM m T v j+QM m T v j+QM m T v j:=by
   funext j;rw[Zbp,ZU];simp;omega
  have e4:(λi=>u i+((N+1:Nat):Int)*v i)=λi=>v i+(u i+N*v i):=by
   funext i;rw[Zbp,ZU];simp;omega
  rw[e3,e4]
  exact⟨t2,λj hj=>by rw[← e2 j hj,e j hj]⟩
theorem QcJ(j:Nat):Qg m T (Qg m T f c) d j=Qg m T f (λi=>c i+d i) j:=by
 unfold Qg
 have:(λi=>(c i+d i)*T i j)=λi=>c i*T i j+d i*T i j:=by funext i;rw[ZU]
 rw[this,QJ]
 omega
theorem Qsu(d:Nat->Int):∃N:Nat,∀i,i<m-> -(N:Int)<=d i:=by
 induction m with
 | zero=>exact⟨0,λi hi=>by omega⟩
 | succ m ih=>
  obtain⟨N,h⟩:=ih
  refine⟨N+(d m).natAbs,λi hi=>?_⟩
  by_cases e:i=m
  ·subst e;omega
  ·have:=h i (by omega);omega
theorem Rec.least{m:Nat}{T:Nat->Nat->Int}{v x d:Nat->Int}(tp:TP m T)(h:Dbl m T v)(hr:Rec m T v x)(hs:Stb m T (Qg m T x d)):∀i,i<m->0<=d i:=by
 obtain⟨y,u,y0,hu,ex⟩:=hr
 obtain⟨N,hN⟩:=Qsu d
 obtain⟨t,e⟩:=Rec.QtF tp h y0 hu N
 have:=t.leg.least tp (c':=λi=>(u i+N*v i)+d i) (λi hi=>by
  have h1:=h.pos tp hi
  have h2:=hu.leg.nonneg i
  have h3:=hN i hi
  have h4:=ZW h1 (show(0:Int)<=N by omega)
  show 0<=u i+N*v i+d i
  omega) (λp hp=>by
  have:=hs p hp
  rw[← QcJ]
  have e2:Qg m T (Qg m T (λj=>(y j+N*QM m T v j)+QM m T v j) λi=>u i+N*v i) d p=Qg m T x d p:=QU p (by rw[e p hp,ex p hp]) λ_ _=>rfl
  rw[e2];exact this)
 intro i hi
 have:=this i hi
 omega
theorem Rec.one(tp:TP m T)(h:Dbl m T v)(h':Dbl m T v')(hr:Rec m T v x)(hr':Rec m T v' x')(sx:Stb m T x)(sx':Stb m T x')(e:∀j,j<m->x' j=Qg m T x d j):∀i,i<m->d i=0:=λi hi=>by
 have a:=hr.least tp h (λp hp=>by rw[← e p hp];exact sx' p hp) i hi
 have b:=hr'.least tp h' (λp hp=>by
  have:Qg m T x' (λi=> -d i) p=x p:=by
   have q:Qg m T x' (λi=> -d i) p=Qg m T (Qg m T x d) (λi=> -d i) p:=QU p (e p hp) λ_ _=>rfl
   rw[q,QcJ]
   unfold Qg
   rw[Qp λi _=>by show(d i+ -d i)*T i p=0;rw[Int.add_right_neg,ZO],Q0]
   omega
  rw[this];exact sx p hp) i hi
 omega
theorem Qtw{fa fb:DE}{ρ:En}{ra rb:R}{a b:Int}(ha:fa ρ=some ra)(ea:ra.d= .int a)(hb:fb ρ=some rb)(eb:rb.d= .int b):dBf Qf3 (Qb fa (Qb fb Qh)) ρ=some ⟨.int (if b<a then b else a),true,[]⟩:=by
 unfold dBf
 rw[Qu ha (Qu hb (Q3 _)),Za]
 simp only[ea,eb,Qf3,ZP]
theorem Qmd{fa fb:DE}{ρ:En}{ra rb:R}{a b:Int}(ha:fa ρ=some ra)(ea:ra.d= .int a)(hb:fb ρ=some rb)(eb:rb.d= .int b):dBf QeO (Qb fa (Qb fb Qh)) ρ=some ⟨.int (if b>a then b else a),true,[]⟩:=by
 unfold dBf
 rw[Qu ha (Qu hb (Q3 _)),Za]
 simp only[ea,eb,QeO,ZP]
theorem Qjz{m:Nat}{s:Int×Int}(h:Good m s):Good (m+1) s:=by
 obtain⟨h1,h2,h3,h4,h5⟩:=h
 exact⟨h1,h2,by omega,by omega,h5⟩
noncomputable def Qbu(c:Nat->Int)(s:Int×Int)(j:Nat):Int:=(if s.2=j then c s.1.toNat-c s.2.toNat else 0)+(if s.1=j then c s.2.toNat-c s.1.toNat else 0)
theorem QuR{m:Nat}{s:Int×Int}(g:Good m s)(c:Nat->Int)(j:Nat):QdP (Qcl (m+1) c) s j+QdP (Qcl (m+1) c) s.swap j=Qbu c s j:=by
 obtain⟨g1,g2,g3,g4,g5⟩:=g
 unfold QdP Qcl Qbu
 simp only[ZbF,ZbX]
 rw[if_pos (show s.1.toNat<m+1 by omega),if_pos (show s.2.toNat<m+1 by omega)]
 by_cases a:s.2=j
 ·have b:¬s.1=j:=by omega
  simp only[if_pos a,if_neg b];omega
 ·by_cases b:s.1=j
  ·simp only[if_neg a,if_pos b];omega
  ·simp only[if_neg a,if_neg b];omega
theorem QdQ{m:Nat}{R:List (Int×Int)}(hR:∀s∈R,Good m s)(f c:Nat->Int){j:Nat}(hj:j<m+1):Qg (m+1) (Qf (m+1) (Qd R [])) f c j=f j+(R.map λs=>Qbu c s j).sum:=by
 rw[QvE (λs hs=>Qjz (hR s hs)) (λs hs=>absurd hs (by simp)) f c hj]
 rw[Zs λs hs=>QuR (hR s hs) c j]
 have:Qcl (m+1) f j=f j:=by unfold Qcl;rw[if_pos hj]
 rw[this]
 simp
theorem Qra{m:Nat}{R:List (Int×Int)}(hR:∀s∈R,Good m s)(f c:Nat->Int)(k:Int){j:Nat}(hj:j<m+1):Qg (m+1) (Qf (m+1) (Qd R [])) f (λi=>c i+k) j=Qg (m+1) (Qf (m+1) (Qd R [])) f c j:=by
 rw[QdQ hR f _ hj,QdQ hR f c hj]
 congr 2
 refine Zs λs hs=>?_
 unfold Qbu
 dsimp only
 congr 1<;>split<;>omega
theorem QsP{m:Nat}{s:Int×Int}(g:Good m s)(c:Nat->Int):Qi (m+1) (λj=>Qbu c s j)=0:=by
 obtain⟨g1,g2,g3,g4,g5⟩:=g
 have e:Qi (m+1) (λj=>Qbu c s j)=Qi (m+1) (λj=>(if j=s.2.toNat then c s.1.toNat-c s.2.toNat else 0)*1+(if j=s.1.toNat then c s.2.toNat-c s.1.toNat else 0)*1):=Qp λj _=>by
  unfold Qbu
  rw[ZaU,ZaU]
  congr 1
  ·by_cases a:s.2=j
   ·rw[if_pos a,if_pos (by omega)]
   ·rw[if_neg a,if_neg (by omega)]
  ·by_cases a:s.1=j
   ·rw[if_pos a,if_pos (by omega)]
   ·rw[if_neg a,if_neg (by omega)]
 rw[e,QJ,Q8 (p:=s.2.toNat) (by omega) _ (λ_=>1),Q8 (p:=s.1.toNat) (by omega) _ (λ_=>1)]
 omega
theorem Qop{m:Nat}{R:List (Int×Int)}(hR:∀s∈R,Good m s)(f c:Nat->Int):Qi (m+1) (Qg (m+1) (Qf (m+1) (Qd R [])) f c)=Qi (m+1) f:=by
 rw[Qp λj hj=>QdQ hR f c hj,QJ,QdU (m+1) (λj s=>Qbu c s j) R]
 rw[Zs λs hs=>QsP (hR s hs) c]
 have:(R.map λ_=>(0:Int)).sum=0:=by
  clear hR
  induction R with
  | nil=>rfl
  | cons a R ih=>simp only[Zj,ZF,ih];rfl
 rw[this];omega
noncomputable def Qjf(QbO:Den):DS:=(Qe (QcR (Qz 1 QbO [] (Qb (Qa 0) Qh))) (Qe (Q2 (Qa6 (Qb (QO (Qr (Qa 0) (dC (.int 0))) (dC (.int 1))) (Qb (Qr (Qa 0) (dC (.int 1))) (Qb (Qr (Qa 0) (dC (.int 2))) Qh))))) Qq))
def Qfz(d:Den):Prop:=∀(m:Nat) (R:List (Int×Int)),d [Qs m R []]=some (Qs ((m+1:Nat):Int) R [],false)
theorem Qth{dp:Den}(hp:QjQ dp):Qfz (Qo 1 (Qjf dp)):=λm R=>by
 refine Qad ?_
 refine run_seq (Qcz (Qx (r:=⟨[Qs m R []],false,[]⟩) rfl (hp m R) rfl) ?_)
 exact QE (r:=⟨Qs ((m+1:Nat):Int) R [],false,[]⟩) rfl ⟨rfl,rfl⟩
noncomputable def Qd1:DS:=(Qe (Qt 3 (dList (Qb (Qa 1) Qh))) (Qe (Qbf (Qav (Qr (Qa 0) (dC (.int 1)))) (.tp [4,5]) (Qe (Qcp 3 Qal (Qa 4) (dOp Qam (QO (Qr (Qa 3) (Qa 4)) (Qr (Qa 2) (Qa 5))) (Qr (Qa 2) (Qa 4)))) (Qe (Qcp 3 Qal (Qa 5) (dOp Qam (QO (Qr (Qa 3) (Qa 5)) (Qr (Qa 2) (Qa 4))) (Qr (Qa 2) (Qa 5)))) Qq))) (Qe (Q2 (Qa 3)) Qq)))
def Qju(d:Den):Prop:=∀(m:Nat) (R:List (Int×Int)) (f c:Nat->Int),m<=100->(∀s∈R,Good m s)->d [Qs m R [],Qc (m+1) f,Qc (m+1) c]=some (Qc (m+1) (Qg (m+1) (Qf (m+1) (Qd R [])) f c),true)
theorem QsJ:Qju (Qo 6 Qd1):=λm R h0 o hm hR=>by
 refine Qad ?_
 have it:∀{ρ:En},ρ[0]? =some (some (Qs m R [],false))->Qa 0 ρ=some ⟨Qs m R [],false,[]⟩:=λh=>QcE h
 refine run_seq (Qj (QcC (m:=m+1) (f:=h0) (rs:=⟨[Qc (m+1) h0],false,[]⟩) rfl rfl) ?_)
 rw[Qn]
 refine QaA (P:=λρ=>∃j5 j6,ρ=[some (Qs m R [],false),some (Qc (m+1) h0,false),some (Qc (m+1) o,false),some (Qc (m+1) (λj=>h0 j+(R.map λs=>Qbu o s j).sum),true),j5,j6]) ?_ ?_
 ·refine Qat (toD:=pairD) R (λi ρ=>∃g j5 j6,(∀j,g j=h0 j+((R.take i).map λs=>Qbu o s j).sum)/\ρ=[some (Qs m R [],false),some (Qc (m+1) h0,false),some (Qc (m+1) o,false),some (Qc (m+1) g,true),j5,j6]) (ir:=⟨R.map pairD,[]⟩) (QaE (QbH (it rfl) rfl).2.1 rfl) rfl ⟨h0,none,none,λj=>by simp,rfl⟩ ?_ ?_
  ·rintro i s ρ hi ⟨g,j5,j6,hg,rfl⟩
   obtain⟨h1,h2,h3,h4,h5⟩:=hR s (ZL hi)
   refine⟨_,rfl,?_⟩
   refine run_seq (QfK (m:=m+1) (f:=g) (i:=s.1) (v:=g s.1.toNat+o s.2.toNat-o s.1.toNat) rfl rfl rfl (QaK (Q4 (a:=g s.1.toNat) (b:=o s.2.toNat) (QcI (m:=m+1) (f:=g) (i:=s.1) rfl rfl rfl rfl h1 (by omega)) rfl (QcI (m:=m+1) (f:=o) (i:=s.2) rfl rfl rfl rfl h2 (by omega)) rfl) (QcI (m:=m+1) (f:=o) (i:=s.1) rfl rfl rfl rfl h1 (by omega)) rfl) rfl h1 (by omega) ?_)
   refine run_seq (QfK (m:=m+1) (f:=up g s.1.toNat (g s.1.toNat+o s.2.toNat-o s.1.toNat)) (i:=s.2) (v:=up g s.1.toNat (g s.1.toNat+o s.2.toNat-o s.1.toNat) s.2.toNat+o s.1.toNat-o s.2.toNat) rfl rfl rfl (QaK (Q4 (a:=up g s.1.toNat (g s.1.toNat+o s.2.toNat-o s.1.toNat) s.2.toNat) (b:=o s.1.toNat) (QcI (m:=m+1) (f:=up g s.1.toNat (g s.1.toNat+o s.2.toNat-o s.1.toNat)) (i:=s.2) rfl rfl rfl rfl h2 (by omega)) rfl (QcI (m:=m+1) (f:=o) (i:=s.1) rfl rfl rfl rfl h1 (by omega)) rfl) (QcI (m:=m+1) (f:=o) (i:=s.2) rfl rfl rfl rfl h2 (by omega)) rfl) rfl h2 (by omega) (Qv ⟨_,_,_,λj=>?_,rfl⟩))
   rw[QmX hi,← Zcs,← hg j]
   unfold Qbu
   simp only[Qdn]
   have n1:¬s.1.toNat=s.2.toNat:=by omega
   by_cases c1:j=s.1.toNat
   ·have c2:¬j=s.2.toNat:=by omega
    have c3:s.1=(j:Int):=by omega
    have c4:¬s.2=(j:Int):=by omega
    rw[if_neg c2,if_pos c1,if_neg c4,if_pos c3,c1];omega
   ·have c3:¬s.1=(j:Int):=by omega
    by_cases c2:j=s.2.toNat
    ·have c4:s.2=(j:Int):=by omega
     rw[if_pos c2,if_neg (λz=>n1 z.symm),if_pos c4,if_neg c3,c2];omega
    ·have c4:¬s.2=(j:Int):=by omega
     rw[if_neg c2,if_neg c1,if_neg c4,if_neg c3];omega
  ·rintro ρ ⟨g,j5,j6,hg,rfl⟩
   rw[ZbE]at hg
   have:g=λj=>h0 j+(R.map λs=>Qbu o s j).sum:=funext hg
   subst this
   exact⟨j5,j6,rfl⟩
 rintro ρ ⟨j5,j6,rfl⟩
 refine QE (r:=⟨Qc (m+1) (λj=>h0 j+(R.map λs=>Qbu o s j).sum),true,[3]⟩) rfl ⟨?_,rfl⟩
 exact Qhj λj hj=>(QdQ hR h0 o hj).symm
theorem Qux{m:Nat}{R:List (Int×Int)}(hR:∀s∈R,Good m s){i j:Nat}(hi:i<m)(hj:j<m):Qf (m+1) (Qd R []) i j=Qf m (Qd R []) i j:=by
 have g:∀s∈Qd R [],0<=s.1/\0<=s.2:=λs hs=>by
  have:=Qbc hR (λs hs=>absurd hs (by simp)) s hs
  exact⟨this.1,this.2.1⟩
 rw[Qa7 (by omega) (by omega) g,Qa7 hi hj g]
theorem QjF{m:Nat}{R:List (Int×Int)}(hR:∀s∈R,Good m s)(f c:Nat->Int)(c0:c m=0){j:Nat}(hj:j<m):Qg (m+1) (Qf (m+1) (Qd R [])) f c j=Qg m (Qf m (Qd R [])) f c j:=by
 unfold Qg
 rw[QT,c0,ZO,Zbh]
 congr 1
 exact Qp λi hi=>by rw[Qux hR hi hj]
theorem QuD{m:Nat}{R:List (Int×Int)}(hw:QY m R []){p:Nat}(hp:p<m):(Qi m λi=>Qf m (Qd R []) i p)<=0:=by
 have hR:=hw.good.1
 have e:=Qom (Qhu hR) (l:=List.range m) ZaT (λo ho=>Zl.mp ho) hp
 have e2:(Qi m λi=>(if i∈List.range m then 1 else 0)*Qf m (Qd R []) i p)=Qi m λi=>Qf m (Qd R []) i p:=Qp λi hi=>by rw[if_pos (Zl.mpr hi),Zap]
 rw[← e2,e,if_pos (Zl.mpr hp),Qe8 hR hp ZaT (λo ho=>Zl.mp ho)]
 have n:=hw.neg hp
 have s:=QiJ hR p
 have l:(R.map (QS p (List.range m))).sum<=(R.map (QS p (List.range (m+1)))).sum:=Qed λs _=>QqY λx hx=>Zl.mpr (by have:=Zl.mp hx;omega)
 omega
theorem QwW{m:Nat}(d:Nat->Int)(h:∃i,i<m/\d i<0):∃p,p<m/\d p<0/\∀j,j<m->d p<=d j:=by
 induction m with
 | zero=>obtain⟨i,hi,_⟩:=h;omega
 | succ m ih=>
  by_cases q:∃i,i<m/\d i<0
  ·obtain⟨p,hp,h0,h1⟩:=ih q
   by_cases z:d m<d p
   ·exact⟨m,by omega,by omega,λj hj=>by
     by_cases e:j=m
     ·subst e;exact Zak _
     ·have:=h1 j (by omega);omega⟩
   ·exact⟨p,by omega,h0,λj hj=>by
     by_cases e:j=m
     ·subst e;omega
     ·exact h1 j (by omega)⟩
  ·obtain⟨i,hi,h0⟩:=h
   have e:i=m:=ZD λz=>q ⟨i,by omega,h0⟩
   subst e
   exact⟨i,by omega,h0,λj hj=>by
    by_cases e:j=i
    ·subst e;exact Zak _
    ·have:¬d j<0:=λz=>q ⟨j,by omega,z⟩
     omega⟩
theorem QfN{m:Nat}{R:List (Int×Int)}(hw:QY m R []){x d:Nat->Int}(hb:∀i,i<m->Qas (Qf m (Qd R [])) x m m i≠none)(hs:Stb m (Qf m (Qd R [])) (Qg m (Qf m (Qd R [])) x d)):∀i,i<m->0<=d i:=by
 have hR:=hw.good.1
 have tp:=hw.tp
 refine λi hi=>ZD λhn=>?_
 obtain⟨p0,hp0,neg,mn⟩:=QwW (m:=m) d ⟨i,hi,by omega⟩
 obtain⟨n,⟨p,hp,ep,pc⟩,least⟩:=QlA (P:=λn=>∃p,p<m/\d p=d p0/\p∉QI (Qf m (Qd R [])) x m n) ⟨m,p0,hp0,rfl,λz=>hb p0 hp0 ((Qd2 m p0 hp0).mpr z)⟩
 cases n with
 | zero=>exact pc (Zl.mpr hp)
 | succ k=>
  have inC:∀q,q<m->d q=d p0->q∈QI (Qf m (Qd R [])) x m k:=λq hq e=>ZD λz=>least k (by omega) ⟨q,hq,e,z⟩
  have rd:Qak (Qf m (Qd R [])) p (QI (Qf m (Qd R [])) x m k)<=x p:=ZD λq=>pc (Qdb.mpr ⟨inC p hp ep,λz=>q (Qcx.mp z).2⟩)
  have ml:∀q,q∈(List.range m).filter (λq=>decide (d q=d p0))↔q<m/\d q=d p0:=λq=>by
   rw[ZE,Zl,decide_eq_true_iff]
  have nl:((List.range m).filter λq=>decide (d q=d p0)).Nodup:=ZaT.filter _
  generalize (List.range m).filter (λq=>decide (d q=d p0))=l at ml nl
  have am:=QfY tp.pos hp nl (QbZ (T:=Qf m (Qd R [])) (h:=x) (m:=m) k) (λo ho=>QdK ho) (λo ho=>inC o ((ml o).mp ho).1 ((ml o).mp ho).2)
  have is:=Qom (Qhu hR) nl (λo ho=>((ml o).mp ho).1) hp
  rw[if_pos ((ml p).mpr ⟨hp,ep⟩)]at is
  have le:(Qi m λi=>(d p0+1)*Qf m (Qd R []) i p+ -((if i∈l then 1 else 0)*Qf m (Qd R []) i p))<=Qi m λi=>d i*Qf m (Qd R []) i p:=Qbn λi hi=>by
   show(d p0+1)*Qf m (Qd R []) i p+ -((if i∈l then 1 else 0)*Qf m (Qd R []) i p)<=d i*Qf m (Qd R []) i p
   by_cases e:i∈l
   ·rw[if_pos e,((ml i).mp e).2,ZU];omega
   ·have ne:i≠p:=λz=>e (z▸(ml p).mpr ⟨hp,ep⟩)
    have dl:d p0+1<=d i:=by
     have h1:=mn i hi
     have h2:¬d i=d p0:=λz=>e ((ml i).mpr ⟨hi,z⟩)
     omega
    have:=ZZ dl (tp.pos i p hi hp ne)
    rw[if_neg e,ZO];omega
  rw[QJ,Qaz,Qdc,is]at le
  have cs:=QuD hw hp
  have cm:0<=(d p0+1)*Qi m λi=>Qf m (Qd R []) i p:=by
   have:=Zas (show 0<= -(d p0+1) by omega) (show 0<= -(Qi m λi=>Qf m (Qd R []) i p) by omega)
   rw[Int.neg_mul_neg]at this
   exact this
  have st:=hs p hp
  have ea:Qg m (Qf m (Qd R [])) x d p=x p+Qi m λi=>d i*Qf m (Qd R []) i p:=rfl
  omega
theorem Qtc{m:Nat}{R:List (Int×Int)}(hw:QY m R []){x x' d:Nat->Int}(hb:∀i,i<m->Qas (Qf m (Qd R [])) x m m i≠none)(hb':∀i,i<m->Qas (Qf m (Qd R [])) x' m m i≠none)(sx:Stb m (Qf m (Qd R [])) x)(sx':Stb m (Qf m (Qd R [])) x')(e:∀j,j<m->x' j=Qg m (Qf m (Qd R [])) x d j):∀i,i<m->d i=0:=λi hi=>by
 have a:=QfN hw hb (d:=d) (λp hp=>by rw[← e p hp];exact sx' p hp) i hi
 have b:=QfN hw hb' (d:=λi=> -d i) (λp hp=>by
  have:Qg m (Qf m (Qd R [])) x' (λi=> -d i) p=x p:=by
   have q:Qg m (Qf m (Qd R [])) x' (λi=> -d i) p=Qg m (Qf m (Qd R [])) (Qg m (Qf m (Qd R [])) x d) (λi=> -d i) p:=QU p (e p hp) λ_ _=>rfl
   rw[q,QcJ]
   unfold Qg
   rw[Qp (g:=λ_=>0) λi _=>by show(d i+ -d i)*Qf m (Qd R []) i p=0;rw[Int.add_right_neg,ZO],Q0]
   omega
  rw[this];exact sx p hp) i hi
 omega
theorem QfB{m:Nat}{R:List (Int×Int)}(hw:QY m R []){x y:Nat->Int}(h:∀j,j<m->x j=y j)(hb:∀i,i<m->Qas (Qf m (Qd R [])) x m m i≠none):∀i,i<m->Qas (Qf m (Qd R [])) y m m i≠none:=λi hi z=>by
 cases q:Qas (Qf m (Qd R [])) x m m i with
 | none=>exact hb i hi q
 | some t=>
  obtain⟨t',e,_⟩:=Qrh hw.tp.pos (λj hj=>Int.le_of_eq (h j hj)) hi q
  rw[z]at e
  cases e
theorem QpS{m:Nat}{R:List (Int×Int)}(hw:QY m R []){v x:Nat->Int}(hd:Dbl m (Qf m (Qd R [])) v)(hr:Rec m (Qf m (Qd R [])) v x):∀i,i<m->Qas (Qf m (Qd R [])) x m m i≠none:=by
 obtain⟨y,u,y0,hu,ex⟩:=hr
 refine QfB hw (λj hj=>(ex j hj).symm) (Qo6 hw (λj hj=>?_) hu)
 have b:=hd.big hj
 have:=y0 j hj
 have:=hw.neg hj
 omega
def QeI(m:Nat)(R:List (Int×Int))(g:Nat->Int):Prop:=(∀j,j<m->0<=g j/\g j<Qy R [] j)/\∀i,i<m->Qas (Qf m (Qd R [])) (λj=>Qy R [] j-1-g j) m m i≠none
theorem Quo{m:Nat}{R:List (Int×Int)}(hw:QY m R []){g g' d:Nat->Int}(d0:d m=0)(h:QeI m R g)(h':QeI m R g')(e:∀j,j<m+1->g' j=Qg (m+1) (Qf (m+1) (Qd R [])) g d j):(∀j,j<m+1->g' j=g j)/\∀i,i<m->d i=0:=by
 have hR:=hw.good.1
 have z:∀i,i<m-> -d i=0:=Qtc hw (d:=λi=> -d i) h.2 h'.2 (λp hp=>by have:=h.1 p hp;have:=hw.neg hp;show Qy R [] p-1-g p<_;omega) (λp hp=>by have:=h'.1 p hp;have:=hw.neg hp;show Qy R [] p-1-g' p<_;omega) (λj hj=>by
  show Qy R [] j-1-g' j=_
  rw[e j (by omega),QjF hR g d d0 hj]
  unfold Qg
  rw[Qp (f:=λi=> -d i*Qf m (Qd R []) i j) (g:=λi=> -(d i*Qf m (Qd R []) i j)) λi _=>by rw[Zaq],Qaz]
  dsimp only
  omega)
 refine⟨λj hj=>?_,λi hi=>by have:=z i hi;omega⟩
 rw[e j hj]
 have:Qg (m+1) (Qf (m+1) (Qd R [])) g d j=Qg (m+1) (Qf (m+1) (Qd R [])) g (λ_=>0) j:=QU j rfl λi hi=>by
  by_cases q:i=m
  ·rw[q,d0]
  ·have:=z i (by omega);omega
 rw[this]
 unfold Qg
 rw[Qp (g:=λ_=>0) λi _=>by rw[ZO],Q0,Zbh]
theorem QwU{fs:DA}{ρ:En}{r:RA}(h:fs ρ=some r)(hl:r.ds.length<=64):Qa6 fs ρ=some ⟨.tup r.ds,r.fr,r.M⟩:=by
 unfold Qa6;rw[h];exact if_pos hl
theorem Qkc{fa:DE}{ρ:En}{r:R}{a b:D}(h:fa ρ=some r)(e:r.d= .tup [a,b]):Qr fa (dC (.int 0)) ρ=some (HS.R.norm ⟨a,r.fr,r.M⟩)/\Qr fa (dC (.int 1)) ρ=some (HS.R.norm ⟨b,r.fr,r.M⟩):=by
 unfold Qr
 rw[h]
 simp only[Za,e,Qpc]
 exact⟨rfl,rfl⟩
theorem QnC{m:Nat}(f g:Nat->D):Qdx ((List.range m).map f) ((List.range (m+1)).map g)=(List.range m).map λi=> .tup [f i,g i]:=by
 unfold Qdx
 rw[Zcl,Zaa]
 have:∀(a b c:List D),a.length=b.length->a.zip (b++c)=a.zip b:=λa b c h=>by
  have:=List.zip_append (l₁:=a) (r₁:=[]) (l₂:=b) (r₂:=c) h
  simpa using this
 rw[this _ _ _ (by simp)]
 exact Qjn f g
theorem Qtj{fa fb:DE}{ρ:En}{ra rb:R}{m:Nat}{f g:Nat->D}(ha:fa ρ=some ra)(ea:ra.d= .lst ((List.range m).map f))(hb:fb ρ=some rb)(eb:rb.d= .lst ((List.range (m+1)).map g)):QaJ fa fb ρ=some ⟨(List.range m).map λi=> .tup [f i,g i],ra.M++rb.M⟩:=by
 unfold QaJ
 rw[ha,Za,hb,Za,ea,eb]
 show some (IR.mk (Qdx _ _) _)=_
 rw[QnC]
noncomputable def Qmt(Qax:Den)(QN:Den)(Qan:Den)(Qer:Den)(Qao:Den)(QcK:Den):DS:=(Qe (Qt 2 (Qz 1 Qax [] (Qb (Qa 0) Qh))) (Qe (QcR (Qz 2 QN [] (Qb (Qa 2) (Qb (Qag (Qb (Qa 1) Qh)) Qh)))) (Qe (Qt 3 (Q5 (QaJ (Qz 1 Qan [] (Qb (Qa 0) Qh)) (Qa 1)) (.tp [1,2]) [none,none,none] Qab (dOp Qam (dOp Qam (Qa 1) (dC (.int 1))) (Qa 2)))) (Qe (Qt 4 (QO (Qz 1 Qao [] (Qb (Qr (Qz 2 Qer [] (Qb (Qa 0) (Qb (Qa 3) Qh))) (dC (.int 1))) Qh)) (Qag (Qb (dC (.int 0)) Qh)))) (Qe (Q2 (Qa6 (Qb (Qz 3 QcK [] (Qb (Qa 2) (Qb (Qa 1) (Qb (Qa 4) Qh)))) (Qb (Qa 4) Qh)))) Qq)))))
def Qhm(d:Den):Prop:=∀(m:Nat) (R:List (Int×Int)) (f:Nat->Int),0<m->m<=8->QY m R []->(∀j,j<m->(f j).natAbs<=2^190)->∃c:Nat->Int,d [Qs m R [],Qc (m+1) f]=some (.tup [Qc (m+1) (Qg (m+1) (Qf (m+1) (Qd R [])) f c),Qc (m+1) c],true)/\c m=0/\QeI m R (Qg (m+1) (Qf (m+1) (Qd R [])) f c)
theorem QxS{dw dn ds da dop dft:Den}(hw:Qfz dw)(hn:Qd0 dn)(hs:Qgv ds)(ha:Qjq da)(ho:Qla dop)(hf:Qha dft):Qhm (Qo 5 (Qmt dw dn ds da dop dft)):=λm R f m0 m8 hN hb=>by
 have hg:=hN.good
 have hR:=hg.1
 have sb:∀j,j<m->Qy R [] j<=2^66:=λj hj=>by
  have h1:=hN.tp.bnd j j hj hj
  have h2:=hN.neg hj
  omega
 obtain⟨k,v,ea,dbl,rc,st,nn⟩:=ha m R [] (λj=>Qy R [] j-1-f j) m0 m8 hN (λj hj=>by
  have h1:=sb j hj
  have h2:=hN.QsM hj
  have h3:=hb j hj
  have h4:(2:Nat)^66<=2^190:=ZJ (by decide) (by decide)
  have h5:(2:Nat)^190+2^190<=2^200:=by decide
  show(Qy R [] j-1-f j).natAbs<=_
  omega)
 have c0:(λi=>if i<m then 0-k i else(0:Int)) m=0:=if_neg (ZX m)
 have row:∀j,j<m->Qg (m+1) (Qf (m+1) (Qd R [])) f (λi=>if i<m then 0-k i else 0) j=Qy R [] j-1-Qg m (Qf m (Qd R [])) (λj=>Qy R [] j-1-f j) k j:=λj hj=>by
  rw[QjF hR f _ c0 hj]
  unfold Qg
  rw[Qp (f:=λi=>(if i<m then 0-k i else(0:Int))*Qf m (Qd R []) i j) (g:=λi=> -(k i*Qf m (Qd R []) i j)) λi hi=>by rw[if_pos hi,Zbi,Zaq],Qaz]
  dsimp only
  omega
 refine⟨λi=>if i<m then 0-k i else 0,Qad ?_,c0,λj hj=>?_,?_⟩
 ·refine run_seq (Qj (Qin (r:=⟨[Qs m R []],false,[]⟩) rfl (hw m R) rfl) ?_)
  rw[QkQ rfl]
  refine run_seq (Qcz (Qx (r:=⟨[Qs ((m+1:Nat):Int) R [],.lst [Qc (m+1) f]],false,[]⟩) rfl (hn (m+1) R [] [f]) rfl) ?_)
  refine run_seq (Qj (r:=⟨Qc m λj=>Qy R [] j-1-f j,true,[]⟩) (QQ (toD:=λ(j:Nat)=> .tup [.int (Qy R [] j),.int (f j)]) (out:=λ(j:Nat)=> .int (Qy R [] j-1-f j)) (List.range m) (Qtj (f:=λj=> .int (Qy R [] j)) (g:=λj=> .int (f j)) (Qx (r:=⟨[Qs m R []],false,[]⟩) rfl (hs m R [] (by omega) (by simp;omega) hR hg.2.1) rfl) rfl (rb:=⟨Qc (m+1) f,false,[]⟩) rfl rfl) rfl λj _=>⟨[none,some (.int (Qy R [] j),true),some (.int (f j),true)],rfl,⟨.int (Qy R [] j-1-f j),true,[]⟩,rfl,rfl,rfl⟩) ?_)
  rw[Qn]
  have e1:(λi=>if i<m then 0-k i else(λ_=>(0:Int)) (i-m))=λi=>if i<m then 0-k i else 0:=rfl
  refine run_seq (Qj (Qmi (m:=m) (k:=1) (f:=λi=>0-k i) (g:=λ_=>0) (Qx (Qu (Qkc (Qx (r:=⟨[Qs m R [],Qc m λj=>Qy R [] j-1-f j],false,[3]⟩) rfl ea rfl) rfl).2 (Q3 _)) (ho m k) rfl) rfl (rb:=⟨Qc 1 λ_=>0,true,[]⟩) rfl rfl (by omega)) ?_)
  rw[Qn,e1]
  refine QE (QwU (Qu (Qx (r:=⟨[Qs ((m+1:Nat):Int) R [],Qc (m+1) f,Qc (m+1) λi=>if i<m then 0-k i else 0],false,[4]⟩) rfl (hf (m+1) R [] f _ (by omega) (by simp;omega) (λs hs=>Qjz (hR s hs)) (λs hs=>absurd hs (by simp))) rfl) (Qu (r:=⟨Qc (m+1) λi=>if i<m then 0-k i else 0,true,[4]⟩) rfl (Q3 _))) (ZbB rfl)) ⟨rfl,rfl⟩
 ·rw[row j hj]
  have h1:=nn j hj
  have h2:=st j hj
  have h3:=hN.neg hj
  omega
 ·exact QfB hN (λj hj=>by show _=Qy R [] j-1-_;rw[row j hj];omega) (QpS hN dbl rc)
structure Pass (m:Nat) (T:Nat->Nat->Int) (h:Nat->Int) (l0:List Nat) (i:Nat) (l:List Nat) (b:Bool):Prop where
 nd:l.Nodup
 sub:∀p∈l,p∈l0
 cold:∀p∈QI T h m m,p∈l
 rest:∀p∈l0.drop i,p∈l
 no:b=false->l=l0/\∀p∈l0.take i,h p<Qak T p l0
 yes:b=true->l.length<l0.length
theorem Pass.step{m:Nat}{T:Nat->Nat->Int}(pos:∀i j,i<m->j<m->i≠j->0<=T i j){h:Nat->Int}{l0:List Nat}{i:Nat}{l:List Nat}{b:Bool}(n0:l0.Nodup)(h0:∀p∈l0,p<m)(P:Pass m T h l0 i l b){x:Nat}(hx:l0[i]? =some x):x∈l/\(Qak T x l<=h x->∀j,l[j]? =some x->Pass m T h l0 (i+1) (l.eraseIdx j) true)/\(h x<Qak T x l->Pass m T h l0 (i+1) l b):=by
 obtain⟨hil,hxe⟩:=Zd.mp hx
 have dr:l0.drop i=x::l0.drop (i+1):=by rw[Zam hil,hxe]
 have xl:x∈l:=P.rest x (by rw[dr];simp)
 have nx:x∉l0.drop (i+1):=by
  have:=n0.sublist (List.drop_sublist i l0)
  rw[dr]at this
  exact(Zah.mp this).1
 refine⟨xl,λhr j hj=>?_,λhr=>⟨P.nd,P.sub,P.cold,λp hp=>P.rest p (by rw[dr];simp[hp]),λe=>⟨(P.no e).1,λp hp=>?_⟩,P.yes⟩⟩
 ·have pm:=QhL hj
  have nd2:=pm.nodup_iff.mpr P.nd
  have mem:∀p,p∈l.eraseIdx j↔p∈l/\p≠x:=λp=>by
   have q:=pm.mem_iff (a:=p)
   rw[Zq]at q
   have ns:=(Zah.mp nd2).1
   exact⟨λz=>⟨q.mp (.inr z),λe=>ns (e▸z)⟩,λz=>(q.mpr z.1).elim (λe=>absurd e z.2) id⟩
  have len:=pm.length_eq
  rw[ZI]at len
  have le:l.length<=l0.length:=by
   cases b with
   | false=>rw[(P.no rfl).1];omega
   | true=>have:=P.yes rfl;omega
  refine⟨(Zah.mp nd2).2,λp hp=>P.sub p ((mem p).mp hp).1,λp hp=>(mem p).mpr ⟨P.cold p hp,λe=>?_⟩,λp hp=>(mem p).mpr ⟨P.rest p (by rw[dr];simp[hp]),λe=>nx (e▸hp)⟩,λe=>(nomatch e),λ_=>by omega⟩
  subst e
  have h1:=QmH hp
  have h2:=QfY pos (h0 p (P.sub p xl)) (QbZ (T:=T) (h:=h) (m:=m) m) P.nd (λo ho=>h0 o (P.sub o ho)) P.cold
  omega
 ·rw[ZbS,hx,ZG]at hp
  rcases hp with hp | hp
  ·exact(P.no e).2 p hp
  ·have:p=x:=by simpa using hp
   subst this
   rw[← (P.no e).1]
   exact hr
theorem Qu6{m:Nat}{R:List (Int×Int)}(hR:∀s∈R,Good m s)(hl:R.length<=200){f c:Nat->Int}{A B:Nat}(hf:∀j,j<m+1->(f j).natAbs<=A)(hc:∀j,j<m+1->(c j).natAbs<=B){j:Nat}(hj:j<m+1):(Qg (m+1) (Qf (m+1) (Qd R [])) f c j).natAbs<=A+800*B:=by
 rw[QdQ hR f c hj]
 have key:∀S:List (Int×Int),(∀s∈S,Good m s)->((S.map λs=>Qbu c s j).sum).natAbs<=S.length*(4*B):=λS=>by
  induction S with
  | nil=>intro _;simp
  | cons s S ih=>
   intro h
   have h1:=ih λx hx=>h x (by simp[hx])
   obtain⟨g1,g2,g3,g4,g5⟩:=h s (by simp)
   have b1:=hc s.1.toNat (by omega)
   have b2:=hc s.2.toNat (by omega)
   have b3:(Qbu c s j).natAbs<=4*B:=by unfold Qbu;split<;>split<;>omega
   rw[Zj,ZF,ZI,ZaK]
   omega
 have k:=key R hR
 have:=ZaG (4*B) hl
 have:=hf j hj
 omega
theorem QmF{x:Nat}{fi fa:DE}{ρ:En}{ri r:R}{A:List (Int×Int)}{p:Int×Int}{i:Int}{Q:Out->Prop}(hx:ρ[x]? =some (some (QL A,true)))(hi:fi ρ=some ri)(ei:ri.d= .int i)(ha:fa ρ=some r)(hf:r.d=pairD p)(h0:0<=i)(h1:i<2^62)(hl:A.length<16777216)
  (q:Q (.nx (ρ.set x (some (QL (Qaj A (min i.toNat A.length) p),true))))):Run (Qg4 x Qal fi fa) ρ Q:=by
 refine⟨_,?_,q⟩
 unfold Qg4
 rw[hx]
 simp only[Qal,Za,hi,ha,Qbz,QL,ei,hf,Zg,Qeb]
 rw[if_pos ⟨rfl,h0,h1,hl⟩]
 simp only[Qa8,Qol]
theorem QnO(W:List (Int×Int×Bool))(k:Nat)(w:Int×Int×Bool):Qaj (prs W) (min k (prs W).length) (Qbg w)=prs (Qaj W (min k W.length) w):=by
 unfold prs
 rw[Qol,Zg]
noncomputable def Qea:DS:=(Qe (Qt 2 (Qlh (Qa 1))) (Qe (Qt 3 (Qag Qh)) (Qe (Qt 4 (Qag Qh)) (Qe (Qbf (Qbk (Qa 1)) (.nm 5) (Qe (Qdp (.tp [6,7]) (dDm (Qb (Qr (Qa 0) (Qa 5)) (Qb (dBf QaS (Qb (Qa 2) Qh)) Qh)))) (Qe (Qdp (.tp [6,8]) (dDm (Qb (Qa 6) (Qb (QO (Qa 5) (dC (.int 1))) Qh)))) (Qe (Qt 9 (QaL (Qa 1))) (Qe (sIf (QZ (dOp gLt (Qa 8) (Qa 5))) (Qe (Qt 9 (QaL (Qr (Qa 3) (Qa 8)))) Qq) Qq) (Qe (Qej 3 2 (Qa 7)) (Qe (Qg4 4 Qal (dOp Qbb (Qa 6) (QO (Qa 5) (dC (.int 1)))) (Qa6 (Qb (Qr (Qa 3) (Qa 5)) (Qb (Qa 9) Qh)))) Qq))))))) (Qe (Q2 (Qa 4)) Qq)))))
def QjN(d:Den):Prop:=∀(m:Nat) (cs:List Int),0<m->m<=1000->m<=cs.length->(∀c∈cs,0<=c/\c<B40)->∃W,d [Qm cs,.int m]=some (QL (prs W),true)/\W.length=m/\(∀w∈W,GoodW m w)/\Esc m W
theorem Qsx:QjN (Qo 10 Qea):=λm cs m0 hm hcl hcs=>by
 have key:Run Qea (Qau 10 [Qm cs,.int m]) (Rt λd fr=>∃W,d=QL (prs W)/\fr=true/\W.length=m/\(∀w∈W,GoodW m w)/\Esc m W):=by
  refine run_seq (Qj (r:=⟨Qm ((List.range m).map λ(k:Nat)=>(k:Int)),true,[]⟩) ?_ ?_)
  ·show(if 0<=(m:Int)/\(m:Int)<=1000000 then some (HS.R.mk (.lst ((List.range (m:Int).toNat).map λ(k:Nat)=> .int (k:Int))) true [])else none)=_
   rw[if_pos ⟨by omega,by omega⟩]
   unfold Qm
   rw[ZR];rfl
  rw[Qn]
  refine run_seq (Qj (r:=⟨Qm [],true,[]⟩) rfl ?_)
  rw[Qn]
  refine run_seq (Qj (r:=⟨QL (prs []),true,[]⟩) rfl ?_)
  rw[Qn]
  refine run_seq (Qat (List.range m) (λk ρ=>∃(Rs O:List Int) (W:List (Int×Int×Bool)) (j6 j7 j8 j9 j10:Option (D×Bool)),O.length=k/\(O++Rs).Perm ((List.range m).map λ(k:Nat)=>(k:Int))/\W.length=k/\(∀w∈W,∃j,Qgi m O w j)/\(∀j,j<k->∃w∈W,Qgi m O w j)∧
    ρ=[some (Qm cs,false),some (.int m,true),some (Qm Rs,true),some (Qm O,true),some (QL (prs W),true),j6,j7,j8,j9,j10]) (QcA (n:=m) (r:=⟨.int m,true,[]⟩) rfl rfl (by omega)) rfl ⟨_,[],[],none,none,none,none,none,rfl,by simp,rfl,by simp,λj hj=>absurd hj (by omega),rfl⟩ ?_ ?_)
  ·rintro k k' ρ hk ⟨Rs,O,W,j6,j7,j8,j9,j10,hO,hP,hWl,hW1,hW2,rfl⟩
   have hk':k<m/\k=k':=by
    obtain⟨h1,h2⟩:=Zd.mp hk
    simp at h1 h2;exact⟨h1,h2⟩
   obtain⟨hkm,rfl⟩:=hk'
   have hRl:Rs.length=m-k:=by have:=hP.length_eq;simp at this;omega
   obtain⟨c,hc⟩:∃c,cs[k]? =some c:=⟨cs[k]'(by omega),ZQ (by omega)⟩
   have hc0:=(hcs c (ZL hc))
   refine⟨_,rfl,?_⟩
   have elen:dBf QaS (Qb (Qa 2) Qh) [some (Qm cs,false),some (.int m,true),some (Qm Rs,true),some (Qm O,true),some (QL (prs W),true),some (.int k,true),j7,j8,j9,j10]=some ⟨.int Rs.length,true,[]⟩:=by
    rw[Qct (r:=⟨Qm Rs,true,[2]⟩) (xs:=Rs.map D.int) rfl rfl,Zg]
   refine run_seq (Qfw (a:=c) (b:=Rs.length) (Qbp (ns:=cs) (i:=k) rfl rfl rfl rfl (by omega) (by simpa using hc)) rfl elen rfl (by omega) (by omega) ?_)
   have a1:=ZH c (by omega:(Rs.length:Int)≠0)
   have a2:=ZC c (by omega:(0:Int)<Rs.length)
   have a3:0<=c / Rs.length:=ZaZ hc0.1 (by omega)
   generalize c % (Rs.length:Int)=at' at a1 a2
   generalize c / (Rs.length:Int)=nb at a3
   refine run_seq (Qfw (a:=nb) (b:=(k:Int)+1) rfl rfl (Q4 (a:=(k:Int)) (b:=1) rfl rfl rfl rfl) rfl (by omega) (by omega) ?_)
   have b1:=ZH nb (by omega:(k:Int)+1≠0)
   have b2:=ZC nb (by omega:(0:Int)<(k:Int)+1)
   have b3:0<=nb / ((k:Int)+1):=ZaZ a3 (by omega)
   generalize nb % ((k:Int)+1)=to at b1 b2
   generalize nb / ((k:Int)+1)=nc at b3
   refine run_seq (Qj (r:=⟨.int m,false,[]⟩) rfl ?_)
   rw[Qbw rfl]
   refine QaA (P:=λρ=>∃e:Int,(e=m∨∃i,i<k/\O[i]? =some e)/\ρ=[some (Qm cs,false),some (.int m,true),some (Qm Rs,true),some (Qm O,true),some (QL (prs W),true),some (.int k,true),some (.int nc,true),some (.int at',true),some (.int to,true),some (.int e,true)]) ?_ ?_
   ·refine Qaq (b:=decide (to<k)) (Q1 (b:=decide (to<k)) rfl rfl) (λh=>?_) (λ_=>Qv ⟨m,.inl rfl,rfl⟩)
    have h:=of_decide_eq_true h
    obtain⟨e,he⟩:∃e,O[to.toNat]? =some e:=⟨O[to.toNat]'(by omega),ZQ (by omega)⟩
    exact run_seq (Qj (Qcs (Qbp (ns:=O) (i:=to) (ra:=⟨Qm O,true,[3]⟩) rfl rfl rfl rfl b1 he)) (Qv ⟨e,.inr ⟨to.toNat,by omega,he⟩,by rw[Qbw rfl];rfl⟩))
   rintro ρ ⟨e,he,rfl⟩
   obtain⟨b,hb⟩:∃b,Rs[at'.toNat]? =some b:=⟨Rs[at'.toNat]'(by omega),ZQ (by omega)⟩
   refine run_seq (QoF (A:=O) (B:=Rs) (i:=at') (b:=b) rfl rfl rfl rfl (by decide) a1 (by omega) hb (by omega) ?_)
   have c1:=ZH (nc) (by omega:(k:Int)+1≠0)
   have c2:=ZC (nc) (by omega:(0:Int)<(k:Int)+1)
   have hOb:(O++[b])[k]? =some b:=by rw[Zbe (by omega)];simp[hO]
   have eidx:=Qbp (fa:=Qa 3) (fb:=Qa 5) (ns:=O++[b]) (i:=k) (v:=b) (ra:=⟨Qm (O++[b]),true,[3]⟩) (ρ:=[some (Qm cs,false),some (.int m,true),some (Qm (Rs.eraseIdx at'.toNat),true),some (Qm (O++[b]),true),some (QL (prs W),true),some (.int k,true),some (.int nc,true),some (.int at',true),some (.int to,true),some (.int e,true)]) rfl rfl rfl rfl (by omega) (by simpa using hOb)
   have ew:Qa6 (Qb (Qr (Qa 3) (Qa 5)) (Qb (Qa 9) Qh)) [some (Qm cs,false),some (.int m,true),some (Qm (Rs.eraseIdx at'.toNat),true),some (Qm (O++[b]),true),some (QL (prs W),true),some (.int k,true),some (.int nc,true),some (.int at',true),some (.int to,true),some (.int e,true)]=some ⟨pairD (Qbg (b,e,false)),true,[]⟩:=by
    unfold Qa6
    rw[Qu eidx (Qu (r:=⟨.int e,true,[]⟩) rfl (Q3 _))]
    rfl
   have fr:Qgi m (O++[b]) (b,e,false) k:=by
    refine⟨hOb,?_⟩
    rcases he with he | ⟨i,hi,he⟩
    ·exact .inl he
    ·exact .inr ⟨i,hi,by rw[Zal (by omega)];exact he⟩
   refine run_seq (QmF (A:=prs W) (p:=Qbg (b,e,false)) rfl (QaY (a:=nc) (b:=(k:Int)+1) rfl rfl (Q4 (a:=(k:Int)) (b:=1) rfl rfl rfl rfl) rfl (by omega)) rfl ew rfl c1 (by omega) (by unfold prs;rw[Zg];omega) (Qv ⟨Rs.eraseIdx at'.toNat,O++[b],Qaj W (min (nc % ((k:Int)+1)).toNat W.length) (b,e,false),some (.int k,true),some (.int nc,true),some (.int at',true),some (.int to,true),some (.int e,true),by simp[hO],?_,by rw[Qoe,hWl],?_,?_,by rw[QnO];rfl⟩))
   ·refine List.Perm.trans ?_ hP
    rw[Zbd]
    refine List.Perm.append_left O ?_
    exact QiS Rs _ b hb
   ·intro w hw
    rcases Qfl.mp hw with rfl | hw
    ·exact⟨k,fr⟩
    ·obtain⟨j,hj⟩:=hW1 w hw;exact⟨j,hj.app⟩
   ·intro j hj
    by_cases hjk:j=k
    ·subst hjk;exact⟨_,Qfl.mpr (.inl rfl),fr⟩
    ·obtain⟨w,hw,hf⟩:=hW2 j (by omega);exact⟨w,Qfl.mpr (.inr hw),hf.app⟩
  ·rintro ρ ⟨Rs,O,W,j6,j7,j8,j9,j10,hO,hP,hWl,hW1,hW2,rfl⟩
   rw[ZM]at *
   have hR0:Rs=[]:=by have:=hP.length_eq;simp at this;exact Zaf (by omega)
   subst hR0
   rw[Zay]at hP
   have nd:O.Nodup:=hP.nodup_iff.mpr (by
    rw[ZbP,List.pairwise_map]
    exact List.Pairwise.imp (λh z=>h (by omega)) ZaT)
   have mem:∀x∈O,0<=x/\x<m:=λx hx=>by
    obtain⟨k,hk,rfl⟩:=ZN.mp (hP.mem_iff.mp hx)
    have:=Zl.mp hk
    omega
   exact QE (r:=⟨QL (prs W),true,[4]⟩) rfl ⟨W,rfl,rfl,hWl,λw hw=>let ⟨j,hj⟩:=hW1 w hw;Qq4 nd mem hj,QxG hP hW2⟩
 obtain⟨o,h1,h2⟩:=key
 cases o with
 | rt d fr=>
  obtain⟨W,rfl,rfl,h3,h4,h5⟩:=h2
  exact⟨W,by unfold Qo;rw[h1];rfl,h3,h4,h5⟩
 | _=>exact h2.elim
noncomputable def Qc9:DS:=(Qe (Qt 3 (Qap (Qag (Qb (dC (.int 0)) Qh)) (QO (Qa 1) (dC (.int 1))))) (Qe (Qbf (Qav (Qa 0)) (.nm 4) (Qe (Qdp (.tp [5,6]) (dDm (Qb (Qa 4) (Qb (QO (Qa 1) (dC (.int 1))) Qh)))) (Qe (Qcp 3 Qal (Qa 6) (dOp Qam (QO (Qr (Qa 3) (Qa 6)) (dOp Qbb (Qa 5) (QO (Qap (dC (.int 2)) (Qa 2)) (dC (.int 1))))) (Qa 2))) Qq))) (Qe (Q2 (Qa 3)) Qq)))
def QgU(d:Den):Prop:=∀(cs:List Int) (m:Nat),m<=8->cs.length<=63->∃c:Nat->Int,d [Qm cs,.int m,.int (10^12)]=some (Qc (m+1) c,true)/\∀j,(c j).natAbs<=63*10^12
theorem Qpz:QgU (Qo 7 Qc9):=λcs m m8 hl=>by
 have key:Run Qc9 (Qau 7 [Qm cs,.int m,.int (10^12)]) (Rt λd fr=>∃c:Nat->Int,d=Qc (m+1) c/\fr=true/\∀j,(c j).natAbs<=63*10^12):=by
  refine run_seq (Qj (Qg0 (n:=m+1) (Q4 (a:=(m:Int)) (b:=1) (ra:=⟨.int m,true,[]⟩) rfl rfl rfl rfl) rfl (by omega)) ?_)
  rw[Qn]
  refine QaA (P:=λρ=>∃(c:Nat->Int) (j4 j5 j6:Option (D×Bool)),(∀j,(c j).natAbs<=63*10^12)/\ρ=[some (Qm cs,false),some (.int m,true),some (.int (10^12),true),some (Qc (m+1) c,true),j4,j5,j6]) ?_ ?_
  ·refine Qat (toD:=D.int) cs (λi ρ=>∃(c:Nat->Int) (j4 j5 j6:Option (D×Bool)),(∀j,(c j).natAbs<=i*10^12)/\ρ=[some (Qm cs,false),some (.int m,true),some (.int (10^12),true),some (Qc (m+1) c,true),j4,j5,j6]) (QaE (xs:=cs.map D.int) (r:=⟨Qm cs,false,[]⟩) rfl rfl) rfl ⟨λ_=>0,none,none,none,λj=>by simp,rfl⟩ ?_ ?_
   ·rintro i x ρ hi ⟨c,j4,j5,j6,hc,rfl⟩
    refine⟨_,rfl,?_⟩
    refine run_seq (Qfw (a:=x) (b:=(m:Int)+1) rfl rfl (Q4 (a:=(m:Int)) (b:=1) rfl rfl rfl rfl) rfl (by omega) (by omega) ?_)
    have p1:=ZH x (by omega:(m:Int)+1≠0)
    have p2:=ZC x (by omega:(0:Int)<(m:Int)+1)
    generalize x % ((m:Int)+1)=p at p1 p2
    generalize x / ((m:Int)+1)=n
    have o1:=ZH n (by decide:(2*10^12+1:Int)≠0)
    have o2:=ZC n (by decide:(0:Int)<2*10^12+1)
    refine run_seq (QfK (m:=m+1) (f:=c) (i:=p) (v:=c p.toNat+n % (2*10^12+1)-10^12) rfl rfl rfl (Qb6 (a:=c p.toNat+n % (2*10^12+1)) (b:=10^12) (Q4 (a:=c p.toNat) (b:=n % (2*10^12+1)) (QcI (m:=m+1) (f:=c) (i:=p) (ra:=⟨Qc (m+1) c,true,[3]⟩) (rb:=⟨.int p,true,[]⟩) rfl rfl rfl rfl p1 (by omega)) rfl (QaY (a:=n) (b:=2*10^12+1) rfl rfl (Q4 (a:=2*10^12) (b:=1) (QaD (a:=2) (b:=10^12) rfl rfl rfl rfl (Qcb (by decide))) rfl rfl rfl) rfl (by decide)) rfl) rfl rfl rfl) rfl p1 (by omega) (Qv ⟨_,_,_,_,λj=>?_,rfl⟩))
    have ob:(n % (2*10^12+1)-10^12).natAbs<=10^12:=by omega
    clear o1 o2
    rw[Qdn,Int.add_sub_assoc]
    generalize n % (2*10^12+1)-10^12=o at ob ⊢
    have h1:=hc j
    have h2:=hc p.toNat
    have e:(i+1)*10^12=i*10^12+10^12:=ZaK _ _
    rw[e]
    generalize i*10^12=y at h1 h2 ⊢
    generalize (10:Nat)^12=z at ob ⊢
    split<;>omega
   ·rintro ρ ⟨c,j4,j5,j6,hc,rfl⟩
    exact⟨c,j4,j5,j6,λj=>Zx (hc j) (ZaG _ hl),rfl⟩
  rintro ρ ⟨c,j4,j5,j6,hc,rfl⟩
  exact QE (r:=⟨Qc (m+1) c,true,[3]⟩) rfl ⟨c,rfl,rfl,hc⟩
 obtain⟨o,h1,h2⟩:=key
 cases o with
 | rt d fr=>
  obtain⟨c,rfl,rfl,h3⟩:=h2
  exact⟨c,by unfold Qo;rw[h1];rfl,h3⟩
 | _=>exact h2.elim
theorem Qrw{m:Nat}{R:List (Int×Int)}(hw:QY m R []){f c:Nat->Int}(f0:∀j,j<m+1->0<=f j)(z:c m=0)(h:QeI m R (Qg (m+1) (Qf (m+1) (Qd R [])) f c)):0<=Qg (m+1) (Qf (m+1) (Qd R [])) f c m:=by
 have hR:=hw.good.1
 have cn:∀i,i<m->0<=c i:=QfN hw h.2 λp hp=>by
  have e:Qg m (Qf m (Qd R [])) (λj=>Qy R [] j-1-Qg (m+1) (Qf (m+1) (Qd R [])) f c j) c p=Qy R [] p-1-f p:=by
   have e1:=QjF hR f c z hp
   have e2:Qg m (Qf m (Qd R [])) (λj=>Qy R [] j-1-Qg (m+1) (Qf (m+1) (Qd R [])) f c j) c p=Qy R [] p-1-Qg (m+1) (Qf (m+1) (Qd R [])) f c p+Qi m λi=>c i*Qf m (Qd R []) i p:=rfl
   have e3:Qg m (Qf m (Qd R [])) f c p=f p+Qi m λi=>c i*Qf m (Qd R []) i p:=rfl
   omega
  rw[e]
  have:=f0 p (by omega)
  have:=hw.neg hp
  omega
 rw[QdQ hR f c (ZaL m)]
 have h1:=f0 m (by omega)
 have h2:0<=(R.map λs=>Qbu c s m).sum:=QcN R λs hs=>by
  obtain⟨g1,g2,g3,g4,g5⟩:=hR s hs
  unfold Qbu
  by_cases a:s.2=m
  ·have b:¬s.1=m:=by omega
   rw[if_pos a,if_neg b]
   have e:s.2.toNat=m:=by omega
   rw[e,z]
   have:=cn s.1.toNat (by omega)
   omega
  ·by_cases b:s.1=m
   ·rw[if_neg a,if_pos b]
    have e:s.1.toNat=m:=by omega
    rw[e,z]
    have:=cn s.2.toNat (by omega)
    omega
   ·rw[if_neg a,if_neg b];decide
 omega
noncomputable abbrev Af(m:Nat)(R:List (Int×Int))(f c:Nat->Int):Nat->Int:=Qg (m+1) (Qf (m+1) (Qd R [])) f c
def Low(m:Nat)(R:List (Int×Int))(f g:Nat->Int):Prop:=∃c:Nat->Int,c m=0/\(∀j,j<m+1->g j=Af m R f c j)/\QeI m R g
def Eff(m:Nat)(R:List (Int×Int))(f:Nat->Int):Prop:=∃c:Nat->Int,∀j,j<m+1->0<=Af m R f c j
def QaZ(m:Nat)(k:Int)(E:Nat->Int):Prop:=(∀j,j<m+1->0<=E j)/\Qi (m+1) E=k
noncomputable def QH(f E:Nat->Int):Nat->Int:=λj=>f j-E j
def Qcn(m:Nat)(R:List (Int×Int))(f:Nat->Int)(w:Int):Prop:= -1<=w/\(∀k:Int,k<=w->∀E,QaZ m k E->Eff m R (QH f E))/\∃E,QaZ m (w+1) E/\¬Eff m R (QH f E)
section
variable {m:Nat}{R:List (Int×Int)}{f g h f':Nat->Int}
theorem QeI.congr(hw:QY m R [])(e:∀j,j<m->g j=h j)(l:QeI m R g):QeI m R h:=by
 refine⟨λj hj=>by rw[← e j hj];exact l.1 j hj,QfB hw (λj hj=>?_) l.2⟩
 show Qy R [] j-1-g j=Qy R [] j-1-h j
 rw[e j hj]
theorem Low.congr(hw:QY m R [])(e:∀j,j<m+1->f j=f' j)(e':∀j,j<m+1->g j=h j)(l:Low m R f g):Low m R f' h:=by
 obtain⟨c,z,l1,l2⟩:=l
 exact⟨c,z,λj hj=>by rw[← e' j hj,l1 j hj];exact QU j (e j hj) λ_ _=>rfl,l2.congr hw λj hj=>e' j (by omega)⟩
theorem Low.unique(hw:QY m R [])(l:Low m R f g)(l':Low m R f h):∀j,j<m+1->g j=h j:=by
 obtain⟨c,z,l1,l2⟩:=l
 obtain⟨c',z',l1',l2'⟩:=l'
 intro j hj
 refine((Quo hw (d:=λ(i:Nat)=>c' i-c i) (by show c' m-c m=0;omega) l2 l2' λj hj=>?_).1 j hj).symm
 rw[l1' j hj]
 have e:Qg (m+1) (Qf (m+1) (Qd R [])) g (λ(i:Nat)=>c' i-c i) j=Qg (m+1) (Qf (m+1) (Qd R [])) (Af m R f c) (λ(i:Nat)=>c' i-c i) j:=QU j (l1 j hj) λ_ _=>rfl
 rw[e,QcJ]
 exact QU j rfl λi _=>by show c' i=c i+(c' i-c i);omega
theorem Qhl(E c:Nat->Int)(j:Nat):Af m R (QH f E) c j=Af m R f c j-E j:=by
 show f j-E j+_=f j+_-E j
 omega
theorem Qwu(hR:∀s∈R,Good m s)(c:Nat->Int)(e:∀j,j<m+1->g j=Af m R f c j)(l:QeI m R g):Low m R f g:=
 ⟨λi=>c i+(-c m),by show c m+ -c m=0;omega,λj hj=>by rw[e j hj];exact(Qra hR f c (-c m) hj).symm,l⟩
theorem Low.moved(hw:QY m R [])(c:Nat->Int)(e:∀j,j<m+1->f' j=Af m R f c j)(l:Low m R f' g):Low m R f g:=by
 obtain⟨c',z,l1,l2⟩:=l
 refine Qwu hw.good.1 (λi=>c i+c' i) (λj hj=>?_) l2
 rw[l1 j hj]
 exact(QU j (e j hj) λ_ _=>rfl).trans (QcJ j)
theorem Low.less(hw:QY m R [])(E:Nat->Int)(l:Low m R f g)(l':Low m R (QH g E) h):Low m R (QH f E) h:=by
 obtain⟨c,z,l1,l2⟩:=l
 exact l'.moved hw c λj hj=>by rw[Qhl];show g j-E j=_;rw[l1 j hj]
theorem Eff.moved(hR:∀s∈R,Good m s)(c:Nat->Int)(e:∀j,j<m+1->f' j=Af m R f c j):Eff m R f'↔Eff m R f:=by
 constructor
 ·rintro⟨d,h⟩
  refine⟨λi=>c i+d i,λj hj=>?_⟩
  have:=h j hj
  rw[show Af m R f' d j=Af m R (Af m R f c) d j from QU j (e j hj) λ_ _=>rfl]at this
  rw[show Af m R (Af m R f c) d j=_ from QcJ j]at this
  exact this
 ·rintro⟨d,h⟩
  refine⟨λi=>d i-c i,λj hj=>?_⟩
  rw[show Af m R f' (λi=>d i-c i) j=Af m R (Af m R f c) (λi=>d i-c i) j from QU j (e j hj) λ_ _=>rfl]
  rw[show Af m R (Af m R f c) (λi=>d i-c i) j=_ from QcJ j]
  have:=h j hj
  rw[show Af m R f d j=Qg (m+1) (Qf (m+1) (Qd R [])) f (λi=>c i+(d i-c i)) j from QU j rfl λi _=>by omega]at this
  exact this
theorem Low.eff(hw:QY m R [])(l:Low m R f g):Eff m R f↔0<=g m:=by
 have hR:=hw.good.1
 constructor
 ·rintro⟨d,hd⟩
  have l':Low m R (Af m R f d) g:=by
   refine l.moved hw (λi=> -d i) λj hj=>?_
   rw[show Af m R (Af m R f d) (λi=> -d i) j=_ from QcJ j]
   have:Af m R f (λi=>d i+ -d i) j=f j+Qi (m+1) λi=>0:=by
    show f j+_=f j+_
    congr 1
    exact Qp λi _=>by show(d i+ -d i)*_=0;rw[show d i+ -d i=0 by omega,ZO]
   rw[Q0]at this
   show f j=Af m R f (λi=>d i+ -d i) j
   omega
  obtain⟨c,z,l1,l2⟩:=l'
  have l3:QeI m R (Af m R (Af m R f d) c):=l2.congr hw λj hj=>l1 j (by omega)
  rw[l1 m (by omega)]
  exact Qrw hw hd z l3
 ·intro h
  obtain⟨c,z,l1,l2⟩:=l
  refine⟨c,λj hj=>?_⟩
  rw[← l1 j hj]
  by_cases e:j=m
  ·rw[e];exact h
  ·exact(l2.1 j (by omega)).1
theorem Low.sum(hw:QY m R [])(l:Low m R f g):Qi (m+1) g=Qi (m+1) f:=by
 obtain⟨c,z,l1,l2⟩:=l
 rw[Qp l1]
 exact Qop hw.good.1 f c
theorem Low.QvX(hw:QY m R [])(l:Low m R f g):g m<=Qi (m+1) f:=by
 rw[← l.sum hw,QT]
 have:=Qeo (m:=m) (f:=g) λi hi=>by obtain⟨c,z,l1,l2⟩:=l;exact(l2.1 i hi).1
 omega
theorem Qcn.unique{w w':Int}(a:Qcn m R f w)(b:Qcn m R f w'):w=w':=by
 obtain⟨a1,a2,E,a3,a4⟩:=a
 obtain⟨b1,b2,E',b3,b4⟩:=b
 rcases Int.lt_trichotomy w w' with h | h | h
 ·exact absurd (b2 (w+1) (by omega) E a3) a4
 ·exact h
 ·exact absurd (a2 (w'+1) (by omega) E' b3) b4
theorem Qcn.moved(hR:∀s∈R,Good m s)(c:Nat->Int)(e:∀j,j<m+1->f' j=Af m R f c j){w:Int}(a:Qcn m R f' w):Qcn m R f w:=by
 have k:∀E,Eff m R (QH f' E)↔Eff m R (QH f E):=λE=>Eff.moved hR c λj hj=>by rw[Qhl];show f' j-E j=_;rw[e j hj]
 obtain⟨a1,a2,E,a3,a4⟩:=a
 exact⟨a1,λn hn E hE=>(k E).mp (a2 n hn E hE),E,a3,λz=>a4 ((k E).mpr z)⟩
end
end HS
namespace HS
open PySem L2
noncomputable def QbS(n:Nat)(f:Nat->Int):List Int:=(List.range n).map f
noncomputable def fnL(k:List Int):Nat->Int:=λi=>k.getD i 0
noncomputable def Qai(a:Nat):Nat->Int:=λj=>if j=a then 1 else 0
noncomputable def putL(ks:List (List Int))(k:List Int):List (List Int):=if ks.contains k then ks else ks++[k]
noncomputable def tupI(k:List Int):D:= .tup (k.map .int)
noncomputable def QW(b:Bool)(k:List Int):D:=if b=true then tupI k else Qm k
theorem QrZ(n:Nat)(f:Nat->Int):(QbS n f).length=n:=by simp[QbS]
theorem Qo5(n:Nat)(f:Nat->Int):Qc n f=Qm (QbS n f):=by unfold Qc Qm QbS;rw[ZR];rfl
theorem Qem{n:Nat}{f:Nat->Int}{i:Nat}(h:i<n):fnL (QbS n f) i=f i:=by
 unfold fnL QbS
 rw[Zae,Zp,ZV h];rfl
theorem QhU{n:Nat}{f g:Nat->Int}(h:∀j,j<n->f j=g j):QbS n f=QbS n g:=Zs λj hj=>h j (Zl.mp hj)
theorem QvD{n:Nat}{k:List Int}(h:k.length=n):QbS n (fnL k)=k:=by
 subst h
 refine ZaR λi=>?_
 unfold QbS
 rw[Zp]
 by_cases z:i<k.length
 ·rw[ZV z,ZQ z]
  simp[fnL,Zae,ZQ z]
 ·rw[Zz (by simp;omega),Zz (by omega)];rfl
theorem Qs3{n:Nat}{k:List Int}(h:k.length=n):Qm k=Qc n (fnL k):=by rw[Qo5,QvD h]
theorem Qja:∀k:List Int,intsOf (k.map .int)=some k
 | []=>rfl
 | x::k=>by
  show(intsOf (k.map .int)).map (x:: ·)=_
  rw[Qja k];rfl
theorem Qtq{ks:List (List Int)}{k y:List Int}:y∈putL ks k↔y∈ks∨y=k:=by
 unfold putL
 split
 ·rename_i h
  constructor
  ·exact .inl
  ·rintro(h1 | rfl)
   ·exact h1
   ·simpa using h
 ·simp
theorem QrI(ks:List (List Int))(k:List Int):(putL ks k).length<=ks.length+1:=by
 unfold putL
 split
 ·omega
 ·simp
theorem QrD{x:Nat}{ks:List (List Int)}{k:List Int}{fs:DA}{ra:RA}{ρ:En}{Q:Out->Prop}(hx:ρ[x]? =some (some (.dk ks,true)))(ha:fs ρ=some ra)(e:ra.ds=[Qm k])(hl:ks.length<16777216)(q:Q (.nx (ρ.set x (some (.dk (putL ks k),true))))):Run (QfX x fs) ρ Q:=by
 refine⟨_,?_,q⟩
 unfold QfX
 rw[hx]
 show(fs ρ).bind _=_
 rw[ha,Za,e]
 show(intsOf (k.map .int)).bind _=_
 rw[Qja,Za,if_pos (by rw[Qeb];exact hl)]
 rfl
theorem Qs5{ρ:En}{ks:List (List Int)}{fs:DA}{rs:RA}(h:fs ρ=some rs)(e:rs.ds=[.dk ks]):dList fs ρ=some ⟨.lst (ks.map tupI),true,[]⟩:=by
 unfold dList
 rw[h,Za,e]
 show some (QaH (ks.map tupI) [])=_
 unfold QaH
 rw[if_pos (Qbd (f:=tupI) (λk=>show QR (k.map D.int)=true from QgW k) ks)]
theorem QpF{ρ:En}{b:Bool}{k:List Int}{fs:DA}{rs:RA}(h:fs ρ=some rs)(e:rs.ds=[QW b k])(hl:k.length<=16777216):dList fs ρ=some ⟨Qm k,true,[]⟩:=by
 unfold dList
 rw[h,Za,e]
 cases b with
 | false=>
  show some (QaH (k.map .int) rs.M)=_
  unfold QaH
  rw[if_pos (QgW k)];rfl
 | true=>
  show(if(k.map D.int).length<=sizeLine then some (QaH (k.map .int) rs.M)else none)=_
  rw[if_pos (by rw[Zg,Qeb];exact hl)]
  unfold QaH
  rw[if_pos (QgW k)];rfl
theorem QrK{ρ:En}{b:Bool}{k:List Int}{fa:DE}{r:R}(h:fa ρ=some r)(e:r.d=QW b k):dBf QaS (Qb fa Qh) ρ=some ⟨.int k.length,true,[]⟩:=by
 unfold dBf
 rw[Qu h (Q3 _),Za,e]
 cases b with
 | false=>show some (R.mk (.int ((k.map D.int).length:Nat)) true [])=_;rw[Zg]
 | true=>show some (R.mk (.int ((k.map D.int).length:Nat)) true [])=_;rw[Zg]
theorem Qtf{ρ:En}{b:Bool}{k:List Int}{fa fb:DE}{r rb:R}{i:Nat}(h:fa ρ=some r)(e:r.d=QW b k)(hb:fb ρ=some rb)(eb:rb.d= .int i)(hi:i<k.length):Qr fa fb ρ=some ⟨.int (fnL k i),true,[]⟩:=by
 have a:atI (k.map D.int) (i:Int)=some (.int (fnL k i)):=by
  rw[Qfm (by omega) (by rw[Zg];omega)]
  simp[Zp,ZQ hi,fnL,Zae]
 unfold Qr
 rw[h,Za,hb,Za,e,eb]
 cases b with
 | false=>
  show(match D.items (Qm k)with | some xs=>(atI xs (i:Int)).map λd=>HS.R.norm ⟨d,r.fr,r.M⟩ | _=>none)=_
  simp only[Qm,D.items,a];rfl
 | true=>
  show(match D.items (tupI k)with | some xs=>(atI xs (i:Int)).map λd=>HS.R.norm ⟨d,r.fr,r.M⟩ | _=>none)=_
  simp only[tupI,D.items,a];rfl
section
variable {fa fb:DE}{ρ:En}{ra rb:R}{a b:Int}
theorem Qp9(ha:fa ρ=some ra)(ea:ra.d= .int a)(hb:fb ρ=some rb)(eb:rb.d= .int b):dOp gGt fa fb ρ=some ⟨.bl (decide (b<a)),true,[]⟩:=QaK ha hb (by rw[ea,eb];rfl)
theorem Qv1(ha:fa ρ=some ra)(ea:ra.d= .int a)(hb:fb ρ=some rb)(eb:rb.d= .int b):dOp gGe fa fb ρ=some ⟨.bl (decide (b<=a)),true,[]⟩:=QaK ha hb (by rw[ea,eb];rfl)
theorem QwJ(ha:fa ρ=some ra)(ea:ra.d= .int a)(hb:fb ρ=some rb)(eb:rb.d= .int b):dOp gLt fa fb ρ=some ⟨.bl (decide (a<b)),true,[]⟩:=QaK ha hb (by rw[ea,eb];rfl)
theorem QrP{g:D->D->Option D}{i:Nat}{d d':D}{bb:Bool}{Q:Out->Prop}(hx:ρ[i]? =some (some (d,bb)))(ha:fa ρ=some ra)(hg:g d ra.d=some d')(q:Q (.nx (ρ.set i (some (d',true))))):Run (Qie g i fa) ρ Q:=by
 refine⟨_,?_,q⟩
 unfold Qie
 rw[hx]
 show(fa ρ).bind _=_
 rw[ha,Za,hg];rfl
end
theorem Qug(f:Nat->Int)(a:Nat):up f a (f a-1)=QH f (Qai a):=by
 funext j
 unfold up QH Qai
 split
 ·rename_i h;rw[h]
 ·omega
theorem QiP{dl:Den}(hl:Qhm dl){m:Nat}{R:List (Int×Int)}{f:Nat->Int}(m0:0<m)(m8:m<=8)(hw:QY m R [])(hb:∀j,j<m->(f j).natAbs<=2^190):
  ∃g c:Nat->Int,dl [Qs m R [],Qc (m+1) f]=some (.tup [Qc (m+1) g,Qc (m+1) c],true)/\Low m R f g:=by
 obtain⟨c,e,z,l⟩:=hl m R f m0 m8 hw hb
 exact⟨_,c,e,c,z,λ_ _=>rfl,l⟩
noncomputable def QfA(Qb0:Den):DS:=(Qe (Qt 2 Qk9) (Qe (Qbf (Qav (Qa 1)) (.nm 3) (Qe (Qbf (Qbk (dBf QaS (Qb (Qa 3) Qh))) (.nm 4) (Qe (Qt 5 (dList (Qb (Qa 3) Qh))) (Qe (Qc5 Qam 5 Qal (Qa 4) (dC (.int 1))) (Qe (QfX 2 (Qb (Qr (Qz 2 Qb0 [] (Qb (Qa 0) (Qb (Qa 5) Qh))) (dC (.int 0))) Qh)) Qq)))) Qq)) (Qe (Q2 (dList (Qb (Qa 2) Qh))) Qq)))
def Qhi(m:Nat)(R:List (Int×Int))(x:List Int)(a:Nat)(y:List Int):Prop:=∃g,Low m R (QH (fnL x) (Qai a)) g/\y=QbS (m+1) g
def Qpo(d:Den):Prop:=∀(m:Nat) (R:List (Int×Int)) (b:Bool) (ks:List (List Int)),0<m->m<=8->QY m R []->(∀x∈ks,x.length=m+1/\∀j,j<m->(fnL x j).natAbs<=2^189)->ks.length*(m+1)<16777216→
 ∃ks':List (List Int),d [Qs m R [],.lst (ks.map (QW b))]=some (.lst (ks'.map (QW true)),true)/\ks'.length<=ks.length*(m+1)/\∀y,y∈ks'↔∃x∈ks,∃a,a<m+1/\Qhi m R x a y
theorem QxA{dl:Den}(hl:Qhm dl):Qpo (Qo 6 (QfA dl)):=λm R b ks m0 m8 hw hk hs=>by
 have key:Run (QfA dl) (Qau 6 [Qs m R [],.lst (ks.map (QW b))]) (Rt λd fr=>∃ks':List (List Int),d= .lst (ks'.map tupI)/\fr=true/\ks'.length<=ks.length*(m+1)/\∀y,y∈ks'↔∃x∈ks,∃a,a<m+1/\Qhi m R x a y):=by
  refine run_seq (Qj (r:=⟨.dk [],true,[]⟩) rfl ?_)
  rw[Qn]
  refine QaA (P:=λρ=>∃(ks':List (List Int)) (j3 j4 j5:Option (D×Bool)),ks'.length<=ks.length*(m+1)/\(∀y,y∈ks'↔∃p x,p<ks.length/\ks[p]? =some x/\∃a,a<m+1/\Qhi m R x a y)/\ρ=[some (Qs m R [],false),some (.lst (ks.map (QW b)),false),some (.dk ks',true),j3,j4,j5]) ?_ ?_
  ·refine Qat (toD:=QW b) ks (λi ρ=>∃(ks':List (List Int)) (j3 j4 j5:Option (D×Bool)),ks'.length<=i*(m+1)/\(∀y,y∈ks'↔∃p x,p<i/\ks[p]? =some x/\∃a,a<m+1/\Qhi m R x a y)/\ρ=[some (Qs m R [],false),some (.lst (ks.map (QW b)),false),some (.dk ks',true),j3,j4,j5]) (QaE (xs:=ks.map (QW b)) (r:=⟨.lst (ks.map (QW b)),false,[]⟩) rfl rfl) rfl ⟨[],none,none,none,by simp,λy=>⟨λh=>by simp at h,λ⟨p,_,h,_⟩=>by omega⟩,rfl⟩ ?_ ?_
   ·rintro i x ρ hi ⟨k0,j3,j4,j5,h1,h2,rfl⟩
    refine⟨_,rfl,?_⟩
    obtain⟨xl,xb⟩:=hk x (ZL hi)
    have il:i<ks.length:=(Zd.mp hi).1
    have sz:(i+1)*(m+1)<=ks.length*(m+1):=ZaG _ il
    rw[ZaK]at sz
    have ex:∀{ρ:En}{bb:Bool},ρ[3]? =some (some (QW b x,bb))->∃r,Qa 3 ρ=some r/\r.d=QW b x:=λ{ρ bb} h=>⟨_,QcE h,by split<;>(try rfl);split<;>rfl⟩
    refine run_seq ?_
    obtain⟨r3,e3,d3⟩:=ex (ρ:=[some (Qs m R [],false),some (.lst (ks.map (QW b)),false),some (.dk k0,true),some (QW b x,(QW b x).flat),j4,j5]) rfl
    refine Qat (toD:=λ(a:Nat)=>D.int (a:Int)) (List.range (m+1)) (λt ρ=>∃(k1:List (List Int)) (j4 j5:Option (D×Bool)),k1.length<=i*(m+1)+t/\(∀y,y∈k1↔y∈k0∨∃a,a<t/\Qhi m R x a y)/\ρ=[some (Qs m R [],false),some (.lst (ks.map (QW b)),false),some (.dk k1,true),some (QW b x,(QW b x).flat),j4,j5]) (ir:=⟨(List.range (m+1)).map λ(a:Nat)=>D.int (a:Int),[]⟩) ?_ rfl ⟨k0,j4,j5,h1,λy=>⟨.inl,λh=>h.elim id λ⟨a,h,_⟩=>by omega⟩,rfl⟩ ?_ ?_
    ·exact QcA (QrK e3 d3) (by rw[xl]) (by omega)
    ·rintro t a ρ ht ⟨k1,j4,j5,g1,g2,rfl⟩
     refine⟨_,rfl,?_⟩
     have ta:a=t/\t<m+1:=by
      have:=Zd.mp ht
      obtain⟨h,e⟩:=this
      rw[List.getElem_range]at e
      rw[ZM]at h
      exact⟨e.symm,h⟩
     obtain⟨rfl,tl⟩:=ta
     obtain⟨r3,e3,d3⟩:=ex (ρ:=[some (Qs m R [],false),some (.lst (ks.map (QW b)),false),some (.dk k1,true),some (QW b x,(QW b x).flat),some (.int (a:Int),true),j5]) rfl
     refine run_seq (Qj (QpF (b:=b) (k:=x) (Qu e3 (Q3 _)) (by rw[d3]) (by rw[xl];omega)) ?_)
     rw[Qn,Qs3 xl]
     refine run_seq (QmK (m:=m+1) (f:=fnL x) (i:=(a:Int)) (w:=fnL x a-1) (ri:=⟨.int a,true,[]⟩) (ra:=⟨.int 1,true,[]⟩) rfl rfl rfl rfl (by omega) (by omega) rfl ?_)
     show Nx _ (.nx [some (Qs m R [],false),some (.lst (ks.map (QW b)),false),some (.dk k1,true),some (QW b x,(QW b x).flat),some (.int (a:Int),true),some (Qc (m+1) (up (fnL x) (a:Int).toNat (fnL x a-1)),true)])
     rw[ZT,Qug]
     obtain⟨g,c,el,lo⟩:=QiP hl (f:=QH (fnL x) (Qai a)) m0 m8 hw λj hj=>by
      have:=xb j hj
      have h4:(2:Nat)^189+1<=2^190:=by decide
      unfold QH Qai
      split<;>omega
     refine run_seq (QrD (ks:=k1) (k:=QbS (m+1) g) rfl (Qu (Qkc (Qx (r:=⟨[Qs m R [],Qc (m+1) (QH (fnL x) (Qai a))],false,[5]⟩) rfl el rfl) rfl).1 (Q3 _)) (by rw[← Qo5];rfl) (by omega) (Qv ?_))
     refine⟨putL k1 (QbS (m+1) g),_,_,Zx (QrI _ _) (by omega),λy=>?_,rfl⟩
     rw[Qtq,g2 y]
     constructor
     ·rintro((h | ⟨a',h,q⟩) | rfl)
      ·exact .inl h
      ·exact .inr ⟨a',by omega,q⟩
      ·exact .inr ⟨a,by omega,g,lo,rfl⟩
     ·rintro(h | ⟨a',h,q⟩)
      ·exact .inl (.inl h)
      ·by_cases z:a'=a
       ·subst z
        obtain⟨g',lo',rfl⟩:=q
        exact .inr (QhU (lo'.unique hw lo))
       ·exact .inl (.inr ⟨a',by omega,q⟩)
    ·rintro ρ ⟨k1,j4,j5,g1,g2,rfl⟩
     rw[ZM]at g1 g2
     refine Qv ⟨k1,_,_,_,by rw[ZaK];omega,λy=>?_,rfl⟩
     rw[g2 y,h2 y]
     constructor
     ·rintro(⟨p,x',hp,q⟩ | h)
      ·exact⟨p,x',by omega,q⟩
      ·exact⟨i,x,by omega,hi,h⟩
     ·rintro⟨p,x',hp,hx',q⟩
      by_cases z:p=i
      ·subst z
       rw[hi]at hx'
       cases hx'
       exact .inr q
      ·exact .inl ⟨p,x',by omega,hx',q⟩
   ·rintro ρ ⟨k',j3,j4,j5,h⟩
    exact⟨k',j3,j4,j5,h⟩
  rintro ρ ⟨k',j3,j4,j5,h1,h2,rfl⟩
  refine QE (Qs5 (ks:=k') (rs:=⟨[.dk k'],true,[2]⟩) rfl rfl) ⟨k',rfl,?_,h1,λy=>?_⟩
  ·rw[show(HS.R.norm ⟨.lst (k'.map tupI),true,[]⟩)=⟨.lst (k'.map tupI),true,[]⟩ by unfold HS.R.norm;split<;>rfl];rfl
  ·rw[h2 y]
   constructor
   ·rintro⟨p,x,_,hx,q⟩
    exact⟨x,ZL hx,q⟩
   ·rintro⟨x,hx,q⟩
    obtain⟨p,hp⟩:=List.getElem?_of_mem hx
    exact⟨p,x,(Zd.mp hp).1,hp,q⟩
 obtain⟨o,h1,h2⟩:=key
 cases o with
 | rt d fr=>
  obtain⟨k',rfl,rfl,h3,h4⟩:=h2
  exact⟨k',by unfold Qo;rw[h1];rfl,h3,h4⟩
 | _=>exact h2.elim
end HS
namespace HS
open PySem L2
section
variable {m:Nat}{R:List (Int×Int)}{f:Nat->Int}
theorem Qmr{n a:Nat}(h:a<n):Qi n (Qai a)=1:=by
 have:=Q8 (m:=n) (p:=a) h 1 λ_=>1
 rw[show(λi=>(if i=a then(1:Int)else 0)*1)=Qai a from by funext i;unfold Qai;split<;>rfl]at this
 omega
theorem QaZ.nn{k:Int}{E:Nat->Int}(h:QaZ m k E):0<=k:=by rw[← h.2];exact Qeo h.1
theorem QaZ.add{k:Int}{E:Nat->Int}(h:QaZ m k E){a:Nat}(ha:a<m+1):QaZ m (k+1) λj=>E j+Qai a j:=by
 refine⟨λj hj=>?_,by rw[QJ,h.2,Qmr ha]⟩
 have:=h.1 j hj
 show 0<=E j+Qai a j
 unfold Qai
 split<;>omega
theorem Qui{n:Nat}{E:Nat->Int}(h:0<Qi n E):∃a,a<n/\1<=E a:=by
 induction n with
 | zero=>rw[show Qi 0 E=0 from rfl]at h;omega
 | succ n ih=>
  rw[QT]at h
  by_cases z:1<=E n
  ·exact⟨n,by omega,z⟩
  ·obtain⟨a,h1,h2⟩:=ih (by omega)
   exact⟨a,by omega,h2⟩
theorem Qqj{n a:Nat}{E:Nat->Int}(h:∀j,j<n->0<=E j)(ha:a<n):E a<=Qi n E:=by
 induction n with
 | zero=>omega
 | succ n ih=>
  rw[QT]
  have h1:=h n (by omega)
  have h2:=Qeo (m:=n) (f:=E) λi hi=>h i (by omega)
  by_cases z:a=n
  ·subst z;omega
  ·have:=ih (λj hj=>h j (by omega)) (by omega);omega
theorem QaZ.sub{k:Int}{E:Nat->Int}(h:QaZ m (k+1) E)(hk:0<=k):∃a,a<m+1/\QaZ m k λj=>E j-Qai a j:=by
 obtain⟨a,ha,h1⟩:=Qui (n:=m+1) (E:=E) (by rw[h.2];omega)
 refine⟨a,ha,λj hj=>?_,?_⟩
 ·have:=h.1 j hj
  show 0<=E j-Qai a j
  unfold Qai
  split
  ·rename_i z;rw[z];omega
  ·omega
 ·rw[Qp (g:=λj=>E j+ -Qai a j) λj _=>by omega,QJ,Qaz,h.2,Qmr ha];omega
def QcO(m:Nat)(R:List (Int×Int))(f:Nat->Int)(k:Int)(ks:List (List Int)):Prop:=∀y,y∈ks↔∃E,QaZ m k E/\∃g,Low m R (QH f E) g/\y=QbS (m+1) g
theorem QkP(f E E':Nat->Int):QH (QH f E) E'=QH f λj=>E j+E' j:=by funext j;show f j-E j-E' j=f j-(E j+E' j);omega
def Qg5(m:Nat)(R:List (Int×Int)):Prop:=∀f:Nat->Int,(∀j,j<m->(f j).natAbs<=2^190)->∃g,Low m R f g
theorem Qv8(hw:QY m R []){g h:Nat->Int}{a:Nat}:Low m R (QH (fnL (QbS (m+1) g)) (Qai a)) h->Low m R (QH g (Qai a)) h:=λl=>
 l.congr hw (λj hj=>by show fnL _ j-_=g j-_;rw[Qem hj]) λ_ _=>rfl
theorem QwP(hw:QY m R []){g h:Nat->Int}{a:Nat}:Low m R (QH g (Qai a)) h->Low m R (QH (fnL (QbS (m+1) g)) (Qai a)) h:=λl=>
 l.congr hw (λj hj=>by show g j-_=fnL _ j-_;rw[Qem hj]) λ_ _=>rfl
theorem QnW(hw:QY m R []){g:Nat->Int}(l:Low m R f g):∀j,j<m->0<=g j/\(g j).natAbs<=2^100:=λj hj=>by
 obtain⟨c,z,l1,l2⟩:=l
 have h1:=l2.1 j hj
 have h2:=hw.tp.bnd j j hj hj
 have h3:=hw.neg hj
 have h4:(2:Nat)^66<=2^100:=ZJ (by decide) (by decide)
 omega
theorem QcO.good(hw:QY m R []){k:Int}{ks:List (List Int)}(F:QcO m R f k ks):∀x∈ks,x.length=m+1/\∀j,j<m->(fnL x j).natAbs<=2^189:=λx hx=>by
 obtain⟨E,_,g,l,rfl⟩:=(F x).mp hx
 refine⟨QrZ _ _,λj hj=>?_⟩
 rw[Qem (by omega)]
 exact Zx (QnW hw l j hj).2 (ZJ (by decide) (by decide))
theorem Qf5{k:Int}{E:Nat->Int}(hE:QaZ m k E)(hk:k<=1000)(hb:∀j,j<m->(f j).natAbs<=2^189):∀j,j<m->(QH f E j).natAbs<=2^190:=λj hj=>by
 have h1:=hE.1 j (by omega)
 have h2:=Qqj (n:=m+1) (E:=E) (a:=j) hE.1 (by omega)
 rw[hE.2]at h2
 have h3:=hb j hj
 have h4:(2:Nat)^189+1000<=2^190:=by decide
 show(f j-E j).natAbs<=_
 omega
theorem QcO.next(hw:QY m R [])(ex:Qg5 m R)(hb:∀j,j<m->(f j).natAbs<=2^189){k:Int}(h0:0<=k)(hk:k<1000){ks ks':List (List Int)}(F:QcO m R f k ks)(h:∀y,y∈ks'↔∃x∈ks,∃a,a<m+1/\Qhi m R x a y):QcO m R f (k+1) ks':=λy=>by
 rw[h y]
 constructor
 ·rintro⟨x,hx,a,ha,g',l',rfl⟩
  obtain⟨E,hE,g,l,rfl⟩:=(F x).mp hx
  refine⟨_,hE.add ha,g',?_,rfl⟩
  have:=l.less hw (Qai a) (Qv8 hw l')
  rw[QkP]at this
  exact this
 ·rintro⟨E,hE,g,l,rfl⟩
  obtain⟨a,ha,hs⟩:=hE.sub h0
  obtain⟨h,lh⟩:=ex (QH f λj=>E j-Qai a j) (Qf5 hs (by omega) hb)
  refine⟨QbS (m+1) h,(F _).mpr ⟨_,hs,h,lh,rfl⟩,a,ha,?_⟩
  obtain⟨p,lp⟩:=ex (QH h (Qai a)) λj hj=>by
   have h1:=QnW hw lh j hj
   have h4:(2:Nat)^100+1<=2^190:=by decide
   show(h j-Qai a j).natAbs<=_
   unfold Qai
   split<;>omega
  have q:=lh.less hw (Qai a) lp
  rw[QkP,show(λj=>E j-Qai a j+Qai a j)=E from by funext j;omega]at q
  exact⟨p,QwP hw lp,QhU (l.unique hw q)⟩
theorem QcO.pos(hw:QY m R [])(ex:Qg5 m R)(hb:∀j,j<m->(f j).natAbs<=2^189){k:Int}(hk:k<1000){ks:List (List Int)}(F:QcO m R f k ks)(h:∀x∈ks,0<=fnL x m):∀E,QaZ m k E->Eff m R (QH f E):=λE hE=>by
 obtain⟨g,l⟩:=ex _ (Qf5 hE (by omega) hb)
 rw[l.eff hw]
 have:=h _ ((F _).mpr ⟨E,hE,g,l,rfl⟩)
 rw[Qem (by omega)]at this
 exact this
theorem QcO.small(hw:QY m R [])(ex:Qg5 m R)(hb:∀j,j<m->(f j).natAbs<=2^189){k:Int}(h0:0<=k)(hk:k<1000){ks:List (List Int)}(F:QcO m R f k ks)(h:∀x∈ks,0<=fnL x m):k<=Qi (m+1) f:=by
 have hE:QaZ m k λj=>if j=0 then k else 0:=by
  refine⟨λj _=>by dsimp only;split<;>omega,?_⟩
  have:=Q8 (m:=m+1) (p:=0) (by omega) k λ_=>1
  rw[show(λi=>(if i=0 then k else 0)*1)=λj=>if j=0 then k else 0 from by funext i;omega]at this
  omega
 obtain⟨g,l⟩:=ex _ (Qf5 hE (by omega) hb)
 have h1:=h _ ((F _).mpr ⟨_,hE,g,l,rfl⟩)
 rw[Qem (by omega)]at h1
 have h2:=l.QvX hw
 rw[show Qi (m+1) (QH f λj=>if j=0 then k else 0)=Qi (m+1) f+ -Qi (m+1) (λj=>if j=0 then k else 0)from by rw[← Qaz,← QJ];exact Qp λj _=>by show f j-(if j=0 then k else 0)=f j+ -(if j=0 then k else 0);omega,hE.2]at h2
 omega
theorem QcO.zero(hw:QY m R []){g:Nat->Int}(l:Low m R f g):QcO m R f 0 [QbS (m+1) g]:=λy=>by
 have z:QaZ m 0 λ_=>0:=⟨λ_ _=>Zak 0,Q0 _⟩
 have e:QH f (λ_=>0)=f:=by funext j;show f j-0=f j;omega
 rw[Zv]
 constructor
 ·rintro rfl
  exact⟨_,z,g,by rw[e];exact l,rfl⟩
 ·rintro⟨E,hE,g',l',rfl⟩
  have e0:∀j,j<m+1->E j=0:=λj hj=>by
   have h1:=hE.1 j hj
   have h2:=Qqj (n:=m+1) hE.1 hj
   rw[hE.2]at h2
   omega
  refine QhU (Low.unique hw (l'.congr hw (λj hj=>?_) λ_ _=>rfl) l)
  show f j-E j=f j
  rw[e0 j hj];omega
end
theorem Qt1{α:Type}{fa:DE}{ρ:En}{r:R}{ks:List α}{g:α->Bool}(h:fa ρ=some r)(e:r.d= .lst (ks.map λi=> .bl (g i))):dBf Qhp (Qb fa Qh) ρ=some ⟨.bl (ks.all g),true,[]⟩:=by
 unfold dBf
 rw[Qu h (Q3 _),Za]
 have:(ks.map λi=>D.bl (g i))=((ks.map g).map D.bl):=by rw[ZR];rfl
 simp only[e,Qhp,this,Qod,ZP,List.all_map]
 rfl
noncomputable def Qe5(Qax:Den)(QN:Den)(Qb0:Den)(QcS:Den):DS:=(Qe (QcR (Qz 2 QN [] (Qb (Qz 1 Qax [] (Qb (Qa 0) Qh)) (Qb (Qag (Qb (Qa 1) Qh)) Qh)))) (Qe (sIf (bOr (QZ (dOp gGt (Qr (Qa 0) (dC (.int 0))) (dC (.int 4)))) (QZ (dOp gGt (dBf QeP (Qb (Qa 1) Qh)) (dC (.int 6))))) (Qe QG Qq) Qq) (Qe (Qt 2 (Qh5 (dC (.int 1)))) (Qe (Qt 3 (Qag (Qb (Qr (Qz 2 Qb0 [] (Qb (Qa 0) (Qb (Qa 1) Qh))) (dC (.int 0))) Qh))) (Qe (Qb3 (QZ (dBf Qhp (Qb (Q5 (Qav (Qa 3)) (.nm 1) [none,none,some 0] Qab (dOp gGe (Qr (Qa 1) (Qr (Qa 2) (dC (.int 0)))) (dC (.int 0)))) Qh))) (Qe (Qie (gI λi j=>some (.int (i+j))) 2 (dC (.int 1))) (Qe (Qt 3 (Qz 2 QcS [] (Qb (Qa 0) (Qb (Qa 3) Qh)))) Qq))) (Qe (Q2 (Qa 2)) Qq))))))
def Qj0(d:Den):Prop:=∀(m:Nat) (R:List (Int×Int)) (f:Nat->Int),0<m->m<=4->QY m R []->(∀j,j<m->(f j).natAbs<=2^189)->Qi (m+1) f<=6->∃w:Int,d [Qs m R [],Qc (m+1) f]=some (.int w,true)/\Qcn m R f w/\(w<=Qi (m+1) f∨w= -1)
theorem Qsw(g:Nat->Int)(n:Nat):D.lst ([QbS n g].map (QW false))= .lst [Qc n g]:=by rw[Qo5];rfl
theorem QvV{m k:Nat}(hm:m<=4)(hk:k<=7):(m+1)^k<=78125:=Zx (Nat.pow_le_pow_left (by omega:m+1<=5) k) (Zx (ZJ (by decide) hk) (by decide))
theorem Qtb{dw dn dl d1:Den}(hp:Qfz dw)(hn:Qd0 dn)(hl:Qhm dl)(ho:Qpo d1):Qj0 (Qo 4 (Qe5 dw dn dl d1)):=λm R f m0 m4 hw hb hs=>by
 have ex:Qg5 m R:=λf hf=>let ⟨g,_,_,l⟩:=QiP hl m0 (by omega) hw hf;⟨g,l⟩
 obtain⟨g0,c0,e0,l0⟩:=QiP hl (f:=f) m0 (by omega) hw λj hj=>Zx (hb j hj) (ZJ (by decide) (by decide))
 have key:Run (Qe5 dw dn dl d1) (Qau 4 [Qs m R [],Qc (m+1) f]) (Rt λd fr=>∃w:Int,d= .int w/\fr=true/\Qcn m R f w/\(w<=Qi (m+1) f∨w= -1)):=by
  refine run_seq (Qcz (Qx (Qu (Qin (r:=⟨[Qs m R []],false,[]⟩) rfl (hp m R) rfl) (Qu (r:=⟨.lst [Qc (m+1) f],false,[]⟩) rfl (Q3 _))) (hn (m+1) R [] [f]) rfl) ?_)
  refine run_seq (Qaq (b:=false) ?_ (λh=>by cases h) λ_=>Qv ?_)
  ·exact QcB (a:=false) (b:=false) (Q1 (Qp9 (a:=(m:Int)) (b:=4) (QbH (m:=m) (R:=R) (L:=[]) (r:=⟨Qs m R [],false,[]⟩) rfl rfl).1 rfl rfl rfl) (by simp<;>omega)) (Q1 (Qp9 (a:=Qi (m+1) f) (b:=6) (Qjr (r:=⟨Qc (m+1) f,false,[]⟩) rfl rfl) rfl rfl rfl) (by simp<;>omega))
  refine run_seq (Qj (r:=⟨.int (-1),true,[]⟩) rfl ?_)
  rw[Qn]
  refine run_seq (Qj (r:=⟨.lst [Qc (m+1) g0],true,[]⟩) ?_ ?_)
  ·exact QlE (Qu (Qkc (Qx (r:=⟨[Qs m R [],Qc (m+1) f],false,[]⟩) rfl e0 rfl) rfl).1 (Q3 _)) (ZbB rfl)
  rw[Qn]
  refine QaA (P:=λρ=>∃(w:Int) (j3:Option (D×Bool)),Qcn m R f w/\(w<=Qi (m+1) f∨w= -1)/\ρ=[some (Qs m R [],false),some (Qc (m+1) f,false),some (.int w,true),j3]) ?_ ?_
  ·refine QgT (λn ρ=>∃(k:Nat) (b bf:Bool) (ks:List (List Int)),n+k=8/\k<=7/\QcO m R f k ks/\ks.length<=(m+1)^k/\(∀k':Int,k'<k->∀E,QaZ m k' E->Eff m R (QH f E))/\((k:Int)<=Qi (m+1) f+1∨k=0)/\ρ=[some (Qs m R [],false),some (Qc (m+1) f,false),some (.int ((k:Int)-1),true),some (.lst (ks.map (QW b)),bf)]) ?_ 8 _ ⟨0,false,true,[QbS (m+1) g0],rfl,by omega,QcO.zero hw l0,by simp,λk' hk E hE=>absurd hE.nn (by omega),.inr rfl,by rw[Qsw];rfl⟩
   rintro n ρ ⟨k,b,bf,ks,hnk,hk7,F,hlen,his,hsm,rfl⟩
   have fg:=F.good hw
   have ev3:∃r,Qa 3 [some (Qs m R [],false),some (Qc (m+1) f,false),some (.int ((k:Int)-1),true),some (.lst (ks.map (QW b)),bf)]=some r/\r.d= .lst (ks.map (QW b)):=by
    cases bf
    ·exact⟨⟨.lst (ks.map (QW b)),false,[]⟩,rfl,rfl⟩
    ·exact⟨⟨.lst (ks.map (QW b)),true,[3]⟩,rfl,rfl⟩
   obtain⟨r3,e3,d3⟩:=ev3
   refine⟨ks.all λx=>decide (0<=fnL x m),?_,λhf=>?_,λht=>?_⟩
   ·refine Q1 (Qt1 (g:=λx=>decide (0<=fnL x m)) (QQ (toD:=QW b) (out:=λx=> .bl (decide (0<=fnL x m))) ks (QaE e3 d3) rfl λx hx=>?_) rfl) rfl
    refine⟨[none,some (QW b x,(QW b x).flat),some (Qs m R [],false)],rfl,⟨.bl (decide (0<=fnL x m)),true,[]⟩,?_,rfl,rfl⟩
    have ex:∃r,Qa 1 [none,some (QW b x,(QW b x).flat),some (Qs m R [],false)]=some r/\r.d=QW b x:=⟨_,QcE rfl,by split<;>(try rfl)<;>split<;>rfl⟩
    obtain⟨r1,e1,d1⟩:=ex
    exact Qv1 (a:=fnL x m) (b:=0) (Qtf (b:=b) (k:=x) (i:=m) e1 d1 (QbH (m:=m) (R:=R) (L:=[]) (r:=⟨Qs m R [],false,[]⟩) rfl rfl).1 rfl (by rw[(fg x hx).1];omega)) rfl rfl rfl
   ·refine⟨(k:Int)-1,_,⟨by omega,λk' hk'=>his k' (by omega),?_⟩,by omega,rfl⟩
    obtain⟨x,hx,hneg⟩:=List.all_eq_false.mp hf
    obtain⟨E,hE,g,l,rfl⟩:=(F x).mp hx
    refine⟨E,by rw[show(k:Int)-1+1=k by omega];exact hE,λz=>hneg ?_⟩
    rw[l.eff hw]at z
    rw[Qem (by omega)]
    simpa using z
   ·have all0:∀x∈ks,0<=fnL x m:=λx hx=>by simpa using Zav.mp ht x hx
    have ksm:=F.small hw ex hb (by omega) (by omega) all0
    have k6:k<=6:=by omega
    have p5:=QvV (k:=k) m4 (by omega)
    have p6:=QvV (k:=k+1) m4 (by omega)
    have szl:ks.length*(m+1)<=(m+1)^(k+1):=by rw[Nat.pow_succ];exact ZaG _ hlen
    obtain⟨ks',eo,lo,mo⟩:=ho m R b ks m0 (by omega) hw fg (by omega)
    refine run_seq (QrP (g:=gI λi j=>some (.int (i+j))) (d':= .int (k:Int)) rfl rfl ?_ ?_)
    ·show some (D.int ((k:Int)-1+1))=_
     rw[show(k:Int)-1+1=k by omega]
    have e4:∃ra:RA,(Qb (Qa 0) (Qb (Qa 3) Qh)) [some (Qs m R [],false),some (Qc (m+1) f,false),some (.int (k:Int),true),some (.lst (ks.map (QW b)),bf)]=some ra/\ra.ds=[Qs m R [],.lst (ks.map (QW b))]:=by
     cases bf
     ·exact⟨⟨[Qs m R [],.lst (ks.map (QW b))],false,[]⟩,rfl,rfl⟩
     ·exact⟨⟨[Qs m R [],.lst (ks.map (QW b))],false,[3]⟩,rfl,rfl⟩
    obtain⟨ra,e4,d4⟩:=e4
    refine run_seq (Qj (Qx e4 (by rw[Zay,d4];exact eo) (by rw[d4];rfl)) ?_)
    rw[Qn]
    refine Qv ⟨n-1,by omega,k+1,true,true,ks',by omega,by omega,?_,Zx lo szl,λk' hk' E hE=>?_,by omega,?_⟩
    ·have:=F.next hw ex hb (by omega) (by omega) mo
     rw[show((k+1:Nat):Int)=(k:Int)+1 by omega]
     exact this
    ·by_cases z:k'<k
     ·exact his k' z E hE
     ·rw[show k'=(k:Int) by omega]at hE
      exact F.pos hw ex hb (by omega) all0 E hE
    ·rw[show((k+1:Nat):Int)-1=k by omega];rfl
  rintro ρ ⟨w,j3,hw1,hw2,rfl⟩
  exact QE (r:=⟨.int w,true,[]⟩) rfl ⟨w,rfl,rfl,hw1,hw2⟩
 obtain⟨o,h1,h2⟩:=key
 cases o with
 | rt d fr=>
  obtain⟨w,rfl,rfl,h3,h4⟩:=h2
  exact⟨w,by unfold Qo;rw[h1];rfl,h3,h4⟩
 | _=>exact h2.elim
end HS
namespace HS
open PySem L2
section
variable {m:Nat}{R:List (Int×Int)}{f g:Nat->Int}
theorem Low.back(hw:QY m R []){f':Nat->Int}(c:Nat->Int)(e:∀j,j<m+1->f' j=Af m R f c j)(l:Low m R f g):Low m R f' g:=by
 refine l.moved hw (λi=> -c i) λj hj=>?_
 rw[show Af m R f' (λi=> -c i) j=Af m R (Af m R f c) (λi=> -c i) j from QU j (e j hj) λ_ _=>rfl,show Af m R (Af m R f c) (λi=> -c i) j=_ from QcJ j]
 have:Af m R f (λi=>c i+ -c i) j=f j+Qi (m+1) λi=>0:=by
  show f j+_=f j+_
  congr 1
  exact Qp λi _=>by show(c i+ -c i)*_=0;rw[show c i+ -c i=0 by omega,ZO]
 rw[Q0]at this
 show f j=Af m R f (λi=>c i+ -c i) j
 omega
end
end HS
namespace HS
open PySem L2
noncomputable def inO(rk:Nat->Nat)(j:Nat)(s:Int×Int):Int:=(if s.1=j/\rk s.2.toNat<rk j then 1 else 0)+(if s.2=j/\rk s.1.toNat<rk j then 1 else 0)
noncomputable def nuF(R:List (Int×Int))(rk:Nat->Nat):Nat->Int:=λj=>(R.map (inO rk j)).sum-1
noncomputable def Qaw(R:List (Int×Int)):Nat->Int:=λj=>Qy R [] j-2
theorem Qoh(c:Nat->Int)(rk:Nat->Nat):∀n,∃v,v<n+1/\∀j,j<n+1->c j<c v∨(c j=c v/\rk v<=rk j)
 | 0=>⟨0,by omega,λj hj=> .inr ⟨by rw[show j=0 by omega],by rw[show j=0 by omega];exact Zh _⟩⟩
 | n+1=>by
  obtain⟨v,hv,h⟩:=Qoh c rk n
  by_cases z:c (n+1)<c v∨(c (n+1)=c v/\rk v<=rk (n+1))
  ·refine⟨v,by omega,λj hj=>?_⟩
   by_cases e:j=n+1
   ·rw[e];exact z
   ·exact h j (by omega)
  ·refine⟨n+1,by omega,λj hj=>?_⟩
   by_cases e:j=n+1
   ·rw[e];exact .inr ⟨rfl,Zh _⟩
   ·have:=h j (by omega)
    omega
section
variable {m:Nat}{R:List (Int×Int)}
theorem Qwl(hR:∀s∈R,Good m s)(rk:Nat->Nat){E:Nat->Int}(hE:∀j,j<m+1->0<=E j):¬Eff m R (QH (nuF R rk) E):=by
 rintro⟨c,hc⟩
 obtain⟨v,hv,best⟩:=Qoh c rk m
 have h1:=hc v hv
 rw[show Af m R (QH (nuF R rk) E) c v=QH (nuF R rk) E v+(R.map λs=>Qbu c s v).sum from QdQ hR _ c hv]at h1
 have h2:=QiE (f:=inO rk v) (g:=λs=>Qbu c s v) (h:=λ_=>0) (S:=R) λs hs=>by
  obtain⟨g1,g2,g3,g4,g5⟩:=hR s hs
  have b1:=best s.1.toNat (by omega)
  have b2:=best s.2.toNat (by omega)
  unfold inO Qbu
  by_cases a:s.1=v
  ·have b:¬s.2=v:=by omega
   have e:s.1.toNat=v:=by omega
   rw[if_neg (by omega:¬(s.2=v/\_)),if_neg b,if_pos a,e]
   split<;>omega
  ·by_cases b:s.2=v
   ·have e:s.2.toNat=v:=by omega
    rw[if_neg (by omega:¬(s.1=v/\_)),if_pos b,if_neg a,e]
    split<;>omega
   ·rw[if_neg (by omega:¬(s.1=v/\_)),if_neg (by omega:¬(s.2=v/\_)),if_neg a,if_neg b]
    omega
 have h3:(R.map λ_=>(0:Int)).sum=0:=by
  clear h2 h1 hc hR
  induction R with
  | nil=>rfl
  | cons s R ih=>rw[Zj,ZF,ih];rfl
 have h4:=hE v hv
 rw[h3]at h2
 have h5:QH (nuF R rk) E v=(R.map (inO rk v)).sum-1-E v:=rfl
 omega
noncomputable def Qim(B:Nat)(rk:Nat->Nat):Nat->Nat:=λj=>B-rk j
theorem Qmo{α:Type}{f g h:α->Int}:∀{S:List α},(∀s∈S,f s+g s=h s)->(S.map f).sum+(S.map g).sum=(S.map h).sum
 | [],_=>rfl
 | s::S,e=>by
  rw[Zj,Zj,Zj,ZF,ZF,ZF]
  have h1:=e s (by simp)
  have h2:=Qmo (S:=S) (f:=f) (g:=g) (h:=h) λt ht=>e t (by simp[ht])
  omega
theorem QqU(hR:∀s∈R,Good m s){rk:Nat->Nat}{B:Nat}(inj:∀i j,i<m+1->j<m+1->rk i=rk j->i=j)(hB:∀i,i<m+1->rk i<=B){j:Nat}(hj:j<m+1):nuF R (Qim B rk) j=Qaw R j-nuF R rk j:=by
 have e:Qy R [] j=(R.map λr=>isI j r.1+isI j r.2).sum:=by unfold Qy;simp
 have:=Qmo (f:=inO rk j) (g:=inO (Qim B rk) j) (h:=λr=>isI j r.1+isI j r.2) (S:=R) λs hs=>by
  obtain⟨g1,g2,g3,g4,g5⟩:=hR s hs
  have bj:=hB j hj
  have b1:=hB s.1.toNat (by omega)
  have b2:=hB s.2.toNat (by omega)
  have i1:=inj s.1.toNat j (by omega) hj
  have i2:=inj s.2.toNat j (by omega) hj
  unfold inO isI Qim
  by_cases a:s.1=j
  ·have b:¬s.2=j:=by omega
   rw[if_neg (by omega:¬(s.2=j/\rk s.1.toNat<rk j)),if_neg (by omega:¬(s.2=j/\B-rk s.1.toNat<B-rk j)),if_pos a,if_neg b]
   by_cases z:rk s.2.toNat<rk j
   ·rw[if_pos ⟨a,z⟩,if_neg (by omega)];rfl
   ·rw[if_neg (by omega),if_pos ⟨a,by omega⟩];rfl
  ·by_cases b:s.2=j
   ·rw[if_neg (by omega:¬(s.1=j/\rk s.2.toNat<rk j)),if_neg (by omega:¬(s.1=j/\B-rk s.2.toNat<B-rk j)),if_neg a,if_pos b]
    by_cases z:rk s.1.toNat<rk j
    ·rw[if_pos ⟨b,z⟩,if_neg (by omega)];rfl
    ·rw[if_neg (by omega),if_pos ⟨b,by omega⟩];rfl
   ·rw[if_neg (by omega:¬(s.1=j/\rk s.2.toNat<rk j)),if_neg (by omega:¬(s.1=j/\B-rk s.2.toNat<B-rk j)),if_neg (by omega:¬(s.2=j/\rk s.1.toNat<rk j)),if_neg (by omega:¬(s.2=j/\B-rk s.1.toNat<B-rk j)),if_neg a,if_neg b];rfl
 show(R.map (inO (Qim B rk) j)).sum-1=Qy R [] j-2-((R.map (inO rk j)).sum-1)
 rw[e]
 omega
theorem QyJ(hw:QY m R []){g:Nat->Int}(l:QeI m R g)(hg:g m<0):∃(rk:Nat->Nat) (B:Nat),(∀i j,i<m+1->j<m+1->rk i=rk j->i=j)/\(∀i,i<m+1->rk i<=B)/\∀j,j<m+1->g j<=nuF R rk j:=by
 have hR:=hw.good.1
 generalize hT:Qf m (Qd R [])=T at *
 have hb:=l.2
 rw[hT]at hb
 generalize hh:(λj=>Qy R [] j-1-g j)=h at hb
 have ft:∀i,i<m->∃t:Nat,Qas T h m m i=some (t+1:Int)/\t<m/\i∈QI T h m t/\Qak T i (QI T h m t)<=h i:=λi hi=>by
  cases e:Qas T h m m i with
  | none=>exact absurd e (hb i hi)
  | some t=>
   obtain⟨j,h1,h2,h3,h4,h5⟩:=QdV m i t e
   exact⟨j,by rw[h2],h1,h3,h5⟩
 have rkE:∃rk:Nat->Nat,(∀i,i<m->∀t:Nat,Qas T h m m i=some (t+1:Int)->rk i=(t+1)*(m+1)+i)/\rk m=0:=by
  refine⟨λi=>if i<m then(match Qas T h m m i with | some t=>t.toNat *(m+1)+i | none=>0)else 0,λi hi t ht=>?_,?_⟩
  ·dsimp only
   rw[if_pos hi,ht]
   show((t:Int)+1).toNat *(m+1)+i=_
   rw[show((t:Int)+1).toNat=t+1 by omega]
  ·dsimp only
   rw[if_neg (ZX m)]
 obtain⟨rk,rk1,rk2⟩:=rkE
 have cmp:∀i j t u,i<m->j<m->t<u->Qas T h m m i=some ((t:Nat)+1:Int)->Qas T h m m j=some ((u:Nat)+1:Int)->rk i<rk j:=λi j t u hi hj htu ei ej=>by
  rw[rk1 i hi t ei,rk1 j hj u ej]
  have:(t+2)*(m+1)<=(u+1)*(m+1):=ZaG _ (by omega)
  rw[show(t+2)*(m+1)=(t+1)*(m+1)+(m+1)from ZaK _ _]at this
  omega
 refine⟨rk,(m+1)*(m+1)+m,λi j hi hj e=>?_,λi hi=>?_,λj hj=>?_⟩
 ·by_cases a:i=m
  ·by_cases b:j=m
   ·omega
   ·obtain⟨u,hu,_⟩:=ft j (by omega)
    rw[a,rk2,rk1 j (by omega) u hu]at e
    have:(u+1)*(m+1)=u*(m+1)+(m+1):=ZaK _ _
    omega
  ·obtain⟨t,ht,_⟩:=ft i (by omega)
   by_cases b:j=m
   ·rw[b,rk2,rk1 i (by omega) t ht]at e
    have:(t+1)*(m+1)=t*(m+1)+(m+1):=ZaK _ _
    omega
   ·obtain⟨u,hu,_⟩:=ft j (by omega)
    rcases Nat.lt_trichotomy t u with z | z | z
    ·have:=cmp i j t u (by omega) (by omega) z ht hu;omega
    ·rw[rk1 i (by omega) t ht,rk1 j (by omega) u hu,z]at e;omega
    ·have:=cmp j i u t (by omega) (by omega) z hu ht;omega
 ·by_cases a:i=m
  ·rw[a,rk2];omega
  ·obtain⟨t,ht,tm,_⟩:=ft i (by omega)
   rw[rk1 i (by omega) t ht]
   have:(t+1)*(m+1)<=(m+1)*(m+1):=ZaG _ (by omega)
   omega
 ·by_cases a:j=m
  ·rw[a]
   have:0<=(R.map (inO rk m)).sum:=QcN R λs _=>by unfold inO;split<;>split<;>omega
   show g m<=(R.map (inO rk m)).sum-1
   omega
  ·obtain⟨t,ht,tm,ic,ia⟩:=ft j (by omega)
   have e:Qy R [] j=(R.map λr=>isI j r.1+isI j r.2).sum:=by unfold Qy;simp
   rw[← hT,Qe8 hR (by omega) (by rw[hT];exact QbZ t) λo ho=>QdK ho]at ia
   rw[hT]at ia
   have:=Qed (S:=R) (f:=λr=>isI j r.1+isI j r.2) (h:=λs=>inO rk j s+QS j (QI T h m t) s) λs hs=>by
    obtain⟨g1,g2,g3,g4,g5⟩:=hR s hs
    have oth:∀w:Nat,w<m+1->w∉QI T h m t->rk w<rk j:=λw hw' hn=>by
     by_cases z:w=m
     ·rw[z,rk2,rk1 j (by omega) t ht]
      have:(t+1)*(m+1)=t*(m+1)+(m+1):=ZaK _ _
      omega
     ·obtain⟨u,hu,_⟩:=ft w (by omega)
      have q:¬_:=λz=>hn ((Qrz (T:=T) (h:=h) (m:=m) (k:=m) (p:=w) (by omega) (j:=t) (by omega)).mpr z)
      have:¬((t:Int)+1<=(u:Int)+1):=λz=>q (.inr ⟨_,hu,z⟩)
      exact cmp w j u t (by omega) (by omega) (by omega) hu ht
    have o1:=oth s.1.toNat (by omega)
    have o2:=oth s.2.toNat (by omega)
    unfold inO isI QS
    by_cases a1:s.1=j
    ·have b:¬s.2=j:=by omega
     rw[if_pos a1,if_neg b,if_neg (by omega:¬(s.2=j/\rk s.1.toNat<rk j))]
     by_cases z:s.2.toNat∈QI T h m t
     ·rw[if_pos (c:=(s.1=j/\s.2.toNat∈_)∨_) (.inl ⟨a1,z⟩)]
      split<;>omega
     ·rw[if_pos ⟨a1,o2 z⟩]
      split<;>omega
    ·by_cases b1:s.2=j
     ·rw[if_neg a1,if_pos b1,if_neg (by omega:¬(s.1=j/\rk s.2.toNat<rk j))]
      by_cases z:s.1.toNat∈QI T h m t
      ·rw[if_pos (c:=_∨(s.2=j/\s.1.toNat∈_)) (.inr ⟨b1,z⟩)]
       split<;>omega
      ·rw[if_pos ⟨b1,o1 z⟩]
       split<;>omega
     ·rw[if_neg a1,if_neg b1]
      split<;>split<;>split<;>omega
   have e2:=Qmo (S:=R) (f:=inO rk j) (g:=QS j (QI T h m t)) (h:=λs=>inO rk j s+QS j (QI T h m t) s) λ_ _=>rfl
   have e3:h j=Qy R [] j-1-g j:=by rw[← hh]
   show g j<=(R.map (inO rk j)).sum-1
   omega
end
end HS
namespace HS
open PySem L2
section
variable {m:Nat}{R:List (Int×Int)}
theorem QlY{α:Type}:∀(S:List α) {f:α->Int},(∀s∈S,f s=1)->(S.map f).sum=S.length
 | [],_,_=>rfl
 | s::S,f,h=>by
  rw[Zj,ZF,h s (by simp),QlY S λt ht=>h t (by simp[ht]),ZI]
  omega
theorem Qqo{n p:Nat}(hp:p<n)(v:Int):Qi n (λj=>if j=p then v else 0)=v:=by
 have:=Q8 (m:=n) hp v λ_=>1
 rw[show(λi=>(if i=p then v else 0)*1)=λj=>if j=p then v else 0 from by funext i;omega]at this
 omega
theorem Qxc{rk:Nat->Nat}(inj:∀i j,i<m+1->j<m+1->rk i=rk j->i=j){s:Int×Int}(g:Good m s):Qi (m+1) (λj=>inO rk j s)=1:=by
 obtain⟨g1,g2,g3,g4,g5⟩:=g
 have e:∀j,inO rk j s=(if j=s.1.toNat then(if rk s.2.toNat<rk s.1.toNat then 1 else 0)else 0)+(if j=s.2.toNat then(if rk s.1.toNat<rk s.2.toNat then 1 else 0)else 0):=λj=>by
  unfold inO
  congr 1
  ·by_cases a:s.1=j
   ·have b:j=s.1.toNat:=by omega
    rw[if_pos b,← b]
    by_cases z:rk s.2.toNat<rk j
    ·rw[if_pos ⟨a,z⟩,if_pos z]
    ·rw[if_neg (by omega),if_neg z]
   ·rw[if_neg (by omega),if_neg (by omega)]
  ·by_cases a:s.2=j
   ·have b:j=s.2.toNat:=by omega
    rw[if_pos b,← b]
    by_cases z:rk s.1.toNat<rk j
    ·rw[if_pos ⟨a,z⟩,if_pos z]
    ·rw[if_neg (by omega),if_neg z]
   ·rw[if_neg (by omega),if_neg (by omega)]
 rw[Qp λj _=>e j,QJ,Qqo (by omega),Qqo (by omega)]
 have:=inj s.1.toNat s.2.toNat (by omega) (by omega)
 split<;>split<;>omega
theorem Qqw(n:Nat)(v:Int):Qi n (λ_=>v)=n*v:=by
 induction n with
 | zero=>rw[show Qi 0 (λ_=>v)=0 from rfl];simp
 | succ n ih=>rw[QT,ih,Int.natCast_succ,ZU];omega
theorem Qmm(hR:∀s∈R,Good m s){rk:Nat->Nat}(inj:∀i j,i<m+1->j<m+1->rk i=rk j->i=j):Qi (m+1) (nuF R rk)=R.length-(m+1):=by
 rw[show nuF R rk=λj=>(R.map (inO rk j)).sum+(-1)from by funext j;rfl,QJ,QdU,QlY R λs hs=>Qxc inj (hR s hs),Qqw]
 omega
theorem QnJ(hR:∀s∈R,Good m s):Qi (m+1) (Qaw R)=2*R.length-2*(m+1):=by
 have inj:∀i j,i<m+1->j<m+1->id i=id j->i=j:=λi j _ _ e=>e
 have e:Qi (m+1) (Qaw R)=Qi (m+1) (nuF R id)+Qi (m+1) (nuF R (Qim m id)):=by
  rw[← QJ]
  refine Qp λj hj=>?_
  rw[QqU hR inj (λi hi=>by show i<=m;omega) hj]
  omega
 rw[e,Qmm hR inj,Qmm hR λi j hi hj h=>by
  have h:m-i=m-j:=h
  omega]
 omega
theorem half(hw:QY m R [])(ex:Qg5 m R){f:Nat->Int}(hb:∀j,j<m->(f j).natAbs<=2^189){w w':Int}(hw1:w<999)(W:Qcn m R f w)(W':Qcn m R (QH (Qaw R) f) w'):w'<=w+(R.length-(m+1))-Qi (m+1) f:=by
 have hR:=hw.good.1
 obtain⟨_,_,E,hE,hne⟩:=W
 obtain⟨g,l⟩:=ex _ (Qf5 hE (by omega) hb)
 rw[l.eff hw]at hne
 have sg:=l.sum hw
 obtain⟨c,z,a,b⟩:=l
 obtain⟨rk,B,inj,hB,le⟩:=QyJ hw b (by omega)
 have hE':QaZ m (Qi (m+1) (nuF R rk)-Qi (m+1) g) (λj=>nuF R rk j-g j):=by
  refine⟨λj hj=>by have:=le j hj;show 0<=nuF R rk j-g j;omega,?_⟩
  rw[Zbu,← Qaz,← QJ]
  exact Qp λj _=>by show nuF R rk j-g j=nuF R rk j+ -g j;omega
 have ne:¬Eff m R (QH (QH (Qaw R) f) λj=>nuF R rk j-g j):=λh=>by
  refine Qwl hR (Qim B rk) hE.1 ((Eff.moved hR (λi=> -c i) λj hj=>?_).mpr h)
  rw[Qhl]
  show nuF R (Qim B rk) j-E j=_
  rw[QqU hR inj hB hj]
  have e1:=a j hj
  rw[Qhl]at e1
  have e2:Af m R f c j=f j+Qi (m+1) λi=>c i*Qf (m+1) (Qd R []) i j:=rfl
  have e3:Af m R (QH (Qaw R) f) (λi=> -c i) j=Qaw R j-f j+Qi (m+1) λi=> -c i*Qf (m+1) (Qd R []) i j:=rfl
  have e4:(Qi (m+1) λi=> -c i*Qf (m+1) (Qd R []) i j)= -Qi (m+1) λi=>c i*Qf (m+1) (Qd R []) i j:=by
   rw[← Qaz]
   exact Qp λi _=>Zaq _ _
  rw[e3,e4]
  omega
 have lt:¬(Qi (m+1) (nuF R rk)-Qi (m+1) g<=w'):=λh=>ne (W'.2.1 _ h _ hE')
 have sE:Qi (m+1) (QH f E)=Qi (m+1) f-(w+1):=by
  rw[← hE.2,Zbu,← Qaz,← QJ]
  exact Qp λj _=>by show f j-E j=f j+ -E j;omega
 rw[Qmm hR inj,sg,sE]at lt
 omega
theorem QqV(hw:QY m R [])(ex:Qg5 m R){f:Nat->Int}(hb:∀j,j<m->(f j).natAbs<=2^189)(hb':∀j,j<m->(QH (Qaw R) f j).natAbs<=2^189){w w':Int}(hw1:w<999)(hw2:w'<999)(W:Qcn m R f w)(W':Qcn m R (QH (Qaw R) f) w'):w-w'=Qi (m+1) f+(m+1)-R.length:=by
 have hR:=hw.good.1
 have h1:=half hw ex hb hw1 W W'
 have e:QH (Qaw R) (QH (Qaw R) f)=f:=by funext j;show Qaw R j-(Qaw R j-f j)=f j;omega
 have h2:=half hw ex hb' hw2 W' (by rw[e];exact W)
 have s:Qi (m+1) (QH (Qaw R) f)=Qi (m+1) (Qaw R)-Qi (m+1) f:=by
  rw[Zbu,← Qaz,← QJ]
  exact Qp λj _=>by show Qaw R j-f j=Qaw R j+ -f j;omega
 rw[s,QnJ hR]at h2
 omega
end
end HS
namespace HS
open PySem L2
noncomputable def QdH(Qce:Den):DS:=(Qe (Qt 1 (QO (dC (.int 1)) (dOp Qbb (Qr (Qa 0) (dC (.int 0))) (dC (.int 4))))) (Qe (Qt 2 (QaL (Qr (Qag (Qb (dC (.int 5)) (Qb (dC (.int 5)) (Qb (dC (.int 5)) (Qb (dC (.int 3)) Qh))))) (dOp Qbb (Qr (Qa 0) (dC (.int 0))) (dC (.int 4)))))) (Qe (Qt 3 (Qz 2 Qce [] (Qb (Qiv (Qa 0) (Qdr (dC (.int 2))) (Qdr (dC (.int 6)))) (Qb (Qa 1) Qh)))) (Qe (Qbf (Qav (Qiv (Qa 0) (Qdr (dC (.int 6))) (Qdr (QO (dC (.int 6)) (dOp Qbb (Qr (Qa 0) (dC (.int 1))) (Qa 2)))))) (.nm 4) (Qe (Qdp (.tp [5,6]) (dDm (Qb (Qa 4) (Qb (QO (Qa 1) (dC (.int 1))) Qh)))) (Qe (Qdp (.tp [5,7]) (dDm (Qb (Qa 5) (Qb (Qa 1) Qh)))) (Qe (Qg4 3 Qal (dOp Qbb (Qa 5) (QO (dBf QaS (Qb (Qa 3) Qh)) (dC (.int 1)))) (Qa6 (Qb (Qa 6) (Qb (dOp Qbb (QO (QO (Qa 6) (dC (.int 1))) (Qa 7)) (QO (Qa 1) (dC (.int 1)))) Qh)))) Qq)))) (Qe (Q2 (Qa6 (Qb (Qa 1) (Qb (Q5 (Qav (Qa 3)) (.tp [1,2]) [none,none,none] Qab (Qa6 (Qb (dBf Qf3 (Qb (Qa 1) (Qb (Qa 2) Qh))) (Qb (dBf QeO (Qb (Qa 1) (Qb (Qa 2) Qh))) Qh)))) (Qb (Qag Qh) Qh))))) Qq)))))
def Qj2(d:Den):Prop:=∀cs:List Int,cs.length=57->(∀c∈cs,0<=c/\c<B40)->∃(m:Nat) (R:List (Int×Int)),d [Qm cs]=some (Qs m R [],true)/\0<m/\m<=4/\R.length<=m+4/\QY m R []
set_option maxHeartbeats 0 in
theorem QrW{db:Den}(hb:QjN db):Qj2 (Qo 8 (QdH db)):=λcs hl hcs=>by
 have cell:∀k:Nat,k<57->∃c,cs[k]? =some c/\0<=c/\c<B40:=λk hk=>⟨cs[k]'(by omega),ZQ (by omega),hcs _ (List.getElem_mem _)⟩
 obtain⟨c0,e0,p0,_⟩:=cell 0 (by decide)
 obtain⟨c2,e2,p2,_⟩:=cell 1 (by decide)
 have b1:=ZH c0 (by decide:(4:Int)≠0)
 have b2:=ZC c0 (by decide:(0:Int)<4)
 obtain⟨mo,emo,mo0,mo1⟩:∃mo:Nat,[(5:Int),5,5,3][(c0 % 4).toNat]? =some (mo:Int)/\0<mo/\mo<=5:=by
  have:c0 % 4=0∨c0 % 4=1∨c0 % 4=2∨c0 % 4=3:=by omega
  rcases this with h | h | h | h<;>rw[h]
  ·exact⟨5,rfl,by decide,by decide⟩
  ·exact⟨5,rfl,by decide,by decide⟩
  ·exact⟨5,rfl,by decide,by decide⟩
  ·exact⟨3,rfl,by decide,by decide⟩
 have key:Run (QdH db) (Qau 8 [Qm cs]) (Rt λd fr=>∃(m:Nat) (R:List (Int×Int)),d=Qs m R []/\fr=true/\0<m/\m<=4/\R.length<=m+4/\QY m R []):=by
  have idx:∀{ρ:En}(k:Nat) (c:Int),ρ[0]? =some (some (Qm cs,false))->cs[k]? =some c->Qr (Qa 0) (dC (.int k)) ρ=some ⟨.int c,true,[]⟩:=λ{ρ} k c h0 hc=>Qbp (ns:=cs) (i:=k) (QcE h0) rfl (Qpc _ _) rfl (by omega) (by simpa using hc)
  refine run_seq (Qj (Q4 (a:=1) rfl rfl (QaY (b:=4) (idx 0 c0 rfl e0) rfl rfl rfl (by decide)) rfl) ?_)
  rw[Qn]
  refine run_seq (Qj (Qcs (Qbp (ns:=[5,5,5,3]) (i:=c0 % 4) (v:=(mo:Int)) (ra:=⟨.lst ([(5:Int),5,5,3].map .int),true,[]⟩) rfl rfl (QaY (a:=c0) (b:=4) (idx 0 c0 rfl e0) rfl rfl rfl (by decide)) rfl b1 emo)) ?_)
  rw[Qbw rfl]
  obtain⟨m,em,m0,m8⟩:∃m:Nat,1+c0 % 4=(m:Int)/\0<m/\m<=4:=⟨(1+c0 % 4).toNat,by omega,by omega,by omega⟩
  rw[em]
  change Nx _ (.nx [some (Qm cs,false),some (.int m,true),some (.int mo,true),none,none,none,none,none])
  obtain⟨W0,hbase,lW0,gW0,esc0⟩:=hb m ((cs.drop (min 2 cs.length)).take (min 6 cs.length-min 2 cs.length)) (by omega) (by omega) (by rw[Zau,ZaC];omega) λc hc=>hcs c (Qou hc)
  refine run_seq (Qj (Qx (Qu (Qjw (cs:=cs) (a:=2) (b:=6) (ra:=⟨Qm cs,false,[]⟩) rfl rfl rfl rfl rfl rfl) (Qu (r:=⟨.int m,true,[]⟩) rfl (Q3 _))) hbase rfl) ?_)
  rw[Qn]
  have d1:=ZH c2 (by omega:(mo:Int)≠0)
  have d2:=ZC c2 (by omega:0<(mo:Int))
  obtain⟨q,eq⟩:∃q:Nat,(q:Int)=6+c2 % mo:=⟨(6+c2 % mo).toNat,by omega⟩
  have eh:QO (dC (.int 6)) (dOp Qbb (Qr (Qa 0) (dC (.int 1))) (Qa 2)) [some (Qm cs,false),some (.int m,true),some (.int mo,true),some (QL (prs W0),true),none,none,none,none]=some ⟨.int q,true,[]⟩:=by
   rw[eq]
   exact Q4 (a:=6) rfl rfl (QaY (a:=c2) (b:=mo) (idx 1 c2 rfl e2) rfl (rb:=⟨.int mo,true,[]⟩) rfl rfl (by omega)) rfl
  have esl:=Qjw (cs:=cs) (a:=6) (b:=q) (fa:=Qa 0) (fl:=dC (.int 6)) (ρ:=[some (Qm cs,false),some (.int m,true),some (.int mo,true),some (QL (prs W0),true),none,none,none,none]) (ra:=⟨Qm cs,false,[]⟩) rfl rfl rfl rfl eh rfl
  generalize efu:(cs.drop (min 6 cs.length)).take (min q cs.length-min 6 cs.length)=fu at esl
  have hfu:∀c∈fu,0<=c/\c<B40:=λc hc=>hcs c (by rw[← efu]at hc;exact Qou hc)
  have lfu:fu.length<=4:=by rw[← efu,Zau,ZaC];omega
  refine QaA (P:=λρ=>∃(W:List (Int×Int×Bool)) (j4 j5 j6 j7:Option (D×Bool)),W.length<=m+4/\(∀w∈W,GoodW m w)/\(∀w∈W0,w∈W)/\ρ=[some (Qm cs,false),some (.int m,true),some (.int mo,true),some (QL (prs W),true),j4,j5,j6,j7]) ?_ ?_
  ·refine Qat (toD:=D.int) fu (λi ρ=>∃(W:List (Int×Int×Bool)) (j4 j5 j6 j7:Option (D×Bool)),W.length<=W0.length+i/\(∀w∈W,GoodW m w)/\(∀w∈W0,w∈W)/\ρ=[some (Qm cs,false),some (.int m,true),some (.int mo,true),some (QL (prs W),true),j4,j5,j6,j7]) (QaE esl rfl) rfl ⟨W0,none,none,none,none,by omega,gW0,λw hw=>hw,rfl⟩ ?_ ?_
   ·rintro i c ρ hi ⟨W,j4,j5,j6,j7,hw1,hw2,hw3,rfl⟩
    have hil:i<fu.length:=(Zd.mp hi).1
    have hc:=hfu c (ZL hi)
    refine⟨_,rfl,?_⟩
    refine run_seq (Qfw (a:=c) (b:=(m:Int)+1) rfl rfl (Q4 (a:=(m:Int)) (b:=1) rfl rfl rfl rfl) rfl (by omega) (by omega) ?_)
    have a1:=ZH c (by omega:(m:Int)+1≠0)
    have a2:=ZC c (by omega:(0:Int)<(m:Int)+1)
    have a3:0<=c / ((m:Int)+1):=ZaZ hc.1 (by omega)
    generalize c % ((m:Int)+1)=st at a1 a2
    generalize c / ((m:Int)+1)=nb at a3
    refine run_seq (Qfw (a:=nb) (b:=m) rfl rfl rfl rfl (by omega) (by omega) ?_)
    have b1:=ZH nb (by omega:(m:Int)≠0)
    have b2:=ZC nb (by omega:(0:Int)<(m:Int))
    have b3:0<=nb / (m:Int):=ZaZ a3 (by omega)
    generalize nb % (m:Int)=sp at b1 b2
    generalize nb / (m:Int)=nc at b3
    have gw:=QsN (m:=m) (a:=st) (s:=sp) (ln:=false) a1 (by omega) b1 b2 (λz=>by cases z)
    have elen:∀{ρ:En},ρ[3]? =some (some (QL (prs W),true))->dBf QaS (Qb (Qa 3) Qh) ρ=some ⟨.int W.length,true,[]⟩:=λ{ρ} h=>by
     rw[Qct (xs:=(prs W).map pairD) (QcE h) rfl,Zg]
     unfold prs
     rw[Zg]
    have c1:=ZH nc (by omega:(W.length:Int)+1≠0)
    have c2:=ZC nc (by omega:(0:Int)<(W.length:Int)+1)
    refine run_seq (QmF (A:=prs W) (p:=Qbg (st,(st+1+sp) % ((m:Int)+1),false)) (i:=nc % ((W.length:Int)+1)) (r:=⟨pairD (Qbg (st,(st+1+sp) % ((m:Int)+1),false)),true,[]⟩) rfl (QaY (a:=nc) (b:=(W.length:Int)+1) rfl rfl (Q4 (a:=(W.length:Int)) (b:=1) (elen rfl) rfl rfl rfl) rfl (by omega)) rfl ?_ rfl c1 (by omega) (by unfold prs;rw[Zg];omega) (Qv ⟨Qaj W (min (nc % ((W.length:Int)+1)).toNat W.length) (st,(st+1+sp) % ((m:Int)+1),false),some (.int c,true),some (.int nc,true),some (.int st,true),some (.int sp,true),by rw[Qoe];omega,λw hw=>?_,λw hw=>Qfl.mpr (.inr (hw3 w hw)),by rw[QnO];rfl⟩))
    ·unfold Qa6
     refine(congrArg (λz=>Option.bind z _) (Qu (r:=⟨.int st,true,[]⟩) rfl (Qu (QaY (a:=st+1+sp) (b:=(m:Int)+1) (Q4 (Q4 (a:=st) (b:=1) rfl rfl rfl rfl) rfl rfl rfl) rfl (Q4 (a:=(m:Int)) (b:=1) rfl rfl rfl rfl) rfl (by omega)) (Q3 _)))).trans ?_
     rfl
    ·rcases Qfl.mp hw with rfl | h
     ·exact gw
     ·exact hw2 w h
   ·rintro ρ ⟨W,j4,j5,j6,j7,hw1,hw2,hw3,rfl⟩
    exact⟨W,_,_,_,_,by omega,hw2,hw3,rfl⟩
  rintro ρ ⟨W,j4,j5,j6,j7,hw1,hw2,hw3,rfl⟩
  have er:=QQ (fi:=Qav (Qa 3)) (t:= .tp [1,2]) (cap:=[none,none,none]) (fe:=Qa6 (Qb (dBf Qf3 (Qb (Qa 1) (Qb (Qa 2) Qh))) (Qb (dBf QeO (Qb (Qa 1) (Qb (Qa 2) Qh))) Qh))) (ρ:=[some (Qm cs,false),some (.int m,true),some (.int mo,true),some (QL (prs W),true),j4,j5,j6,j7])
   (toD:=λw=>pairD (Qbg w)) (out:=λw=>pairD (Qb2 w)) W (QaE (r:=⟨QL (prs W),true,[3]⟩) rfl rfl) (by show List.map pairD (W.map Qbg)=_;rw[ZR];rfl) λw _=>⟨[none,some (.int (Qbg w).1,true),some (.int (Qbg w).2,true)],rfl,⟨pairD (Qb2 w),true,[]⟩,by
    unfold Qa6
    refine(congrArg (λz=>Option.bind z _) (Qu (Qtw (a:=(Qbg w).1) (b:=(Qbg w).2) rfl rfl rfl rfl) (Qu (Qmd (a:=(Qbg w).1) (b:=(Qbg w).2) rfl rfl rfl rfl) (Q3 _)))).trans ?_
    rfl,rfl,rfl⟩
  refine QE (r:=⟨Qs m (W.map Qb2) [],true,[]⟩) ?_ ⟨m,W.map Qb2,rfl,rfl,m0,m8,by rw[Zg];exact hw1,Qqh (esc0.mono hw3) hw2 (by omega)⟩
  unfold Qa6
  refine(congrArg (λz=>Option.bind z _) (Qu (r:=⟨.int m,true,[]⟩) rfl (Qu er (Qu (r:=⟨.lst [],true,[]⟩) rfl (Q3 _))))).trans ?_
  show some _=some _
  congr 2
  unfold Qs QL
  rw[ZR]
  rfl
 obtain⟨o,h1,h2⟩:=key
 cases o with
 | rt d fr=>
  obtain⟨m,R,rfl,rfl,h3⟩:=h2
  exact⟨m,R,by unfold Qo;rw[h1];rfl,h3⟩
 | _=>exact h2.elim
noncomputable def Qf7(Qax:Den)(QN:Den)(Qan:Den):DS:=(Qe (Qt 2 (Qz 1 Qax [] (Qb (Qa 0) Qh))) (Qe (QcR (Qz 2 QN [] (Qb (Qa 2) (Qb (Qag (Qb (Qa 1) Qh)) Qh)))) (Qe (Q2 (Q5 (QaJ (Qz 1 Qan [] (Qb (Qa 2) Qh)) (Qa 1)) (.tp [1,2]) [none,none,none] Qab (dOp Qam (dOp Qam (Qa 1) (dC (.int 2))) (Qa 2)))) Qq)))
def Qdd(d:Den):Prop:=∀(m:Nat) (R:List (Int×Int)) (f:Nat->Int),m<=100->R.length<=1000->(∀s∈R,Good m s)->d [Qs m R [],Qc (m+1) f]=some (Qc (m+1) (QH (Qaw R) f),true)
theorem Qpy{dw dn ds:Den}(hw:Qfz dw)(hn:Qd0 dn)(hs:Qgv ds):Qdd (Qo 3 (Qf7 dw dn ds)):=λm R f hm hl hR=>by
 refine Qad ?_
 refine run_seq (Qj (Qin (r:=⟨[Qs m R []],false,[]⟩) rfl (hw m R) rfl) ?_)
 rw[QkQ rfl]
 refine run_seq (Qcz (Qx (r:=⟨[Qs ((m+1:Nat):Int) R [],.lst [Qc (m+1) f]],false,[]⟩) rfl (hn (m+1) R [] [f]) rfl) ?_)
 refine QE (r:=⟨Qc (m+1) (QH (Qaw R) f),true,[]⟩) (QQ (toD:=λ(j:Nat)=> .tup [.int (Qy R [] j),.int (f j)]) (out:=λ(j:Nat)=> .int (Qy R [] j-2-f j)) (List.range (m+1)) (QbU (m:=m+1) (f:=λj=> .int (Qy R [] j)) (g:=λj=> .int (f j)) (Qx (r:=⟨[Qs ((m+1:Nat):Int) R []],false,[]⟩) rfl (hs (m+1) R [] (by omega) (by simp;omega) (λs h=>Qjz (hR s h)) λs h=>by simp at h) rfl) rfl (rb:=⟨Qc (m+1) f,false,[]⟩) rfl rfl) rfl λj _=>⟨[none,some (.int (Qy R [] j),true),some (.int (f j),true)],rfl,⟨.int (Qy R [] j-2-f j),true,[]⟩,rfl,rfl,rfl⟩) ⟨rfl,rfl⟩
noncomputable def QdZ:DS:=(Qe (Qt 2 (Qap (Qag (Qb (dC (.int 0)) Qh)) (QO (Qr (Qa 0) (dC (.int 0))) (dC (.int 1))))) (Qe (Qbf (Qav (Qr (Qa 0) (dC (.int 1)))) (.tp [3,4]) (Qe (Qcp 2 Qal (Qa 3) (QO (Qr (Qa 2) (Qa 3)) (dC (.int 1)))) (Qe (Qcp 2 Qal (Qa 4) (QO (Qr (Qa 2) (Qa 4)) (dC (.int 1)))) Qq))) (Qe (Q2 (Q5 (QaJ (Qa 2) (Qa 1)) (.tp [1,2]) [none,none,none] Qab (dOp Qam (dOp Qam (Qa 1) (dC (.int 2))) (Qa 2)))) Qq)))
theorem Qm9:Qdd (Qo 5 QdZ):=λm R f0 hm hl hR=>by
 refine Qad ?_
 have it:∀{ρ:En},ρ[0]? =some (some (Qs m R [],false))->Qa 0 ρ=some ⟨Qs m R [],false,[]⟩:=λh=>QcE h
 refine run_seq (Qj (Qg0 (n:=m+1) (Q4 (a:=(m:Int)) (b:=1) (QbH (it rfl) rfl).1 rfl rfl rfl) rfl (by omega)) ?_)
 rw[Qn]
 refine QaA (P:=λρ=>∃j2 j3,ρ=[some (Qs m R [],false),some (Qc (m+1) f0,false),some (Qc (m+1) (Qy R []),true),j2,j3]) ?_ ?_
 ·refine Qat (toD:=pairD) R (λi ρ=>∃f j2 j3,(∀k,f k=((R.take i).map λr=>isI k r.1+isI k r.2).sum)/\ρ=[some (Qs m R [],false),some (Qc (m+1) f0,false),some (Qc (m+1) f,true),j2,j3]) (ir:=⟨R.map pairD,[]⟩) (QaE (QbH (it rfl) rfl).2.1 rfl) rfl ⟨λ_=>0,none,none,λk=>by simp,rfl⟩ ?_ ?_
  ·rintro i s ρ hi ⟨f,j2,j3,hf,rfl⟩
   obtain⟨h1,h2,h3,h4,h5⟩:=hR s (ZL hi)
   refine⟨_,rfl,?_⟩
   refine run_seq (Qn7 (i:=s.1) rfl rfl h1 (by omega) ?_)
   refine run_seq (Qn7 (i:=s.2) rfl rfl h2 (by omega) (Qv ⟨_,_,_,λk=>?_,rfl⟩))
   rw[QmX hi,← hf k]
   unfold isI
   simp only[Qdn]
   have n1:¬s.1.toNat=s.2.toNat:=by omega
   by_cases c1:k=s.1.toNat
   ·have c2:¬k=s.2.toNat:=by omega
    have c3:s.1=(k:Int):=by omega
    have c4:¬s.2=(k:Int):=by omega
    rw[if_neg c2,if_pos c1,if_pos c3,if_neg c4,c1];omega
   ·have c3:¬s.1=(k:Int):=by omega
    by_cases c2:k=s.2.toNat
    ·have c4:s.2=(k:Int):=by omega
     rw[if_pos c2,if_neg (λz=>n1 z.symm),if_neg c3,if_pos c4,c2];omega
    ·have c4:¬s.2=(k:Int):=by omega
     rw[if_neg c2,if_neg c1,if_neg c3,if_neg c4];omega
  ·rintro ρ ⟨f,j2,j3,hf,rfl⟩
   rw[ZbE]at hf
   have:f=Qy R []:=funext λk=>by rw[hf k];unfold Qy;simp
   subst this
   exact⟨j2,j3,rfl⟩
 rintro ρ ⟨j2,j3,rfl⟩
 refine QE (r:=⟨Qc (m+1) (QH (Qaw R) f0),true,[]⟩) (QQ (toD:=λ(j:Nat)=> .tup [.int (Qy R [] j),.int (f0 j)]) (out:=λ(j:Nat)=> .int (Qy R [] j-2-f0 j)) (List.range (m+1)) (QbU (m:=m+1) (f:=λj=> .int (Qy R [] j)) (g:=λj=> .int (f0 j)) (ra:=⟨Qc (m+1) (Qy R []),true,[2]⟩) rfl rfl (rb:=⟨Qc (m+1) f0,false,[]⟩) rfl rfl) rfl λj _=>⟨[none,some (.int (Qy R [] j),true),some (.int (f0 j),true)],rfl,⟨.int (Qy R [] j-2-f0 j),true,[]⟩,rfl,rfl,rfl⟩) ⟨rfl,rfl⟩
noncomputable def QeF(Qcf:Den):DS:=(Qe (Qt 2 (dList (Qb (Qa 1) Qh))) (Qe (Qt 3 (Qz 2 Qcf [] (Qb (Qa 0) (Qb (Qa 2) Qh)))) (Qe (sIf (bOr (Qd6 (QZ (Qgy "int" (Qa 3)))) (bOr (QZ (Qgy "bool" (Qa 3))) (bOr (QZ (dOp gLt (Qa 3) (Qh5 (dC (.int 1))))) (QZ (dOp gNe (Qa 2) (Qa 1)))))) (Qe (Q2 (dC .non)) Qq) Qq) (Qe (Q2 (Qa 3)) Qq))))
def Qh4(d:Den):Prop:=∀(m:Nat) (R:List (Int×Int)) (f:Nat->Int),0<m->m<=4->QY m R []->(∀j,j<m->(f j).natAbs<=2^189)->Qi (m+1) f<=6->∃w:Int,d [Qs m R [],Qc (m+1) f]=some (.int w,true)/\Qcn m R f w/\(w<=Qi (m+1) f∨w= -1)
theorem QpQ{dr:Den}(hr:Qj0 dr):Qh4 (Qo 4 (QeF dr)):=λm R f m0 m4 hw hb hs=>by
 obtain⟨w,ew,W,sw⟩:=hr m R f m0 m4 hw hb hs
 refine⟨w,Qad ?_,W,sw⟩
 refine run_seq (Qj (QcC (m:=m+1) (f:=f) (rs:=⟨[Qc (m+1) f],false,[]⟩) rfl rfl) ?_)
 rw[Qn]
 refine run_seq (Qj (Qx (r:=⟨[Qs m R [],Qc (m+1) f],false,[2]⟩) rfl ew rfl) ?_)
 rw[Qn]
 have w1:=W.1
 refine Qah (Qaq (b:=false) (QcB (a:=false) (b:=false) (Qet (b:=true) (Q1 (b:=true) rfl rfl)) (QcB (a:=false) (b:=false) (Q1 (b:=false) rfl rfl) (QcB (a:=false) (b:=false) (Q1 (QwJ (a:=w) (b:= -1) (ra:=⟨.int w,true,[]⟩) (rb:=⟨.int (-1),true,[]⟩) rfl rfl rfl rfl) (by simp;omega)) (Q1 (b:=false) (QmD (d:=Qc (m+1) f) (ra:=⟨Qc (m+1) f,true,[2]⟩) (rb:=⟨Qc (m+1) f,false,[]⟩) rfl rfl rfl rfl (QjB 7 _ _)) rfl)))) (λh=>by cases h) λ_=>Qv ?_)
 exact QE (r:=⟨.int w,true,[]⟩) rfl ⟨rfl,rfl⟩
noncomputable def QeZ:DS:=(Qe (Qt 2 (QaL (Qr (Qag (Qb (dC (.int 3)) (Qb (dOp Qex (dC (.int 10)) (dC (.int 15))) Qh))) (dOp Qbb (Qr (Qa 0) (dC (.int 10))) (dC (.int 2)))))) (Qe (Qt 3 (Q5 (Qbk (Qr (Qa 1) (dC (.int 0)))) (.nm 1) [none,none,some 0,some 2] Qab (dOp Qam (dOp Qbb (Qr (Qa 2) (QO (dC (.int 11)) (Qa 1))) (QO (Qap (dC (.int 2)) (Qa 3)) (dC (.int 1)))) (Qa 3)))) (Qe (Qt 4 (dOp Qam (Qap (dC (.int 2)) (dOp Qam (dBf QaS (Qb (Qr (Qa 1) (dC (.int 1))) Qh)) (Qr (Qa 1) (dC (.int 0))))) (dC (.int 2)))) (Qe (Qt 5 (dBf QeO (Qb (Qh5 (dC (.int 2))) (Qb (dOp Qam (Qa 4) (dC (.int 5))) Qh)))) (Qe (Q2 (QO (Qa 3) (Qag (Qb (dOp Qam (QO (Qa 5) (dOp Qbb (Qr (Qa 0) (dC (.int 15))) (dOp Qam (dC (.int 5)) (Qa 5)))) (dBf QeP (Qb (Qa 3) Qh))) Qh)))) Qq)))))
def Qip(d:Den):Prop:=∀(cs:List Int) (m:Nat) (R:List (Int×Int)),cs.length=57->m<=4->R.length<=m+4->∃f:Nat->Int,d [Qm cs,Qs m R []]=some (Qc (m+1) f,true)/\(∀j,j<m+1->(f j).natAbs<=10^17)/\Qi (m+1) f<=4/\2*((R.length:Int)-m)-2-Qi (m+1) f<=5
theorem QqN:Qip (Qo 6 QeZ):=λcs m R hl m4 hRl=>by
 have cell:∀k:Nat,k<57->∃c,cs[k]? =some c:=λk hk=>⟨cs[k]'(by omega),ZQ (by omega)⟩
 obtain⟨c0,e0⟩:=cell 10 (by decide)
 obtain⟨c15,e15⟩:=cell 15 (by decide)
 have b3:=ZH c0 (by decide:(2:Int)≠0)
 have b4:=ZC c0 (by decide:(0:Int)<2)
 have ep:∀ρ:En,dOp Qex (dC (.int 10)) (dC (.int 15)) ρ=some ⟨.int (10^15),true,[]⟩:=λρ=>Qok (a:=10) (k:=15) (by decide) (by decide)
 obtain⟨w,ew,w0,w1⟩:∃w:Int,[(3:Int),10^15][(c0 % 2).toNat]? =some w/\0<=w/\w<=10^15:=by
  have:c0 % 2=0∨c0 % 2=1:=by omega
  rcases this with h | h<;>rw[h]
  ·exact⟨3,rfl,by decide,by decide⟩
  ·exact⟨10^15,rfl,by decide,by decide⟩
 have el:∀ρ:En,Qag (Qb (dC (.int 3)) (Qb (dOp Qex (dC (.int 10)) (dC (.int 15))) Qh)) ρ=some ⟨.lst ([(3:Int),10^15].map .int),true,[]⟩:=λρ=>(QlE (Qu (r:=⟨.int 3,true,[]⟩) rfl (Qu (ep ρ) (Q3 _))) (ZbB rfl)).trans rfl
 have bf:∀k:Nat,(cs.getD (11+k) 0 % (2*w+1)-w).natAbs<=10^15:=λk=>by
  have o1:=ZH (cs.getD (11+k) 0) (by omega:2*w+1≠0)
  have o2:=ZC (cs.getD (11+k) 0) (by omega:0<2*w+1)
  omega
 generalize hf:(λk:Nat=>cs.getD (11+k) 0 % (2*w+1)-w)=f at bf
 have bf:∀k:Nat,(f k).natAbs<=10^15:=λk=>by rw[← hf];exact bf k
 generalize hlow:(if 2*((R.length:Int)-m)-2-5> -2 then 2*((R.length:Int)-m)-2-5 else-2)=low
 have low1: -2<=low/\low<=1/\2*((R.length:Int)-m)-2-5<=low:=by rw[← hlow];split<;>omega
 have o1:=ZH c15 (by omega:5-low≠0)
 have o2:=ZC c15 (by omega:0<5-low)
 have sb:=Qly (m:=m) (C:=10^15) (f:=f) λi hi=>by have:=bf i;omega
 have sb2:(m:Int)*10^15<=4*10^15:=ZZ (by omega) (by decide)
 have i0:∀{ρ:En},ρ[1]? =some (some (Qs m R [],false))->Qr (Qa 1) (dC (.int 0)) ρ=some ⟨.int m,true,[]⟩:=λh=>(QbH (m:=m) (R:=R) (L:=[]) (QcE h) rfl).1
 refine⟨up f m (low+c15 % (5-low)-Qi m f),Qad ?_,λj hj=>?_,?_,?_⟩
 ·refine run_seq (Qj (Qcs (Qbp (ns:=[3,10^15]) (i:=c0 % 2) (v:=w) (el _) rfl (QaY (a:=c0) (b:=2) (Qbp (ns:=cs) (i:=10) (v:=c0) (ra:=⟨Qm cs,false,[]⟩) (rb:=⟨.int 10,true,[]⟩) rfl rfl rfl rfl (by decide) e0) rfl rfl rfl (by decide)) rfl b3 ew)) ?_)
  rw[Qbw rfl]
  refine run_seq (Qj (r:=⟨Qc m f,true,[]⟩) (QQ (toD:=λ(k:Nat)=> .int (k:Int)) (out:=λ(k:Nat)=> .int (f k)) (List.range m) (QcA (n:=m) (i0 rfl) rfl (by omega)) rfl λk hk=>⟨[none,some (.int k,true),some (Qm cs,false),some (.int w,true)],rfl,⟨.int (f k),true,[]⟩,?_,rfl,rfl⟩) ?_)
  ·have hk:=Zl.mp hk
   obtain⟨c,ec⟩:=cell (11+k) (by omega)
   have eg:cs.getD (11+k) 0=c:=by rw[Zae,ec];rfl
   have e21:((11:Int)+(k:Int)).toNat=11+k:=by omega
   rw[← hf]
   show _=some (HS.R.mk (.int (cs.getD (11+k) 0 % (2*w+1)-w)) true [])
   rw[eg]
   exact Qb6 (a:=c % (2*w+1)) (b:=w) (QaY (a:=c) (b:=2*w+1) (Qbp (ns:=cs) (i:=11+k) (v:=c) (ra:=⟨Qm cs,false,[]⟩) rfl rfl (Q4 (a:=11) (b:=k) (ra:=⟨.int 11,true,[]⟩) (rb:=⟨.int k,true,[]⟩) rfl rfl rfl rfl) rfl (by omega) (by rw[e21];exact ec)) rfl (Q4 (a:=2*w) (b:=1) (QaD (a:=2) (b:=w) (ra:=⟨.int 2,true,[]⟩) (rb:=⟨.int w,true,[]⟩) rfl rfl rfl rfl (Qcb (by decide))) rfl rfl rfl) rfl (by omega)) rfl (rb:=⟨.int w,true,[]⟩) rfl rfl
  rw[Qn]
  have elen:∀{ρ:En},ρ[1]? =some (some (Qs m R [],false))->dBf QaS (Qb (Qr (Qa 1) (dC (.int 1))) Qh) ρ=some ⟨.int R.length,true,[]⟩:=λ{ρ} h=>by
   rw[Qct (xs:=R.map pairD) (QbH (m:=m) (R:=R) (L:=[]) (QcE h) rfl).2.1 rfl,Zg]
  refine run_seq (Qj (Qb6 (a:=2*((R.length:Int)-m)) (b:=2) (QaD (a:=2) (b:=(R.length:Int)-m) (ra:=⟨.int 2,true,[]⟩) rfl rfl (Qb6 (a:=(R.length:Int)) (b:=m) (elen rfl) rfl (i0 rfl) rfl) rfl (Qcb (by decide))) rfl rfl rfl) ?_)
  rw[Qn]
  refine run_seq (Qj (r:=⟨.int low,true,[]⟩) ((Qmd (a:= -2) (b:=2*((R.length:Int)-m)-2-5) (ra:=⟨.int (-2),true,[]⟩) rfl rfl (Qb6 (a:=2*((R.length:Int)-m)-2) (b:=5) (ra:=⟨.int (2*((R.length:Int)-m)-2),true,[]⟩) rfl rfl rfl rfl) rfl).trans (by rw[hlow])) ?_)
  rw[Qn]
  refine QE (Qio (m:=m) (f:=f) (x:=low+c15 % (5-low)-Qi m f) (ra:=⟨Qc m f,true,[3]⟩) rfl rfl (Qb6 (a:=low+c15 % (5-low)) (b:=Qi m f) (Q4 (a:=low) (b:=c15 % (5-low)) (ra:=⟨.int low,true,[]⟩) rfl rfl (QaY (a:=c15) (b:=5-low) (Qbp (ns:=cs) (i:=15) (v:=c15) (ra:=⟨Qm cs,false,[]⟩) (rb:=⟨.int 15,true,[]⟩) rfl rfl rfl rfl (by decide) e15) rfl (Qb6 (a:=5) (b:=low) (ra:=⟨.int 5,true,[]⟩) (rb:=⟨.int low,true,[]⟩) rfl rfl rfl rfl) rfl (by omega)) rfl) rfl (Qjr (r:=⟨Qc m f,true,[3]⟩) rfl rfl) rfl) (by omega)) ⟨rfl,rfl⟩
 ·unfold up
  split
  ·omega
  ·have:=bf j;omega
 ·rw[QT,Qp (g:=f) λi hi=>by unfold up;rw[if_neg (by omega)]]
  unfold up
  rw[if_pos rfl]
  omega
 ·rw[QT,Qp (g:=f) λi hi=>by unfold up;rw[if_neg (by omega)]]
  unfold up
  rw[if_pos rfl]
  omega
theorem Qvj{dl:Den}(hl:Qhm dl){m:Nat}{R:List (Int×Int)}(m0:0<m)(m8:m<=8)(hw:QY m R []):Qg5 m R:=λf hf=>let ⟨g,_,_,l⟩:=QiP hl m0 m8 hw hf;⟨g,l⟩
noncomputable def Qkv(QbQ:Den)(QcQ:Den)(Qb8:Den)(QbG:Den)(QaB:Den)(Qa5:Den)(QaF:Den)(Qcv:Den)(Qbe:Den):DS:=(Qe (Qt 1 (Qz 2 QbQ [] (Qb (Qa 0) (Qb (dC (.int 57)) Qh)))) (Qe (Qt 2 (Qz 1 QcQ [] (Qb (Qa 1) Qh))) (Qe (Qt 3 (Qz 2 Qb8 [] (Qb (Qa 1) (Qb (Qa 2) Qh)))) (Qe (Qt 3 (Qz 3 QaB [] (Qb (Qa 2) (Qb (Qa 3) (Qb (Qz 3 QbG [] (Qb (Qiv (Qa 1) (Qdr (dC (.int 17))) (Qdr (QO (dC (.int 17)) (dOp Qbb (Qr (Qa 1) (dC (.int 16))) (dC (.int 41)))))) (Qb (Qr (Qa 2) (dC (.int 0))) (Qb (dOp Qex (dC (.int 10)) (dC (.int 12))) Qh)))) Qh))))) (Qe (Qt 4 (dList (Qb (Qa 3) Qh))) (Qe (Qt 5 (Qz 2 Qa5 [] (Qb (Qa 2) (Qb (Qa 4) Qh)))) (Qe (sIf (bOr (Qd6 (QZ (Qz 2 Qcv [] (Qb (Qa 5) (Qb (Qz 2 QaF [] (Qb (Qa 2) (Qb (Qa 3) Qh))) Qh))))) (QZ (dOp gNe (Qa 4) (Qa 3)))) (Qe (Q2 (dC (.bl false))) Qq) Qq) (Qe (Qt 6 (dList (Qb (Qa 5) Qh))) (Qe (sIf (bOr (Qd6 (QZ (Qz 2 Qcv [] (Qb (Qz 2 Qa5 [] (Qb (Qa 2) (Qb (dList (Qb (Qa 5) Qh)) Qh))) (Qb (Qa 3) Qh))))) (QZ (dOp gNe (Qa 5) (Qa 6)))) (Qe (Q2 (dC (.bl false))) Qq) Qq) (Qe (Qt 7 (Qz 2 Qbe [] (Qb (Qa 2) (Qb (Qa 3) Qh)))) (Qe (Qt 8 (Qz 2 Qbe [] (Qb (Qa 2) (Qb (Qa 6) Qh)))) (Qe (sIf (bOr (QZ (dOp (Qfg false) (Qa 7) (dC .non))) (QZ (dOp (Qfg false) (Qa 8) (dC .non)))) (Qe (Q2 (dC (.bl false))) Qq) Qq) (Qe (Q2 (dOp gEq (dOp Qam (Qa 7) (Qa 8)) (dOp Qam (QO (QO (dBf QeP (Qb (Qa 3) Qh)) (Qr (Qa 2) (dC (.int 0)))) (dC (.int 1))) (dBf QaS (Qb (Qr (Qa 2) (dC (.int 1))) Qh))))) Qq)))))))))))))
theorem Qxx{dcl dn df dm db dc dlc di dw:Den}(hcl:CellsOk dcl)(hn:Qj2 dn)(hf:Qip df)(hm:QgU dm)(hb:Qju db)(hc:Qdd dc)(hlc:Qdd dlc)(hi:Qji di)(hw':Qh4 dw)(ex':∀m R,0<m->m<=4->QY m R []->Qg5 m R)(ns:List Int)(hns:ns.length<=63):Qo 9 (Qkv dcl dn df dm db dc dlc di dw) [.lst (ns.map .int)]=some (.bl true,true):=by
 obtain⟨cs,ecs,lcs,bcs⟩:=hcl ns 57 hns (by decide)
 obtain⟨m,R,en,m0,m4,hRl,hw⟩:=hn cs lcs bcs
 have hR:=hw.good.1
 obtain⟨f,ef,bf,sf,sf2⟩:=hf cs m R lcs m4 hRl
 obtain⟨c16,e16⟩:∃c,cs[16]? =some c:=⟨cs[16]'(by omega),ZQ (by omega)⟩
 have d1:=ZH c16 (by decide:(41:Int)≠0)
 have d2:=ZC c16 (by decide:(0:Int)<41)
 obtain⟨q,eq⟩:∃q:Nat,(q:Int)=17+c16 % 41:=⟨(17+c16 % 41).toNat,by omega⟩
 have eh:QO (dC (.int 17)) (dOp Qbb (Qr (Qa 1) (dC (.int 16))) (dC (.int 41))) [some (.lst (ns.map .int),false),some (Qm cs,true),some (Qs m R [],true),some (Qc (m+1) f,true),none,none,none,none,none]=some ⟨.int q,true,[]⟩:=by
  rw[eq]
  exact Q4 (a:=17) rfl rfl (QaY (a:=c16) (b:=41) (Qbp (ns:=cs) (i:=16) (v:=c16) (ra:=⟨Qm cs,true,[1]⟩) (rb:=⟨.int 16,true,[]⟩) rfl rfl rfl rfl (by decide) e16) rfl rfl rfl (by decide)) rfl
 have esl:=Qjw (cs:=cs) (a:=17) (b:=q) (fa:=Qa 1) (fl:=dC (.int 17)) (ρ:=[some (.lst (ns.map .int),false),some (Qm cs,true),some (Qs m R [],true),some (Qc (m+1) f,true),none,none,none,none,none]) (ra:=⟨Qm cs,true,[1]⟩) rfl rfl rfl rfl eh rfl
 generalize efu:(cs.drop (min 17 cs.length)).take (min q cs.length-min 17 cs.length)=fu at esl
 have lfu:fu.length<=63:=by rw[← efu,Zau,ZaC];omega
 obtain⟨c,ec,bc⟩:=hm fu m (by omega) lfu
 have eo:=hb m R f c (by omega) hR
 have bo:∀j,j<m+1->(Af m R f c j).natAbs<=10^17+800*(63*10^12):=λj hj=>Qu6 hR hw.good.2.2.1 bf (λj _=>bc j) hj
 have so:Qi (m+1) (Af m R f c)=Qi (m+1) f:=Qop hR f c
 change db _=some (Qc (m+1) (Af m R f c),true)at eo
 generalize Af m R f c=o at *
 have spb:∀j,j<m+1->0<=Qy R [] j/\Qy R [] j<=16:=λj _=>by
  have e:Qy R [] j=(R.map λr=>isI j r.1+isI j r.2).sum:=by unfold Qy;simp
  have h1:=QfU (g:=λr:Int×Int=>isI j r.1+isI j r.2) (X:=2) R λs _=>by unfold isI;split<;>split<;>omega
  have h2:0<=(R.map λr=>isI j r.1+isI j r.2).sum:=QcN R λs _=>by unfold isI;split<;>split<;>omega
  rw[e]
  omega
 have bk:∀j,j<m+1->(QH (Qaw R) o j).natAbs<=10^17+800*(63*10^12)+20:=λj hj=>by
  have h1:=spb j hj
  have h2:=bo j hj
  show(Qy R [] j-2-o j).natAbs<=_
  omega
 have sk:Qi (m+1) (QH (Qaw R) o)=2*R.length-2*(m+1)-Qi (m+1) o:=by
  rw[← QnJ hR,Zbu,← Qaz,← QJ]
  exact Qp λj _=>by show Qaw R j-o j=Qaw R j+ -o j;omega
 have big:10^17+800*(63*10^12)+20<=2^189:=by decide
 have hbo:∀j,j<m->(o j).natAbs<=2^189:=λj hj=>Zx (bo j (by omega)) (Zx (Zcb _ 20) big)
 have hbk:∀j,j<m->(QH (Qaw R) o j).natAbs<=2^189:=λj hj=>Zx (bk j (by omega)) big
 obtain⟨w,ew,W,sw⟩:=hw' m R o m0 m4 hw hbo (by omega)
 obtain⟨w',ew',W',sw'⟩:=hw' m R (QH (Qaw R) o) m0 m4 hw hbk (by omega)
 have fin:=QqV hw (ex' m R m0 m4 hw) hbo hbk (by omega) (by omega) W W'
 have ek:=hc m R o (by omega) (by omega) hR
 have ek':=hlc m R o (by omega) (by omega) hR
 have ekk:=hc m R (QH (Qaw R) o) (by omega) (by omega) hR
 rw[show QH (Qaw R) (QH (Qaw R) o)=o from by funext j;show Qaw R j-(Qaw R j-o j)=o j;omega]at ekk
 clear W W' hbo hbk bk bo sk spb
 generalize QH (Qaw R) o=p at *
 have it:∀{ρ:En}{b:Bool},ρ[2]? =some (some (Qs m R [],b))->Qr (Qa 2) (dC (.int 0)) ρ=some ⟨.int m,true,[]⟩:=λ{ρ b} h=>(QbH (m:=m) (R:=R) (L:=[]) (QcE h) (by cases b<;>rfl)).1
 refine Qad ?_
 refine run_seq (Qj (Qx (Qu (r:=⟨.lst (ns.map .int),false,[]⟩) rfl (Qu (r:=⟨.int 57,true,[]⟩) rfl (Q3 _))) ecs rfl) ?_)
 rw[Qn]
 refine run_seq (Qj (Qx (r:=⟨[Qm cs],true,[1]⟩) rfl en rfl) ?_)
 rw[Qn]
 refine run_seq (Qj (Qx (r:=⟨[Qm cs,Qs m R []],true,[1,2]⟩) rfl ef rfl) ?_)
 rw[Qn]
 refine run_seq (Qj (Qx (Qu (r:=⟨Qs m R [],true,[2]⟩) rfl (Qu (r:=⟨Qc (m+1) f,true,[3]⟩) rfl (Qu (Qx (Qu esl (Qu (it rfl) (Qu (Qok (a:=10) (k:=12) (by decide) (by decide)) (Q3 _)))) ec rfl) (Q3 _)))) eo rfl) ?_)
 rw[Qn]
 refine run_seq (Qj (QcC (m:=m+1) (f:=o) (rs:=⟨[Qc (m+1) o],true,[3]⟩) rfl rfl) ?_)
 rw[Qn]
 refine run_seq (Qj (Qx (r:=⟨[Qs m R [],Qc (m+1) o],true,[2,4]⟩) rfl ek rfl) ?_)
 rw[Qn]
 change Nx _ (.nx [some (.lst (ns.map .int),false),some (Qm cs,true),some (Qs m R [],true),some (Qc (m+1) o,true),some (Qc (m+1) o,true),some (Qc (m+1) p,true),none,none,none])
 refine Qah (Qaq (b:=false) (QcB (a:=false) (b:=false) (Qet (b:=true) (Q1 (b:=true) (Qx (Qu (r:=⟨Qc (m+1) p,true,[5]⟩) rfl (Qu (Qx (r:=⟨[Qs m R [],Qc (m+1) o],true,[2,3]⟩) rfl ek' rfl) (Q3 _))) (Qlw hi (m+1) p) rfl) rfl)) (Q1 (b:=false) (QmD (d:=Qc (m+1) o) (ra:=⟨Qc (m+1) o,true,[4]⟩) (rb:=⟨Qc (m+1) o,true,[3]⟩) rfl rfl rfl rfl (QjB 7 _ _)) rfl)) (λh=>by cases h) λ_=>Qv ?_)
 refine run_seq (Qj (QcC (m:=m+1) (f:=p) (rs:=⟨[Qc (m+1) p],true,[5]⟩) rfl rfl) ?_)
 rw[Qn]
 change Nx _ (.nx [some (.lst (ns.map .int),false),some (Qm cs,true),some (Qs m R [],true),some (Qc (m+1) o,true),some (Qc (m+1) o,true),some (Qc (m+1) p,true),some (Qc (m+1) p,true),none,none])
 refine Qah (Qaq (b:=false) (QcB (a:=false) (b:=false) (Qet (b:=true) (Q1 (b:=true) (Qx (Qu (Qx (Qu (r:=⟨Qs m R [],true,[2]⟩) rfl (Qu (QcC (m:=m+1) (f:=p) (rs:=⟨[Qc (m+1) p],true,[5]⟩) rfl rfl) (Q3 _))) ekk rfl) (Qu (r:=⟨Qc (m+1) o,true,[3]⟩) rfl (Q3 _))) (Qlw hi (m+1) o) rfl) rfl)) (Q1 (b:=false) (QmD (d:=Qc (m+1) p) (ra:=⟨Qc (m+1) p,true,[5]⟩) (rb:=⟨Qc (m+1) p,true,[6]⟩) rfl rfl rfl rfl (QjB 7 _ _)) rfl)) (λh=>by cases h) λ_=>Qv ?_)
 refine run_seq (Qj (Qx (r:=⟨[Qs m R [],Qc (m+1) o],true,[2,3]⟩) rfl ew rfl) ?_)
 rw[Qn]
 refine run_seq (Qj (Qx (r:=⟨[Qs m R [],Qc (m+1) p],true,[2,6]⟩) rfl ew' rfl) ?_)
 rw[Qn]
 change Nx _ (.nx [some (.lst (ns.map .int),false),some (Qm cs,true),some (Qs m R [],true),some (Qc (m+1) o,true),some (Qc (m+1) o,true),some (Qc (m+1) p,true),some (Qc (m+1) p,true),some (.int w,true),some (.int w',true)])
 refine Qah (Qaq (b:=false) (QcB (a:=false) (b:=false) (Q1 (b:=false) (r:=⟨.bl false,true,[]⟩) rfl rfl) (Q1 (b:=false) (r:=⟨.bl false,true,[]⟩) rfl rfl)) (λh=>by cases h) λ_=>Qv ?_)
 have elen:dBf QaS (Qb (Qr (Qa 2) (dC (.int 1))) Qh) [some (.lst (ns.map .int),false),some (Qm cs,true),some (Qs m R [],true),some (Qc (m+1) o,true),some (Qc (m+1) o,true),some (Qc (m+1) p,true),some (Qc (m+1) p,true),some (.int w,true),some (.int w',true)]=some ⟨.int R.length,true,[]⟩:=by
  rw[Qct (xs:=R.map pairD) (QbH (m:=m) (R:=R) (L:=[]) (r:=⟨Qs m R [],true,[2]⟩) rfl rfl).2.1 rfl,Zg]
 refine QE (QgR (a:=w-w') (b:=Qi (m+1) o+m+1-R.length) (Qb6 (a:=w) (b:=w') (ra:=⟨.int w,true,[]⟩) (rb:=⟨.int w',true,[]⟩) rfl rfl rfl rfl) rfl (Qb6 (a:=Qi (m+1) o+m+1) (b:=(R.length:Int)) (Q4 (a:=Qi (m+1) o+m) (b:=1) (Q4 (a:=Qi (m+1) o) (b:=(m:Int)) (Qjr (r:=⟨Qc (m+1) o,true,[3]⟩) rfl rfl) rfl (it rfl) rfl) rfl rfl rfl) rfl elen rfl) rfl) ⟨?_,rfl⟩
 show D.bl (decide _)=_
 rw[decide_eq_true (by omega)]
end HS
theorem HS.some_of{α:Type}{x:Option α}{d:α}(h:x.isSome=true):x=some (x.getD d):=by cases x with | none=>cases h | some a=>rfl
namespace Law
open PySem L2 HS
noncomputable section
def top(i:Nat):Stmt:=PySem.Challenge.pw_heapstill_k65_whole_two_sides.main.body.getD i (.Pass ⟨0,0,0,0⟩)
abbrev cst:List (Str×Int):=[("MOST_PLACES",4),("MOST_GRAINS",6)]
abbrev Sc(s:Stmt)(P:List Str):Prop:=QcY (namesOf (QA s)) P (QA s)
theorem scM{s:Stmt}{P:List Str}(h1:(QA s).kind= .function)(h2:(QA s).isCoroutine=false)(h3:(QA s).isGenerator=false)(h4:(namesOf (QA s)).Nodup/\(namesOf (QA s)).take P.length=P/\(∀x∈P,(QA s).names.lookup x=some .local ∨(QA s).names.lookup x=some .cell)/\∀y∈(QA s).names,y.2≠ .free):Sc s P:=⟨h1,h2,h3,h4.1,h4.2.1,h4.2.2.1,h4.2.2.2⟩
noncomputable abbrev Cp(s:Stmt)(Γ:List (Str×FnR)):Option DS:=Qbh 60 (QjK s Γ cst) (QbW s)
noncomputable abbrev Dn(s:Stmt)(g:DS):Den:=Qo (namesOf (QA s)).length g
noncomputable abbrev Gc(x:Str)(n:Nat)(d:Den)(Γ:List (Str×FnR)):List (Str×FnR):=(x,⟨n,[],d⟩)::Γ
abbrev Qci:=top 8
theorem Ql9:Sc Qci ["net","rows"]:=scM rfl rfl rfl (by decide+kernel)
theorem QnB:QB "need_rows" Qci ["net","rows"]:=λ_ _ _ _ _ _=>lc λ_=>lc λ_=>l0 rfl
def QhO:=(Cp Qci []).getD QG
theorem Qm6:Cp Qci []=some QhO:=some_of (by decide+kernel)
abbrev QN:=Dn Qci QhO
abbrev Qfh:=Gc "need_rows" 2 QN []
abbrev QbM:=top 9
theorem QkR:Sc QbM ["net","heaps"]:=scM rfl rfl rfl (by decide+kernel)
theorem QlN:QB "need_heaps" QbM ["net","heaps"]:=λ_ _ _ _ _ _=>lc λ_=>lc λ_=>l0 rfl
def Qge:=(Cp QbM Qfh).getD QG
theorem QlG:Cp QbM Qfh=some Qge:=some_of (by decide+kernel)
abbrev QbK:=Dn QbM Qge
abbrev Qez:=Gc "need_heaps" 2 QbK Qfh
abbrev Qek:=top 11
theorem Qru:Sc Qek ["roads","lanes"]:=scM rfl rfl rfl (by decide+kernel)
theorem Qu9:QB "steps" Qek ["roads","lanes"]:=λ_ _ _ _ _ _=>lc λ_=>lc λ_=>l0 rfl
def Qn3:=(Cp Qek Qez).getD QG
theorem QvF:Cp Qek Qez=some Qn3:=some_of (by decide+kernel)
abbrev Qdf:=Dn Qek Qn3
abbrev Qjt:=Gc "steps" 2 Qdf Qez
abbrev QbN:=top 12
theorem QkV:Sc QbN ["net"]:=scM rfl rfl rfl (by decide+kernel)
theorem Qmu:QB "toll_table" QbN ["net"]:=λ_ _ _ _ _ _=>lc λ_=>l0 rfl
def Qgj:=(Cp QbN Qjt).getD QG
theorem QlD:Cp QbN Qjt=some Qgj:=some_of (by decide+kernel)
abbrev Q7:=Dn QbN Qgj
abbrev Qey:=Gc "toll_table" 1 Q7 Qjt
abbrev Qcj:=top 13
theorem QmB:Sc Qcj ["net"]:=scM rfl rfl rfl (by decide+kernel)
theorem QnA:QB "span_list" Qcj ["net"]:=λ_ _ _ _ _ _=>lc λ_=>l0 rfl
def QhM:=(Cp Qcj Qey).getD QG
theorem Qnl:Cp Qcj Qey=some QhM:=some_of (by decide+kernel)
abbrev Qan:=Dn Qcj QhM
abbrev Qfa:=Gc "span_list" 1 Qan Qey
abbrev Qei:=top 14
theorem Qtp:Sc Qei ["net","row","counts"]:=scM rfl rfl rfl (by decide+kernel)
theorem QtR:QB "after" Qei ["net","row","counts"]:=λ_ _ _ _ _ _=>lc λ_=>lc λ_=>lc λ_=>l0 rfl
def Qn0:=(Cp Qei Qfa).getD QG
theorem Qt4:Cp Qei Qfa=some Qn0:=some_of (by decide+kernel)
abbrev QcK:=Dn Qei Qn0
abbrev Qke:=Gc "after" 3 QcK Qfa
abbrev QcZ:=top 16
theorem Qnn:Sc QcZ ["net"]:=scM rfl rfl rfl (by decide+kernel)
theorem Qpf:QB "is_plain" QcZ ["net"]:=λ_ _ _ _ _ _=>lc λ_=>l0 rfl
def Qjp:=(Cp QcZ Qke).getD QG
theorem Qpp:Cp QcZ Qke=some Qjp:=some_of (by decide+kernel)
abbrev QcP:=Dn QcZ Qjp
abbrev Qf4:=Gc "is_plain" 1 QcP Qke
abbrev QbF:=top 17
theorem Qk1:Sc QbF ["net"]:=scM rfl rfl rfl (by decide+kernel)
theorem QmL:QB "need_plain" QbF ["net"]:=λ_ _ _ _ _ _=>lc λ_=>l0 rfl
def QgC:=(Cp QbF Qf4).getD QG
theorem QlB:Cp QbF Qf4=some QgC:=some_of (by decide+kernel)
abbrev QbO:=Dn QbF QgC
abbrev Qew:=Gc "need_plain" 1 QbO Qf4
abbrev QdR:=top 19
theorem QqH:Sc QdR ["table","at"]:=scM rfl rfl rfl (by decide+kernel)
theorem QsV:QB "column" QdR ["table","at"]:=λ_ _ _ _ _ _=>lc λ_=>lc λ_=>l0 rfl
def Qme:=(Cp QdR Qew).getD QG
theorem Qsa:Cp QdR Qew=some Qme:=some_of (by decide+kernel)
abbrev QbX:=Dn QdR Qme
abbrev Qis:=Gc "column" 2 QbX Qew
abbrev QdG:=top 20
theorem QpU:Sc QdG ["table"]:=scM rfl rfl rfl (by decide+kernel)
theorem Qsf:QB "turned" QdG ["table"]:=λ_ _ _ _ _ _=>lc λ_=>l0 rfl
def Qmb:=(Cp QdG Qis).getD QG
theorem Qr9:Cp QdG Qis=some Qmb:=some_of (by decide+kernel)
abbrev QdM:=Dn QdG Qmb
abbrev Qiz:=Gc "turned" 1 QdM Qis
abbrev QcW:=top 21
theorem Qns:Sc QcW ["line"]:=scM rfl rfl rfl (by decide+kernel)
theorem Qo1:QB "opposite" QcW ["line"]:=λ_ _ _ _ _ _=>lc λ_=>l0 rfl
def Qi8:=(Cp QcW Qiz).getD QG
theorem QoA:Cp QcW Qiz=some Qi8:=some_of (by decide+kernel)
abbrev Qao:=Dn QcW Qi8
abbrev QfM:=Gc "opposite" 1 Qao Qiz
abbrev QdI:=top 22
theorem QpT:Sc QdI ["numbers"]:=scM rfl rfl rfl (by decide+kernel)
theorem Qtr:QB "common" QdI ["numbers"]:=λ_ _ _ _ _ _=>lc λ_=>l0 rfl
def QlK:=(Cp QdI QfM).getD QG
theorem Qr3:Cp QdI QfM=some QlK:=some_of (by decide+kernel)
abbrev QdN:=Dn QdI QlK
abbrev Qh0:=Gc "common" 1 QdN QfM
abbrev QbR:=top 24
theorem QkZ:Sc QbR ["lines","at"]:=scM rfl rfl rfl (by decide+kernel)
theorem Qmp:QB "with_pivot" QbR ["lines","at"]:=λ_ _ _ _ _ _=>lc λ_=>lc λ_=>l0 rfl
def Qg6:=(Cp QbR Qh0).getD QG
theorem Qml:Cp QbR Qh0=some Qg6:=some_of (by decide+kernel)
abbrev QbE:=Dn QbR Qg6
abbrev QeB:=Gc "with_pivot" 2 QbE Qh0
abbrev Qch:=top 25
theorem Qmf:Sc Qch ["line","pivot_line","at","before"]:=scM rfl rfl rfl (by decide+kernel)
theorem Qnu:QB "taken_off" Qch ["line","pivot_line","at","before"]:=λ_ _ _ _ _ _=>lc λ_=>lc λ_=>lc λ_=>lc λ_=>l0 rfl
def QhP:=(Cp Qch QeB).getD QG
theorem Qnx:Cp Qch QeB=some QhP:=some_of (by decide+kernel)
abbrev Qca:=Dn Qch QhP
abbrev Qfi:=Gc "taken_off" 4 Qca QeB
abbrev Qdk:=top 23
theorem Qpd:Sc Qdk ["lines"]:=scM rfl rfl rfl (by decide+kernel)
theorem Qqn:QB "cleared" Qdk ["lines"]:=λ_ _ _ _ _ _=>lc λ_=>l0 rfl
def QkJ:=(Cp Qdk Qfi).getD QG
theorem QqZ:Cp Qdk Qfi=some QkJ:=some_of (by decide+kernel)
abbrev Qde:=Dn Qdk QkJ
abbrev QgI:=Gc "cleared" 1 Qde Qfi
abbrev Qa2:=top 26
theorem QhW:Sc Qa2 ["lines"]:=scM rfl rfl rfl (by decide+kernel)
theorem Qjg:QB "cleared_whole" Qa2 ["lines"]:=λ_ _ _ _ _ _=>lc λ_=>l0 rfl
def QeT:=(Cp Qa2 QgI).getD QG
theorem Qi2:Cp Qa2 QgI=some QeT:=some_of (by decide+kernel)
abbrev Qa1:=Dn Qa2 QeT
abbrev Qds:=Gc "cleared_whole" 1 Qa1 QgI
abbrev QbP:=top 27
theorem Qk4:Sc QbP ["table","row"]:=scM rfl rfl rfl (by decide+kernel)
theorem QmR:QB "shared_out" QbP ["table","row"]:=λ_ _ _ _ _ _=>lc λ_=>lc λ_=>l0 rfl
def Qgx:=(Cp QbP Qds).getD QG
theorem Qmc:Cp QbP Qds=some Qgx:=some_of (by decide+kernel)
abbrev QbL:=Dn QbP Qgx
abbrev Qev:=Gc "shared_out" 2 QbL Qds
abbrev Qb7:=top 29
theorem QlM:Sc Qb7 ["net"]:=scM rfl rfl rfl (by decide+kernel)
theorem Qnb:QB "net_table" Qb7 ["net"]:=λ_ _ _ _ _ _=>lc λ_=>l0 rfl
def QhQ:=(Cp Qb7 Qev).getD QG
theorem Qnw:Cp Qb7 Qev=some QhQ:=some_of (by decide+kernel)
abbrev Qb9:=Dn Qb7 QhQ
abbrev Qe4:=Gc "net_table" 1 Qb9 Qev
abbrev Qdg:=top 32
theorem Qpr:Sc Qdg ["tolls","heap","counts"]:=scM rfl rfl rfl (by decide+kernel)
theorem QpO:QB "settled" Qdg ["tolls","heap","counts"]:=λ_ _ _ _ _ _=>lc λ_=>lc λ_=>lc λ_=>l0 rfl
def QkB:=(Cp Qdg Qe4).getD QG
theorem Qrn:Cp Qdg Qe4=some QkB:=some_of (by decide+kernel)
abbrev Qdh:=Dn Qdg QkB
abbrev Qg3:=Gc "settled" 3 Qdh Qe4
abbrev Qel:=top 31
theorem Qsp:Sc Qel ["net","heap"]:=scM rfl rfl rfl (by decide+kernel)
theorem Qvd:QB "still" Qel ["net","heap"]:=λ_ _ _ _ _ _=>lc λ_=>lc λ_=>l0 rfl
def QnY:=(Cp Qel Qg3).getD QG
theorem Qvc:Cp Qel Qg3=some QnY:=some_of (by decide+kernel)
abbrev QdF:=Dn Qel QnY
abbrev Qjy:=Gc "still" 2 QdF Qg3
abbrev Qbo:=top 35
theorem QjG:Sc Qbo ["net","row"]:=scM rfl rfl rfl (by decide+kernel)
theorem Qk6:QB "near_counts" Qbo ["net","row"]:=λ_ _ _ _ _ _=>lc λ_=>lc λ_=>l0 rfl
def Qf6:=(Cp Qbo Qjy).getD QG
theorem QkU:Cp Qbo Qjy=some Qf6:=some_of (by decide+kernel)
abbrev Qbm:=Dn Qbo Qf6
abbrev Qd7:=Gc "near_counts" 2 Qbm Qjy
abbrev Qa0:=top 36
theorem Qh3:Sc Qa0 ["net"]:=scM rfl rfl rfl (by decide+kernel)
theorem Qi5:QB "doubled_spans" Qa0 ["net"]:=λ_ _ _ _ _ _=>lc λ_=>l0 rfl
def QeQ:=(Cp Qa0 Qd7).getD QG
theorem Qjd:Cp Qa0 Qd7=some QeQ:=some_of (by decide+kernel)
abbrev QaO:=Dn Qa0 QeQ
abbrev Qdm:=Gc "doubled_spans" 1 QaO Qd7
abbrev s_again:=top 34
theorem Qs9:Sc s_again ["net","row"]:=scM rfl rfl rfl (by decide+kernel)
theorem Qt6:QB "again" s_again ["net","row"]:=λ_ _ _ _ _ _=>lc λ_=>lc λ_=>l0 rfl
def QnU:=(Cp s_again Qdm).getD QG
theorem QvC:Cp s_again Qdm=some QnU:=some_of (by decide+kernel)
abbrev Qer:=Dn s_again QnU
abbrev QjL:=Gc "again" 2 Qer Qdm
abbrev QcL:=top 38
theorem Qnk:Sc QcL ["net"]:=scM rfl rfl rfl (by decide+kernel)
theorem Qpx:QB "with_pit" QcL ["net"]:=λ_ _ _ _ _ _=>lc λ_=>l0 rfl
def QiR:=(Cp QcL QjL).getD QG
theorem QoL:Cp QcL QjL=some QiR:=some_of (by decide+kernel)
abbrev Qax:=Dn QcL QiR
abbrev QfZ:=Gc "with_pit" 1 Qax QjL
abbrev QdO:=top 39
theorem QqC:Sc QdO ["net","full"]:=scM rfl rfl rfl (by decide+kernel)
theorem QsB:QB "lowest" QdO ["net","full"]:=λ_ _ _ _ _ _=>lc λ_=>lc λ_=>l0 rfl
def QlW:=(Cp QdO QfZ).getD QG
theorem Qr0:Cp QdO QfZ=some QlW:=some_of (by decide+kernel)
abbrev Qb0:=Dn QdO QlW
abbrev QiA:=Gc "lowest" 2 Qb0 QfZ
abbrev QcM:=top 44
theorem Qne:Sc QcM ["net","forms"]:=scM rfl rfl rfl (by decide+kernel)
theorem Qo4:QB "one_less" QcM ["net","forms"]:=λ_ _ _ _ _ _=>lc λ_=>lc λ_=>l0 rfl
def QiX:=(Cp QcM QiA).getD QG
theorem Qpt:Cp QcM QiA=some QiX:=some_of (by decide+kernel)
abbrev QcS:=Dn QcM QiX
abbrev QfT:=Gc "one_less" 2 QcS QiA
abbrev Qcd:=top 43
theorem Ql4:Sc Qcd ["net","full"]:=scM rfl rfl rfl (by decide+kernel)
theorem Qnq:QB "row_worth" Qcd ["net","full"]:=λ_ _ _ _ _ _=>lc λ_=>lc λ_=>l0 rfl
def QhG:=(Cp Qcd QfT).getD QG
theorem Qnf:Cp Qcd QfT=some QhG:=some_of (by decide+kernel)
abbrev Qcf:=Dn Qcd QhG
abbrev Qe1:=Gc "row_worth" 2 Qcf QfT
abbrev Qbq:=top 45
theorem QjD:Sc Qbq ["net","full"]:=scM rfl rfl rfl (by decide+kernel)
theorem QkT:QB "counterpart" Qbq ["net","full"]:=λ_ _ _ _ _ _=>lc λ_=>lc λ_=>l0 rfl
def Qga:=(Cp Qbq Qe1).getD QG
theorem Qk2:Cp Qbq Qe1=some Qga:=some_of (by decide+kernel)
abbrev Qa5:=Dn Qbq Qga
abbrev Qd8:=Gc "counterpart" 2 Qa5 Qe1
abbrev QbT:=top 47
theorem QkY:Sc QbT ["_law_script","_law_many"]:=scM rfl rfl rfl (by decide+kernel)
theorem Qmq:QB "_law_cells" QbT ["_law_script","_law_many"]:=λ_ _ _ _ _ _=>lc λ_=>lc λ_=>l0 rfl
def Qgg:=(Cp QbT Qd8).getD QG
theorem QlV:Cp QbT Qd8=some Qgg:=some_of (by decide+kernel)
abbrev QbQ:=Dn QbT Qgg
abbrev QeL:=Gc "_law_cells" 2 QbQ Qd8
abbrev Qcc:=top 48
theorem QmW:Sc Qcc ["_law_cells_here","_law_many"]:=scM rfl rfl rfl (by decide+kernel)
theorem QnF:QB "_law_base" Qcc ["_law_cells_here","_law_many"]:=λ_ _ _ _ _ _=>lc λ_=>lc λ_=>l0 rfl
def QhB:=(Cp Qcc QeL).getD QG
theorem Qnr:Cp Qcc QeL=some QhB:=some_of (by decide+kernel)
abbrev Qce:=Dn Qcc QhB
abbrev Qfe:=Gc "_law_base" 2 Qce QeL
abbrev QcU:=top 50
theorem Qno:Sc QcU ["_law_cells_here"]:=scM rfl rfl rfl (by decide+kernel)
theorem Qpw:QB "_law_net" QcU ["_law_cells_here"]:=λ_ _ _ _ _ _=>lc λ_=>l0 rfl
def QiM:=(Cp QcU Qfe).getD QG
theorem QoJ:Cp QcU Qfe=some QiM:=some_of (by decide+kernel)
abbrev QcQ:=Dn QcU QiM
abbrev QfP:=Gc "_law_net" 1 QcQ Qfe
abbrev Qdj:=top 51
theorem QoC:Sc Qdj ["_law_found","_law_due"]:=scM rfl rfl rfl (by decide+kernel)
theorem QpM:QB "_law_is" Qdj ["_law_found","_law_due"]:=λ_ _ _ _ _ _=>lc λ_=>lc λ_=>l0 rfl
def Qkt:=(Cp Qdj QfP).getD QG
theorem Qri:Cp Qdj QfP=some Qkt:=some_of (by decide+kernel)
abbrev Qcv:=Dn Qdj Qkt
abbrev Qgf:=Gc "_law_is" 2 Qcv QfP
abbrev QaC:=top 52
theorem Qgd:Sc QaC ["_law_net_here","_law_full_here","_law_counts"]:=scM rfl rfl rfl (by decide+kernel)
theorem Qg1:QB "_law_full_behind" QaC ["_law_net_here","_law_full_here","_law_counts"]:=λ_ _ _ _ _ _=>lc λ_=>lc λ_=>lc λ_=>l0 rfl
def Qd4:=(Cp QaC Qgf).getD QG
theorem QgE:Cp QaC Qgf=some Qd4:=some_of (by decide+kernel)
abbrev QaB:=Dn QaC Qd4
abbrev Qco:=Gc "_law_full_behind" 3 QaB Qgf
abbrev QbI:=top 53
theorem QkW:Sc QbI ["_law_cells_here","_law_many","_law_most"]:=scM rfl rfl rfl (by decide+kernel)
theorem Ql5:QB "_law_moves" QbI ["_law_cells_here","_law_many","_law_most"]:=λ_ _ _ _ _ _=>lc λ_=>lc λ_=>lc λ_=>l0 rfl
def QgV:=(Cp QbI Qco).getD QG
theorem QlS:Cp QbI Qco=some QgV:=some_of (by decide+kernel)
abbrev QbG:=Dn QbI QgV
abbrev QeJ:=Gc "_law_moves" 3 QbG Qco
abbrev Qcg:=top 54
theorem QmQ:Sc Qcg ["_law_cells_here","_law_net_here"]:=scM rfl rfl rfl (by decide+kernel)
theorem Qnz:QB "_law_full" Qcg ["_law_cells_here","_law_net_here"]:=λ_ _ _ _ _ _=>lc λ_=>lc λ_=>l0 rfl
def QhN:=(Cp Qcg QeJ).getD QG
theorem Qm7:Cp Qcg QeJ=some QhN:=some_of (by decide+kernel)
abbrev Qb8:=Dn Qcg QhN
abbrev Qe9:=Gc "_law_full" 2 Qb8 QeJ
abbrev QaG:=top 55
theorem Qgc:Sc QaG ["_law_net_here","_law_full_here"]:=scM rfl rfl rfl (by decide+kernel)
theorem Qgm:QB "_law_counterpart" QaG ["_law_net_here","_law_full_here"]:=λ_ _ _ _ _ _=>lc λ_=>lc λ_=>l0 rfl
def QdW:=(Cp QaG Qe9).getD QG
theorem Qgu:Cp QaG Qe9=some QdW:=some_of (by decide+kernel)
abbrev QaF:=Dn QaG QdW
abbrev QcG:=Gc "_law_counterpart" 2 QaF Qe9
abbrev QbD:=top 56
theorem QkS:Sc QbD ["_law_net_here","_law_full_here"]:=scM rfl rfl rfl (by decide+kernel)
theorem QmT:QB "_law_worth" QbD ["_law_net_here","_law_full_here"]:=λ_ _ _ _ _ _=>lc λ_=>lc λ_=>l0 rfl
def Qgh:=(Cp QbD QcG).getD QG
theorem QlT:Cp QbD QcG=some Qgh:=some_of (by decide+kernel)
abbrev Qbe:=Dn QbD Qgh
abbrev Qgk:=Gc "_law_worth" 2 Qbe QcG
abbrev Qhc:=top 57
theorem QwX:Sc Qhc ["_law_script"]:=scM rfl rfl rfl (by decide+kernel)
theorem Qys:QB "law" Qhc ["_law_script"]:=λ_ _ _ _ _ _=>lc λ_=>l0 rfl
def QtQ:=(Cp Qhc Qgk).getD QG
theorem QyB:Cp Qhc Qgk=some QtQ:=some_of (by decide+kernel)
abbrev Qps:=Dn Qhc QtQ
theorem QnH:QN=Qo 3 (HS.Qfd):=by kernel_rfl
theorem Qmk:QbK=Qo 3 (HS.QeH QN):=by kernel_rfl
theorem Quj:Qdf=Qo 4 (HS.Qkh):=by kernel_rfl
theorem Qlz:Q7=Qo 5 (HS.QeM Qdf):=by kernel_rfl
theorem QnE:Qan=Qo 1 (HS.Qfc Q7):=by kernel_rfl
theorem QuF:QcK=Qo 6 (HS.QnN QN Q7):=by kernel_rfl
theorem QoR:QcP=Qo 1 (HS.QiF):=by kernel_rfl
theorem QmG:QbO=Qo 1 (HS.QeA QcP):=by kernel_rfl
theorem Qry:QbX=Qo 2 (HS.QlL):=by kernel_rfl
theorem Qsh:QdM=Qo 1 (HS.Qlu QbX):=by kernel_rfl
theorem QoE:Qao=Qo 1 (HS.QiU):=by kernel_rfl
theorem Qr2:QdN=Qo 5 (HS.QfV):=by kernel_rfl
theorem Qlo:QbE=Qo 4 (HS.QgX Qao):=by kernel_rfl
theorem Qnm:Qca=Qo 4 (HS.QhJ):=by kernel_rfl
theorem Qqk:Qde=Qo 5 (HS.QeX QbE Qca):=by kernel_rfl
theorem QiB:Qa1=Qo 2 (HS.Qe0 Qde):=by kernel_rfl
theorem QmP:QbL=Qo 6 (HS.QgM QdM Qa1 QbX QdN):=by kernel_rfl
theorem Qnt:Qb9=Qo 1 (HS.QhS Qao Q7):=by kernel_rfl
theorem Qq0:Qdh=Qo 9 (HS.QgH):=by kernel_rfl
theorem Qup:QdF=Qo 8 (HS.Qj5 QbK Q7 Qdh):=by kernel_rfl
theorem QkX:Qbm=Qo 3 (HS.Qf8 Qb9 QbL):=by kernel_rfl
theorem QiL:QaO=Qo 1 (HS.QeY Qan):=by kernel_rfl
theorem Qu8:Qer=Qo 10 (HS.Qn2 QN Qbm QcK QaO QdF):=by kernel_rfl
theorem Qo2:Qax=Qo 1 (HS.Qjf QbO):=by kernel_rfl
theorem Qr8:Qb0=Qo 5 (HS.Qmt Qax QN Qan Qer Qao QcK):=by kernel_rfl
theorem Qpl:QcS=Qo 6 (HS.QfA Qb0):=by kernel_rfl
theorem Qnv:Qcf=Qo 4 (HS.Qe5 Qax QN Qb0 QcS):=by kernel_rfl
theorem Qk5:Qa5=Qo 3 (HS.Qf7 Qax QN Qan):=by kernel_rfl
theorem Ql0:QbQ=Qo 9 (HS.QeD):=by kernel_rfl
theorem Qng:Qce=Qo 10 (HS.Qea):=by kernel_rfl
theorem Qpg:QcQ=Qo 8 (HS.QdH Qce):=by kernel_rfl
theorem QpB:Qcv=Qo 4 (HS.QhH):=by kernel_rfl
theorem QgP:QaB=Qo 6 (HS.Qd1):=by kernel_rfl
theorem Qlx:QbG=Qo 7 (HS.Qc9):=by kernel_rfl
theorem QnG:Qb8=Qo 6 (HS.QeZ):=by kernel_rfl
theorem QgB:QaF=Qo 5 (HS.QdZ):=by kernel_rfl
theorem Qmg:Qbe=Qo 4 (HS.QeF Qcf):=by kernel_rfl
theorem Qyv:Qps=Qo 9 (HS.Qkv QbQ QcQ Qb8 QbG QaB Qa5 QaF Qcv Qbe):=by kernel_rfl
end
end Law
namespace HS
open PySem PySem.Spec L2
noncomputable def Qss(mg:Str->Option Value):List Str->Prop
 | []=>True
 | x::r=>mg x=none/\Qss mg r
theorem Qmj{mg:Str->Option Value}:∀{l:List Str},Qss mg l->∀x∈l,mg x=none
 | [],_,x,h=>by simp at h
 | y::r,h,x,hx=>by
  rcases Zq.mp hx with rfl | hx
  ·exact h.1
  ·exact Qmj h.2 x hx
noncomputable def Qtg(mg:Str->Option Value):List (Str×Int)->Prop
 | []=>True
 | (x,i)::r=>(∃t,mg x=some (.int i t))/\Qtg mg r
theorem Qmn{mg:Str->Option Value}:∀{l:List (Str×Int)},Qtg mg l->∀x i,look x l=some i->∃t,mg x=some (.int i t)
 | [],_,x,i,h=>by cases h
 | (y,j)::r,h,x,i,hx=>by
  unfold look at hx
  split at hx
  ·rename_i e;cases hx;subst e;exact h.1
  ·exact Qmn h.2 x i hx
theorem QvQ{mg:Str->Option Value}{cs:List (Str×Int)}(b:Qss mg QmY)(c:Qtg mg cs):Qf0 mg cs:=⟨Qmj b,Qmn c⟩
end HS
theorem HS.QtE{K:PySem.W.Frag}{mg:PySem.Str->Option PySem.Value}{h:PySem.Heap}{x:PySem.Str}{i:Int}{t:PySem.Tok}(X:K.In h)(G:h.Ns PySem.mainGlobals mg)(a:PySem.W.nsIn K PySem.mainGlobals x=some (some (.int i t))):∃t,mg x=some (.int i t):=⟨t,Zcr X G a⟩
namespace Law
open HS
theorem Qld:QeG Q7:=by rw[Qlz,Quj];exact QuL
theorem Qhs:Qd0 QN:=by rw[QnH];exact Que
theorem Qxq:QjS QbK:=by rw[Qmk];exact Qso Qhs
theorem QrF:QgJ Qdh:=by rw[Qq0];exact Qpb
theorem Qv5:QjT QdF:=by rw[Qup];exact QsH Qxq Qld QrF
theorem QqI:Qha QcK:=by rw[QuF];exact QsA Qhs Qld
theorem Qm5:Qgv Qan:=by rw[QnE];exact Qul Qld
theorem Qte:Qg2 QaO:=by rw[QiL];exact Qpk Qm5
theorem Qv2:Qla Qao:=by rw[QoE];exact QwT
theorem QvA:Qiu Qb9:=by rw[Qnt];exact Qrk Qv2 Qld
theorem QnR:Qf1 QbX:=by rw[Qry];exact Qq9
theorem Qvg:Qiy QdM:=by rw[Qsh];exact QpX QnR
theorem Qt3:Qh1 QdN:=by rw[Qr2];exact QqM
theorem Qwi:Qkd QbE:=by rw[Qlo];exact Qrt (dop:=Qao)
theorem Qxa:Qjx Qca:=by rw[Qnm];exact QrJ
theorem Qsj:QgQ Qde:=by rw[Qqk];exact Qpq Qwi Qxa
theorem Qqg:QfE Qa1:=by rw[QiB];exact QnD Qsj
theorem Qva:Qh8 QbL:=by rw[QmP];exact Qqc Qvg Qqg QnR Qt3
theorem QyM:Qkg Qbm:=by rw[QkX];exact QrL QvA Qva
theorem Qww:Qjq Qer:=by rw[Qu8];exact Qti Qhs QyM QqI Qte Qv5
theorem Qws:Qj8 QcP:=by rw[QoR];exact QrA
theorem Qv0:QjQ QbO:=by rw[QmG];exact QrR Qws
theorem Qmx:Qfz Qax:=by rw[Qo2];exact Qth Qv0
theorem QrB:Qhm Qb0:=by rw[Qr8];exact QxS Qmx Qhs Qm5 Qww Qv2 QqI
theorem Qzy:Qpo QcS:=by rw[Qpl];exact QxA QrB
theorem QwK:Qj0 Qcf:=by rw[Qnv];exact Qtb Qmx Qhs QrB Qzy
theorem Qwk:CellsOk QbQ:=by rw[Ql0];exact QsO
theorem Qyf:QjN Qce:=by rw[Qng];exact Qsx
theorem QzM:Qj2 QcQ:=by rw[Qpg];exact QrW Qyf
theorem hIs:Qji Qcv:=by rw[QpB];exact QyO
theorem Qwh:Qju QaB:=by rw[QgP];exact QsJ
theorem Qxf:QgU QbG:=by rw[Qlx];exact Qpz
theorem QxX:Qip Qb8:=by rw[QnG];exact QqN
theorem QvY:Qdd Qa5:=by rw[Qk5];exact Qpy Qmx Qhs Qm5
theorem Qvp:Qdd QaF:=by rw[QgB];exact Qm9
theorem Quf:Qh4 Qbe:=by rw[Qmg];exact QpQ QwK
theorem QvK(ns:List Int)(h:ns.length<=63):∃fr,Qps [.lst (ns.map .int)]=some (.bl true,fr):=by
 rw[Qyv]
 exact⟨true,Qxx Qwk QzM QxX Qxf Qwh QvY Qvp hIs Quf (λm R m0 m4 hw=>Qvj QrB m0 (by omega) hw) ns h⟩
end Law
namespace PySem.W.Fast
def tw2985637484130006155:=0
def tw4933674375146062087:=0
def tw4173187965363684678:=0
def tw17445366024066266274:=0
def tw7293322684423161699:=0
def tw12728593116603261432:=0
def tw1338791915189909056:=0
def tw16147881656577820716:=0
def tw7384695465481536686:=0
def tw13328825961691427599:=0
def tw3298878809645149612:=0
def tw4797005591318020864:=0
def tw5711101789643685985:=0
def tw10148552694951823862:=0
def tw6675476562391992601:=0
def tw5800219727057976386:=0
def tw644788684785955487:=0
def tw13097856961294847327:=0
def tw6673032494311291742:=0
def tw15725292668193714048:=0
def tw662275825809577415:=0
def tw326073486200213705:=0
def tw18146501867045235327:=0
def tw7505611006760007592:=0
def tw6745567209238262098:=0
def tw3661152125938229468:=0
def tw13414643324818713280:=0
def tw2460871498691155075:=0
def tw9612124577347427859:=0
def tw7989477727452921725:=0
def tw11576265911967459876:=0
def tw4233023915175106806:=0
def tw3075270355152518421:=0
def tw8452200074246384098:=0
def tw2010422020781537575:=0
def tw17285324384310484155:=0
def tw17299215187742312069:=0
def tw3632090009436367112:=0
def tw16399364268294672487:=0
def tw12427821646241987941:=0
def tw10145545326037573097:=0
def tw5081246184286043145:=0
def tw5354687091129149124:=0
def tw11724476607531418696:=0
def tw8230166760051731966:=0
def tw7177625925521919508:=0
def tw6206872612960511439:=0
def tw7577667033828163078:=0
def tw7793330201911119759:=0
def tw13247220387128564887:=0
def tw17364754731865595160:=0
def tw15203688363359232334:=0
def tw17943151400765801633:=0
def tw11818516439892645379:=0
def tw16723766213727384938:=0
def tw14991501514164681442:=0
def tw15218136211030838657:=0
def tw16519622223084517443:=0
def tw11877847918127293538:=0
def tw32941239846248096:=0
def tw6064347611569791654:=0
def tw12328539494638766842:=0
def tw3237805123169185297:=0
def tw4585071165646632591:=0
def tw1089770630568474816:=0
def tw4378056818347262861:=0
def tw6274263630069560020:=0
def tw12985988243280332491:=0
def tw11392170515031189474:=0
def tw18322477873541604177:=0
def tw16766950948556399310:=0
def tw15543522642535948136:=0
def tw5074211863728171603:=0
def tw677635974127990261:=0
def tw5775290761352596407:=0
def tw2412593945361725998:=0
def tw17358842991259483920:=0
def tw14711687922442665819:=0
def tw660830232801607552:=0
def tw2095942316510037480:=0
def tw5121360038790219990:=0
def tw1577020391917410481:=0
def tw6926336642476664624:=0
def tw3021467438361768295:=0
def tw17876386083145286168:=0
def tw3564067039254471644:=0
def tw13037622854575322983:=0
def tw9195977145207781855:=0
def tw132403813250812052:=0
def tw7076734804101668880:=0
def tw14399946360372522495:=0
def tw315362489816886107:=0
def tw3266790119833002249:=0
def tw9550327960137613871:=0
def tw1393069746016930228:=0
def tw12725312170091831117:=0
def tw7521429922306436780:=0
def tw8327194768069992590:=0
def tw840764094720840332:=0
def tw2518254233724918364:=0
def tw8457370082832210436:=0
def tw2859321444750182177:=0
def tw5259804526398858854:=0
def tw9662072492379953406:=0
def tw4799530211879716517:=0
def tw6871030857202504206:=0
def tw11798350077554267540:=0
def tw17319730934670562843:=0
def tw12289871632343575735:=0
def tw14317289762326775175:=0
def tw1050355814394912205:=0
def tw16387158843565367637:=0
def tw10921817429527717283:=0
def tw16410268937404593149:=0
def tw6854874166777235675:=0
def tw387344682417761551:=0
def tw3241757502703233103:=0
def tw14803578919414216360:=0
def tw11112487314965800040:=0
end PySem.W.Fast
open PySem PySem.W PyProof.Rows HS
set_option maxRecDepth 100000 in
set_option maxHeartbeats 0 in
theorem PySem.Challenge.cw_heapstill_k65_whole_two_sides_holds : PySem.Challenge.rw_heapstill_k65_whole_two_sides.Holds := by
 w_on;o_law;k_head;(case hw=>w_witness2)
 k_fill
 refine HS.Qsm (l:=PySem.Challenge.rw_heapstill_k65_whole_two_sides) (k:=38) (x:= "_law_script") (den:=Law.Qps) rfl rfl ⟨rfl,by decide,by decide⟩ (λw h Y=>PySem.W.kIn_of Y) Law.QvK ?F
 case F=>
  intro w mg fa h KX G hmg
  obtain⟨f_need_rows,f_need_heaps,f_steps,f_toll_table,f_span_list,f_after,f_is_plain,f_need_plain,f_column,f_turned,f_opposite,f_common,f_with_pivot,f_taken_off,f_cleared,f_cleared_whole,f_shared_out,f_net_table,f_settled,f_still,f_near_counts,f_doubled_spans,f_again,f_with_pit,f_lowest,f_one_less,f_row_worth,f_counterpart,f__law_cells,f__law_base,f__law_net,f__law_is,f__law_full_behind,f__law_moves,f__law_full,f__law_counterpart,f__law_worth,f_law⟩:HS.Fact (L2.KOf KX) "need_rows" Law.Qci/\HS.Fact (L2.KOf KX) "need_heaps" Law.QbM/\HS.Fact (L2.KOf KX) "steps" Law.Qek/\HS.Fact (L2.KOf KX) "toll_table" Law.QbN/\HS.Fact (L2.KOf KX) "span_list" Law.Qcj/\HS.Fact (L2.KOf KX) "after" Law.Qei/\HS.Fact (L2.KOf KX) "is_plain" Law.QcZ/\HS.Fact (L2.KOf KX) "need_plain" Law.QbF/\HS.Fact (L2.KOf KX) "column" Law.QdR/\HS.Fact (L2.KOf KX) "turned" Law.QdG/\HS.Fact (L2.KOf KX) "opposite" Law.QcW/\HS.Fact (L2.KOf KX) "common" Law.QdI/\HS.Fact (L2.KOf KX) "with_pivot" Law.QbR/\HS.Fact (L2.KOf KX) "taken_off" Law.Qch/\HS.Fact (L2.KOf KX) "cleared" Law.Qdk/\HS.Fact (L2.KOf KX) "cleared_whole" Law.Qa2/\HS.Fact (L2.KOf KX) "shared_out" Law.QbP/\HS.Fact (L2.KOf KX) "net_table" Law.Qb7/\HS.Fact (L2.KOf KX) "settled" Law.Qdg/\HS.Fact (L2.KOf KX) "still" Law.Qel/\HS.Fact (L2.KOf KX) "near_counts" Law.Qbo/\HS.Fact (L2.KOf KX) "doubled_spans" Law.Qa0/\HS.Fact (L2.KOf KX) "again" Law.s_again/\HS.Fact (L2.KOf KX) "with_pit" Law.QcL/\HS.Fact (L2.KOf KX) "lowest" Law.QdO/\HS.Fact (L2.KOf KX) "one_less" Law.QcM/\HS.Fact (L2.KOf KX) "row_worth" Law.Qcd/\HS.Fact (L2.KOf KX) "counterpart" Law.Qbq/\HS.Fact (L2.KOf KX) "_law_cells" Law.QbT/\HS.Fact (L2.KOf KX) "_law_base" Law.Qcc/\HS.Fact (L2.KOf KX) "_law_net" Law.QcU/\HS.Fact (L2.KOf KX) "_law_is" Law.Qdj/\HS.Fact (L2.KOf KX) "_law_full_behind" Law.QaC/\HS.Fact (L2.KOf KX) "_law_moves" Law.QbI/\HS.Fact (L2.KOf KX) "_law_full" Law.Qcg/\HS.Fact (L2.KOf KX) "_law_counterpart" Law.QaG/\HS.Fact (L2.KOf KX) "_law_worth" Law.QbD/\HS.Fact (L2.KOf KX) "law" Law.Qhc:=by
   refine⟨?_,?_,?_,?_,?_,?_,?_,?_,?_,?_,?_,?_,?_,?_,?_,?_,?_,?_,?_,?_,?_,?_,?_,?_,?_,?_,?_,?_,?_,?_,?_,?_,?_,?_,?_,?_,?_,?_⟩<;>(dsimp only[L2.KOf];refine' HS.fact_mk ?a ?l ?c ?k;(case a=>k_is);(case l=>k_is);(case c=>k_is);(case k=>k_is))
  have M:HS.Qf0 mg Law.cst:=by
   obtain⟨n_range,n_enumerate,n_zip,n_len,n_list,n_min,n_max,n_sum,n_abs,n_isinstance,n_int,n_bool,n_tuple,n_str,n_divmod,n_sorted,n_any,n_all,n_set⟩:PySem.W.nsIn (L2.KOf KX) mainGlobals "range" =some none/\PySem.W.nsIn (L2.KOf KX) mainGlobals "enumerate" =some none/\PySem.W.nsIn (L2.KOf KX) mainGlobals "zip" =some none/\PySem.W.nsIn (L2.KOf KX) mainGlobals "len" =some none/\PySem.W.nsIn (L2.KOf KX) mainGlobals "list" =some none/\PySem.W.nsIn (L2.KOf KX) mainGlobals "min" =some none/\PySem.W.nsIn (L2.KOf KX) mainGlobals "max" =some none/\PySem.W.nsIn (L2.KOf KX) mainGlobals "sum" =some none/\PySem.W.nsIn (L2.KOf KX) mainGlobals "abs" =some none/\PySem.W.nsIn (L2.KOf KX) mainGlobals "isinstance" =some none/\PySem.W.nsIn (L2.KOf KX) mainGlobals "int" =some none/\PySem.W.nsIn (L2.KOf KX) mainGlobals "bool" =some none/\PySem.W.nsIn (L2.KOf KX) mainGlobals "tuple" =some none/\PySem.W.nsIn (L2.KOf KX) mainGlobals "str" =some none/\PySem.W.nsIn (L2.KOf KX) mainGlobals "divmod" =some none/\PySem.W.nsIn (L2.KOf KX) mainGlobals "sorted" =some none/\PySem.W.nsIn (L2.KOf KX) mainGlobals "any" =some none/\PySem.W.nsIn (L2.KOf KX) mainGlobals "all" =some none/\PySem.W.nsIn (L2.KOf KX) mainGlobals "set" =some none:=by refine⟨?_,?_,?_,?_,?_,?_,?_,?_,?_,?_,?_,?_,?_,?_,?_,?_,?_,?_,?_⟩<;>(dsimp only[L2.KOf];k_is)
   have n_MOST_PLACES:∃t,mg "MOST_PLACES" =some (.int 4 t):=by refine' HS.QtE KX G ?a;(case a=>first | k_is | exact rfl | (dsimp only[L2.KOf];k_is))
   have n_MOST_GRAINS:∃t,mg "MOST_GRAINS" =some (.int 6 t):=by refine' HS.QtE KX G ?a;(case a=>first | k_is | exact rfl | (dsimp only[L2.KOf];k_is))
   exact HS.QvQ ⟨PySem.W.mg_none_of KX G n_range,PySem.W.mg_none_of KX G n_enumerate,PySem.W.mg_none_of KX G n_zip,PySem.W.mg_none_of KX G n_len,PySem.W.mg_none_of KX G n_list,PySem.W.mg_none_of KX G n_min,PySem.W.mg_none_of KX G n_max,PySem.W.mg_none_of KX G n_sum,PySem.W.mg_none_of KX G n_abs,PySem.W.mg_none_of KX G n_isinstance,PySem.W.mg_none_of KX G n_int,PySem.W.mg_none_of KX G n_bool,PySem.W.mg_none_of KX G n_tuple,PySem.W.mg_none_of KX G n_str,PySem.W.mg_none_of KX G n_divmod,PySem.W.mg_none_of KX G n_sorted,PySem.W.mg_none_of KX G n_any,PySem.W.mg_none_of KX G n_all,PySem.W.mg_none_of KX G n_set,True.intro⟩ ⟨n_MOST_PLACES,n_MOST_GRAINS,True.intro⟩
  have t0:∀base:Heap,HS.Qc6 (PySem.Challenge.rw_heapstill_k65_whole_two_sides).prog w (L2.KOf KX) mg base 0 []:=λ_=>HS.Qc6.nil
  have t_need_rows:=λb=>(t0 b).cons (HS.QC KX G f_need_rows Law.Ql9 Law.QnB M (t0 b) Law.Qm6)
  have t_need_heaps:=λb=>(t_need_rows b).cons (HS.QC KX G f_need_heaps Law.QkR Law.QlN M (t_need_rows b) Law.QlG)
  have t_steps:=λb=>(t_need_heaps b).cons (HS.QC KX G f_steps Law.Qru Law.Qu9 M (t_need_heaps b) Law.QvF)
  have t_toll_table:=λb=>(t_steps b).cons (HS.QC KX G f_toll_table Law.QkV Law.Qmu M (t_steps b) Law.QlD)
  have t_span_list:=λb=>(t_toll_table b).cons (HS.QC KX G f_span_list Law.QmB Law.QnA M (t_toll_table b) Law.Qnl)
  have t_after:=λb=>(t_span_list b).cons (HS.QC KX G f_after Law.Qtp Law.QtR M (t_span_list b) Law.Qt4)
  have t_is_plain:=λb=>(t_after b).cons (HS.QC KX G f_is_plain Law.Qnn Law.Qpf M (t_after b) Law.Qpp)
  have t_need_plain:=λb=>(t_is_plain b).cons (HS.QC KX G f_need_plain Law.Qk1 Law.QmL M (t_is_plain b) Law.QlB)
  have t_column:=λb=>(t_need_plain b).cons (HS.QC KX G f_column Law.QqH Law.QsV M (t_need_plain b) Law.Qsa)
  have t_turned:=λb=>(t_column b).cons (HS.QC KX G f_turned Law.QpU Law.Qsf M (t_column b) Law.Qr9)
  have t_opposite:=λb=>(t_turned b).cons (HS.QC KX G f_opposite Law.Qns Law.Qo1 M (t_turned b) Law.QoA)
  have t_common:=λb=>(t_opposite b).cons (HS.QC KX G f_common Law.QpT Law.Qtr M (t_opposite b) Law.Qr3)
  have t_with_pivot:=λb=>(t_common b).cons (HS.QC KX G f_with_pivot Law.QkZ Law.Qmp M (t_common b) Law.Qml)
  have t_taken_off:=λb=>(t_with_pivot b).cons (HS.QC KX G f_taken_off Law.Qmf Law.Qnu M (t_with_pivot b) Law.Qnx)
  have t_cleared:=λb=>(t_taken_off b).cons (HS.QC KX G f_cleared Law.Qpd Law.Qqn M (t_taken_off b) Law.QqZ)
  have t_cleared_whole:=λb=>(t_cleared b).cons (HS.QC KX G f_cleared_whole Law.QhW Law.Qjg M (t_cleared b) Law.Qi2)
  have t_shared_out:=λb=>(t_cleared_whole b).cons (HS.QC KX G f_shared_out Law.Qk4 Law.QmR M (t_cleared_whole b) Law.Qmc)
  have t_net_table:=λb=>(t_shared_out b).cons (HS.QC KX G f_net_table Law.QlM Law.Qnb M (t_shared_out b) Law.Qnw)
  have t_settled:=λb=>(t_net_table b).cons (HS.QC KX G f_settled Law.Qpr Law.QpO M (t_net_table b) Law.Qrn)
  have t_still:=λb=>(t_settled b).cons (HS.QC KX G f_still Law.Qsp Law.Qvd M (t_settled b) Law.Qvc)
  have t_near_counts:=λb=>(t_still b).cons (HS.QC KX G f_near_counts Law.QjG Law.Qk6 M (t_still b) Law.QkU)
  have t_doubled_spans:=λb=>(t_near_counts b).cons (HS.QC KX G f_doubled_spans Law.Qh3 Law.Qi5 M (t_near_counts b) Law.Qjd)
  have t_again:=λb=>(t_doubled_spans b).cons (HS.QC KX G f_again Law.Qs9 Law.Qt6 M (t_doubled_spans b) Law.QvC)
  have t_with_pit:=λb=>(t_again b).cons (HS.QC KX G f_with_pit Law.Qnk Law.Qpx M (t_again b) Law.QoL)
  have t_lowest:=λb=>(t_with_pit b).cons (HS.QC KX G f_lowest Law.QqC Law.QsB M (t_with_pit b) Law.Qr0)
  have t_one_less:=λb=>(t_lowest b).cons (HS.QC KX G f_one_less Law.Qne Law.Qo4 M (t_lowest b) Law.Qpt)
  have t_row_worth:=λb=>(t_one_less b).cons (HS.QC KX G f_row_worth Law.Ql4 Law.Qnq M (t_one_less b) Law.Qnf)
  have t_counterpart:=λb=>(t_row_worth b).cons (HS.QC KX G f_counterpart Law.QjD Law.QkT M (t_row_worth b) Law.Qk2)
  have t__law_cells:=λb=>(t_counterpart b).cons (HS.QC KX G f__law_cells Law.QkY Law.Qmq M (t_counterpart b) Law.QlV)
  have t__law_base:=λb=>(t__law_cells b).cons (HS.QC KX G f__law_base Law.QmW Law.QnF M (t__law_cells b) Law.Qnr)
  have t__law_net:=λb=>(t__law_base b).cons (HS.QC KX G f__law_net Law.Qno Law.Qpw M (t__law_base b) Law.QoJ)
  have t__law_is:=λb=>(t__law_net b).cons (HS.QC KX G f__law_is Law.QoC Law.QpM M (t__law_net b) Law.Qri)
  have t__law_full_behind:=λb=>(t__law_is b).cons (HS.QC KX G f__law_full_behind Law.Qgd Law.Qg1 M (t__law_is b) Law.QgE)
  have t__law_moves:=λb=>(t__law_full_behind b).cons (HS.QC KX G f__law_moves Law.QkW Law.Ql5 M (t__law_full_behind b) Law.QlS)
  have t__law_full:=λb=>(t__law_moves b).cons (HS.QC KX G f__law_full Law.QmQ Law.Qnz M (t__law_moves b) Law.Qm7)
  have t__law_counterpart:=λb=>(t__law_full b).cons (HS.QC KX G f__law_counterpart Law.Qgc Law.Qgm M (t__law_full b) Law.Qgu)
  have t__law_worth:=λb=>(t__law_counterpart b).cons (HS.QC KX G f__law_worth Law.QkS Law.QmT M (t__law_counterpart b) Law.QlT)
  exact HS.Qyt KX G hmg f_law Law.QwX Law.Qys M (λbase=>t__law_worth base) Law.QyB
