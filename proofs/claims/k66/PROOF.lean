import PyProof.Rows.All
import Wide.All
import OpenK.AllK
import Wide.FinOn
import Lean
import PyProof.EqAt
import PyProof.EqKinds
import PyProof.TupleCall
import PyProof.Rows.TupTab
import PyProof.DictRoadsH
import PyProof.ZipIter
import PyProof.EnumMake
import PyProof.Rows.FactsT2
import PyProof.Rows.EnumRows
import PyProof.P3In
import PyProof.NeData
import KE.KUnpack
import PyProof.Rows.TupDisplay
import PyProof.Rows.SumAny
import PyProof.Rows.MinMaxN
import PyProof.Rows.ListRangeD
import PyProof.Rows.Range3
import PyProof.Rows.RuleM_int
import PyProof.Rows.SortShell
import PyProof.DictWalks
import PyProof.ListRange
import PyProof.Rows.SetFrom
import PyProof.CollectIter
import PyProof.SetRoads
import KE.KTryOn
import PyProof.ExcBaseAll.ValueError
import PyProof.RulesAs
import PyProof.ExcAttrAll.ValueError
import PyProof.Rows.RegTopCatchBFacts
import KE.RegKTryMore
import KE.RegKIsAll
import PySem.Challenge.RW_heapstill_k66_debts_refused
set_option Elab.async false
set_option linter.all false
set_option maxRecDepth 100000
local macro_rules | `(⋯)=> `(by first | with_reducible assumption | with_reducible exact Int.natCast_nonneg _ | with_reducible exact Int.ofNat_lt.2 (by assumption) | omega)
def Za:= @Option.bind_some
def Zb:= @PySem.Heap.get?_push_of_some
def Zc:= @List.mem_cons_of_mem
def Zd:= @List.mem_append_right
def Ze:= @Option.map_eq_some_iff
def Zf:= @List.mem_append_left
def Zg:= @List.mem_cons_self
def Zh:= @Bool.and_eq_true
def Zi:= @List.getElem?_set_ne
def Zj:= @Nat.le_refl
def Zk:= @List.mem_range
def Zl:= @List.length_map
def Zm:= @List.getElem?_eq_some_iff
def Zn:= @List.mem_cons
def Zo:= @PySem.Heap.lt_size
def Zp:= @List.map_cons
def Zq:= @PySem.Heap.get?_push_size
def Zr:= @List.map_congr_left
def Zs:= @List.getElem?_map
def Zt:= @Nat.lt_of_lt_of_le
def Zu:= @List.getElem?_set_self
def Zv:= @List.size_toArray
def Zw:= @List.mem_singleton
def Zx:= @Nat.le_of_ble_eq_true
def Zy:= @List.lookup_cons
def Zz:= @List.length_append
def ZA:= @List.getElem?_eq_none
def ZC:= @Nat.le_trans
def ZD:= @List.mem_filter
def ZE:= @Nat.pow_le_pow_right
def ZF:= @Classical.byContradiction
def ZG:= @Nat.ne_of_lt
def ZH:= @List.mem_append
def ZI:= @List.length_range
def ZJ:= @Int.emod_nonneg
def ZK:= @List.sum_cons
def ZL:= @Int.toNat_natCast
def ZM:= @Int.emod_lt_of_pos
def ZN:= @Int.zero_mul
def ZO:= @Nat.zero_le
def ZP:= @Nat.lt_irrefl
def ZQ:= @List.map_append
def ZR:= @Option.map_some
def ZS:= @List.getElem?_range
def ZT:= @List.mem_map
def ZU:= @List.length_cons
def ZV:= @Bool.false_ne_true
def ZW:= @List.count_eq_zero
def ZX:= @List.getD_eq_getElem?_getD
def ZY:= @List.map_map
def ZZ:= @Int.mul_le_mul_of_nonneg_left
def Zaa:= @Array.length_toList
def Zab:= @List.drop_eq_getElem_cons
def Zac:= @Int.add_mul
def Zad:= @PyProof.Rows.callWith_type1
def Zae:= @PySem.mem_of_lookup
def Zaf:= @Int.mul_le_mul_of_nonneg_right
def Zag:= @List.append_nil
def Zah:= @PySem.Heap.size_push
def Zai:= @List.replicate_succ
def Zaj:= @List.mem_of_getElem?
def Zak:= @Int.le_refl
def Zal:= @List.flatten_cons
def Zam:= @List.count_append
def Zan:= @List.eq_nil_of_length_eq_zero
def Zao:= @Int.mul_assoc
def Zap:= @Int.mul_comm
def Zaq:= @Int.one_mul
def Zar:= @Nat.lt_succ_of_lt
def Zas:= @Int.mul_zero
def Zat:= @List.nodup_cons
def Zau:= @Int.neg_mul
def Zav:= @List.getElem?_zip_eq_some
def Zaw:= @List.count_pos_iff
def Zax:= @List.all_eq_true
def Zay:= @List.getElem?_eq_getElem
def Zaz:= @List.nodup_iff_count
def ZaA:= @Int.mul_nonneg
def ZaB:= @Bool.not_eq_true'
def ZaC:= @PySem.Heap.get?_update_other
def ZaD:= @List.nodup_nil
def ZaE:= @Nat.lt_of_le_of_lt
def ZaF:= @PySem.Heap.get?_update_self
def ZaG:= @List.set_eq_take_append_cons_drop
def ZaH:= @Array.getElem?_eq_getElem
def ZaI:= @List.count_cons
def ZaJ:= @PySem.W.kia_one
def ZaK:= @List.ext_getElem?
def ZaL:= @Option.isSome_iff_exists
def ZaM:= @PySem.W.mg_of
def ZaN:= @Nat.lt_succ_self
def ZaO:= @Int.mul_one
def ZaP:= @Int.mul_neg
def ZaQ:= @Nat.ne_of_gt
def ZaR:= @List.mem_filterMap
def ZaS:= @List.length_set
def ZaT:= @List.length_filter_le
def ZaU:= @Int.natAbs_dvd_natAbs
def ZaV:= @List.append_assoc
def ZaW:= @Nat.le_succ
def ZaX:= @Nat.add_le_add_right
def ZaY:= @Int.mul_add
def ZaZ:= @List.map_nil
def Zba:= @List.length_drop
def Zbb:= @Int.add_zero
def Zbc:= @Int.zero_sub
def Zbd:= @List.getElem?_append_left
def Zbe:= @Int.eq_of_mul_eq_mul_left
def Zbf:= @PySem.W.hideAll_get
def Zbg:= @List.map_eq_nil_iff
def Zbh:= @List.sum_append_int
def Zbi:= @PySem.Paired.length
def Zbj:= @List.sum_append
def Zbk:= @PySem.W.callWith_K
def Zbl:= @Nat.eq_zero_or_pos
def Zbm:= @Nat.add_sub_cancel
def Zbn:= @PyProof.Rows.boot_tuple
def Zbo:= @PySem.W.cellsFrom_some
def Zbp:= @List.reverse_cons
def Zbq:= @List.nodup_append
def Zbr:= @List.length_singleton
def Zbs:= @List.take_append_drop
def Zbt:= @List.contains_iff_mem
def Zbu:= @Int.emod_add_mul_ediv
def Zbv:= @List.length_take
def Zbw:= @List.mem_flatten
def Zbx:= @List.nodup_range
def Zby:= @Prod.fst_swap
def Zbz:= @List.count_singleton
def ZbA:= @List.of_mem_zip
def ZbB:= @List.forIn_cons
def ZbC:= @PySem.F.slot_zip_next
def ZbD:= @PyProof.Rows.boot_isinstance
def ZbE:= @List.range_succ
def ZbF:= @List.filterMap_cons
def ZbG:= @List.take_succ_cons
def ZbH:= @List.length_reverse
def ZbI:= @Int.fdiv_eq_ediv_of_nonneg
def ZbJ:= @List.getElem?_append_right
def ZbK:= @Int.natAbs_mul
def ZbL:= @Int.emod_eq_of_lt
def ZbM:= @Int.mul_left_comm
def ZbN:= @PyProof.noPylong_of_log2
def ZbO:= @List.map_take
def ZbP:= @Prod.snd_swap
def ZbQ:= @Nat.le_of_dvd
def ZbR:= @List.getElem?_replicate
def ZbS:= @PySem.Heap.IsList.push
def ZbT:= @List.cons_append
def ZbU:= @List.foldlM_cons
def ZbV:= @List.drop_length
def ZbW:= @List.take_length
def ZbX:= @Int.dvd_mul_of_dvd_left
def ZbY:= @Nat.succ_mul
def ZbZ:= @List.take_of_length_le
def Zca:= @PyProof.Rows.boot_list
def Zcb:= @List.range_succ_eq_map
def Zcc:= @Int.fmod_nonneg_of_pos
def Zcd:= @Bool.or_eq_true
def Zce:= @Nat.min_eq_left
def Zcf:= @Int.natCast_add
def Zcg:= @List.forIn_nil
def Zch:= @List.any_cons
abbrev Mt2:=Nat->Nat->Int
abbrev Mt1:=Nat->Int
abbrev Lpp:=List (Int×Int)
abbrev LAd:=List PySem.Addr
abbrev Fgg:=PySem.W.Frag
namespace L2
open PySem PySem.Spec PyProof.Rows
noncomputable abbrev Key:=Sum Int Str
noncomputable def Qjl:Key->Value->Bool
 | .inl k,v=>Value.isInt k v
 | .inr x,v=>Value.isStrOf x v
noncomputable def QCO(w:World):Key->Int
 | .inl k=>hashInt k
 | .inr x=>hashStr w x
theorem Qbe:∀{k:Key}{v:Value},Qjl k v=true->(∃i t,k=Sum.inl i/\v=Value.int i t)∨(∃x t,k=Sum.inr x/\v=Value.str x t)
 | .inl i,v,h=>by
  obtain⟨t,e⟩:=Value.isInt_shape (k:=i) (v:=v) h;exact .inl ⟨i,t,rfl,e⟩
 | .inr x,v,h=>by
  obtain⟨t,e⟩:=Value.isStrOf_shape (x:=x) (v:=v) h;exact .inr ⟨x,t,rfl,e⟩
theorem Qtw(i:Int)(t:Tok):Qjl (.inl i) (.int i t)=true:=by simp[Qjl,Value.isInt]
theorem QtM(x:Str)(t:Tok):Qjl (.inr x) (.str x t)=true:=by simp[Qjl,Value.isStrOf]
theorem QzB(a b:Int):decide ((Sum.inl a:Key)=Sum.inl b)=(a == b):=by
 by_cases e:a=b
 ·subst e;simp
 ·have h:¬(Sum.inl a:Key)=Sum.inl b:=λq=>e (Sum.inl.inj q);rw[decide_eq_false h];exact(beq_eq_false_iff_ne.mpr e).symm
theorem QAn(a b:Str):decide ((Sum.inr a:Key)=Sum.inr b)=decide (a=b):=by
 by_cases e:a=b
 ·subst e;simp
 ·have h:¬(Sum.inr a:Key)=Sum.inr b:=λq=>e (Sum.inr.inj q);rw[decide_eq_false h,decide_eq_false e]
theorem QAc(a:Int)(b:Str):decide ((Sum.inl a:Key)=Sum.inr b)=false:=decide_eq_false (λq=>nomatch q)
theorem Qzy(a:Str)(b:Int):decide ((Sum.inr a:Key)=Sum.inl b)=false:=decide_eq_false (λq=>nomatch q)
noncomputable def Qa3(prog:Program)(w:World):PySem.KeyKind prog w Key where
 is:=Qjl
 hash:=QCO w
 inj:=λv a b ha hb=>by
  rcases Qbe ha with⟨i,t,rfl,rfl⟩ | ⟨x,t,rfl,rfl⟩
  ·rcases Qbe hb with⟨j,u,rfl,e⟩ | ⟨y,u,rfl,e⟩
   ·injection e with e1 _;rw[e1]
   ·exact nomatch e
  ·rcases Qbe hb with⟨j,u,rfl,e⟩ | ⟨y,u,rfl,e⟩
   ·exact nomatch e
   ·injection e with e1 _;rw[e1]
 byValue:=λk v h=>by
  rcases Qbe h with⟨i,t,rfl,rfl⟩ | ⟨x,t,rfl,rfl⟩<;>rfl
 pyHash:=λhv h=>by
  rcases Qbe hv with⟨i,t,rfl,rfl⟩ | ⟨x,t,rfl,rfl⟩
  ·exact wpAny_pyHash_int h
  ·exact wpAny_pyHash_str h
 eqBool:=λhu hv h=>by
  rcases Qbe hu with⟨i,t,rfl,rfl⟩ | ⟨x,t,rfl,rfl⟩
  ·rcases Qbe hv with⟨j,u,rfl,rfl⟩ | ⟨y,u,rfl,rfl⟩
   ·rw[QzB]at h;exact wpAny_eqBool_int h
   ·rw[QAc]at h;exact SeqAt.EqAt.int_str i t y u _ _ _ _ h
  ·rcases Qbe hv with⟨j,u,rfl,rfl⟩ | ⟨y,u,rfl,rfl⟩
   ·rw[Qzy]at h;exact SeqAt.EqAt.str_int x t j u _ _ _ _ h
   ·rw[QAn]at h;exact wpAny_eqBool_str h
 «strs» :=λk x t v h=>by
  rcases Qbe h with⟨i,u,rfl,e⟩ | ⟨y,u,rfl,e⟩
  ·exact nomatch e
  ·injection e with e1 _;subst e1;cases v<;>rfl
theorem Qp6(prog:Program)(w:World)(i:Int)(t:Tok):(Qa3 prog w).is (.inl i) (.int i t)=true:=Qtw i t
theorem Qql(prog:Program)(w:World)(x:Str)(t:Tok):(Qa3 prog w).is (.inr x) (.str x t)=true:=QtM x t
inductive V where
 | non | bl (b:Bool) | int (i:Int) | str (x:Str) | byt (b:Array UInt8) | flt (b:UInt64) | ref (a:Addr) | ty (n:String)
 deriving DecidableEq
noncomputable def RelV:V->Value->Prop
 | .non,u=>u=Value.none
 | .bl b,u=>u=Value.bool b
 | .int i,u=>∃t,u=Value.int i t
 | .str x,u=>∃t,u=Value.str x t
 | .byt b,u=>∃t,u=Value.bytes b t
 | .flt b,u=>∃t,u=Value.float b t
 | .ref a,u=>u=Value.ref a
 | .ty n,u=>u=Value.type n
noncomputable abbrev QA:List V->List Value->Prop:=Paired RelV
theorem QA.length{xs:List V}{us:List Value}(r:QA xs us):xs.length=us.length:=Zbi r
theorem QA.get:∀{xs:List V}{us:List Value}{i:Nat}{x:V},QA xs us->xs[i]? =some x->∃u,us[i]? =some u/\RelV x u
 | _,_,_,_,.nil,e=>by simp at e
 | _,_,0,_,.cons r _,e=>by simp at e;subst e;exact⟨_,rfl,r⟩
 | _,_,i+1,x,.cons _ t,e=>by
  obtain⟨u,h1,h2⟩:=QA.get (i:=i) (x:=x) t (by simpa using e);exact⟨u,by simpa using h1,h2⟩
theorem QA.set{x:V}{u:Value}(r:RelV x u):∀{xs:List V}{us:List Value}(i:Nat),QA xs us->QA (xs.set i x) (us.set i u)
 | _,_,_,.nil=> .nil
 | _,_,0,.cons _ t=> .cons r t
 | _,_,i+1,.cons q t=> .cons q (QA.set r i t)
theorem exK{α β γ δ:Type}{P Q R:α->β->γ->δ->Prop}{G:Prop}(k:∀a b c d,P a b c d->Q a b c d->R a b c d->G)(h:∃a b c d,P a b c d/\Q a b c d/\R a b c d):G:=let ⟨a,b,c,d,p,q,r⟩:=h;k a b c d p q r
theorem exJ{α β:Type}{P Q R:α->β->Prop}{G:Prop}(k:∀a b,P a b->Q a b->R a b->G)(h:∃a b,P a b/\Q a b/\R a b):G:=let ⟨a,b,p,q,r⟩:=h;k a b p q r
theorem QA.append{xs ys:List V}{us ws:List Value}(h:QA xs us)(s:QA ys ws):QA (xs++ys) (us++ws):=by
 induction h with
 | nil=>exact s
 | cons r t ih=>exact .cons r ih
theorem QA.take:∀{xs:List V}{us:List Value}(n:Nat),QA xs us->QA (xs.take n) (us.take n)
 | _,_,0,_=> .nil
 | _,_,_+1,.nil=> .nil
 | _,_,n+1,.cons r t=> .cons r (QA.take n t)
theorem QA.drop:∀{xs:List V}{us:List Value}(n:Nat),QA xs us->QA (xs.drop n) (us.drop n)
 | _,_,0,r=>r
 | _,_,_+1,.nil=> .nil
 | _,_,n+1,.cons _ t=>QA.drop n t
noncomputable def QpR:Option V->Option Value->Prop
 | some v,some u=>RelV v u
 | none,none=>True
 | _,_=>False
noncomputable def KV{κ:Type}:List (κ×V)->List (κ×Value)->Prop:=Paired λ(p:κ×V) (q:κ×Value)=>p.1=q.1/\RelV p.2 q.2
noncomputable def kV:Key->V
 | .inl i=> .int i
 | .inr x=> .str x
inductive HO where
 | lst (xs:List V)
 | tup (xs:List V)
 | dK (kvs:List (Key×V)) | dT (kvs:List (List Key×V))
 | set (S:Int->Bool) (n:Nat)
 | ins (C dx:Addr) (fs:List (Str×V))
 | own (x:Addr)
 | xd (fs:List (Str×V))
 | met (f x:Addr)
 | rng (lo hi:Int)
 | frz (o:Obj) (u:HO)
 | tbl (ps:Array Value)
 | ext (φ:Heap->Prop)
noncomputable abbrev Hp:=Addr->Option HO
noncomputable def upd(H:Hp)(a:Addr)(o:HO):Hp:=λb=>if b=a then some o else H b
theorem Qad{H:Hp}{a:Addr}{o:HO}:upd H a o a=some o:=by unfold upd;rw[if_pos rfl]
theorem QD{H:Hp}{a b:Addr}{o:HO}(h:b≠a):upd H a o b=H b:=by unfold upd;rw[if_neg h]
theorem QeO{H:Hp}{a b:Addr}{o u:HO}(h:H a=some o)(h':H b=some u)(d:o≠u):a≠b:=by
 intro e;subst e;rw[h]at h';exact d (Option.some.inj h')
theorem Qb9{H:Hp}{a b:Addr}{o:HO}(h:H a=some o)(h':H b=none):a≠b:=by
 intro e;subst e;rw[h]at h';cases h'
section
variable (P:Program) (w:World)
noncomputable def QaQ(H:Hp)(h:Heap)(a:Addr):HO->Prop
 | .lst xs=>xs.length<=sizeLine/\∃(its:List Value) (n:Nat),QA xs its/\h.get? a=some {cls:= .type "list",data:= .seq its.toArray n}
 | .tup xs=>xs.length<=sizeLine/\∃its:List Value,QA xs its/\IsTup h a its.toArray
 | .dK kvs=>kvs.length<=sizeLine/\(a == sysModules)=false/\∃vs,KV kvs vs/\h.DictOf (Qa3 P w) a vs
 | .dT kvs=>kvs.length<=sizeLine/\(a == sysModules)=false/\∃xs:List (List Key×Addr×Value),
   Paired (λ(p:List Key×V) (q:List Key×Addr×Value)=>p.1=q.1/\H q.2.1=some (.tup (p.1.map kV))/\RelV p.2 q.2.2) kvs xs∧
   ∃o es ep,h.get? a=some o/\o.ExactDict/\o.data= .dict es ep/\es.toList=xs.map (entryOfKey (tupleKind (Qa3 P w)))/\(xs.map (·.1)).Nodup
 | .set S n=>h.SetOf (intKind P w) a S n
 | .ins C dx fs=>H dx=some (.own a)/\fs.length<=1000/\dx≠a/\h.get? a=some (PySem.W.instObj C dx)∧
   ∃mA,h.Ns1 dx mA/\(∀f,QpR (fs.lookup f) (mA f))/\PySem.Within mA (fs.map (·.1))
 | .own _=>∃o,h.get? a=some o
 | .xd fs=>∃mA,h.Ns1 a mA/\∀f,QpR (fs.lookup f) (mA f)
 | .rng lo hi=>∃t u v,h.get? a=some {cls:= .type "range",data:= .fields #[.int lo t,.int hi u,.int 1 v]}
 | .frz o u=>h.get? a=some o/\QaQ H h a u
 | .tbl ps=>h.get? a=some {cls:= .none,data:= .fields ps}
 | .met f x=>h.get? a=some (PySem.W.methodObj (.ref f) (.ref x))
 | .ext φ=>φ h/\(∃o,h.get? a=some o)/\∀h1 h2:Heap,φ h1->(∀o,h1.get? a=some o->h2.get? a=some o)->φ h2
def HOk(H:Hp)(h:Heap):Prop:=∀a o,H a=some o->QaQ P w H h a o
end
section
variable {P:Program}{w:World}{H H':Hp}{h h':Heap}{a:Addr}{o:HO}
theorem QaQ.lt(x:QaQ P w H h a o):a<h.objs.size:=by
 cases o with
 | lst xs=>obtain⟨_,_,_,_,e⟩:=x;exact Zo e
 | tup xs=>obtain⟨_,_,_,p⟩:=x;exact p.lt
 | dK kvs=>obtain⟨_,_,_,_,o,_,_,e,_⟩:=x;exact Zo e
 | dT kvs=>obtain⟨_,_,_,_,o,_,_,e,_⟩:=x;exact Zo e
 | set S n=>obtain⟨o,_,_,_,e,_⟩:=x;exact Zo e
 | ins C dx fs=>obtain⟨_,_,_,e,_⟩:=x;exact Zo e
 | own y=>obtain⟨_,e⟩:=x;exact Zo e
 | xd fs=>obtain⟨_,⟨_,_,_,e,_⟩,_⟩:=x;exact Zo e
 | rng lo hi=>obtain⟨_,_,_,e⟩:=x;exact Zo e
 | frz ob u=>obtain⟨e,_⟩:=x;exact Zo e
 | tbl ps=>exact Zo (show h.get? a=some _ from x)
 | met f y=>exact Zo (show h.get? a=some _ from x)
 | ext φ=>obtain⟨_,⟨_,e⟩,_⟩:=x;exact Zo e
theorem Paired.Qwl{α β:Type}{F G:α->β->Prop}:∀{l₁:List α}{l₂:List β},Paired F l₁ l₂->(∀a b,F a b->G a b)->Paired G l₁ l₂
 | _,_,.nil,_=> .nil
 | _,_,.cons r t,f=> .cons (f _ _ r) (Paired.Qwl t f)
theorem QaQ.QgI(x:QaQ P w H h a o)(k:∀b u,(b=a∨H b=some (.own a))->h.get? b=some u->h'.get? b=some u)
  (ho:∀b,H b=some (.own a)->H' b=some (.own a)) (ht:∀b xs,H b=some (.tup xs)->H' b=some (.tup xs)):QaQ P w H' h' a o:=by
 induction o with
 | lst xs=>obtain⟨z,its,n,r,e⟩:=x;exact⟨z,its,n,r,k _ _ (.inl rfl) e⟩
 | tup xs=>obtain⟨z,its,r,ob,e,c⟩:=x;exact⟨z,its,r,ob,k _ _ (.inl rfl) e,c⟩
 | dK kvs=>obtain⟨z,y,vs,r,ob,es,ep,e,c⟩:=x;exact⟨z,y,vs,r,ob,es,ep,k _ _ (.inl rfl) e,c⟩
 | dT kvs=>
  obtain⟨z,y,xs,r,ob,es,ep,e,c⟩:=x;exact⟨z,y,xs,Paired.Qwl r λp q z=>⟨z.1,ht _ _ z.2.1,z.2.2⟩,ob,es,ep,k _ _ (.inl rfl) e,c⟩
 | set S n=>obtain⟨ob,es,ep,t,e,c⟩:=x;exact⟨ob,es,ep,t,k _ _ (.inl rfl) e,c⟩
 | ins C dx fs=>
  obtain⟨d,z,ne,e,mA,⟨od,es,ep,e2,c⟩,r⟩:=x;exact⟨ho _ d,z,ne,k _ _ (.inl rfl) e,mA,⟨od,es,ep,k _ _ (.inr d) e2,c⟩,r⟩
 | own y=>obtain⟨ob,e⟩:=x;exact⟨ob,k _ _ (.inl rfl) e⟩
 | xd fs=>obtain⟨mA,⟨od,es,ep,e,c⟩,r⟩:=x;exact⟨mA,⟨od,es,ep,k _ _ (.inl rfl) e,c⟩,r⟩
 | rng lo hi=>obtain⟨t,u,v,e⟩:=x;exact⟨t,u,v,k _ _ (.inl rfl) e⟩
 | frz ob u ih=>obtain⟨e,q⟩:=x;exact⟨k _ _ (.inl rfl) e,ih q⟩
 | tbl ps=>
  have e:h.get? a=some {cls:= .none,data:= .fields ps}:=x;show h'.get? a=some {cls:= .none,data:= .fields ps};exact k a _ (.inl rfl) e
 | met f y=>
  have e:h.get? a=some (PySem.W.methodObj (.ref f) (.ref y)):=x;show h'.get? a=some (PySem.W.methodObj (.ref f) (.ref y));exact k a _ (.inl rfl) e
 | ext φ=>obtain⟨p,⟨o,e⟩,st⟩:=x;exact⟨st _ _ p λo q=>k _ _ (.inl rfl) q,⟨o,k _ _ (.inl rfl) e⟩,st⟩
theorem HOk.lt(x:HOk P w H h)(e:H a=some o):a<h.objs.size:=(x a o e).lt
theorem HOk.fresh(x:HOk P w H h)(e:h.objs.size<=a):H a=none:=by
 cases q:H a with
 | none=>rfl
 | some u=>exact absurd (Zt (x.lt q) e) (ZP _)
theorem HOk.kept(x:HOk P w H h)(k:∀b u,h.get? b=some u->h'.get? b=some u):HOk P w H h':=λa o e=>
 (x a o e).QgI (λb u _ q=>k b u q) (λ_ q=>q) λ_ _ q=>q
theorem HOk.laid(x:HOk P w H h)(k:∀b u,h.get? b=some u->h'.get? b=some u)(hp:h.objs.size<=a)(new:QaQ P w (upd H a o) h' a o):HOk P w (upd H a o) h':=λb u e=>by
 have hn:=x.fresh hp;by_cases hb:b=a
 ·subst hb;rw[Qad]at e;cases e;exact new
 ·rw[QD hb]at e;exact(x b u e).QgI (λc v _ q=>k c v q) (λc q=>by rw[QD (Qb9 q hn)];exact q) λc xs q=>by rw[QD (Qb9 q hn)];exact q
end
def Rd(H:Hp)(a:Addr)(u:HO):Prop:=H a=some u∨∃o,H a=some (.frz o u)
theorem Rd.ok{P:Program}{w:World}{H:Hp}{h:Heap}{a:Addr}{u:HO}(r:Rd H a u)(x:HOk P w H h):QaQ P w H h a u:=by
 rcases r with r | ⟨o,r⟩
 ·exact x a u r
 ·obtain⟨_,q⟩:=x a _ r;exact q
noncomputable def Mut:Option HO->Prop
 | some (.lst _)=>True
 | some (.dK _)=>True
 | some (.dT _)=>True
 | some (.set _ _)=>True
 | some (.ins _ _ _)=>True
 | some (.ext _)=>True
 | _=>False
section
variable {P:Program}{w:World}{H:Hp}{h h':Heap}{x e:Addr}{o':HO}
theorem HOk.write(ok:HOk P w H h)(mu:Mut (H x))(he:e=x∨H e=some (.own x))(k:∀b u,b≠e->h.get? b=some u->h'.get? b=some u)(heo:∃u,h'.get? e=some u)
  (new:QaQ P w (upd H x o') h' x o'):HOk P w (upd H x o') h':=λb u q=>by
 have nown:∀c y,H c=some (.own y)->c≠x:=λc y r z=>by subst z;rw[r]at mu;exact mu
 have ntup:∀c xs,H c=some (.tup xs)->c≠x:=λc xs r z=>by subst z;rw[r]at mu;exact mu
 by_cases hb:b=x
 ·subst hb;rw[Qad]at q;cases q;exact new
 ·rw[QD hb]at q;by_cases hbe:b=e
  ·have q':H b=some (.own x):=by
    rcases he with z | z
    ·exact absurd (hbe.trans z) hb
    ·rw[hbe];exact z
   rw[q]at q';cases q';obtain⟨v,hv⟩:=heo;exact⟨v,by rw[hbe];exact hv⟩
  ·refine(ok b u q).QgI (λc v hc r=>k c v ?_ r) (λc r=>by rw[QD (nown c b r)];exact r) λc xs r=>by rw[QD (ntup c xs r)];exact r
   rcases hc with rfl | hc
   ·exact hbe
   ·rintro rfl;rcases he with z | z
    ·exact nown c b hc z
    ·rw[hc]at z;cases z;exact hb rfl
end
structure Un (fs ex:LAd) (H H':Hp) (h h':Heap):Prop where
 keep:∀b o,h.get? b=some o->H b=none->b∉fs->b∉ex->h'.get? b=some o
 slot:∀b o,h.get? b=some o->H b=none->b∈fs->b∉ex->∃sl,h'.get? b=some {o with slots:=sl}
 free:∀b o,h.get? b=some o->H b=none->b∉ex->H' b=none
 there:∀b o,h.get? b=some o->b∉ex->∃o',h'.get? b=some o'
 tups:∀b xs,H b=some (.tup xs)->H' b=some (.tup xs)
 frzs:∀b o u,H b=some (.frz o u)->H' b=some (.frz o u)
 tbls:∀b ps,H b=some (.tbl ps)->∃more,H' b=some (.tbl (ps++more))
section
variable {fs fs' ex ex':LAd}{H H1 H2:Hp}{h h1 h2 h':Heap}{a x e:Addr}{o:HO}
theorem Un.any(u:Un fs ex H H1 h h1){b:Addr}{ob:Obj}(q:h.get? b=some ob)(n:H b=none)(hx:b∉ex):∃sl,h1.get? b=some {ob with slots:=sl}:=by
 by_cases hb:b∈fs
 ·exact u.slot b ob q n hb hx
 ·exact⟨ob.slots,u.keep b ob q n hb hx⟩
theorem Un.kept(k:∀b u,h.get? b=some u->h'.get? b=some u):Un fs ex H H h h':=
 ⟨λb ob q _ _ _=>k b ob q,λb ob q _ _ _=>⟨ob.slots,k b ob q⟩,λ_ _ _ n _=>n,λb ob q _=>⟨ob,k b ob q⟩,λ_ _ q=>q,λ_ _ _ q=>q,λ_ ps q=>⟨#[],by rw[q];simp⟩⟩
theorem Un.refl:Un fs ex H H h h:=Un.kept λ_ _ q=>q
theorem Un.laid(k:∀b u,h.get? b=some u->h'.get? b=some u)(hp:h.objs.size<=a)(hn:H a=none):Un fs ex H (upd H a o) h h' where
 keep:=λb u q _ _ _=>k b u q
 slot:=λb u q _ _ _=>⟨u.slots,k b u q⟩
 free:=λb u q n _=>by rw[QD (ZG (Zt (Zo q) hp))];exact n
 there:=λb u q _=>⟨u,k b u q⟩
 tups:=λb xs q=>by rw[QD (Qb9 q hn)];exact q
 frzs:=λb u xs q=>by rw[QD (Qb9 q hn)];exact q
 tbls:=λb ps q=>⟨#[],by rw[QD (Qb9 q hn),q];simp⟩
theorem Un.write(mu:Mut (H x))(he:e=x∨H e=some (.own x))(k:∀b u,b≠e->h.get? b=some u->h'.get? b=some u)(heo:∃u,h'.get? e=some u):Un fs ex H (upd H x o) h h':=by
 have hx:∀b,H b=none->b≠x:=λb n z=>by subst z;rw[n]at mu;exact mu
 have hb:∀b,H b=none->b≠e:=λb n z=>by
  subst z;rcases he with r | r
  ·exact hx b n r
  ·rw[n]at r;cases r
 have hm:∀b u,H b=some u->¬Mut (some u)->b≠x:=λb u q nm z=>by subst z;rw[q]at mu;exact nm mu
 refine⟨λb u q n _ _=>k b u (hb b n) q,λb u q n _ _=>⟨u.slots,k b u (hb b n) q⟩,λb u q n _=>by rw[QD (hx b n)];exact n,λb u q _=>?_,
  λb xs q=>by rw[QD (hm b _ q λz=>z)];exact q,λb u xs q=>by rw[QD (hm b _ q λz=>z)];exact q,λb ps q=>⟨#[],by rw[QD (hm b _ q λz=>z),q];simp⟩⟩
 by_cases hbe:b=e
 ·subst hbe;exact heo
 ·exact⟨u,k b u hbe q⟩
end
noncomputable def trk(h:Heap)(H:Hp):List Addr:=(List.range h.objs.size).filter λa=>(H a).isSome
noncomputable def QhJ(h:Heap)(H:Hp):Heap:=PySem.W.hideAll h (trk h H)
theorem QtQ(h:Heap)(H:Hp):(QhJ h H).objs.size=h.objs.size:=PySem.W.hideAll_size _ _
theorem QvI{h:Heap}{H:Hp}{b:Addr}{o:Obj}(e:h.get? b=some o)(n:H b=none):(QhJ h H).get? b=some o:=
 Zbf _ e λhm=>by
  have q:(H b).isSome=true:=(ZD.mp hm).2;rw[n]at q;simp at q
theorem QxD{h:Heap}{H:Hp}{b:Addr}{o:Obj}(e:(QhJ h H).get? b=some o):h.get? b=some o/\H b=none:=by
 have e':h.get? b=some o:=PySem.W.of_hideAll (trk h H) e;refine⟨e',?_⟩;cases q:H b with
 | none=>rfl
 | some x=>
  have hm:b∈trk h H:=ZD.mpr ⟨Zk.mpr (Zo e'),by simp[q]⟩;have z:(QhJ h H).get? b=none:=PySem.W.hideAll_none (trk h H) hm;rw[z]at e;cases e
structure Mod (K:Fgg) (mg:Str->Option Value) (base:Heap):Prop where
 kin:K.In base
 glob:base.Ns mainGlobals mg
 blt:∃mb,base.Ns builtinsNs mb/\∀x:Str,x≠ "__name__" ->mb x=bootBuiltins x
 nolimit:base.NoLimit
structure Cx where
 prog:Program
 w:World
 K:PySem.W.Frag
 mg:Str->Option Value
 base:Heap
 A:Around
 N:List Str
 s₀:Shared
 H₀:Hp
 env:Env
 outer:List Env
 stack:List Env
 ex:List Addr
 fn:Str->Bool
 calm:Bool
 pn:List (Addr×Obj)
 xe:Value->Shared->Prop
noncomputable def frs(l:List Env):List Addr:=l.filterMap (·.frame)
noncomputable abbrev Cx.fs(X:Cx):List Addr:=frs X.outer
def Vis(sc:Scope)(x:Str):Prop:=sc.names.lookup x=some .local ∨sc.names.lookup x=some .cell∨sc.names.lookup x=some .free
def Loc(sc:Scope)(x:Str):Prop:=sc.names.lookup x=some .local ∨sc.names.lookup x=some .cell
def Look(env:Env)(h:Heap)(m:Str->Option Value)(x:Str)(u:Value):Prop:=
 (env.kindOf x=some .local /\m x=some u)∨((env.kindOf x=some .cell∨env.kindOf x=some .free)/\∃c,env.cells.lookup x=some c/\h.IsCell c (some u))
structure Cx.Ok (X:Cx):Prop where
 mod:Mod X.K X.mg X.base
 kind:X.env.scope.kind= .function
 glob:X.env.globals=mainGlobals
 blt:X.env.builtins=builtinsNs
 above:X.s₀.heap.objs.size<=X.env.locals
 inj:∀x y c,X.env.cells.lookup x=some c->X.env.cells.lookup y=some c->x=y
 has:∀x,(X.env.kindOf x=some .cell∨X.env.kindOf x=some .free)->∃c,X.env.cells.lookup x=some c
 cab:∀x c,X.fn x=true->X.env.cells.lookup x=some c->X.s₀.heap.objs.size<=c
 hd:X.calm=true->X.A.handled=none
 frames:X.A.frames=some X.stack
 stk:X.stack=X.outer∨(X.stack=X.env::X.outer/\X.env.frame=some X.env.locals)
 exf:∀b∈X.ex,b≠X.env.locals/\∀x c,X.env.cells.lookup x=some c->c≠b
 bs:∀b o,X.base.get? b=some o->X.s₀.heap.get? b=some o/\X.H₀ b=none
 bsz:X.base.objs.size<=X.s₀.heap.objs.size
 noex:∀b o,X.base.get? b=some o->b∉X.ex
 exfs:∀b∈X.ex,b∉X.fs
 Qee:X.s₀.heap.FunFrames X.base X.outer
 frf:∀b∈X.fs,X.H₀ b=none
structure Inv (X:Cx) (pins:List (Addr×Obj)) (σ:List (Option V)) (H:Hp) (s:Shared):Prop where
 ok:X.Ok
 os:s.os=X.s₀.os
 bare:AllBare s.gens
 base:Un X.fs X.ex X.H₀ H X.s₀.heap s.heap
 loc:∃m,s.heap.Ns X.env.locals m/\∀(i:Nat) (x:Str) (v:V),X.N[i]? =some x->σ[i]? =some (some v)->Vis X.env.scope x->∃u,RelV v u/\Look X.env s.heap m x u
 cell:∀x c,X.env.cells.lookup x=some c->∃v,s.heap.IsCell c v
 free:H X.env.locals=none
 freeC:∀x c,X.env.cells.lookup x=some c->H c=none
 pin:∀p∈X.pn++pins,s.heap.get? p.1=some p.2/\H p.1=none/\p.1≠X.env.locals/\p.1∉X.fs/\∀v,p.2.data≠ .cell v
 hok:HOk X.prog X.w H s.heap
 len:σ.length=X.N.length
section
variable {X:Cx}{pins:List (Addr×Obj)}{σ:List (Option V)}{H H':Hp}{s:Shared}{h':Heap}
theorem Cx.Ok.QDe(ok:X.Ok){b:Addr}{o:Obj}(e:X.base.get? b=some o):b∉X.fs:=λhb=>by
 have:=(ok.Qee.mem hb).1;rw[e]at this;cases this
theorem Inv.bs(I:Inv X pins σ H s):∀b o,X.base.get? b=some o->s.heap.get? b=some o/\H b=none:=λb o e=>
 ⟨I.base.keep b o (I.ok.bs b o e).1 (I.ok.bs b o e).2 (I.ok.QDe e) (I.ok.noex b o e),I.base.free b o (I.ok.bs b o e).1 (I.ok.bs b o e).2 (I.ok.noex b o e)⟩
theorem Inv.bk(I:Inv X pins σ H s):∀b o,X.base.get? b=some o->s.heap.get? b=some o:=λb o e=>(I.bs b o e).1
theorem Inv.mod(I:Inv X pins σ H s):Mod X.K X.mg X.base:=I.ok.mod
theorem Inv.kIn(I:Inv X pins σ H s):X.K.In s.heap:=I.ok.mod.kin.keeps I.bk
theorem Inv.lt(I:Inv X pins σ H s):X.env.locals<s.heap.objs.size:=let ⟨_,hn,_⟩:=I.loc;hn.lt
theorem Inv.sz(I:Inv X pins σ H s):X.s₀.heap.objs.size<=s.heap.objs.size:=ZC I.ok.above (Nat.le_of_lt I.lt)
theorem Inv.QC3(I:Inv X pins σ H s){a:Addr}(h:s.heap.objs.size<=a):a∉X.fs:=λhb=>by
 obtain⟨_,o,ho,_⟩:=I.ok.Qee.mem hb;exact absurd (Zt (Zo ho) (ZC I.sz h)) (ZP _)
theorem Inv.cne(I:Inv X pins σ H s):∀x c,X.env.cells.lookup x=some c->c≠X.env.locals:=λx c e z=>by
 obtain⟨v,o,ho,hd⟩:=I.cell x c e;obtain⟨m,⟨o',es,ep,ho',hd',_⟩,_⟩:=I.loc;rw[z,ho']at ho;cases ho;rw[hd']at hd;cases hd
theorem Inv.Qee(I:Inv X pins σ H s):s.heap.FunFrames X.base X.outer:=by
 have all:∀(l:List Env),(∀b∈frs l,b∈X.fs)->X.s₀.heap.FunFrames X.base l->s.heap.FunFrames X.base l:=by
  intro l
  induction l with
  | nil=>intro _ _;trivial
  | cons env r ih=>
   intro hs hl;obtain⟨hk,⟨L,o,hf,hn,ho,hd⟩,hr⟩:=hl;have hL:L∈X.fs:=hs L (by unfold frs;rw[ZbF,hf];exact Zg);obtain⟨sl,e⟩:=I.base.slot L o ho (I.ok.frf L hL) hL λz=>I.ok.exfs L z hL;exact⟨hk,⟨L,_,hf,hn,e,hd⟩,ih (λb hb=>hs b (by unfold frs;rw[ZbF,hf];exact Zc _ hb)) hr⟩
 exact all X.outer (λ_ hb=>hb) I.ok.Qee
theorem Inv.stack(I:Inv X pins σ H s):s.heap.FunFrames X.base X.stack:=by
 rcases I.ok.stk with e | ⟨e,hf⟩
 ·rw[e];exact I.Qee
 ·rw[e];obtain⟨m,hn,_⟩:=I.loc;refine .cons (by rw[I.ok.kind];decide) hf hn ?_ I.Qee;exact Heap.get?_none_of_le (ZC I.ok.bsz I.ok.above)
theorem Inv.Qf5(I:Inv X pins σ H s):∀b∈frs X.stack,b∈X.env.locals::X.fs:=λb hb=>by
 rcases I.ok.stk with e | ⟨e,hf⟩
 ·rw[e]at hb;exact Zc _ hb
 ·rw[e]at hb;unfold frs at hb;rw[ZbF,hf]at hb;exact hb
theorem Inv.Qm7(I:Inv X pins σ H s):∀b∈frs X.stack,H b=none:=λb hb=>by
 rcases Zn.mp (I.Qf5 b hb)with e | hb
 ·rw[e];exact I.free
 ·obtain⟨_,o,ho,_⟩:=I.ok.Qee.mem hb;exact I.base.free b o ho (I.ok.frf b hb) λz=>I.ok.exfs b z hb
theorem Inv.step{g':Array GenState}{t':Nat}{d':Drawn}{ch:LAd}(I:Inv X pins σ H s)
  (hch:∀b∈ch,(b∈X.ex∨X.s₀.heap.objs.size<=b)/\b≠X.env.locals/\(∀x c,X.env.cells.lookup x=some c->c≠b)/\∀p∈X.pn++pins,p.1≠b)
  (keep:∀b o,b≠X.env.locals->b∉X.fs->b∉ch->s.heap.get? b=some o->H b=none->h'.get? b=some o)
  (slot:∀b o,b≠X.env.locals->b∈X.fs->b∉ch->s.heap.get? b=some o->H b=none->∃sl,h'.get? b=some {o with slots:=sl}) (free:∀b o,b∉ch->s.heap.get? b=some o->H b=none->H' b=none)
  (there:∀b o,b∉ch->s.heap.get? b=some o->∃o',h'.get? b=some o')
  (tups:∀b xs,H b=some (.tup xs)->H' b=some (.tup xs)) (frzs:∀b o u,H b=some (.frz o u)->H' b=some (.frz o u)) (tbls:∀b ps,H b=some (.tbl ps)->∃more,H' b=some (.tbl (ps++more)))
  (ns:∀m,s.heap.Ns X.env.locals m->h'.Ns X.env.locals m) (hok:HOk X.prog X.w H' h') (hg:AllBare g'):
  Inv X pins σ H' {s with heap:=h',gens:=g',drawn:=d',toks:=t'}:=by
 have neL:∀b o,X.s₀.heap.get? b=some o->b≠X.env.locals:=λb o e=>ZG (Zt (Zo e) I.ok.above);have neC:∀b o,X.s₀.heap.get? b=some o->b∉X.ex->b∉ch:=λb o e hx hb=>by
  rcases(hch b hb).1 with z | z
  ·exact hx z
  ·exact absurd (Zt (Zo e) z) (ZP _)
 have cellK:∀x c,X.env.cells.lookup x=some c->∀v,s.heap.IsCell c v->h'.IsCell c v:=λx c e v Z=>by
  obtain⟨o,ho,hd⟩:=Z;have nch:c∉ch:=λz=>(hch c z).2.2.1 x c e rfl;by_cases hc:c∈X.fs
  ·obtain⟨sl,q⟩:=slot c o (I.cne x c e) hc nch ho (I.freeC x c e);exact⟨_,q,hd⟩
  ·exact⟨o,keep c o (I.cne x c e) hc nch ho (I.freeC x c e),hd⟩
 refine⟨I.ok,I.os,hg,⟨λb o e n hb hx=>?_,λb o e n hb hx=>?_,λb o e n hx=>?_,λb o e hx=>?_,λb xs e=>tups b xs (I.base.tups b xs e),λb o xs e=>frzs b o xs (I.base.frzs b o xs e),λb ps e=>?_⟩,?_,λx c e=>?_,?_,λx c e=>?_,λp hp=>?_,hok,I.len⟩
 ·exact keep b o (neL b o e) hb (neC b o e hx) (I.base.keep b o e n hb hx) (I.base.free b o e n hx)
 ·obtain⟨sl,e1⟩:=I.base.slot b o e n hb hx;obtain⟨sl',e2⟩:=slot b _ (neL b o e) hb (neC b o e hx) e1 (I.base.free b o e n hx);exact⟨sl',e2⟩
 ·obtain⟨o',e1⟩:=I.base.there b o e hx;exact free b o' (neC b o e hx) e1 (I.base.free b o e n hx)
 ·obtain⟨o',e1⟩:=I.base.there b o e hx;exact there b o' (neC b o e hx) e1
 ·obtain⟨m1,e1⟩:=I.base.tbls b ps e;obtain⟨m2,e2⟩:=tbls b _ e1;exact⟨m1++m2,by rw[e2,Array.append_assoc]⟩
 ·obtain⟨m,hn,hl⟩:=I.loc;refine⟨m,ns m hn,λi x v e1 e2 e3=>?_⟩;obtain⟨u,r,l⟩:=hl i x v e1 e2 e3;refine⟨u,r,?_⟩;rcases l with l | ⟨k,c,e,z⟩
  ·exact .inl l
  ·exact .inr ⟨k,c,e,cellK x c e _ z⟩
 ·obtain⟨v,z⟩:=I.cell x c e;exact⟨v,cellK x c e v z⟩
 ·obtain⟨m,⟨o,_,_,ho,_⟩,_⟩:=I.loc;exact free _ o (λz=>(hch _ z).2.1 rfl) ho I.free
 ·obtain⟨v,o,ho,hd⟩:=I.cell x c e;exact free c o (λz=>(hch c z).2.2.1 x c e rfl) ho (I.freeC x c e)
 ·obtain⟨e,n,ne,nf,d⟩:=I.pin p hp;have nch:p.1∉ch:=λz=>(hch p.1 z).2.2.2 p hp rfl;exact⟨keep p.1 p.2 ne nf nch e n,free p.1 p.2 nch e n,ne,nf,d⟩
theorem Inv.un{t':Nat}(I:Inv X pins σ H s)(u:Un X.fs [] H H' s.heap h')(hok:HOk X.prog X.w H' h'):Inv X pins σ H' {s with heap:=h',toks:=t'}:=by
 obtain⟨m,⟨o,es,ep,ho,r⟩,_⟩:=id I.loc;obtain⟨sl,hL⟩:=u.any ho I.free (by simp);exact I.step (g':=s.gens) (d':=s.drawn) (ch:=[]) (λ_ z=>nomatch z) (λb o _ hb _ e n=>u.keep b o e n hb (by simp)) (λb o _ hb _ e n=>u.slot b o e n hb (by simp)) (λb o _ e n=>u.free b o e n (by simp)) (λb o _ e=>u.there b o e (by simp)) u.tups u.frzs u.tbls (λm' hm=>by
  obtain⟨o',es',ep',ho',r'⟩:=hm;rw[ho]at ho';cases ho';exact⟨_,es',ep',hL,r'⟩) hok I.bare
theorem Inv.call{g':Array GenState}{t':Nat}{d':Drawn}{ch:LAd}(I:Inv X pins σ H s)(u:Un (frs X.stack) ch H H' s.heap h')(hok:HOk X.prog X.w H' h')(hg:AllBare g')
  (hch:∀b∈ch,(b∈X.ex∨X.s₀.heap.objs.size<=b)/\b≠X.env.locals/\(∀x c,X.env.cells.lookup x=some c->c≠b)/\∀p∈X.pn++pins,p.1≠b):
  Inv X pins σ H' {s with heap:=h',gens:=g',drawn:=d',toks:=t'}:=by
 obtain⟨m,⟨o,es,ep,ho,r⟩,_⟩:=id I.loc;obtain⟨sl,hL⟩:=u.any ho I.free λz=>(hch _ z).2.1 rfl;exact I.step (ch:=ch) hch (λb o hL hb hc e n=>u.keep b o e n (λz=>(Zn.mp (I.Qf5 b z)).elim hL hb) hc) (λb o _ _ hc e n=>u.any e n hc) (λb o hc e n=>u.free b o e n hc) (λb o hc e=>u.there b o e hc) u.tups u.frzs u.tbls (λm' hm=>by
  obtain⟨o',es',ep',ho',r'⟩:=hm;rw[ho]at ho';cases ho';exact⟨_,es',ep',hL,r'⟩) hok hg
theorem Inv.turned{t':Nat}{it:Addr}(I:Inv X pins σ H s)(k:∀b o,b≠it->s.heap.get? b=some o->h'.get? b=some o)(hn:H it=none)(hL:it≠X.env.locals)
  (h1:it∈X.ex∨X.s₀.heap.objs.size<=it) (h2:∀x c,X.env.cells.lookup x=some c->c≠it) (h3:∀p∈X.pn++pins,p.1≠it):Inv X pins σ H {s with heap:=h',toks:=t'}:=by
 have nit:∀b u,H b=some u->b≠it:=λb u e z=>by rw[z,hn]at e;cases e
 refine I.step (g':=s.gens) (d':=s.drawn) (ch:=[it]) (λb hb=>?_) (λb o _ _ hc e _=>k b o (λz=>hc (by simp[z])) e) (λb o _ _ hc e _=>⟨o.slots,k b o (λz=>hc (by simp[z])) e⟩) (λ_ _ _ _ n=>n)
  (λb o hc e=>⟨o,k b o (λz=>hc (by simp[z])) e⟩) (λ_ _ e=>e) (λ_ _ _ e=>e) (λb ps e=>⟨#[],by rw[e];simp⟩) (λm hm=>?_) (λb u e=>?_) I.bare
 ·have e:b=it:=by simpa using hb
  subst e;exact⟨h1,hL,h2,h3⟩
 ·obtain⟨o,es,ep,ho,r⟩:=hm;exact⟨o,es,ep,k _ o (Ne.symm hL) ho,r⟩
 ·refine(I.hok b u e).QgI (λc v hc q=>k c v ?_ q) (λ_ q=>q) λ_ _ q=>q;rcases hc with z | z
  ·rw[z];exact nit b u e
  ·exact nit c _ z
theorem Inv.tok(I:Inv X pins σ H s)(t:Nat):Inv X pins σ H {s with toks:=t}:=I.un (h':=s.heap) (t':=t) Un.refl I.hok
theorem Inv.kept{t':Nat}(I:Inv X pins σ H s)(k:∀b u,s.heap.get? b=some u->h'.get? b=some u):Inv X pins σ H {s with heap:=h',toks:=t'}:=I.un (Un.kept k) (I.hok.kept k)
theorem Inv.laid{a:Addr}{o:HO}{t':Nat}(I:Inv X pins σ H s)(k:∀b u,s.heap.get? b=some u->h'.get? b=some u)(hp:s.heap.objs.size<=a)(new:QaQ X.prog X.w (upd H a o) h' a o):
  Inv X pins σ (upd H a o) {s with heap:=h',toks:=t'}:=I.un (Un.laid k hp (I.hok.fresh hp)) (I.hok.laid k hp new)
theorem Inv.write{x e:Addr}{o:HO}{t':Nat}(I:Inv X pins σ H s)(mu:Mut (H x))(he:e=x∨H e=some (.own x))(k:∀b u,b≠e->s.heap.get? b=some u->h'.get? b=some u)(heo:∃u,h'.get? e=some u)
  (new:QaQ X.prog X.w (upd H x o) h' x o):Inv X pins σ (upd H x o) {s with heap:=h',toks:=t'}:=I.un (Un.write mu he k heo) (I.hok.write mu he k heo new)
theorem Inv.weak{σ':List (Option V)}(I:Inv X pins σ H s)(hl:σ'.length=σ.length)(w:∀(i:Nat) v,σ'[i]? =some (some v)->σ[i]? =some (some v)):Inv X pins σ' H s:=
 ⟨I.ok,I.os,I.bare,I.base,let ⟨m,hn,hl'⟩:=I.loc;⟨m,hn,λi x v e1 e2 e3=>hl' i x v e1 (w i v e2) e3⟩,I.cell,I.free,I.freeC,I.pin,I.hok,hl.trans I.len⟩
theorem Inv.Qrs{pins':List (Addr×Obj)}(I:Inv X pins σ H s)(h:∀p∈pins',s.heap.get? p.1=some p.2/\H p.1=none/\p.1≠X.env.locals/\p.1∉X.fs/\∀v,p.2.data≠ .cell v):Inv X pins' σ H s:=
 ⟨I.ok,I.os,I.bare,I.base,I.loc,I.cell,I.free,I.freeC,λp hp=>(ZH.mp hp).elim (λz=>I.pin p (Zf _ z)) (h p),I.hok,I.len⟩
theorem QkH{N:List Str}(hN:N.Nodup){i j:Nat}{x:Str}(a:N[i]? =some x)(b:N[j]? =some x):i=j:=by
 obtain⟨h1,e1⟩:=Zm.mp a;obtain⟨h2,e2⟩:=Zm.mp b;exact(List.getElem_inj hN).mp (e1.trans e2.symm)
theorem QnF{M:Model}{A:Around}{E:Value->Shared->Prop}{i:Nat}{x:Str}{v:V}{u:Value}{Q:Unit->Shared->Prop}(I:Inv X pins σ H s)(hN:X.N.Nodup)(hi:X.N[i]? =some x)(hx:Loc X.env.scope x)(r:RelV v u)
  (h:∀s',Inv X pins (σ.set i (some v)) H s'->(∃a,Heap.SameBut a s.heap s'.heap/\(a=X.env.locals∨X.env.cells.lookup x=some a))->Q () s') (hf:X.fn x=true∨X.env.scope.names.lookup x=some .local :=by first | exact .inl rfl | exact .inr rfl | assumption):wpAny M A (storeName X.env x u) Q E s:=by
 obtain⟨m,hn,hl⟩:=id I.loc;have hcls:(X.env.scope.kind == .class || (X.env.scope.kind == .module && X.env.locals != X.env.globals))=false:=by rw[I.ok.kind];rfl
 have hiσ:i<σ.length:=by rw[I.len];exact(Zm.mp hi).1
 have cne:=I.cne;have tracked:∀{a:Addr}{h':Heap},(∃o,s.heap.get? a=some o/\H a=none)->Heap.SameBut a s.heap h'->HOk X.prog X.w H h':=λ{a h'} ha hs b ob e=>by
  obtain⟨_,_,hfree⟩:=ha;refine(I.hok b ob e).QgI (λc w' hc q=>(hs.2 c ?_).trans q) (λ_ q=>q) λ_ _ q=>q;rintro rfl;rcases hc with rfl | hc
  ·rw[hfree]at e;cases e
  ·rw[hfree]at hc;cases hc
 rcases hx with hk | hk
 ·refine wpAny_storeName_local hk hn (λh' hn' hs=>?_) hcls;obtain⟨oL,_,_,hoL,_⟩:=id hn;refine h _ ⟨I.ok,I.os,I.bare,⟨λb o e n hb hx=>?_,λb o e n hb hx=>?_,I.base.free,λb o e hx=>?_,I.base.tups,I.base.frzs,I.base.tbls⟩,⟨_,hn',λj y v' e1 e2 e3=>?_⟩,λy c e=>?_,I.free,I.freeC,λp hp=>?_,tracked ⟨oL,hoL,I.free⟩ hs,by simpa using I.len⟩ ⟨_,hs,.inl rfl⟩
  ·exact(hs.2 b (ZG (Zt (Zo e) I.ok.above))).trans (I.base.keep b o e n hb hx)
  ·obtain⟨sl,e1⟩:=I.base.slot b o e n hb hx;exact⟨sl,(hs.2 b (ZG (Zt (Zo e) I.ok.above))).trans e1⟩
  ·obtain⟨o',e1⟩:=I.base.there b o e hx;exact⟨o',(hs.2 b (ZG (Zt (Zo e) I.ok.above))).trans e1⟩
  ·by_cases hj:j=i
   ·subst hj;rw[hi]at e1;cases e1;rw[Zu hiσ]at e2;cases e2;exact⟨u,r,.inl ⟨hk,by simp⟩⟩
   ·rw[Zi (Ne.symm hj)]at e2;obtain⟨u',r',q⟩:=hl j y v' e1 e2 e3;refine⟨u',r',?_⟩;rcases q with⟨k,e⟩ | ⟨k,c,e,z⟩
    ·refine .inl ⟨k,?_⟩;have:y≠x:=λe=>hj (QkH hN e1 (e▸hi));simp[this,e]
    ·exact .inr ⟨k,c,e,z.sameBut hs (cne y c e)⟩
  ·obtain⟨w',z⟩:=I.cell y c e;exact⟨w',z.sameBut hs (cne y c e)⟩
  ·obtain⟨e,n,ne,nf,d⟩:=I.pin p hp;exact⟨(hs.2 p.1 ne).trans e,n,ne,nf,d⟩
 ·have hfn:X.fn x=true:=by
   rcases hf with z | z
   ·exact z
   ·rw[z]at hk;cases hk
  obtain⟨c,hc⟩:=I.ok.has x (.inl hk);obtain⟨w',z⟩:=I.cell x c hc;refine wpAny_storeName_cell I.ok.kind hk hc z (λh' hc' hs=>?_);obtain⟨oc,hoc,hocd⟩:=id z;refine h {s with heap:=h'} ⟨I.ok,I.os,I.bare,⟨λb o e n hb hx=>?_,λb o e n hb hx=>?_,I.base.free,λb o e hx=>?_,I.base.tups,I.base.frzs,I.base.tbls⟩,⟨m,hn.sameBut hs (Ne.symm (cne x c hc)),λj y v' e1 e2 e3=>?_⟩,λy c' e=>?_,I.free,I.freeC,λp hp=>?_,tracked ⟨oc,hoc,I.freeC x c hc⟩ hs,by simpa using I.len⟩ ⟨c,hs,.inr hc⟩
  ·exact(hs.2 b (ZG (Zt (Zo e) (I.ok.cab x c hfn hc)))).trans (I.base.keep b o e n hb hx)
  ·obtain⟨sl,e1⟩:=I.base.slot b o e n hb hx;exact⟨sl,(hs.2 b (ZG (Zt (Zo e) (I.ok.cab x c hfn hc)))).trans e1⟩
  ·obtain⟨o',e1⟩:=I.base.there b o e hx;exact⟨o',(hs.2 b (ZG (Zt (Zo e) (I.ok.cab x c hfn hc)))).trans e1⟩
  ·by_cases hj:j=i
   ·subst hj;rw[hi]at e1;cases e1;rw[Zu hiσ]at e2;cases e2;exact⟨u,r,.inr ⟨.inl hk,c,hc,hc'⟩⟩
   ·rw[Zi (Ne.symm hj)]at e2;obtain⟨u',r',q⟩:=hl j y v' e1 e2 e3;refine⟨u',r',?_⟩;rcases q with q | ⟨k,c',e,z'⟩
    ·exact .inl q
    ·refine .inr ⟨k,c',e,z'.sameBut hs ?_⟩;rintro rfl;exact hj (QkH hN e1 (I.ok.inj _ _ _ e hc▸hi))
  ·by_cases hcc:c'=c
   ·subst hcc;exact⟨_,hc'⟩
   ·obtain⟨w2,z2⟩:=I.cell y c' e;exact⟨w2,z2.sameBut hs hcc⟩
  ·obtain⟨e,n,ne,nf,d⟩:=I.pin p hp;refine⟨(hs.2 p.1 ?_).trans e,n,ne,nf,d⟩;intro q;rw[q,hoc]at e;have q':oc=p.2:=Option.some.inj e;exact d w' (by rw[← q'];exact hocd)
theorem Qf7{M:Model}{A:Around}{E:Value->Shared->Prop}{i:Nat}{x:Str}{v:V}{u:Value}{Q:Unit->Shared->Prop}(I:Inv X pins σ H s)(hN:X.N.Nodup)(hi:X.N[i]? =some x)(hx:Loc X.env.scope x)(r:RelV v u)
  (h:∀s',Inv X pins (σ.set i (some v)) H s'->Q () s') (hf:X.fn x=true∨X.env.scope.names.lookup x=some .local :=by first | exact .inl rfl | exact .inr rfl | assumption):wpAny M A (storeName X.env x u) Q E s:=
 QnF I hN hi hx r (λs' I' _=>h s' I') hf
theorem Inv.Qxb{s':Shared}{ch:LAd}(I:Inv X pins σ H s)(ho:s'.os=s.os)(u:Un (frs X.stack) ch H H' s.heap s'.heap)(hok:HOk X.prog X.w H' s'.heap)(hg:AllBare s'.gens)
  (hch:∀b∈ch,(b∈X.ex∨X.s₀.heap.objs.size<=b)/\b≠X.env.locals/\(∀x c,X.env.cells.lookup x=some c->c≠b)/\∀p∈X.pn++pins,p.1≠b):Inv X pins σ H' s':=by
 obtain⟨h',g',d',t',o'⟩:=s';have e:o'=s.os:=ho;subst e;exact I.call (g':=g') (t':=t') (d':=d') u hok hg hch
end
noncomputable abbrev XK:=Value->Option Addr->Hp->Prop
noncomputable abbrev St:=List (Option V)
noncomputable abbrev VK:=V->Hp->Prop
noncomputable abbrev TE:=St->Hp->VK->Prop
noncomputable abbrev TT:=St->Hp->(Bool->Hp->Prop)->Prop
noncomputable abbrev TA:=St->Hp->(List V->Hp->Prop)->Prop
structure Ends where
 nx:St->Hp->Prop
 rt:VK
 bk:St->Hp->Prop:=λ_ _=>False
 ct:St->Hp->Prop:=λ_ _=>False
noncomputable abbrev TS:=Ends->St->Hp->Prop
def EP(X:Cx)(pins:List (Addr×Obj))(σ:St)(Q:VK)(u:Value)(s':Shared):Prop:=∃v H',Inv X pins σ H' s'/\RelV v u/\Q v H'
def TP(X:Cx)(pins:List (Addr×Obj))(σ:St)(Q:Bool->Hp->Prop)(b:Bool)(s':Shared):Prop:=∃H',Inv X pins σ H' s'/\Q b H'
def AP(X:Cx)(pins:List (Addr×Obj))(σ:St)(Q:List V->Hp->Prop)(us:List Value)(s':Shared):Prop:=∃vs H',Inv X pins σ H' s'/\QA vs us/\Q vs H'
def SP(X:Cx)(pins:List (Addr×Obj))(D:Ends)(f:Flow)(s':Shared):Prop:=
 match f with
 | .next=>∃σ' H',Inv X pins σ' H' s'/\D.nx σ' H'
 | .brk=>∃σ' H',Inv X pins σ' H' s'/\D.bk σ' H'
 | .cont=>∃σ' H',Inv X pins σ' H' s'/\D.ct σ' H'
 | .ret u=>∃v σ' H',Inv X pins σ' H' s'/\RelV v u/\D.rt v H'
def PE(X:Cx)(e:Expr)(t:TE):Prop:=
 ∀(pins:List (Addr×Obj)) (s:Shared) (σ:St) (H:Hp) (Q:VK),Inv X pins σ H s->t σ H Q->wpAny (model X.prog X.w) X.A (eval e X.env) (EP X pins σ Q) X.xe s
def PT(X:Cx)(e:Expr)(t:TT):Prop:=
 ∀(pins:List (Addr×Obj)) (s:Shared) (σ:St) (H:Hp) (Q:Bool->Hp->Prop),Inv X pins σ H s->t σ H Q->wpAny (model X.prog X.w) X.A (isTrue e X.env (eval e X.env)) (TP X pins σ Q) X.xe s
def PW(X:Cx)(e:Expr)(t:TT):Prop:=
 ∀(whole:Sem Value) (pins:List (Addr×Obj)) (s:Shared) (σ:St) (H:Hp) (Q:Bool->Hp->Prop),Inv X pins σ H s->t σ H Q->wpAny (model X.prog X.w) X.A (isTrue e X.env whole) (TP X pins σ Q) X.xe s
theorem PW.pt{X:Cx}{e:Expr}{t:TT}(h:PW X e t):PT X e t:=h _
def PA(X:Cx)(es:List Expr)(t:TA):Prop:=
 ∀(pos:Pos) (pins:List (Addr×Obj)) (s:Shared) (σ:St) (H:Hp) (Q:List V->Hp->Prop),Inv X pins σ H s->t σ H Q->wpAny (model X.prog X.w) X.A (spliced (backTo pos (starEach es X.env))) (AP X pins σ Q) X.xe s
def PS(X:Cx)(st:Stmt)(t:TS):Prop:=
 ∀(pins:List (Addr×Obj)) (s:Shared) (σ:St) (H:Hp) (D:Ends),Inv X pins σ H s->t D σ H->wpAny (model X.prog X.w) X.A (exec st X.env) (SP X pins D) X.xe s
def PSs(X:Cx)(st:List Stmt)(t:TS):Prop:=
 ∀(pins:List (Addr×Obj)) (s:Shared) (σ:St) (H:Hp) (D:Ends),Inv X pins σ H s->t D σ H->wpAny (model X.prog X.w) X.A (execs st X.env) (SP X pins D) X.xe s
theorem thn{α:Type}{t:Sem α}{Q Q':α->Shared->Prop}{M:Model}{A:Around}{E:Value->Shared->Prop}{s:Shared}(h:wpAny M A t Q E s)(hQ:∀a s,Q a s->Q' a s):wpAny M A t Q' E s:=wpAny_mono h hQ λ_ _ x=>x
section
variable {X:Cx}
noncomputable def QkL(i:Nat):TE:=λσ H Q=>∃v,σ[i]? =some (some v)/\Q v H
noncomputable def tC(v:V):TE:=λ_ H Q=>Q v H
theorem QAS{i:Nat}{x:Str}{pos:Pos}(hN:X.N[i]? =some x)(hv:Vis X.env.scope x)(hd:(x == ("__debug__" :Str))=false:=by decide)(hcd:(x == ("__classdict__" :Str))=false:=by decide):PE X (.Name x pos) (QkL i):=by
 intro pins s σ H Q I h;obtain⟨v,e,h⟩:=h;obtain⟨m,hn,hl⟩:=I.loc;obtain⟨u,r,l⟩:=hl i x v hN e hv;have fin:EP X pins σ Q u s:=⟨v,H,I,r,h⟩;rcases l with⟨hk,hm⟩ | ⟨hk,c,hc,hcell⟩
 ·exact wpAny_Name (wpAny_loadName_local I.ok.kind hk hn hm fin) hd
 ·rcases hk with hk | hk
  ·exact wpAny_Name (wpAny_loadName_cell I.ok.kind hk hc hcell fin) hd
  ·exact wpAny_Name (wpAny_loadName_free I.ok.kind hk hc hcell fin hcd) hd
theorem QlQ{i j pos}:PE X (.Constant (.int i) j pos) (tC (.int i)):=λ_ _ _ H _ I h=>wpAny_Constant_int ⟨.int i,H,I.tok _,⟨_,rfl⟩,h⟩
theorem Qn6{b j pos}:PE X (.Constant (.bool b) j pos) (tC (.bl b)):=λ_ _ _ H _ I h=>Constant_bool ⟨.bl b,H,I,rfl,h⟩
theorem Qzw{j pos}:PE X (.Constant .none j pos) (tC .non):=λ_ _ _ H _ I h=>Constant_none ⟨.non,H,I,rfl,h⟩
theorem QzG{x j pos}:PE X (.Constant (.str x) j pos) (tC (.str x)):=λ_ _ _ H _ I h=>Calls.Constant_str ⟨.str x,H,I.tok _,⟨_,rfl⟩,h⟩
def Gl(X:Cx)(x:Str):Prop:=X.env.kindOf x=some .globalImplicit
theorem QdQ{E:Value->Shared->Prop}{pins:List (Addr×Obj)}{s:Shared}{σ:St}{H:Hp}{x:Str}{u:Value}{pos:Pos}{Q:Value->Shared->Prop}(I:Inv X pins σ H s)(hg:Gl X x)(hm:X.mg x=some u)(h:Q u s)
  (hd:(x == ("__debug__" :Str))=false:=by decide):wpAny (model X.prog X.w) X.A (eval (.Name x pos) X.env) Q E s:=
 Calls.Name_function_global I.ok.kind hg (Calls.loadGlobal_global (by rw[I.ok.glob];exact I.mod.glob.keeps I.bk) hm h) hd
theorem Qdm{E:Value->Shared->Prop}{pins:List (Addr×Obj)}{s:Shared}{σ:St}{H:Hp}{x:Str}{u:Value}{pos:Pos}{Q:Value->Shared->Prop}(I:Inv X pins σ H s)(hg:Gl X x)(hm:X.mg x=none)(hv:bootBuiltins x=some u)(h:Q u s)
  (hn:x≠ "__name__" :=by decide) (hd:(x == ("__debug__" :Str))=false:=by decide):wpAny (model X.prog X.w) X.A (eval (.Name x pos) X.env) Q E s:=by
 obtain⟨mb,h1,h2⟩:=I.mod.blt;exact Calls.Name_function_global I.ok.kind hg (Calls.loadGlobal_builtin (by rw[I.ok.glob];exact I.mod.glob.keeps I.bk) hm (by rw[I.ok.blt];exact h1.keeps I.bk) ((h2 x hn).trans hv) h) hd
theorem Qxo{x:Str}{v:V}{u:Value}{pos:Pos}(hg:Gl X x)(hm:X.mg x=some u)(r:RelV v u)(hd:(x == ("__debug__" :Str))=false:=by decide):PE X (.Name x pos) (tC v):=
 λ_ _ _ H _ I h=>QdQ I hg hm ⟨v,H,I,r,h⟩ hd
theorem QgR{x:Str}{v:V}{u:Value}{pos:Pos}(hg:Gl X x)(hm:X.mg x=none)(hv:bootBuiltins x=some u)(r:RelV v u)(hn:x≠ "__name__" :=by decide)(hd:(x == ("__debug__" :Str))=false:=by decide):PE X (.Name x pos) (tC v):=
 λ_ _ _ H _ I h=>Qdm I hg hm hv ⟨v,H,I,r,h⟩ hn hd
variable {a b:Expr}{ta tb:TE}{pos:Pos}
variable {tA tB':TT}{rest:List Expr}
noncomputable def QC5(t u:TT):TT:=λσ H Q=>t σ H λc H1=>if c=true then u σ H1 Q else Q false H1
noncomputable def tOr(t u:TT):TT:=λσ H Q=>t σ H λc H1=>if c=true then Q true H1 else u σ H1 Q
noncomputable def QDu(t:TT):TT:=λσ H Q=>t σ H λc H1=>Q (!c) H1
theorem QxP(ha:PT X a tA):PW X (.BoolOp .And [a] pos) tA:=by
 intro wh pins s σ H Q I h;refine isTrue_and (thn (ha pins s σ H Q I h) λc s1 e=>?_);cases c with
 | true=>exact isTrue_and_nil e
 | false=>exact e
theorem QBq(ha:PT X a tA):PW X (.BoolOp .Or [a] pos) tA:=by
 intro wh pins s σ H Q I h;refine isTrue_or (thn (ha pins s σ H Q I h) λc s1 e=>?_);cases c with
 | false=>exact isTrue_or_nil e
 | true=>exact e
theorem QAr(ha:PT X a tA)(hb:PW X (.BoolOp .And (b::rest) pos) tB'):PW X (.BoolOp .And (a::b::rest) pos) (QC5 tA tB'):=by
 intro wh pins s σ H Q I h;refine isTrue_and (thn (ha pins s σ H _ I h) λc s1 Z=>?_);obtain⟨H1,I1,q1⟩:=Z;cases c with
 | true=>exact hb wh pins s1 σ H1 Q I1 q1
 | false=>exact⟨H1,I1,q1⟩
theorem QB1(ha:PT X a tA)(hb:PW X (.BoolOp .Or (b::rest) pos) tB'):PW X (.BoolOp .Or (a::b::rest) pos) (tOr tA tB'):=by
 intro wh pins s σ H Q I h;refine isTrue_or (thn (ha pins s σ H _ I h) λc s1 Z=>?_);obtain⟨H1,I1,q1⟩:=Z;cases c with
 | true=>exact⟨H1,I1,q1⟩
 | false=>exact hb wh pins s1 σ H1 Q I1 q1
theorem Qz3(ha:PT X a tA):PT X (.UnaryOp .Not a pos) (QDu tA):=by
 intro pins s σ H Q I h;exact isTrue_not (ha pins s σ H (λc H1=>Q (!c) H1) I h)
theorem QAM{op}{t:TE}(h:PE X a t):PE X (.BoolOp op [a] pos) t:=λpins s σ H Q I hw=>BoolOp_one (h pins s σ H Q I hw)
end
def SqL(K:Fgg)(H:Hp)(a:Addr)(xs:List V):Prop:=
 Rd H a (.lst xs)∨
  ∃(o:Obj) (its:Array Value) (n:Nat),K.lookup a=some o/\o.cls= .type "list" /\o.dict=none/\o.data= .seq its n/\its.size<=sizeLine/\QA xs its.toList
def SqT(K:Fgg)(H:Hp)(a:Addr)(xs:List V):Prop:=
 Rd H a (.tup xs)∨
  ∃(o:Obj) (its:Array Value) (n:Nat),K.lookup a=some o/\o.cls= .type "tuple" /\o.data= .seq its n/\its.size<=sizeLine/\QA xs its.toList
noncomputable def QDf:Value->Option V
 | .none=>some .non
 | .bool b=>some (.bl b)
 | .int i _=>some (.int i)
 | .str x _=>some (.str x)
 | .bytes b _=>some (.byt b)
 | .float b _=>some (.flt b)
 | .ref a=>some (.ref a)
 | .type n=>some (.ty n)
 | _=>none
theorem RelV.abs{x:V}{u:Value}(r:RelV x u):QDf u=some x:=by
 cases x with
 | non=>cases r;rfl
 | bl _=>cases r;rfl
 | int _=>obtain⟨t,rfl⟩:=r;rfl
 | str _=>obtain⟨t,rfl⟩:=r;rfl
 | byt _=>obtain⟨t,rfl⟩:=r;rfl
 | flt _=>obtain⟨t,rfl⟩:=r;rfl
 | ref _=>cases r;rfl
 | ty _=>cases r;rfl
theorem RelV.inj{x y:V}{u:Value}(r:RelV x u)(q:RelV y u):x=y:=Option.some.inj (r.abs.symm.trans q.abs)
theorem QA.inj:∀{xs ys:List V}{us:List Value},QA xs us->QA ys us->xs=ys
 | _,_,_,.nil,.nil=>rfl
 | _,_,_,.cons r t,.cons r' t'=>by rw[r.inj r',QA.inj t t']
section
variable {X:Cx}{pins:List (Addr×Obj)}{σ:St}{H:Hp}{s:Shared}{a:Addr}{xs ys:List V}
theorem SqL.of{K:Fgg}(h:H a=some (.lst xs)):SqL K H a xs:= .inl (.inl h)
theorem SqT.of{K:Fgg}(h:H a=some (.tup xs)):SqT K H a xs:= .inl (.inl h)
theorem Inv.list(I:Inv X pins σ H s)(h:SqL X.K H a xs):∃its:List Value,QA xs its/\PlainL s.heap a its.toArray/\xs.length<=sizeLine:=by
 rcases h with h | ⟨o,its,n,hk,hc,hd,hs,hz,r⟩
 ·obtain⟨z,its,n,r,e⟩:=h.ok I.hok;exact⟨its,r,⟨_,n,e,rfl,rfl,rfl⟩,z⟩
 ·refine⟨its.toList,r,⟨o,n,I.kIn a o hk,hc,hd,by simpa using hs⟩,?_⟩;have e:=r.length;simp only[Zaa]at e;omega
theorem Inv.tuple(I:Inv X pins σ H s)(h:SqT X.K H a xs):∃its:List Value,QA xs its/\IsTup s.heap a its.toArray/\xs.length<=sizeLine:=by
 rcases h with h | ⟨o,its,n,hk,hc,hs,hz,r⟩
 ·obtain⟨z,its,r,p⟩:=h.ok I.hok;exact⟨its,r,p,z⟩
 ·refine⟨its.toList,r,⟨o,I.kIn a o hk,hc,n,by simpa using hs⟩,?_⟩;have e:=r.length;simp only[Zaa]at e;omega
theorem Inv.QdD(I:Inv X pins σ H s)(h:SqL X.K H a xs)(h':SqL X.K H a ys):xs=ys:=by
 obtain⟨its,r,⟨o,n,e,_,_,d⟩,_⟩:=I.list h;obtain⟨its',r',⟨o',n',e',_,_,d'⟩,_⟩:=I.list h';rw[e]at e';cases e';rw[d]at d';injection d' with d1 _;have:its=its':=by simpa using congrArg Array.toList d1
 subst this;exact r.inj r'
theorem Inv.Qs6(I:Inv X pins σ H s)(h:SqT X.K H a xs)(h':SqT X.K H a ys):xs=ys:=by
 obtain⟨its,r,⟨o,e,_,n,d⟩,_⟩:=I.tuple h;obtain⟨its',r',⟨o',e',_,n',d'⟩,_⟩:=I.tuple h';rw[e]at e';cases e';rw[d]at d';injection d' with d1 _;have:its=its':=by simpa using congrArg Array.toList d1
 subst this;exact r.inj r'
end
noncomputable abbrev Cx.QfY(X:Cx)(E:Value->Shared->Prop):Cx:={X with xe:=E}
noncomputable abbrev Cx.nox(X:Cx):Cx:=X.QfY λ_ _=>False
theorem Cx.Ok.QfY{X:Cx}(ok:X.Ok)(E:Value->Shared->Prop):(X.QfY E).Ok:=
 ⟨ok.mod,ok.kind,ok.glob,ok.blt,ok.above,ok.inj,ok.has,ok.cab,ok.hd,ok.frames,ok.stk,ok.exf,ok.bs,ok.bsz,ok.noex,ok.exfs,ok.Qee,ok.frf⟩
theorem Cx.Ok.QeT{X:Cx}{E:Value->Shared->Prop}(ok:(X.QfY E).Ok):X.Ok:=
 ⟨ok.mod,ok.kind,ok.glob,ok.blt,ok.above,ok.inj,ok.has,ok.cab,ok.hd,ok.frames,ok.stk,ok.exf,ok.bs,ok.bsz,ok.noex,ok.exfs,ok.Qee,ok.frf⟩
section
variable {X:Cx}{pins:List (Addr×Obj)}{σ:St}{H:Hp}{s:Shared}{E:Value->Shared->Prop}
theorem Inv.QfY(I:Inv X pins σ H s)(E:Value->Shared->Prop):Inv (X.QfY E) pins σ H s:=⟨I.ok.QfY E,I.os,I.bare,I.base,I.loc,I.cell,I.free,I.freeC,I.pin,I.hok,I.len⟩
theorem Inv.QeT(I:Inv (X.QfY E) pins σ H s):Inv X pins σ H s:=⟨I.ok.QeT,I.os,I.bare,I.base,I.loc,I.cell,I.free,I.freeC,I.pin,I.hok,I.len⟩
theorem SP.QeT{D:Ends}{f:Flow}{s':Shared}(h:SP (X.QfY E) pins D f s'):SP X pins D f s':=by
 cases f with
 | next=>obtain⟨σ',H',I,q⟩:=h;exact⟨σ',H',I.QeT,q⟩
 | brk=>obtain⟨σ',H',I,q⟩:=h;exact⟨σ',H',I.QeT,q⟩
 | cont=>obtain⟨σ',H',I,q⟩:=h;exact⟨σ',H',I.QeT,q⟩
 | ret u=>obtain⟨v,σ',H',I,r,q⟩:=h;exact⟨v,σ',H',I.QeT,r,q⟩
theorem PSs.nox{st:List Stmt}{t:TS}(h:PSs X.nox st t):PSs X st t:=λpins s σ H D I hw=>
 wpAny_mono (h pins s σ H D (I.QfY _) hw) (λ_ _ q=>q.QeT) λ_ _ z=>False.elim z
end
section
variable {X:Cx}{st:Stmt}{rest:List Stmt}{t u:TS}{e:Expr}{te:TE}{pos:Pos}
noncomputable def Qr4:TS:=λD σ H=>D.nx σ H
noncomputable def QC4(t u:TS):TS:=λD σ H=>t {D with nx:=u D} σ H
theorem Qyf:PSs X [] Qr4:=λ_ _ σ H _ I h=>wpAny_execs_nil ⟨σ,H,I,h⟩
theorem Qps(h1:PS X st t)(h2:PSs X rest u):PSs X (st::rest) (QC4 t u):=by
 intro pins s σ H D I h;refine wpAny_execs_cons (thn (h1 pins s σ H {D with nx:=u D} I h) λf s1 q=>?_);cases f with
 | next=>
  obtain⟨σ',H',I',q⟩:=q;exact h2 pins s1 σ' H' D I' q
 | ret v=>exact q
 | brk=>exact q
 | cont=>exact q
noncomputable def QBn:TS:=λD σ H=>D.bk σ H
noncomputable def QBO:TS:=λD σ H=>D.ct σ H
theorem Qy9:PS X (.Pass pos) Qr4:=λ_ _ σ H _ I h=>wpAny_Pass ⟨σ,H,I,h⟩
theorem Qwc:PS X (.Break pos) QBn:=λ_ _ σ H _ I h=>wpAny_Break ⟨σ,H,I,h⟩
theorem Qqp:PS X (.Continue pos) QBO:=λ_ _ σ H _ I h=>wpAny_Continue ⟨σ,H,I,h⟩
theorem Inv.quiet{pins:List (Addr×Obj)}{σ:St}{H:Hp}{s:Shared}(I:Inv X pins σ H s):interactive X.env=false:=by simp[interactive,I.ok.kind]
theorem QAd{x j pos pos'}:PS X (.Expr (.Constant (.str x) j pos) pos') Qr4:=λ_ s σ H _ I h=>wpAny_Expr (Calls.Constant_str (show SP X _ _ .next {s with toks:=s.toks+1}from⟨σ,H,I.tok _,h⟩)) I.quiet
noncomputable def Qrv(te:TE):TS:=λD σ H=>te σ H λ_ H1=>D.nx σ H1
theorem Qmt(he:PE X e te)(hs:swapsWith e none pos.line X.env=pure false:=by rfl):PS X (.Expr e pos) (Qrv te):=by
 intro pins s σ H D I h;exact wpAny_Expr_any (thn (he pins s σ H _ I h) λv s1 ⟨x,H1,I1,r1,q1⟩=>⟨σ,H1,I1,q1⟩) I.quiet hs
noncomputable def QDh(te:TE):TS:=λD σ H=>te σ H D.rt
theorem QsJ(he:PE X e te):PS X (.Return (some e) pos) (QDh te):=by
 intro pins s σ H D I h;exact wpAny_Return_some (thn (he pins s σ H _ I h) λv s1 ⟨x,H1,I1,r1,q1⟩=>⟨x,σ,H1,I1,r1,q1⟩)
noncomputable def QCH(c:TT)(t u:TS):TS:=λD σ H=>c σ H λb H1=>if b=true then t D σ H1 else u D σ H1
theorem Qw5{c:Expr}{a b:List Stmt}{tc:TT}(hc:PT X c tc)(ha:PSs X a t)(hb:PSs X b u):PS X (.If c a b pos) (QCH tc t u):=by
 intro pins s σ H D I h;refine wpAny_If (thn (hc pins s σ H _ I h) λd s1 Z=>?_);obtain⟨H1,I1,q1⟩:=Z;cases d with
 | true=>exact ha pins s1 σ H1 D I1 q1
 | false=>exact hb pins s1 σ H1 D I1 q1
noncomputable def QAF:TS:=λ_ _ _=>False
theorem QvO:PS X st QAF:=λ_ _ _ _ _ _ h=>h.elim
end
noncomputable abbrev TG:=V->St->Hp->(St->Hp->Prop)->Prop
noncomputable abbrev TGs:=List V->St->Hp->(St->Hp->Prop)->Prop
def PG(X:Cx)(target:Expr)(t:TG):Prop:=
 ∀(pins:List (Addr×Obj)) (s:Shared) (σ:St) (H:Hp) (v:V) (u:Value) (Q:St->Hp->Prop),Inv X pins σ H s->RelV v u->t v σ H Q→
  wpAny (model X.prog X.w) X.A (assign target X.env u) (λ_ s'=>∃σ' H',Inv X pins σ' H' s'/\Q σ' H') X.xe s
def PGs(X:Cx)(ts:List Expr)(t:TGs):Prop:=
 ∀(pins:List (Addr×Obj)) (s:Shared) (σ:St) (H:Hp) (vs:List V) (us:List Value) (Q:St->Hp->Prop),Inv X pins σ H s->QA vs us->t vs σ H Q→
  wpAny (model X.prog X.w) X.A (assignInOrder ((assignEach ts X.env).map (·.2)) us) (λ_ s'=>∃σ' H',Inv X pins σ' H' s'/\Q σ' H') X.xe s
noncomputable abbrev Qos:=V->V->V->Hp->(Hp->Prop)->Prop
def Qu2(X:Cx)(t:Qos):Prop:=
 ∀(pins:List (Addr×Obj)) (s:Shared) (σ:St) (H:Hp) (o i v:V) (ov iv u:Value) (Q:Hp->Prop),Inv X pins σ H s->RelV o ov->RelV i iv->RelV v u->t o i v H Q→
  wpAny (model X.prog X.w) X.A (setItem ov iv u) (λ_ s'=>∃H',Inv X pins σ H' s'/\Q H') X.xe s
noncomputable abbrev TIp:=V->V->Hp->VK->Prop
def PIp(X:Cx)(op:Operator)(t:TIp):Prop:=
 ∀(pins:List (Addr×Obj)) (s:Shared) (σ:St) (H:Hp) (x y:V) (v u:Value) (Q:VK),Inv X pins σ H s->RelV x v->RelV y u->t x y H Q→
  wpAny (model X.prog X.w) X.A (inplaceOp op v u) (EP X pins σ Q) X.xe s
section
variable {X:Cx}{pos:Pos}
noncomputable def Qjo(i:Nat):TG:=λv σ H Q=>Q (σ.set i (some v)) H
theorem Qrc{i:Nat}{x:Str}(hN:X.N.Nodup)(hi:X.N[i]? =some x)(hx:Loc X.env.scope x)(hf:X.fn x=true∨X.env.scope.names.lookup x=some .local :=by first | exact .inl rfl | exact .inr rfl | assumption):PG X (.Name x pos) (Qjo i):=by
 intro pins s σ H v u Q I r h;exact wpAny_assign_Name (Qf7 I hN hi hx r (λs' I'=>⟨_,H,I',h⟩) hf)
noncomputable def QzU:TGs:=λvs σ H Q=>vs=[]/\Q σ H
noncomputable def Qw8(t:TG)(u:TGs):TGs:=λvs σ H Q=>∃v r,vs=v::r/\t v σ H λσ' H'=>u r σ' H' Q
theorem QyG:PGs X [] QzU:=by
 intro pins s σ H vs us Q I r h;obtain⟨e,h⟩:=h;subst e;cases r;exact assignInOrder_nil ⟨σ,H,I,h⟩
theorem Qvz{e:Expr}{es:List Expr}{t:TG}{u:TGs}(h1:PG X e t)(h2:PGs X es u)
  (hs:(assignEach (e::es) X.env).map (·.2)=assign e X.env::(assignEach es X.env).map (·.2):=by rfl):PGs X (e::es) (Qw8 t u):=by
 intro pins s σ H vs us Q I r h;obtain⟨v,vr,e1,h⟩:=h;subst e1;cases r with
 | cons r rr=>
  rw[hs];refine assignInOrder_cons (thn (h1 pins s σ H _ _ _ I r h) λ_ s1 Z=>?_);obtain⟨σ1,H1,I1,q1⟩:=Z;exact h2 pins s1 σ1 H1 _ _ Q I1 rr q1
noncomputable def QDg(K:Fgg)(n:Nat)(t:TGs):TG:=λv σ H Q=>∃a xs,v= .ref a/\SqT K H a xs/\xs.length=n/\t xs σ H Q
theorem QBf{es:List Expr}{k:Nat}{t:TGs}{n:Nat}(hc:X.calm=true)(h:PGs X es t)
  (hn:(assignEach es X.env).length=n:=by rfl) (hst:(assignEach es X.env).findIdx? (·.1)=none:=by rfl):PG X (.Tuple es k pos) (QDg X.K n t):=by
 intro pins s σ H v u Q I r hw;obtain⟨a,xs,e1,hq,hl,hw⟩:=hw;subst e1;cases r;obtain⟨its,rv,ht,hz⟩:=I.tuple hq;refine assign_Tuple_tuple (I.ok.hd hc) ht (by simp[hn,← hl,rv.length]) hst λh' hx=>?_;have I1:Inv X pins σ H {s with heap:=h'}:=I.kept (t':=s.toks) λb o e=>hx b o (ZG (Zo e)) e;exact h pins _ σ H xs _ Q I1 (by simpa using rv) hw
noncomputable def QaI(to ti:TE)(t:Qos):TG:=λv σ H Q=>to σ H λo H1=>ti σ H1 λi H2=>t o i v H2 λH3=>Q σ H3
theorem QAR{o i:Expr}{to ti:TE}{t:Qos}(ho:PE X o to)(hi:PE X i ti)(hs:Qu2 X t)
  (ha:∀v,assign (.Subscript o i pos) X.env v=(do
   let ov ← holding [v] (eval o X.env)
   let iv ← holding [v,ov] (eval i X.env)
   standAt pos
   holding [v,ov,iv] (setItem ov iv v)
   release [v,ov,iv] []):=by intro _;rfl):PG X (.Subscript o i pos) (QaI to ti t):=by
 intro pins s σ H v u Q I r h;rw[ha];refine wpAny_bind (wpAny_holding (thn (ho pins s σ H _ I h) λov s1=>exJ λx H1 I1 r1 q1=>?_));refine wpAny_bind (wpAny_holding (thn (hi pins s1 σ H1 _ I1 q1) λiv s2=>exJ λy H2 I2 r2 q2=>?_));refine wpAny_bind (wpAny_standAt (wpAny_bind (wpAny_holding (thn (hs pins s2 σ H2 x y v ov iv u _ I2 r1 r2 r q2) λ_ s3 Z=>?_))));obtain⟨H3,I3,q3⟩:=Z;exact wpAny_release ⟨σ,H3,I3,q3⟩
noncomputable def QoP(te:TE)(g:TG):TS:=λD σ H=>te σ H λx H1=>g x σ H1 D.nx
theorem Qzr{tg e:Expr}{te:TE}{g:TG}(he:PE X e te)(hg:PG X tg g)(hs:swapsWithSole [tg] e pos.line X.env=pure false:=by rfl)(hw:swappedStores [tg] e X.env=pure none:=by rfl)
  (h1:(assignEach [tg] X.env).map (·.2)=[assign tg X.env]:=by rfl):PS X (.Assign [tg] e pos) (QoP te g):=by
 intro pins s σ H D I h;refine wpAny_Assign_stores (thn (he pins s σ H _ I h) λv s1 ⟨x,H1,I1,r1,q1⟩=>?_) hs hw;rw[h1];exact thn (hg pins s1 σ H1 x v _ I1 r1 q1) λ_ s2 q=>q
theorem Qi6{i:Nat}{x:Str}{e:Expr}{te:TE}{pos':Pos}(hN:X.N.Nodup)(hi:X.N[i]? =some x)(hx:Loc X.env.scope x)(he:PE X e te)(hs:swapsWith e (some (.Name x pos')) pos.line X.env=pure false:=by rfl)(hf:X.fn x=true∨X.env.scope.names.lookup x=some .local :=by first | exact .inl rfl | exact .inr rfl | assumption):
  PS X (.Assign [.Name x pos'] e pos) (QoP te (Qjo i)):=by
 intro pins s σ H D I h;refine wpAny_Assign_Name (thn (he pins s σ H _ I h) λv s1 ⟨y,H1,I1,r1,q1⟩=>?_) hs;exact Qf7 I1 hN hi hx r1 (λs2 I2=>⟨_,H1,I2,q1⟩) hf
noncomputable def QzQ(i:Nat)(te:TE)(ti:TIp):TS:=λD σ H=>∃x,σ[i]? =some (some x)/\te σ H λy H1=>ti x y H1 λz H2=>D.nx (σ.set i (some z)) H2
theorem Qzn{i:Nat}{x:Str}{e:Expr}{te:TE}{op:Operator}{ti:TIp}{pos':Pos}(hN:X.N.Nodup)(hi:X.N[i]? =some x)(hx:Loc X.env.scope x)(he:PE X e te)(ho:PIp X op ti)(hf:X.fn x=true∨X.env.scope.names.lookup x=some .local :=by first | exact .inl rfl | exact .inr rfl | assumption):
  PS X (.AugAssign (.Name x pos') op e pos) (QzQ i te ti):=by
 intro pins s σ H D I h;obtain⟨v,e1,h⟩:=h;obtain⟨m,hn,hl⟩:=I.loc;have vis:Vis X.env.scope x:=by rcases hx with k | k;exact .inl k;exact .inr (.inl k)
 obtain⟨u,r,l⟩:=hl i x v hi e1 vis;refine wpAny_AugAssign_Name ?_;have go:wpAny (model X.prog X.w) X.A (eval e X.env) (λw s₂=>wpAny (model X.prog X.w) X.A (inplaceOp op u w) (λr s₃=>wpAny (model X.prog X.w) X.A (storeName X.env x r) (λ_=>SP X pins D .next) X.xe s₃) X.xe s₂) X.xe s:=by
  refine thn (he pins s σ H _ I h) λw s1=>exJ λy H1 I1 r1 q1=>?_;refine thn (ho pins s1 σ H1 v y u w _ I1 r r1 q1) λz s2=>exJ λzv H2 I2 r2 q2=>?_;exact Qf7 I2 hN hi hx r2 (λs3 I3=>⟨_,H2,I3,q2⟩) hf
 rcases l with⟨hk,hm⟩ | ⟨hk,c,hc,hcell⟩
 ·exact wpAny_loadName_local I.ok.kind hk hn hm go
 ·rcases hk with hk | hk
  ·exact wpAny_loadName_cell I.ok.kind hk hc hcell go
  ·rcases hx with k | k
   ·have:X.env.scope.names.lookup x=some .free:=hk;rw[k]at this;cases this
   ·have:X.env.scope.names.lookup x=some .free:=hk;rw[k]at this;cases this
noncomputable def QBW(to ti te:TE)(tget:V->V->Hp->VK->Prop)(tip:TIp)(tset:Qos):TS:=λD σ H=>to σ H λo H1=>ti σ H1 λi H2=>tget o i H2 λx H3=>te σ H3 λy H4=>tip x y H4 λz H5=>tset o i z H5 λH6=>D.nx σ H6
def Qz4(X:Cx)(t:V->V->Hp->VK->Prop):Prop:=
 ∀(pins:List (Addr×Obj)) (s:Shared) (σ:St) (H:Hp) (o i:V) (ov iv:Value) (Q:VK),Inv X pins σ H s->RelV o ov->RelV i iv->t o i H Q→
  wpAny (model X.prog X.w) X.A (getItem ov iv) (EP X pins σ Q) X.xe s
theorem Qxr{o i e:Expr}{to ti te:TE}{tget:V->V->Hp->VK->Prop}{tip:TIp}{tset:Qos}{op:Operator}{tpos:Pos}(ho:PE X o to)(hi:PE X i ti)(hg:Qz4 X tget)(he:PE X e te)(hp:PIp X op tip)(hs:Qu2 X tset)
  (ha:∀ov iv new,augStore i ov iv new=(do holding [new,ov,iv] (setItem ov iv new);release [new,ov,iv] [];pure .next):=by intros;rfl):PS X (.AugAssign (.Subscript o i tpos) op e pos) (QBW to ti te tget tip tset):=by
 intro pins s σ H D I h;refine wpAny_AugAssign_SubscriptAny (thn (ho pins s σ H _ I h) λov s1 ⟨x1,H1,I1,r1,q1⟩=>?_) ha;refine thn (hi pins s1 σ H1 _ I1 q1) λiv s2=>exJ λx2 H2 I2 r2 q2=>?_;refine thn (hg pins s2 σ H2 x1 x2 ov iv _ I2 r1 r2 q2) λold s3=>exJ λx3 H3 I3 r3 q3=>?_;refine thn (he pins s3 σ H3 _ I3 q3) λv s4=>exJ λx4 H4 I4 r4 q4=>?_;refine thn (hp pins s4 σ H4 x3 x4 old v _ I4 r3 r4 q4) λnew s5=>exJ λx5 H5 I5 r5 q5=>?_;exact thn (hs pins s5 σ H5 x1 x2 x5 ov iv new _ I5 r1 r2 r5 q5) λ_ s6 ⟨H6,I6,q6⟩=>⟨σ,H6,I6,q6⟩
end
section
variable {X:Cx}{pos:Pos}
noncomputable def QAm(c:TT)(tb:TS):TS:=λD σ H=>∃W:Nat->St->Hp->Prop,(∃m,W m σ H)/\∀m σ H,W m σ H→
 c σ H λb H1=>if b=true then ∃N:St->Hp->Prop,(∀σ' H',N σ' H'->∃m',m'<m/\W m' σ' H')/\tb {D with nx:=N,ct:=N,bk:=D.nx} σ H1 else D.nx σ H1
theorem QuM{c:Expr}{body:List Stmt}{tc:TT}{tb:TS}(hp:PassesOwn (model X.prog X.w) X.A X.env X.xe)(hc:PT X c tc)(hb:PSs X body tb):PS X (.While c body [] pos) (QAm tc tb):=by
 intro pins s σ H D I h;obtain⟨W,⟨m0,w0⟩,turn⟩:=h;refine wpAny_While (codeAny_whileLoop (λn s'=>∃σ' H',Inv X pins σ' H' s'/\W n σ' H') ?_ m0 ⟨σ,H,I,w0⟩);rintro n s1 ⟨σ1,H1,I1,w1⟩;refine wpAny_passesOwn hp (thn (hc pins s1 σ1 H1 _ I1 (turn n σ1 H1 w1)) λb s2 Z=>?_);obtain⟨H2,I2,q2⟩:=Z;cases b with
 | true=>
  obtain⟨N,hN,q2⟩:=q2;rw[if_pos rfl];refine wpAny_passesOwn hp (thn (hb pins s2 σ1 H2 _ I2 q2) λf s3 q3=>?_);cases f with
  | next=>
   obtain⟨σ3,H3,I3,n3⟩:=q3;obtain⟨m',hm,w3⟩:=hN σ3 H3 n3;exact⟨m',hm,σ3,H3,I3,w3⟩
  | cont=>
   obtain⟨σ3,H3,I3,n3⟩:=q3;obtain⟨m',hm,w3⟩:=hN σ3 H3 n3;exact⟨m',hm,σ3,H3,I3,w3⟩
  | brk=>exact q3
  | ret v=>exact q3
 | false=>
  rw[if_neg ZV];exact wpAny_execs_nil ⟨σ1,H2,I2,q2⟩
end
structure It where
 go:Nat->Hp->Prop
 yld:Nat->Hp->V->Hp->Prop
 stop:Nat->Hp->Prop
def Qd1(X:Cx)(pins:List (Addr×Obj))(H:Hp)(b:Addr):Prop:=
 H b=none/\b≠X.env.locals/\b∉X.fs/\(b∈X.ex∨X.s₀.heap.objs.size<=b)/\(∀x c,X.env.cells.lookup x=some c->c≠b)/\∀p∈X.pn++pins,p.1≠b
theorem Inv.Qkp{X:Cx}{pins:List (Addr×Obj)}{σ:St}{H H':Hp}{s:Shared}{b:Addr}(I:Inv X pins σ H s)(hb:s.heap.objs.size<=b)(hn:H' b=none):Qd1 X pins H' b:=by
 refine⟨hn,ZaQ (Zt I.lt hb),I.QC3 hb,.inr (ZC I.sz hb),λx c e z=>?_,λp hp z=>?_⟩
 ·obtain⟨v,q⟩:=I.cell x c e;exact absurd (Zt q.lt (by rw[z];exact hb)) (ZP _)
 ·exact absurd (Zt (Zo (I.pin p hp).1) (by rw[z];exact hb)) (ZP _)
structure Turn (P:Program) (w:World) (K:Fgg) (tg:Expr) (J:It) (fp:LAd) (it:Addr) (tn:Nat->Heap->Prop):Prop where
 mem:it∈fp
 obj:∀i h,tn i h->∀b∈fp,∃o,h.get? b=some o/\∀v,o.data≠ .cell v
 keep:∀i h h',tn i h->(∀b∈fp,∀o,h.get? b=some o->h'.get? b=some o)->tn i h'
 item:∀(X:Cx),X.prog=P->X.w=w->X.K=K->X.calm=true->∀(i:Nat) (pins:List (Addr×Obj)) (s:Shared) (σ:St) (H:Hp) (E:Value->Shared->Prop),Inv X pins σ H s->(∀b∈fp,Qd1 X pins H b)->tn i s.heap->J.go i H→
  wpAny (model P w) X.A (pyNext (.ref it)) (λr s1=>∃u,r=some u∧
   wpAny (model P w) X.A (letOwnedTupleGo tg (.ref it) u) (λ_ s2=>∃x H',Inv X pins σ H' s2/\RelV x u/\J.yld i H x H'/\tn (i+1) s2.heap/\∀b∈fp,H' b=none) E s1) E s
 done:∀(X:Cx),X.prog=P->X.w=w->X.K=K->X.calm=true->∀(i:Nat) (pins:List (Addr×Obj)) (s:Shared) (σ:St) (H:Hp) (E:Value->Shared->Prop),Inv X pins σ H s->(∀b∈fp,Qd1 X pins H b)->tn i s.heap->J.stop i H→
  wpAny (model P w) X.A (pyNext (.ref it)) (λr s1=>r=none/\Inv X pins σ H s1) E s
 self:∀(A:Around) (i:Nat) (s:Shared) (Q:Value->Shared->Prop) (E:Value->Shared->Prop),tn i s.heap->Q (.ref it) s->wpAny (model P w) A (pyIter (.ref it)) Q E s
noncomputable abbrev TI:=St->Hp->(It->Hp->Prop)->Prop
def PIE(X:Cx)(pins:List (Addr×Obj))(σ:St)(tg:Expr)(R:It->Hp->Prop)(itv:Value)(s2:Shared):Prop:=
 ∃(it:Addr) (fp:LAd) (tn:Nat->Heap->Prop) (J:It) (H':Hp),itv= .ref it/\Inv X pins σ H' s2/\Turn X.prog X.w X.K tg J fp it tn/\tn 0 s2.heap/\(∀b∈fp,Qd1 X pins H' b)/\R J H'
def PI(X:Cx)(tg iter:Expr)(wi:TI):Prop:=
 ∀(pins:List (Addr×Obj)) (s:Shared) (σ:St) (H:Hp) (R:It->Hp->Prop),Inv X pins σ H s->wi σ H R→
  wpAny (model X.prog X.w) X.A (eval iter X.env) (λv s1=>wpAny (model X.prog X.w) X.A (pyIter v) (PIE X pins σ tg R) X.xe s1) X.xe s
theorem Qoi{M:Model}{A:Around}{E:Value->Shared->Prop}{s:Shared}{tg:Expr}{it:Addr}{u:Value}{o:Obj}{n:String}{vs:Array Value}{Q:Unit->Shared->Prop}(ho:s.heap.get? it=some o)(hc:o.cls= .type n)(hd:o.data= .fields vs)
    (hn:["enumerate","zip","dict_itemiterator","dict_reverseitemiterator","odict_iterator","itertools.zip_longest","itertools.pairwise"].contains n=false) (hQ:Q () s):wpAny M A (letOwnedTupleGo tg (.ref it) u) Q E s:=by
  unfold letOwnedTupleGo
  cases tg<;>first
    | exact wpAny_pure hQ
    | (cases u<;>first
        | exact wpAny_pure hQ
        | (refine wpAny_bind (wpAny_load ho ?_)
           rw[hc,hd];show wpAny M A (if(["enumerate","zip","dict_itemiterator","dict_reverseitemiterator","odict_iterator","itertools.zip_longest","itertools.pairwise"].contains n && vs[0]? == some (rawInt _))=true then _ else _) Q E s;rw[if_neg (by intro h;rw[hn,Bool.false_and]at h;cases h)];exact wpAny_pure hQ))
noncomputable def Itl(K:Fgg)(a:Addr):It:=
 ⟨λi H=>∃xs x,SqL K H a xs/\xs[i]? =some x,λi H x H'=>H'=H/\∀xs,SqL K H a xs->xs[i]? =some x,λi H=>∃xs,SqL K H a xs/\xs.length<=i⟩
noncomputable def Itt(K:Fgg)(a:Addr):It:=
 ⟨λi H=>∃xs x,SqT K H a xs/\xs[i]? =some x,λi H x H'=>H'=H/\∀xs,SqT K H a xs->xs[i]? =some x,λi H=>∃xs,SqT K H a xs/\xs.length<=i⟩
noncomputable def Itr(lo:Int)(n:Nat):It:=⟨λi _=>i<n,λi H x H'=>H'=H/\x= .int (lo+i),λi _=>n<=i⟩
theorem QsG{P:Program}{w:World}{K:Fgg}{tg:Expr}(a it:Addr):Turn P w K tg (Itl K a) [it] it (λi h=>h.IsListIter it a i) where
 mem:=by simp
 obj:=λi h st b hb=>by
  have e:b=it:=by simpa using hb
  subst e;obtain⟨o,e,c,d⟩:=st;exact⟨o,e,λv z=>by rw[d]at z;cases z⟩
 keep:=λi h h' st k=>st.at λo e=>k it (by simp) o e
 item:=by
  intro X hP hw hK hc i pins s σ H E I hf st hg;subst hP hw hK;obtain⟨xs,x,hq,hx⟩:=hg;obtain⟨its,rv,p,hz⟩:=I.list hq;obtain⟨u,hu,ru⟩:=rv.get hx;obtain⟨f0,f1,f2,f3,f4,f5⟩:=hf it (by simp);refine wpAny_pyNext_list_item st p.isList (x:=u) (by simpa using hu) λh' st' sb=>?_;have I1:Inv X pins σ H {s with heap:=h'}:=I.turned (t':=s.toks) (λb o hb e=>(sb.2 b hb).trans e) f0 f1 f3 f4 f5;obtain⟨o,e,c,d⟩:=id st';exact⟨u,rfl,Qoi (s:={s with heap:=h'}) e c d (by decide) ⟨x,H,I1,ru,⟨rfl,λys hy=>by rw[I.QdD hy hq];exact hx⟩,st',λb hb=>(hf b hb).1⟩⟩
 done:=by
  intro X hP hw hK hc i pins s σ H E I hf st hg;subst hP hw hK;obtain⟨xs,hq,hx⟩:=hg;obtain⟨its,rv,p,hz⟩:=I.list hq;obtain⟨f0,f1,f2,f3,f4,f5⟩:=hf it (by simp);have hl:=rv.length;exact wpAny_pyNext_list_end (I.ok.hd hc) st p.isList (by simp;omega) λh' eb=>⟨rfl,I.turned (t':=s.toks) (λb o hb e=>eb b o hb e) f0 f1 f3 f4 f5⟩
 self:=λ_ _ _ _ _ st h=>wpAny_pyIter_listiter st h
theorem QrA{P:Program}{w:World}{K:Fgg}{tg:Expr}(a it:Addr):Turn P w K tg (Itt K a) [it] it (λi h=>h.IsTupleIter it a i) where
 mem:=by simp
 obj:=λi h st b hb=>by
  have e:b=it:=by simpa using hb
  subst e;obtain⟨o,e,c,d⟩:=st;exact⟨o,e,λv z=>by rw[d]at z;cases z⟩
 keep:=λi h h' st k=>st.at λo e=>k it (by simp) o e
 item:=by
  intro X hP hw hK hc i pins s σ H E I hf st hg;subst hP hw hK;obtain⟨xs,x,hq,hx⟩:=hg;obtain⟨its,rv,p,hz⟩:=I.tuple hq;obtain⟨u,hu,ru⟩:=rv.get hx;obtain⟨f0,f1,f2,f3,f4,f5⟩:=hf it (by simp);refine wpAny_pyNext_tuple_item st (show s.heap.IsTuple a its.toArray from p) (x:=u) (by simpa using hu) λh' st' sb=>?_;have I1:Inv X pins σ H {s with heap:=h'}:=I.turned (t':=s.toks) (λb o hb e=>(sb.2 b hb).trans e) f0 f1 f3 f4 f5;obtain⟨o,e,c,d⟩:=id st';exact⟨u,rfl,Qoi (s:={s with heap:=h'}) e c d (by decide) ⟨x,H,I1,ru,⟨rfl,λys hy=>by rw[I.Qs6 hy hq];exact hx⟩,st',λb hb=>(hf b hb).1⟩⟩
 done:=by
  intro X hP hw hK hc i pins s σ H E I hf st hg;subst hP hw hK;obtain⟨xs,hq,hx⟩:=hg;obtain⟨its,rv,p,hz⟩:=I.tuple hq;obtain⟨f0,f1,f2,f3,f4,f5⟩:=hf it (by simp);have hl:=rv.length;exact wpAny_pyNext_tuple_end (I.ok.hd hc) st (show s.heap.IsTuple a its.toArray from p) (by simp;omega) λh' eb=>⟨rfl,I.turned (t':=s.toks) (λb o hb e=>eb b o hb e) f0 f1 f3 f4 f5⟩
 self:=λ_ _ _ _ _ st h=>wpAny_pyIter_tupleiter st h
theorem Qsi{P:Program}{w:World}{K:Fgg}{tg:Expr}(it:Addr)(lo:Int)(n:Nat):Turn P w K tg (Itr lo n) [it] it (λi h=>IsRangeIter h it (lo+(i:Nat)*1) ((n:Int)-(i:Nat)) 1) where
 mem:=by simp
 obj:=λi h st b hb=>by
  have e:b=it:=by simpa using hb
  subst e;exact⟨_,st,λv z=>by
   have z':Data.fields _=Data.cell v:=z;cases z'⟩
 keep:=λi h h' st k=>k it (by simp) _ st
 item:=by
  intro X hP hw hK hc i pins s σ H E I hf st hg;subst hP hw hK;obtain⟨f0,f1,f2,f3,f4,f5⟩:=hf it (by simp);have W:=Walks.range (prog:=X.prog) (w:=X.w) (I.ok.hd hc) it lo 1 n;refine W.item i s _ _ hg st λv h' tk hv st' kk=>?_;obtain⟨t,rfl⟩:=hv;have I1:Inv X pins σ H {s with heap:=h',toks:=tk}:=I.turned (λb o hb e=>kk b o (by simpa using hb) e) f0 f1 f3 f4 f5;refine⟨_,rfl,Qoi (s:={s with heap:=h',toks:=tk}) (n:= "range_iterator") st' rfl rfl (by decide) ⟨.int (lo+i),H,I1,⟨t,?_⟩,⟨rfl,rfl⟩,st',λb hb=>(hf b hb).1⟩⟩;rw[ZaO]
 done:=by
  intro X hP hw hK hc i pins s σ H E I hf st hg;subst hP hw hK;obtain⟨f0,f1,f2,f3,f4,f5⟩:=hf it (by simp);exact wpAny_pyNext_range_end (I.ok.hd hc) st (by have:n<=i:=hg;omega) λh' eb=>⟨rfl,I.turned (t':=s.toks) (λb o hb e=>eb b o hb e) f0 f1 f3 f4 f5⟩
 self:=λ_ _ _ _ _ st h=>wpAny_pyIter_rangeiter st h
section
variable {X:Cx}{tg:Expr}
theorem Qoy{pins:List (Addr×Obj)}{σ:St}{H:Hp}{s:Shared}{R:It->Hp->Prop}{E:Value->Shared->Prop}{lo hi:Int}{t u v:Tok}{tk:Nat}(I:Inv X pins σ H s)(h1: -(2^62)<=lo)(h2:lo<2^62)(h3: -(2^62)<=hi)(h4:hi<2^62)
  (q:R (Itr lo (hi-lo).toNat) H):wpAny (model X.prog X.w) X.A (pyIter (.ref s.heap.objs.size)) (PIE X pins σ tg R) E {s with heap:=s.heap.push {cls:= .type "range",data:= .fields #[.int lo t,.int hi u,.int 1 v]},toks:=tk}:=by
 refine wpAny_pyIter_range (IsRange.new ..) (small_one h1 h2 h3 h4) ?_;have I1:Inv X pins σ H {s with heap:=s.heap.push {cls:= .type "range",data:= .fields #[.int lo t,.int hi u,.int 1 v]},toks:=tk}:=I.kept λb o e=>Zb _ e
 refine⟨(s.heap.push {cls:= .type "range",data:= .fields #[.int lo t,.int hi u,.int 1 v]}).objs.size,[(s.heap.push {cls:= .type "range",data:= .fields #[.int lo t,.int hi u,.int 1 v]}).objs.size],_,_,H,rfl,
  I1.kept (t':=tk) λb o e=>Zb _ e,Qsi _ lo (hi-lo).toNat,?_,λb hb=>?_,q⟩
 ·have e1:lo+((0:Nat):Int)*1=lo:=by simp
  have e2:(((hi-lo).toNat:Nat):Int)-((0:Nat):Int)=Builtin.Range.rangeSize lo hi 1:=by rw[rangeSize_one];split<;>omega
  show IsRangeIter _ _ (lo+((0:Nat):Int)*1) ((((hi-lo).toNat:Nat):Int)-((0:Nat):Int)) 1;rw[e1,e2];exact Zq _ rfl
 ·have e:b=(s.heap.push {cls:= .type "range",data:= .fields #[.int lo t,.int hi u,.int 1 v]}).objs.size:=by simpa using hb
  subst e;exact I1.Qkp (Zj _) (I1.hok.fresh (Zj _))
noncomputable def QBC(ta:TA):TI:=λσ H R=>ta σ H λvs H1=>∃j:Int,vs=[.int j]/\ -(2^62)<=j/\j<2^62/\R (Itr 0 j.toNat) H1
noncomputable def QBH(ta:TA):TI:=λσ H R=>ta σ H λvs H1=>∃i j:Int,vs=[.int i,.int j]/\(-(2^62)<=i/\i<2^62/\ -(2^62)<=j/\j<2^62)/\R (Itr i (j-i).toNat) H1
theorem QsW{a:Expr}{ta:TA}{p pos:Pos}(hg:Gl X "range")(hm:X.mg "range" =none)(ha:PA X [a] ta)(hs:starEach [a] X.env=[(false,eval a X.env)]:=by rfl):PI X tg (.Call (.Name "range" p) [a] [] pos) (QBC ta):=by
 intro pins s σ H R I h;refine Call_ (Qdm I hg hm boot_range (Zad (thn (ha pos pins s σ H _ I h) λus s1 ⟨vs,H1,I1,r1,q1⟩=>?_) hs rfl));obtain⟨j,e,q1,q2,q⟩:=q1;subst e;cases r1 with
 | cons r rr=>
  cases rr;obtain⟨t,rfl⟩:=r;exact call_range_1 (Qoy I1 ⋯ ⋯ q1 q2 (by simpa using q))
theorem Quv{a b:Expr}{ta:TA}{p pos:Pos}(hg:Gl X "range")(hm:X.mg "range" =none)(ha:PA X [a,b] ta)(hs:starEach [a,b] X.env=[(false,eval a X.env),(false,eval b X.env)]:=by rfl)(hs2:starEach [b] X.env=[(false,eval b X.env)]:=by rfl):
  PI X tg (.Call (.Name "range" p) [a,b] [] pos) (QBH ta):=by
 intro pins s σ H R I h;refine Call_ (Qdm I hg hm boot_range (Zad (thn (ha pos pins s σ H _ I h) λus s1 ⟨vs,H1,I1,r1,q1⟩=>?_) (by rw[hs,hs2]) (by rw[hs2];rfl)));obtain⟨i,j,e,⟨q1,q2,q3,q4⟩,q⟩:=q1;subst e;cases r1 with
 | cons r rr=>
  cases rr with
  | cons r' rr=>
   cases rr;obtain⟨t,rfl⟩:=r;obtain⟨t',rfl⟩:=r';exact call_range_2 (Qoy I1 q1 q2 q3 q4 q)
noncomputable def QDa(wi:TI)(g:TG)(tb:TS):TS:=λD σ H=>wi σ H λJ H1=>∃W:Nat->Nat->St->Hp->Prop,(∃m,W 0 m σ H1)/\∀i m σ H,W i m σ H→
 (J.stop i H/\D.nx σ H)∨(J.go i H/\∃N:St->Hp->Prop,(∀σ' H',N σ' H'->∃m',m'<m/\W (i+1) m' σ' H')/\∀x H',J.yld i H x H'->g x σ H' λσ2 H2=>tb {D with nx:=N,ct:=N,bk:=D.nx} σ2 H2)
noncomputable def QiL(fp:LAd)(h:Heap):List (Addr×Obj):=fp.filterMap λb=>(h.get? b).map λo=>(b,o)
theorem Qht{fp:LAd}{h:Heap}{b:Addr}{o:Obj}(hb:b∈fp)(e:h.get? b=some o):(b,o)∈QiL fp h:=ZaR.mpr ⟨b,hb,by rw[e];rfl⟩
theorem QtJ{fp:LAd}{h:Heap}{p:Addr×Obj}(hp:p∈QiL fp h):p.1∈fp/\h.get? p.1=some p.2:=by
 obtain⟨b,hb,e⟩:=ZaR.mp hp;cases q:h.get? b with
 | none=>rw[q]at e;cases e
 | some o=>
  rw[q]at e;have e':(b,o)=p:=Option.some.inj e;subst e';exact⟨hb,q⟩
theorem Inv.pinned{pins:List (Addr×Obj)}{σ:St}{H:Hp}{s:Shared}{fp:LAd}(I:Inv X pins σ H s)(hf:∀b∈fp,Qd1 X pins H b)(ho:∀b∈fp,∃o,s.heap.get? b=some o/\∀v,o.data≠ .cell v):Inv X (pins++QiL fp s.heap) σ H s:=
 I.Qrs λp hp=>(ZH.mp hp).elim (λz=>I.pin p (Zd _ z)) λz=>by
  obtain⟨hb,e⟩:=QtJ z;obtain⟨f0,f1,f2,_⟩:=hf p.1 hb;obtain⟨o,e',d⟩:=ho p.1 hb;rw[e]at e';cases e';exact⟨e,f0,f1,f2,d⟩
theorem Inv.Qhv{pins pl:List (Addr×Obj)}{σ:St}{H:Hp}{s:Shared}(I:Inv X (pins++pl) σ H s):Inv X pins σ H s:=I.Qrs λp hp=>I.pin p (Zd _ (Zf _ hp))
theorem Qsw{iter:Expr}{body:List Stmt}{wi:TI}{g:TG}{tb:TS}{pos:Pos}(hp:PassesOwn (model X.prog X.w) X.A X.env X.xe)(hc:X.calm=true)(hi:PI X tg iter wi)(hg:PG X tg g)(hb:PSs X body tb)
  (hs:∀x,foldedSetIterable iter X.env x=pure x:=by intro _;rfl):PS X (.For tg iter body [] pos) (QDa wi g tb):=by
 intro pins s σ H D I h;refine wpAny_For (thn (hi pins s σ H _ I h) λv s1 h1=>thn h1 λitv s2 h2=>?_) hs;obtain⟨it,fp,tn,J,H2,e,I2,T,st2,f2,W,⟨m0,w0⟩,turn⟩:=h2;subst e;have stat:∀{H':Hp},(∀b∈fp,H' b=none)->∀b∈fp,Qd1 X pins H' b:=λhn b hb=>⟨hn b hb,(f2 b hb).2⟩;refine codeAny_forLoop_any (λn s'=>∃i σ' H',Inv X pins σ' H' s'/\tn i s'.heap/\(∀b∈fp,H' b=none)/\W i n σ' H') ?_ m0 ⟨0,σ,H2,I2,st2,λb hb=>(f2 b hb).1,w0⟩;rintro n s3 ⟨i,σ3,H3,I3,st3,fr3,w3⟩;rcases turn i n σ3 H3 w3 with⟨stop,qn⟩ | ⟨go,N,hN,step⟩
 ·refine wpAny_passesOwn hp (thn (T.done X rfl rfl rfl hc i pins s3 σ3 H3 X.xe I3 (stat fr3) st3 stop) λr s4 Z=>?_);obtain⟨hr,I4⟩:=Z;subst hr;exact wpAny_execs_nil ⟨σ3,H3,I4,qn⟩
 ·refine wpAny_passesOwn hp (thn (T.item X rfl rfl rfl hc i pins s3 σ3 H3 X.xe I3 (stat fr3) st3 go) λr s4 Z=>?_);obtain⟨u,hr,h4⟩:=Z;subst hr;refine wpAny_passesOwn hp (thn h4 λ_ s5 Z=>?_);obtain⟨x,H5,I5,r5,y5,st5,fr5⟩:=Z;have I5':=I5.pinned (stat fr5) (T.obj _ _ st5);refine wpAny_passesOwn hp (thn (hg _ s5 σ3 H5 x u _ I5' r5 (step x H5 y5)) λ_ s6 Z=>?_);obtain⟨σ6,H6,I6,q6⟩:=Z;refine wpAny_passesOwn hp (thn (hb _ s6 σ6 H6 _ I6 q6) λf s7 q7=>?_);have again:∀{σ7:St}{H7:Hp},Inv X (pins++QiL fp s5.heap) σ7 H7 s7->N σ7 H7->∃m,m<n/\∃i σ' H',Inv X pins σ' H' s7/\tn i s7.heap/\(∀b∈fp,H' b=none)/\W i m σ' H':=λ{σ7 H7} I7 n7=>by
   obtain⟨m',hm,w7⟩:=hN σ7 H7 n7;refine⟨m',hm,i+1,σ7,H7,I7.Qhv,T.keep _ _ _ st5 λb hb o e=>(I7.pin (b,o) (Zd _ (Zd _ (Qht hb e)))).1,λb hb=>?_,w7⟩;obtain⟨o,e,d⟩:=T.obj _ _ st5 b hb;exact(I7.pin (b,o) (Zd _ (Zd _ (Qht hb e)))).2.1
  cases f with
  | next=>obtain⟨σ7,H7,I7,n7⟩:=q7;exact again I7 n7
  | cont=>obtain⟨σ7,H7,I7,n7⟩:=q7;exact again I7 n7
  | brk=>obtain⟨σ7,H7,I7,q7⟩:=q7;exact⟨σ7,H7,I7.Qhv,q7⟩
  | ret v=>obtain⟨x7,σ7,H7,I7,r7,q7⟩:=q7;exact⟨x7,σ7,H7,I7.Qhv,r7,q7⟩
end
noncomputable abbrev R2:=V->V->Hp->VK->Prop
def OpR(X:Cx)(f:Value->Value->Sem Value)(r:R2):Prop:=
 ∀(pins:List (Addr×Obj)) (s:Shared) (σ:St) (H:Hp) (x y:V) (v u:Value) (Q:VK),Inv X pins σ H s->RelV x v->RelV y u->r x y H Q→
  wpAny (model X.prog X.w) X.A (f v u) (EP X pins σ Q) X.xe s
def UnR(X:Cx)(f:Value->Sem Value)(r:V->Hp->VK->Prop):Prop:=
 ∀(pins:List (Addr×Obj)) (s:Shared) (σ:St) (H:Hp) (x:V) (v:Value) (Q:VK),Inv X pins σ H s->RelV x v->r x H Q→
  wpAny (model X.prog X.w) X.A (f v) (EP X pins σ Q) X.xe s
def Qbs(X:Cx)(f:Value)(r:List V->Hp->VK->Prop):Prop:=
 ∀(pins:List (Addr×Obj)) (s:Shared) (σ:St) (H:Hp) (xs:List V) (us:List Value) (Q:VK),Inv X pins σ H s->QA xs us->r xs H Q→
  wpAny (model X.prog X.w) X.A (call f us) (EP X pins σ Q) X.xe s
def QDj(X:Cx)(r:V->Hp->(Bool->Hp->Prop)->Prop):Prop:=
 ∀(pins:List (Addr×Obj)) (s:Shared) (σ:St) (H:Hp) (x:V) (v:Value) (Q:Bool->Hp->Prop),Inv X pins σ H s->RelV x v->r x H Q→
  wpAny (model X.prog X.w) X.A (truthy v) (TP X pins σ Q) X.xe s
noncomputable def tOp(r:R2)(ta tb:TE):TE:=λσ H Q=>ta σ H λx H1=>tb σ H1 λy H2=>r x y H2 Q
noncomputable def tUn(r:V->Hp->VK->Prop)(ta:TE):TE:=λσ H Q=>ta σ H λx H1=>r x H1 Q
noncomputable def rI(C:Int->Int->Prop)(g:Int->Int->V):R2:=λx y H Q=>∃i j,x= .int i/\y= .int j/\C i j/\Q (g i j) H
noncomputable def rI0(g:Int->Int->V):R2:=λx y H Q=>∃i j,x= .int i/\y= .int j/\Q (g i j) H
noncomputable def rU(g:Int->V):V->Hp->VK->Prop:=λx H Q=>∃i,x= .int i/\Q (g i) H
section
variable {X:Cx}{a b c:Expr}{ta tb tc:TE}{pos:Pos}
theorem QwL(ha:PE X a ta)(hb:PE X b tb){pins:List (Addr×Obj)}{s:Shared}{σ:St}{H:Hp}{R:V->V->Hp->Prop}(I:Inv X pins σ H s)
  (h:ta σ H λx H1=>tb σ H1 λy H2=>R x y H2) {Q:Value->Shared->Prop}{f:Value->Value->Sem Value}
  (hf:∀v u s2 x y H2,Inv X pins σ H2 s2->RelV x v->RelV y u->R x y H2->wpAny (model X.prog X.w) X.A (f v u) Q X.xe s2):
  wpAny (model X.prog X.w) X.A (eval a X.env) (λv s₁=>wpAny (model X.prog X.w) X.A (eval b X.env) (λu s₂=>wpAny (model X.prog X.w) X.A (f v u) Q X.xe s₂) X.xe s₁) X.xe s:=by
 refine thn (ha pins s σ H _ I h) λv s1=>exJ λx H1 I1 r1 q1=>?_;refine thn (hb pins s1 σ H1 _ I1 q1) λu s2=>exJ λy H2 I2 r2 q2=>?_;exact hf v u s2 x y H2 I2 r1 r2 q2
theorem Qsr{op:Operator}{r:R2}(ho:OpR X (binaryOp op) r)(ha:PE X a ta)(hb:PE X b tb):PE X (.BinOp a op b pos) (tOp r ta tb):=by
 intro pins s σ H Q I h;exact wpAny_BinOp (QwL ha hb I h λv u s2 x y H2 I2 rx ry q=>ho pins s2 σ H2 x y v u Q I2 rx ry q)
theorem QB0{op:UnaryOp}{r:V->Hp->VK->Prop}(ho:UnR X (unaryOp op) r)(ha:PE X a ta):PE X (.UnaryOp op a pos) (tUn r ta):=by
 intro pins s σ H Q I h;exact UnaryOp_ (thn (ha pins s σ H _ I h) λv s1 ⟨x,H1,I1,r1,q1⟩=>ho pins s1 σ H1 x v Q I1 r1 q1)
theorem QAE{op:Operator}{r:R2}(ho:OpR X (inplaceOp op) r){pins:List (Addr×Obj)}{s:Shared}{σ:St}{H:Hp}{x y:V}{v u:Value}{Q:VK}(I:Inv X pins σ H s)
  (rx:RelV x v) (ry:RelV y u) (q:r x y H Q):wpAny (model X.prog X.w) X.A (inplaceOp op v u) (EP X pins σ Q) X.xe s:=ho pins s σ H x y v u Q I rx ry q
theorem opI{f:Value->Value->Sem Value}{C:Int->Int->Prop}{g:Int->Int->Int}
  (rule:∀(i j:Int) (t u:Tok) (s:Shared) (Q:Value->Shared->Prop) (E:Value->Shared->Prop),C i j->Q (.int (g i j) s.toks) {s with toks:=s.toks+1}->wpAny (model X.prog X.w) X.A (f (.int i t) (.int j u)) Q E s):
  OpR X f (rI C λi j=> .int (g i j)):=by
 intro pins s σ H x y v u Q I rx ry h;obtain⟨i,j,rfl,rfl,hc,q⟩:=h;obtain⟨t,rfl⟩:=rx;obtain⟨t',rfl⟩:=ry;exact rule i j t t' s _ _ hc ⟨.int (g i j),H,I.tok _,⟨_,rfl⟩,q⟩
theorem QrQ{f:Value->Value->Sem Value}{g:Int->Int->Int}
  (rule:∀(i j:Int) (t u:Tok) (s:Shared) (Q:Value->Shared->Prop) (E:Value->Shared->Prop),Q (.int (g i j) s.toks) {s with toks:=s.toks+1}->wpAny (model X.prog X.w) X.A (f (.int i t) (.int j u)) Q E s):
  OpR X f (rI0 λi j=> .int (g i j)):=by
 intro pins s σ H x y v u Q I rx ry h;obtain⟨i,j,rfl,rfl,q⟩:=h;obtain⟨t,rfl⟩:=rx;obtain⟨t',rfl⟩:=ry;exact rule i j t t' s _ _ ⟨.int (g i j),H,I.tok _,⟨_,rfl⟩,q⟩
theorem QrT{f:Value->Value->Sem Value}{g:Int->Int->Bool}
  (rule:∀(i j:Int) (t u:Tok) (s:Shared) (Q:Value->Shared->Prop) (E:Value->Shared->Prop),Q (.bool (g i j)) s->wpAny (model X.prog X.w) X.A (f (.int i t) (.int j u)) Q E s):
  OpR X f (rI0 λi j=> .bl (g i j)):=by
 intro pins s σ H x y v u Q I rx ry h;obtain⟨i,j,rfl,rfl,q⟩:=h;obtain⟨t,rfl⟩:=rx;obtain⟨t',rfl⟩:=ry;exact rule i j t t' s _ _ ⟨.bl (g i j),H,I,rfl,q⟩
theorem Qr1(k:Nat):(0:Int)<=2^k:=by
 rw[two_pow_cast];exact Int.natCast_nonneg _
theorem QzA:OpR X (binaryOp .Add) (rI0 λi j=> .int (i+j)):=QrQ λ_ _ _ _ _ _ _ q=>add_int q
theorem Qz7:OpR X (binaryOp .Sub) (rI0 λi j=> .int (i-j)):=QrQ λ_ _ _ _ _ _ _ q=>sub_int q
theorem QAa:OpR X (binaryOp .RShift) (rI (λ_ j=>0<=j) λi j=> .int (i / 2^j.toNat)):=opI λi j _ _ _ _ _ hc q=>
 rshift_int hc (by rw[ZbI i (Qr1 _)];exact q)
theorem QxC:OpR X (inplaceOp .Add) (rI0 λi j=> .int (i+j)):=QrQ λ_ _ _ _ _ _ _ q=>iadd_int q
theorem QxY:OpR X (inplaceOp .Sub) (rI0 λi j=> .int (i-j)):=QrQ λ_ _ _ _ _ _ _ q=>isub_int q
theorem unI{f:Value->Sem Value}{g:Int->Int}
  (rule:∀(i:Int) (t:Tok) (s:Shared) (Q:Value->Shared->Prop) (E:Value->Shared->Prop),Q (.int (g i) s.toks) {s with toks:=s.toks+1}->wpAny (model X.prog X.w) X.A (f (.int i t)) Q E s):
  UnR X f (rU λi=> .int (g i)):=by
 intro pins s σ H x v Q I rx h;obtain⟨i,rfl,q⟩:=h;obtain⟨t,rfl⟩:=rx;exact rule i t s _ _ ⟨.int (g i),H,I.tok _,⟨_,rfl⟩,q⟩
theorem QBr:UnR X (unaryOp .USub) (rU λi=> .int (-i)):=unI λ_ _ _ _ _ q=>neg_int q
end
section
variable {X:Cx}{a b c:Expr}{ta tb tc:TE}{pos:Pos}
theorem QBT:OpR X (compareOp .Lt) (rI0 λi j=> .bl (decide (i<j))):=QrT λ_ _ _ _ _ _ _ q=>lt_int q
theorem QB5:OpR X (compareOp .LtE) (rI0 λi j=> .bl (decide (i<=j))):=QrT λ_ _ _ _ _ _ _ q=>le_int q
theorem QBZ:OpR X (compareOp .Gt) (rI0 λi j=> .bl (decide (j<i))):=QrT λ_ _ _ _ _ _ _ q=>gt_int q
theorem QCt:OpR X (compareOp .GtE) (rI0 λi j=> .bl (decide (j<=i))):=QrT λ_ _ _ _ _ _ _ q=>ge_int q
theorem OpR.or{f:Value->Value->Sem Value}{r r':R2}(h:OpR X f r)(h':OpR X f r'):OpR X f (λx y H Q=>r x y H Q∨r' x y H Q):=by
 intro pins s σ H x y v u Q I rx ry q;rcases q with q | q
 ·exact h pins s σ H x y v u Q I rx ry q
 ·exact h' pins s σ H x y v u Q I rx ry q
theorem Qy7{op:CmpOp}{r:R2}(ho:OpR X (compareOp op) r)(ha:PE X a ta)(hb:PE X b tb)(hm:behindInMarks op b=false):PE X (.Compare a [op] [b] pos) (tOp r ta tb):=by
 intro pins s σ H Q I h;exact wpAny_Compare1 (QwL ha hb I h λv u s2 x y H2 I2 rx ry q=>ho pins s2 σ H2 x y v u Q I2 rx ry q) hm
noncomputable def QCA(t:TE):TT:=λσ H Q=>t σ H λx H'=>∃k,x= .bl k/\Q k H'
theorem Qyx{op:CmpOp}{r:R2}(ho:OpR X (compareOp op) r)(ha:PE X a ta)(hb:PE X b tb)(hm:behindInMarks op b=false):PT X (.Compare a [op] [b] pos) (QCA (tOp r ta tb)):=by
 intro pins s σ H Q I h;refine wpAny_isTrue_Compare1 (thn (ha pins s σ H _ I h) λv s1 ⟨x,H1,I1,r1,q1⟩=>thn (hb pins s1 σ H1 _ I1 q1) λu s2 ⟨y,H2,I2,r2,q2⟩=>
  thn (ho pins s2 σ H2 x y v u _ I2 r1 r2 q2) λc s3 ⟨z,H3,I3,r3,k,e,q3⟩=>?_) hm
 subst e;cases r3;exact wpAny_truthy_bool ⟨H3,I3,q3⟩
def Qu0(K:Fgg)(x:V)(H:Hp)(k:Bool):Prop:=
 match x with
 | .non=>k=false
 | .bl b=>k=b
 | .int i=>k=(i != 0)
 | .str y=>y.length<=sizeLine/\k=((y.length:Int) != 0)
 | .byt y=>y.size<=sizeLine/\k=((y.size:Int) != 0)
 | .ref p=>(∃xs,SqL K H p xs/\k= !xs.isEmpty)∨(∃xs,SqT K H p xs/\k= !xs.isEmpty)∨∃kvs,H p=some (.dK kvs)/\k= !kvs.isEmpty
 | _=>False
theorem QrS{κ:Type}{kvs:List (κ×V)}{vs:List (κ×Value)}(r:KV kvs vs):(!vs.isEmpty)= !kvs.isEmpty:=by
 cases r<;>rfl
theorem Ql6{xs:List V}{its:List Value}(r:QA xs its):(!its.toArray.isEmpty)= !xs.isEmpty:=by
 cases r<;>simp
theorem Qhd:(sizeLine:Nat)<2^63:=by rw[sizeLine_eq];decide
theorem Qlx:QDj X (λx H Q=>∃k,Qu0 X.K x H k/\Q k H):=by
 intro pins s σ H x v Q I rx h;obtain⟨k,e,q⟩:=h;have hl:=Qhd;have hs:sizeLine=16777216:=sizeLine_eq;cases x with
 | non=>
  cases rx;have e':k=false:=e;subst e';exact truthy_none ⟨H,I,q⟩
 | bl b=>
  cases rx;have e':k=b:=e;subst e';exact wpAny_truthy_bool ⟨H,I,q⟩
 | int i=>
  obtain⟨t,rfl⟩:=rx;have e':k=(i != 0):=e;subst e';exact PySem.P.truthy_int ⟨H,I,q⟩
 | str y=>
  obtain⟨t,rfl⟩:=rx;obtain⟨hy,e'⟩:y.length<=sizeLine/\k=((y.length:Int) != 0):=e;subst e';exact PySem.P.truthy_str ⋯ ⟨H,I.tok _,q⟩
 | byt y=>
  obtain⟨t,rfl⟩:=rx;obtain⟨hy,e'⟩:y.size<=sizeLine/\k=((y.size:Int) != 0):=e;subst e';exact PySem.W.truthy_bytes ⋯ ⟨H,I.tok _,q⟩
 | ref p=>
  cases rx;have e':(∃xs,SqL X.K H p xs/\k= !xs.isEmpty)∨(∃xs,SqT X.K H p xs/\k= !xs.isEmpty)∨∃kvs,H p=some (.dK kvs)/\k= !kvs.isEmpty:=e;rcases e' with⟨xs,hx,e'⟩ | ⟨xs,hx,e'⟩ | ⟨kvs,hx,e'⟩
  ·subst e';obtain⟨its,r,pl,hz⟩:=I.list hx;have hlen:=r.length;exact wpAny_truthy_list pl.isList (by simp only[Zv];omega) ⟨H,I.tok _,by rw[Ql6 r];exact q⟩
  ·subst e';obtain⟨its,r,pl,hz⟩:=I.tuple hx;have hlen:=r.length;exact truthy_tuple pl (by simp only[Zv];omega) ⟨H,I.tok _,by rw[Ql6 r];exact q⟩
  ·subst e';obtain⟨hz,hS,vs,r,m⟩:kvs.length<=sizeLine/\(p == sysModules)=false/\∃vs,KV kvs vs/\s.heap.DictOf (Qa3 X.prog X.w) p vs:=I.hok p _ hx;have hlen:kvs.length=vs.length:=Zbi r;exact wpAny_truthy_dict hS m ⋯ ⟨H,I.tok _,by rw[QrS r];exact q⟩
 | _=>exact(show False from e).elim
theorem Qvx(ha:PE X a ta)(he:∀whole,isTrue a X.env whole=(do let v ← whole;standAt a.pos;holding [v] (truthy v))):
  PT X a (λσ H Q=>ta σ H λx H'=>∃k,Qu0 X.K x H' k/\Q k H'):=by
 intro pins s σ H Q I h;exact isTrue_plain (thn (ha pins s σ H _ I h) λv s1 ⟨x,H1,I1,r1,q1⟩=>Qlx pins s1 σ H1 x v Q I1 r1 q1) (he _)
theorem vals1{x:V}{us:List Value}(r:QA [x] us):∃u,us=[u]/\RelV x u:=by
 cases r with
 | cons r1 r2=>cases r2;exact⟨_,rfl,r1⟩
theorem vals2{x y:V}{us:List Value}(r:QA [x,y] us):∃u w',us=[u,w']/\RelV x u/\RelV y w':=by
 cases r with
 | cons r1 r2=>
  cases r2 with
  | cons r3 r4=>cases r4;exact⟨_,_,rfl,r1,r3⟩
theorem Qwe:Qbs X (.builtin "abs") (λxs H Q=>∃i,xs=[.int i]/\Q (.int (if i<0 then-i else i)) H):=by
 intro pins s σ H xs us Q I r h;obtain⟨i,rfl,q⟩:=h;obtain⟨u,rfl,t,rfl⟩:=vals1 r;exact call_abs_int λu tk=>⟨.int (if i<0 then-i else i),H,I.tok _,⟨_,rfl⟩,q⟩
theorem Qt4(hc:X.calm=true):Qbs X (.builtin "max") (λxs H Q=>∃i j,xs=[.int i,.int j]/\Q (.int (if j>i then j else i)) H):=by
 intro pins s σ H xs us Q I r h;obtain⟨i,j,rfl,q⟩:=h;obtain⟨u,w',rfl,⟨t,rfl⟩,⟨t',rfl⟩⟩:=vals2 r;refine max_two_ints (I.ok.hd hc) λh' tk k=>⟨_,H,I.kept k,?_,q⟩;by_cases hj:j>i
 ·rw[if_pos hj,if_pos hj];exact⟨_,rfl⟩
 ·rw[if_neg hj,if_neg hj];exact⟨_,rfl⟩
theorem QsD(hc:X.calm=true):Qbs X (.builtin "min") (λxs H Q=>∃i j,xs=[.int i,.int j]/\Q (.int (if j<i then j else i)) H):=by
 intro pins s σ H xs us Q I r h;obtain⟨i,j,rfl,q⟩:=h;obtain⟨u,w',rfl,⟨t,rfl⟩,⟨t',rfl⟩⟩:=vals2 r;refine min_two_ints (I.ok.hd hc) λh' tk k=>⟨_,H,I.kept k,?_,q⟩;by_cases hj:j<i
 ·rw[if_pos hj,if_pos hj];exact⟨_,rfl⟩
 ·rw[if_neg hj,if_neg hj];exact⟨_,rfl⟩
end
structure QDE (h:Heap) (x dx C:Addr) (mA:Str->Option Value):Prop where
 obj:h.get? x=some (PySem.W.instObj C dx)
 ns:h.Ns1 dx mA
 ne:dx≠x
section
variable {prog:Program}{w:World}{A:Around}{E:Value->Shared->Prop}{s:Shared}{K:Fgg}{x dx C f:Addr}{mA:Str->Option Value}{name:Str}{v:Value}
end
section
variable {P:Program}{w:World}{H H':Hp}{h h':Heap}{a C dx:Addr}{fs fs':List (Str×V)}
end
structure Cls (K:Fgg) (C:Addr):Prop where
 pg:PySem.W.plainGet K C Str.empty=true
 hd:PySem.W.hasDictIn K C=true
 po:PySem.W.plainOver K C=true
 sa:PySem.W.findIn K (.ref C) "__setattr__" =some (some (.builtin "object.__setattr__"))
structure Con (K:Fgg) (C:Addr) (f:Str) (v:V) (u:Value):Prop where
 at_:PySem.W.findIn K (.ref C) f=some (some u)
 rel:RelV v u
 get:PySem.W.specialIn K u "__get__" =some none
 cp:PySem.W.copiedNames.contains f=false
structure QDD (K:Fgg) (C:Addr) (m:Str) (f:Addr):Prop where
 at_:PySem.W.findIn K (.ref C) m=some (some (.ref f))
 fn:PySem.W.isFn K (.ref f)=true
 kp:PySem.W.keepIn K (.ref f)=true
section
variable {X:Cx}{pins:List (Addr×Obj)}{σ:St}{H:Hp}{s:Shared}{a C dx:Addr}{fs:List (Str×V)}{f:Str}{v:V}{A:Around}{E:Value->Shared->Prop}
end
section
variable {X:Cx}{o e value:Expr}{f:Str}{pos pos' tpos:Pos}{ta tv:TE}
end
section
variable {X:Cx}{pins:List (Addr×Obj)}{σ:St}{H:Hp}{s:Shared}{A:Around}{E:Value->Shared->Prop}{Q:Value->Shared->Prop}{c:Value}{b:Bool}
end
structure Qba (k:Nat) (A:Around):Prop where
 hd:A.handled=none
 dp:A.depth+3*k+5<recursionLimit
 un:A.units+16*k+200<cLine
theorem Qba.mono{j k:Nat}{A:Around}(r:Qba k A)(h:j<=k):Qba j A:=⟨r.hd,by have:=r.dp;omega,by have:=r.un;omega⟩
theorem Qba.deeper{k:Nat}{A:Around}(r:Qba (k+1) A)(env:Env):Qba k (A.deeper env):=
 ⟨r.hd,by have:=r.dp;show A.depth+1+3*k+5<_;omega,by have:=r.un;show A.units+3+16*k+200<_;omega⟩
theorem Qba.depth{k:Nat}{A:Around}(r:Qba k A):A.depth<recursionLimit:=by have:=r.dp;omega
theorem Qba.units{k:Nat}{A:Around}(r:Qba k A):A.units+64<cLine:=by have:=r.un;omega
noncomputable def QrU:TA:=λ_ H Q=>Q [] H
noncomputable def QrR(ta:TE)(tr:TA):TA:=λσ H Q=>ta σ H λx H1=>tr σ H1 λxs H2=>Q (x::xs) H2
section
variable {X:Cx}{e:Expr}{es:List Expr}{te:TE}{t:TA}{pos:Pos}
theorem QcW:PA X [] QrU:=λ_ _ _ _ H Q I h=>Calls.spliced_nil ⟨[],H,I,.nil,h⟩
theorem Qaq(ha:PE X e te)(hr:PA X es t)(hs:starEach (e::es) X.env=(false,eval e X.env)::starEach es X.env:=by rfl):PA X (e::es) (QrR te t):=by
 intro pos pins s σ H Q I h;rw[hs];show wpAny _ _ (spliced ((false,eval e X.env)::backTo pos (starEach es X.env))) _ _ s;refine Calls.spliced_cons (thn (ha pins s σ H _ I h) λu s1=>exJ λx H1 I1 r1 q1=>?_);exact thn (hr pos pins s1 σ H1 _ I1 q1) λus s2 ⟨xs,H2,I2,r2,q2⟩=>⟨x::xs,H2,I2,.cons r1 r2,q2⟩
noncomputable def QCJ(t:TA):TE:=λσ H Q=>t σ H λxs H1=>xs.length<=sizeLine/\∀p,H1 p=none->Q (.ref p) (upd H1 p (.tup xs))
noncomputable def QCQ(t:TA):TE:=λσ H Q=>t σ H λxs H1=>xs.length<=sizeLine/\∀p,H1 p=none->Q (.ref p) (upd H1 p (.lst xs))
theorem Qtq{x1}(h:PA X es t):PE X (.Tuple es x1 pos) (QCJ t):=by
 intro pins s σ H Q I hq;refine wpAny_Tuple_spliced (thn (h pos pins s σ H _ I hq) λus s1 ⟨xs,H1,I1,r,z,q⟩=>⟨by rw[← r.length];exact z,?_⟩);have hf:H1 s1.heap.objs.size=none:=I1.hok.fresh (Zj _);refine⟨.ref s1.heap.objs.size,upd H1 s1.heap.objs.size (.tup xs),I1.laid (t':=s1.toks) (λb u e=>Zb _ e) (Zj _) ?_,rfl,q _ hf⟩;exact⟨z,us,r,⟨_,Zq _ rfl,rfl,_,rfl⟩⟩
theorem Qzm(h:PA X es t):PE X (.List es pos) (QCQ t):=by
 intro pins s σ H Q I hq;refine wpAny_List_spliced (thn (h pos pins s σ H _ I hq) λus s1 ⟨xs,H1,I1,r,z,q⟩=>⟨by rw[← r.length];exact z,?_⟩);have hf:H1 s1.heap.objs.size=none:=I1.hok.fresh (Zj _);refine⟨.ref s1.heap.objs.size,upd H1 s1.heap.objs.size (.lst xs),I1.laid (t':=s1.toks) (λb u e=>Zb _ e) (Zj _) ?_,rfl,q _ hf⟩;exact⟨z,us,0,r,Zq _ rfl⟩
end
noncomputable abbrev Sp:=List V->Hp->VK->XK->Prop
noncomputable abbrev CXT:=List Env->Hp->Shared->XK->Value->Shared->Prop
structure Qpk (P:Program) (w:World) (K:Fgg) (mg:Str->Option Value) (base:Heap) (A:Around) (outer:List Env) (s:Shared) (H:Hp):Prop where
 frames:A.frames=some outer
 mod:Mod K mg base
 bs:∀b o,base.get? b=some o->s.heap.get? b=some o/\H b=none
 bsz:base.objs.size<=s.heap.objs.size
 Qee:s.heap.FunFrames base outer
 frf:∀b∈frs outer,H b=none
 hok:HOk P w H s.heap
 bare:AllBare s.gens
def CE(outer:List Env)(P:Program)(w:World)(H:Hp)(s:Shared)(Q:VK)(u:Value)(s':Shared):Prop:=
 ∃v H',s'.os=s.os/\AllBare s'.gens/\Un (frs outer) [] H H' s.heap s'.heap/\HOk P w H' s'.heap/\RelV v u/\Q v H'
def CR(CX:CXT)(outer:List Env)(P:Program)(w:World)(H:Hp)(s:Shared)(Q:VK)(E:XK)(r:Result)(s':Shared):Prop:=
 match r with
 | .ok (.ret u)=>CE outer P w H s Q u s'
 | .ok _=>False
 | .error e=>CX outer H s E e s'
structure Qcq (P:Program) (w:World) (K:Fgg) (mg:Str->Option Value) (base:Heap) (CX:CXT) (k:Nat) (f:Addr) (fd:FuncData) (ps:List Str) (sp:Sp):Prop where
 len:∀vs H Q E,sp vs H Q E->vs.length=ps.length
 run:∀(A:Around) (outer:List Env) (s:Shared) (H:Hp) (args:Args) (us:List Value) (vs:List V) (Q:VK) (E:XK),Qba k A->Qpk P w K mg base A outer s H->BindsTo s fd args (ps.zip us)->QA vs us->sp vs H Q E→
  codeAny (model P w) A (.call (.ref f) args) (CR CX outer P w H s Q E) s
theorem Qcq.mono{P:Program}{w:World}{K:Fgg}{mg:Str->Option Value}{base:Heap}{CX:CXT}{j k:Nat}{f:Addr}{fd:FuncData}{ps:List Str}{sp:Sp}(F:Qcq P w K mg base CX j f fd ps sp)(h:j<=k):
  Qcq P w K mg base CX k f fd ps sp:=⟨F.len,λA outer s H args us vs Q E hr=>F.run A outer s H args us vs Q E (hr.mono h)⟩
section
variable {X:Cx}{pins:List (Addr×Obj)}{σ:St}{H:Hp}{s s':Shared}
theorem Inv.Qv7(I:Inv X pins σ H s):Qpk X.prog X.w X.K X.mg X.base X.A X.stack s H:=
 ⟨I.ok.frames,I.ok.mod,I.bs,ZC I.ok.bsz I.sz,I.stack,I.Qm7,I.hok,I.bare⟩
theorem Inv.after{Q:VK}{u:Value}(I:Inv X pins σ H s)(h:CE X.stack X.prog X.w H s Q u s'):EP X pins σ Q u s':=by
 obtain⟨v,H',os,bare,un,hok,r,q⟩:=h;obtain⟨hh,g,d,t,os'⟩:=s';obtain rfl:os'=s.os:=os;exact⟨v,H',I.call (h':=hh) (g':=g) (d':=d) (t':=t) (ch:=[]) un hok bare (λb z=>absurd z (by simp)),r,q⟩
end
noncomputable def QrY(sp:Sp)(dvs:List V)(E:XK)(t:TA):TE:=λσ H Q=>t σ H λvs H1=>sp (vs++dvs) H1 Q E
def Binds(K:Fgg)(fd:FuncData)(ps:List Str)(ds:List Value):Prop:=
 ∀(s:Shared) (us:List Value),K.In s.heap->(us++ds).length=ps.length->BindsTo s fd ⟨us,[]⟩ (ps.zip (us++ds))
theorem Binds.all{K:Fgg}{fd:FuncData}{ps:List Str}(h:∀us:List Value,us.length=ps.length->bindArgs fd ⟨us,[]⟩=pure (ps.zip us)):Binds K fd ps []:=λs us _ hl=>by
 rw[Zag]at hl ⊢;exact .of_eq (h us hl)
def QlO(CX:CXT)(X:Cx)(E:XK):Prop:=∀(pins:List (Addr×Obj)) (σ:St) (H:Hp) (s:Shared) (e:Value) (s':Shared),Inv X pins σ H s->CX X.stack H s E e s'->X.xe e s'
section
variable {X:Cx}{CX:CXT}{k:Nat}{f C:Addr}{fd:FuncData}{ps:List Str}{sp:Sp}{dvs:List V}{ds:List Value}{E:XK}{x m:Str}{p pos apos:Pos}{e o:Expr}{es:List Expr}{ta:TE}{t:TA}
theorem QtB{pins:List (Addr×Obj)}{σ:St}{H:Hp}{s:Shared}{Q:VK}{us:List Value}{vs:List V}(F:Qcq X.prog X.w X.K X.mg X.base CX k f fd ps sp)(hr:Qba k X.A)(hb:Binds X.K fd ps ds)(hd:QA dvs ds)(hx:QlO CX X E)
  (I:Inv X pins σ H s) (r:QA vs us) (h:sp (vs++dvs) H Q E):wpAny (model X.prog X.w) X.A (call (.ref f) us) (EP X pins σ Q) X.xe s:=by
 have r2:QA (vs++dvs) (us++ds):=r.append hd;have hl:(us++ds).length=ps.length:=by rw[← r2.length];exact F.len _ _ _ _ h
 refine wpAny_call (codeAny_mono (F.run X.A X.stack s H ⟨us,[]⟩ (us++ds) (vs++dvs) Q E hr I.Qv7 (hb s us I.kIn hl) r2 h) λr s' hq=>?_);cases r with
 | error e=>exact hx pins σ H s e s' I hq
 | ok fl=>
  cases fl with
  | ret u=>exact I.after hq
  | next=>exact False.elim hq
  | brk=>exact False.elim hq
  | cont=>exact False.elim hq
theorem Qy1(F:Qcq X.prog X.w X.K X.mg X.base CX k f fd ps sp)(hr:Qba k X.A)(hg:Gl X x)(hm:X.mg x=some (.ref f))(hk:PySem.W.keepIn X.K (.ref f)=true)(hb:Binds X.K fd ps ds)(hd:QA dvs ds)(hx:QlO CX X E)
  (ha:PA X (e::es) t) (hdb:(x == ("__debug__" :Str))=false:=by decide) (he:starEach (e::es) X.env=(false,eval e X.env)::starEach es X.env:=by rfl) (hpl:(backTo pos (starEach es X.env)).any (·.1)=false:=by rfl):
  PE X (.Call (.Name x p) (e::es) [] pos) (QrY sp dvs E t):=by
 intro pins s σ H Q I h;refine wpAny_Call_Name_kw (QdQ I hg hm ?_ hdb);refine Zbk (h₀:=X.base) I.ok.mod.kin hk (thn (ha pos pins s σ H _ I h) λus s1 ⟨vs,H1,I1,r,q⟩=>⟨I1.kIn,?_⟩) he hpl;exact QtB F hr hb hd hx I1 r q
theorem QwR(F:Qcq X.prog X.w X.K X.mg X.base CX k f fd ps sp)(hr:Qba k X.A)(hg:Gl X x)(hm:X.mg x=some (.ref f))(hk:PySem.W.keepIn X.K (.ref f)=true)(hb:Binds X.K fd ps ds)(hd:QA dvs ds)(hx:QlO CX X E)
  (hdb:(x == ("__debug__" :Str))=false:=by decide):PE X (.Call (.Name x p) [] [] pos) (QrY sp dvs E QrU):=by
 intro pins s σ H Q I h;refine wpAny_Call_Name_kw (QdQ I hg hm ?_ hdb);exact PySem.W.callWith_K0 I.kIn hk (QtB (us:=[]) F hr hb hd hx I .nil h)
structure Mk (K:Fgg) (C f:Addr):Prop where
 makes:PySem.W.makesIn K C=true
 init:PySem.W.findIn K (.ref C) "__init__" =some (some (.ref f))
 fn:PySem.W.isFn K (.ref f)=true
 kp:PySem.W.keepIn K (.ref C)=true
end
section
variable {X:Cx}{CX:CXT}{k:Nat}{f C:Addr}{fd:FuncData}{ps ks:List Str}{sp:Sp}{E:XK}{x m:Str}{p pos apos kpos:Pos}{e o:Expr}{es:List Expr}{kws:List Keyword}{te ta:TE}{t tk:TA}{nm:Option Str}
structure QDB (K:Fgg) (fd:FuncData) (ps ks:List Str) (g:List Value->List Value->List Value) (gV:List V->List V->List V):Prop where
 to:∀(s:Shared) (us ws:List Value),K.In s.heap->(g us ws).length=ps.length->BindsTo s fd ⟨us,ks.zip ws⟩ (ps.zip (g us ws))
 rel:∀{vs:List V}{us:List Value}{zs:List V}{ws:List Value},QA vs us->QA zs ws->QA (gV vs zs) (g us ws)
variable {g:List Value->List Value->List Value}{gV:List V->List V->List V}
end
structure QbI (N P:List Str) (sc:Scope):Prop where
 kind:sc.kind= .function
 co:sc.isCoroutine=false
 gen:sc.isGenerator=false
 nd:N.Nodup
 pre:N.take P.length=P
 par:∀x∈P,sc.names.lookup x=some .local ∨sc.names.lookup x=some .cell
 nofree:∀y∈sc.names,y.2≠ .free
theorem QnP{kindOf:Str->Option NameKind}{x:Str}:∀{binds:List (Str×Value)}{m:Str->Option Value},(∀v,(x,v)∉binds)->bindL kindOf binds m x=m x
 | [],_,_=>rfl
 | (n,v)::r,m,h=>by
  unfold bindL;rw[QnP λw hw=>h w (Zc _ hw)];split
  ·have:x≠n:=by rintro rfl;exact h v Zg
   simp[this]
  ·rfl
theorem QnK{kindOf:Str->Option NameKind}{x:Str}:∀{binds:List (Str×Value)}{m:Str->Option Value},(∀v,(x,v)∉binds)->bindC kindOf binds m x=m x
 | [],_,_=>rfl
 | (n,v)::r,m,h=>by
  unfold bindC;rw[QnK λw hw=>h w (Zc _ hw)];split
  ·rfl
  ·have:x≠n:=by rintro rfl;exact h v Zg
   simp[this]
theorem QnO{kindOf:Str->Option NameKind}{x:Str}{v:Value}:∀{P:List Str}{vs:List Value}{i:Nat}{m:Str->Option Value},P.Nodup->P[i]? =some x->vs[i]? =some v->kindOf x=some .local →
  bindL kindOf (P.zip vs) m x=some v
 | [],_,_,_,_,h,_,_=>by simp at h
 | _::_,[],_,_,_,_,h,_=>by simp at h
 | p::P,w::vs,0,m,nd,h1,h2,hk=>by
  simp at h1 h2;subst h1;subst h2;show bindL kindOf ((p,w)::P.zip vs) m p=_;unfold bindL;rw[QnP λv hv=>(Zat.mp nd).1 (ZbA hv).1,if_pos hk];simp
 | p::P,w::vs,i+1,m,nd,h1,h2,hk=>by
  show bindL kindOf ((p,w)::P.zip vs) m x=_;unfold bindL;exact QnO (i:=i) (Zat.mp nd).2 (by simpa using h1) (by simpa using h2) hk
theorem QnS{kindOf:Str->Option NameKind}{x:Str}{v:Value}:∀{P:List Str}{vs:List Value}{i:Nat}{m:Str->Option Value},P.Nodup->P[i]? =some x->vs[i]? =some v->kindOf x≠some .local →
  bindC kindOf (P.zip vs) m x=some v
 | [],_,_,_,_,h,_,_=>by simp at h
 | _::_,[],_,_,_,_,h,_=>by simp at h
 | p::P,w::vs,0,m,nd,h1,h2,hk=>by
  simp at h1 h2;subst h1;subst h2;show bindC kindOf ((p,w)::P.zip vs) m p=_;unfold bindC;rw[QnK λv hv=>(Zat.mp nd).1 (ZbA hv).1,if_neg hk];simp
 | p::P,w::vs,i+1,m,nd,h1,h2,hk=>by
  show bindC kindOf ((p,w)::P.zip vs) m x=_;unfold bindC;exact QnS (i:=i) (Zat.mp nd).2 (by simpa using h1) (by simpa using h2) hk
noncomputable def start(N:List Str)(vs:List V):St:=vs.map some++List.replicate (N.length-vs.length) none
noncomputable def Qdk(CX:CXT)(P:Program)(w:World)(K:Fgg)(mg:Str->Option Value)(base:Heap)(N:List Str)(qual:Str)(scope:Scope)(f:Addr)(cd:Value)(A:Around)(outer:List Env)(s:Shared)(H:Hp)(E:XK):Cx where
 prog:=P
 w:=w
 K:=K
 mg:=mg
 base:=base
 A:=A.deeper (envOfC qual scope s.heap.objs.size f cd)
 N:=N
 s₀:=s
 H₀:=H
 env:=envOfC qual scope s.heap.objs.size f cd
 outer:=outer
 stack:=envOfC qual scope s.heap.objs.size f cd::outer
 ex:=[]
 calm:=decide (A.handled=none)
 fn:=λ_=>true
 pn:=[]
 xe:=λe s'=>wpAny (model P w) (A.deeper (envOfC qual scope s.heap.objs.size f cd)) (leaving (envOfC qual scope s.heap.objs.size f cd) e) (λ_ s''=>CX outer H s E e s'') (λe' s''=>CX outer H s E e' s'') s'
theorem QpJ{sc:Scope}{n:Nat}{x:Str}(h:sc.names.lookup x=some .cell):∃c,(cellsFrom n sc.names []).lookup x=some c:=by
 have q:=Zbo sc.names n [] (.inl h);exact ZaL.mp q
theorem Qnz{CX:CXT}{P:Program}{w:World}{K:Fgg}{mg:Str->Option Value}{base:Heap}{N ps:List Str}{qual:Str}{scope:Scope}{f:Addr}{cd:Value}{A:Around}{outer:List Env}{s s1:Shared}{H:Hp}{E:XK}{us:List Value}{vs:List V}
  (S:QbI N ps scope) (e0:Qpk P w K mg base A outer s H) (hl:vs.length=ps.length) (r:QA vs us)
  (x:InCallC s s.heap.objs.size (bindL (envOfC qual scope s.heap.objs.size f cd).kindOf (ps.zip us) λ_=>none) (cellsFrom (s.heap.objs.size+1) scope.names []) (bindC (envOfC qual scope s.heap.objs.size f cd).kindOf (ps.zip us) λ_=>none) s1):
  Inv (Qdk CX P w K mg base N qual scope f cd A outer s H E) [] (start N vs) H s1:=by
 have hpl:ps.length<=N.length:=by have:=congrArg List.length S.pre;rw[Zbv]at this;omega
 obtain⟨h1,tk,rfl,hk⟩:=x.done;have noA:∀b:Addr,b∉(Qdk CX P w K mg base N qual scope f cd A outer s H E).ex:=λb z=>absurd (show b∈([]:LAd)from z) (by simp)
 refine⟨⟨e0.mod,S.kind,rfl,rfl,Zj _,λy z c h1 h2=>?_,λy hy=>?_,λy c _ h=>?_,λh=>of_decide_eq_true h,Around.frames_deeper e0.frames,.inr ⟨rfl,rfl⟩,λb z=>absurd z (noA b),e0.bs,e0.bsz,λb _ _=>noA b,λb z=>absurd z (noA b),e0.Qee,e0.frf⟩,
  rfl,e0.bare,Un.kept hk,⟨_,x.toInCall.ns,λi y v h1 h2 h3=>?_⟩,λy c h=>⟨_,x.cell y c h⟩,e0.hok.fresh (Zj _),λy c h=>?_,λp hp=>absurd (show p∈([]:List (Addr×Obj))from hp) (by simp),e0.hok.kept hk,?_⟩
 ·exact name_of_addr x.apart (Zae h1) (Zae h2)
 ·have hy:scope.names.lookup y=some .cell∨scope.names.lookup y=some .free:=hy;rcases hy with hy | hy
  ·exact QpJ hy
  ·exact absurd rfl (S.nofree _ (Zae hy))
 ·exact Nat.le_of_lt (x.above y c (Zae h))
 ·have hi:i<vs.length:=by
   unfold start at h2;by_cases hi:i<vs.length
   ·exact hi
   ·rw[ZbJ (by simpa using hi),ZbR]at h2;split at h2<;>cases h2
  have ha:vs[i]? =some v:=by
   unfold start at h2;rw[Zbd (by simpa using hi),Zs]at h2;cases e:vs[i]? with
   | none=>rw[e]at h2;cases h2
   | some a=>rw[e]at h2;cases h2;rfl
  obtain⟨u,hu,rv⟩:=r.get ha;have hp:ps[i]? =some y:=by
   rw[← S.pre,List.getElem?_take_of_lt ⋯];exact h1
  have ndP:ps.Nodup:=by rw[← S.pre];exact S.nd.sublist (List.take_sublist _ _)
  refine⟨u,rv,?_⟩;rcases S.par y (Zaj hp)with k | k
  ·exact .inl ⟨k,QnO ndP hp hu k⟩
  ·obtain⟨c,e⟩:=QpJ (n:=s.heap.objs.size+1) k;refine .inr ⟨.inl k,c,e,?_⟩;have q:=x.cell y c e;rw[QnS ndP hp hu (by show scope.names.lookup y≠_;rw[k];decide)]at q;exact q
 ·exact e0.hok.fresh (Nat.le_of_lt (x.above y c (Zae h)))
 ·unfold start;show _=N.length;rw[Zz,Zl,List.length_replicate];omega
theorem Qxd{CX:CXT}{P:Program}{w:World}{K:Fgg}{mg:Str->Option Value}{base:Heap}{k:Nat}{f:Addr}{name qual:Str}{params:Arguments}{body:List Stmt}{scope:Scope}{dV kV doc pm cdv ct oc:Value}{an od:Option Addr}
  {osl:Array (Option Value)}{N ps:List Str}{sp:Sp}(lk:K.lookup f=some ⟨oc,od,.func (PySem.W.fnOf name qual params body scope dV kV doc pm an cdv ct),osl⟩) (hcd:PySem.W.codeIn K cdv qual=true) (S:QbI N ps scope)
  (len:∀vs H Q E,sp vs H Q E->vs.length=ps.length)
  (hbody:∀(A:Around) (outer:List Env) (s:Shared) (H:Hp) (vs:List V) (Q:VK) (E:XK),Qba k (A.deeper (envOfC qual scope s.heap.objs.size f cdv))->sp vs H Q E→
   ∃t,PSs (Qdk CX P w K mg base N qual scope f cdv A outer s H E) body t/\t {nx:=λ_ H'=>Q .non H',rt:=Q} (start N vs) H):
  Qcq P w K mg base CX (k+1) f (PySem.W.fnOf name qual params body scope dV kV doc pm an cdv ct) ps sp:=by
 refine⟨len,λA outer s H args us vs Q E hr e0 hb r hsp=>?_⟩;have hl:=len _ _ _ _ hsp;have KX:K.In s.heap:=e0.mod.kin.keeps λb o e=>(e0.bs b o e).1;have lim:s.heap.NoLimit:=e0.mod.nolimit.keeps λb o e=>(e0.bs b o e).1;have hkind:∀y∈ps.zip us,scope.names.lookup y.1=some .local ∨(scope.names.lookup y.1=some .cell/\((cellsFrom (s.heap.objs.size+1) scope.names []).lookup y.1).isSome=true):=λZ hy=>by
  obtain⟨n,v⟩:=Z;rcases S.par n (ZbA hy).1 with q | q
  ·exact .inl q
  ·exact .inr ⟨q,Zbo _ _ _ (.inl q)⟩
 refine codeAny_call_function hr.depth (KX _ _ lk) rfl S.co S.gen rfl (PySem.W.codeRec_of KX hcd) (hb _ _ _ _ ?_);refine wpAny_newFunctionEnv_cells S.kind hkind λenv he s1 x=>?_;subst he;refine⟨lim.keeps x.toInCall.keep,codeAny_func ?_⟩;obtain⟨t,ht,hq⟩:=hbody A outer s H vs Q E (hr.deeper _) hsp;have I:Inv (Qdk CX P w K mg base N qual scope f cdv A outer s H E) [] (start N vs) H s1:=Qnz S e0 hl r x;refine wpAny_mono (ht [] s1 (start N vs) H _ I hq) (λfl s' hs=>?_) λe s' hs=>hs
 have fin:∀{σ':St}{H':Hp}{v:V}{u:Value},Inv (Qdk CX P w K mg base N qual scope f cdv A outer s H E) [] σ' H' s'->RelV v u->Q v H'->CE outer P w H s Q u s':=
  λ{σ' H' v u} J rv q=>⟨v,H',J.os,J.bare,J.base,J.hok,rv,q⟩
 cases fl with
 | ret u=>
  obtain⟨v,σ',H',J,rv,q⟩:=hs;exact fin J rv q
 | next=>
  obtain⟨σ',H',J,q⟩:=hs;exact fin (v:=V.non) (u:=Value.none) J rfl q
 | brk=>
  obtain⟨_,_,_,q⟩:=hs;exact False.elim q
 | cont=>
  obtain⟨_,_,_,q⟩:=hs;exact False.elim q
section
variable {X:Cx}{x:Str}{p pos:Pos}{e:Expr}{es:List Expr}{t:TA}{id T:String}{r:List V->Hp->VK->Prop}
noncomputable def tCB(r:List V->Hp->VK->Prop)(t:TA):TE:=λσ H Q=>t σ H λvs H1=>r vs H1 Q
theorem QkE(hc:Qbs X (.builtin id) r)(hg:Gl X x)(hm:X.mg x=none)(hv:bootBuiltins x=some (.builtin id))(ha:PA X (e::es) t)(hn:x≠ "__name__" :=by decide)(hdb:(x == ("__debug__" :Str))=false:=by decide)
  (he:starEach (e::es) X.env=(false,eval e X.env)::starEach es X.env:=by rfl) (hpl:(backTo pos (starEach es X.env)).any (·.1)=false:=by rfl):PE X (.Call (.Name x p) (e::es) [] pos) (tCB r t):=by
 intro pins s σ H Q I h;refine wpAny_Call_Name_kw (Qdm I hg hm hv ?_ hn hdb);exact PyProof.Rows.callWith_builtin1 (thn (ha pos pins s σ H _ I h) λus s1 ⟨vs,H1,I1,r1,q1⟩=>hc pins s1 σ H1 vs us Q I1 r1 q1) he hpl
theorem QiK(hc:Qbs X (.type T) r)(hg:Gl X x)(hm:X.mg x=none)(hv:bootBuiltins x=some (.type T))(ha:PA X (e::es) t)(hn:x≠ "__name__" :=by decide)(hdb:(x == ("__debug__" :Str))=false:=by decide)
  (he:starEach (e::es) X.env=(false,eval e X.env)::starEach es X.env:=by rfl) (hpl:(backTo pos (starEach es X.env)).any (·.1)=false:=by rfl):PE X (.Call (.Name x p) (e::es) [] pos) (tCB r t):=by
 intro pins s σ H Q I h;refine wpAny_Call_Name_kw (Qdm I hg hm hv ?_ hn hdb);exact Zad (thn (ha pos pins s σ H _ I h) λus s1 ⟨vs,H1,I1,r1,q1⟩=>hc pins s1 σ H1 vs us Q I1 r1 q1) he hpl
end
end L2
namespace HT
open PySem PyProof.Rows
section
open PySem.SeqAt
open PySem.AutoSeq1 (wpAny_loadPart')
open PySem.MeetsSeq PySem.MeetsSeq2 PySem.MeetsSeq3
end
section
variable {prog:Program}{w:World}{A:Around}{E:Value->Shared->Prop}{s:Shared}
noncomputable def sIx(n d:Nat):Option Int->Nat
 | none=>d
 | some v=>if v<0 then(v+(n:Int)).toNat else min v.toNat n
theorem Qko(n d:Nat):sIx n d none=d:=rfl
theorem QqS(n d k:Nat):sIx n d (some (k:Int))=min k n:=by
 show(if(k:Int)<0 then((k:Int)+(n:Int)).toNat else min (k:Int).toNat n)=min k n;rw[if_neg ⋯,ZL]
end
end HT
namespace L2
open PySem PySem.Spec PyProof.Rows
noncomputable abbrev TO:=St->Hp->(Option Int->Hp->Prop)->Prop
def PO(X:Cx)(e:Option Expr)(t:TO):Prop:=
 ∀(pins:List (Addr×Obj)) (s:Shared) (σ:St) (H:Hp) (Q:Option Int->Hp->Prop),Inv X pins σ H s->t σ H Q→
  wpAny (model X.prog X.w) X.A (evalPart e X.env) (λu s'=>∃o H',Inv X pins σ H' s'/\IsPart u o/\Q o H') X.xe s
noncomputable def QxZ:TO:=λ_ H Q=>Q none H
noncomputable def QCy(t:TE):TO:=λσ H Q=>t σ H λx H1=>∃i,x= .int i/\Q (some i) H1
theorem intsAre_of{ns:List Int}:∀{us:List Value},QA (ns.map V.int) us->IntsAre us ns:=by
 induction ns with
 | nil=>intro us r;rw[ZaZ]at r;cases r;exact .nil
 | cons n ns ih=>
  intro us r;rw[Zp]at r;cases r with
  | cons r1 r2=>
   obtain⟨t,e⟩:=r1;subst e;exact .cons n t (ih r2)
section
variable {X:Cx}{e:Expr}{te:TE}{lo hi:Option Expr}{tl th:TO}{pos p2:Pos}
theorem QxL:PO X none QxZ:=by
 intro pins s σ H Q I h;rw[evalPart_none];exact wpAny_pure ⟨none,H,I,.none,h⟩
theorem QxO(h:PE X e te):PO X (some e) (QCy te):=by
 intro pins s σ H Q I hw;rw[evalPart_some];refine thn (h pins s σ H _ I hw) λu s1=>exJ λx H1 I1 r1 q1=>?_;obtain⟨i,rfl,q⟩:=q1;obtain⟨t,rfl⟩:=r1;exact⟨some i,H1,I1,.int i t,q⟩
def SlR(X:Cx)(r:V->Option Int->Option Int->Hp->VK->Prop):Prop:=
 ∀(pins:List (Addr×Obj)) (s:Shared) (σ:St) (H:Hp) (x:V) (v vl vu:Value) (lo hi:Option Int) (sl:Addr) (Q:VK),Inv X pins σ H s->RelV x v->s.heap.IsSliceOf sl vl vu .none->IsPart vl lo->IsPart vu hi->r x lo hi H Q→
  ∃T id,typeLookup (.type T) "__getitem__" =pure (some (.builtin id))/\s.TypeIs v T/\wpAny (model X.prog X.w) X.A (getItem v (.ref sl)) (EP X pins σ Q) X.xe s
noncomputable def tSl(r:V->Option Int->Option Int->Hp->VK->Prop)(te:TE)(tl th:TO):TE:=λσ H Q=>te σ H λx H1=>tl σ H1 λl H2=>th σ H2 λu H3=>r x l u H3 Q
theorem Qu1{r:V->Option Int->Option Int->Hp->VK->Prop}(hr:SlR X r)(he:PE X e te)(hl:PO X lo tl)(hu:PO X hi th):PE X (.Subscript e (.Slice lo hi none p2) pos) (tSl r te tl th):=by
 intro pins s σ H Q I h;refine Subscript_ (thn (he pins s σ H _ I h) λv s1=>exJ λx H1 I1 r1 q1=>?_);refine wpAny_Slice (thn (hl pins s1 σ H1 _ I1 q1) λvl s2 ⟨l,H2,I2,pl,q2⟩=>thn (hu pins s2 σ H2 _ I2 q2) λvu s3=>exJ λu H3 I3 pu q3=>?_);rw[evalPart_none];refine wpAny_pure ?_;have I4:Inv X pins σ H3 {s3 with heap:=s3.heap.push {cls:= .type "slice",data:= .fields #[vl,vu,.none]}}:=I3.kept (t':=s3.toks) λb ob q=>Zb _ q;obtain⟨T,id,hT,ht,hg⟩:=hr pins {s3 with heap:=s3.heap.push {cls:= .type "slice",data:= .fields #[vl,vu,.none]}} σ H3 x v vl vu l u s3.heap.objs.size Q I4 r1 (Heap.IsSliceOf.new ..) pl pu q3;show wpAny (model X.prog X.w) X.A (subscriptTail e (.Slice lo hi none p2) v (.ref s3.heap.objs.size)) (EP X pins σ Q) X.xe {s3 with heap:=s3.heap.push {cls:= .type "slice",data:= .fields #[vl,vu,.none]}};exact tail_any (ops:=[.ref s3.heap.objs.size,v]) ht hT hg (by with_unfolding_all rfl)
noncomputable def QmU(xs:List V)(lo hi:Option Int):List V:=(xs.drop (HT.sIx xs.length 0 lo)).take (HT.sIx xs.length xs.length hi-HT.sIx xs.length 0 lo)
theorem Qqk(xs:List V)(lo hi:Option Int):(QmU xs lo hi).length<=xs.length:=by
 unfold QmU;rw[Zbv,Zba];omega
end
noncomputable def ixN(n:Nat)(i:Int):Option Nat:=if 0<=i then(if i<n then some i.toNat else none)else if-(n:Int)<=i then some (i+n).toNat else none
noncomputable def atI{α:Type}(xs:List α)(i:Int):Option α:=(ixN xs.length i).bind λj=>xs[j]?
theorem QgT{n:Nat}{i:Int}{j:Nat}(h:ixN n i=some j):seqIndex? i n=some j/\j<n/\ -(n:Int)<=i/\i<n:=by
 unfold ixN at h;by_cases h0:0<=i
 ·rw[if_pos h0]at h;by_cases h1:i<n
  ·rw[if_pos h1]at h;have e:i.toNat=j:=Option.some.inj h;exact⟨by rw[seqIndex_of h0 h1,e],⋯,⋯,h1⟩
  ·rw[if_neg h1]at h;cases h
 ·rw[if_neg h0]at h;by_cases h1: -(n:Int)<=i
  ·rw[if_pos h1]at h;have e:(i+n).toNat=j:=Option.some.inj h;exact⟨by rw[seqIndex_neg ⋯ h1,e],⋯,h1,⋯⟩
  ·rw[if_neg h1]at h;cases h
theorem Qm0{α:Type}{xs:List α}{i:Int}{v:α}(h:atI xs i=some v):∃j,seqIndex? i xs.length=some j/\xs[j]? =some v/\j<xs.length/\ -(xs.length:Int)<=i/\i<xs.length:=by
 unfold atI at h;cases e:ixN xs.length i with
 | none=>rw[e]at h;cases h
 | some j=>
  rw[e]at h;obtain⟨h1,h2,h3,h4⟩:=QgT e;exact⟨j,h1,h,h2,h3,h4⟩
def Qjj(b:Expr):Prop:=∀o i,subscripted b false o i=operate [o,i] (getItem o i)
def IxR(X:Cx)(r:R2):Prop:=
 ∀(value slice:Expr) (pins:List (Addr×Obj)) (s:Shared) (σ:St) (H:Hp) (x y:V) (v u:Value) (Q:VK),Inv X pins σ H s->RelV x v->RelV y u->r x y H Q→
  subscripted slice false v u=operate [v,u] (getItem v u)->wpAny (model X.prog X.w) X.A (subscriptTail value slice v u) (EP X pins σ Q) X.xe s
def MtR(X:Cx)(id:String)(r:V->List V->Hp->VK->Prop):Prop:=
 ∀(pins:List (Addr×Obj)) (s:Shared) (σ:St) (H:Hp) (x:V) (xs:List V) (v:Value) (us:List Value) (Q:VK),Inv X pins σ H s->RelV x v->QA xs us->r x xs H Q→
  wpAny (model X.prog X.w) X.A (call (.builtin id) (v::us)) (EP X pins σ Q) X.xe s
section
variable {X:Cx}{a b:Expr}{ta tb:TE}{pos:Pos}
theorem IxR.or{r r':R2}(h:IxR X r)(h':IxR X r'):IxR X (λx y H Q=>r x y H Q∨r' x y H Q):=by
 intro value slice pins s σ H x y v u Q I rx ry q hs;rcases q with q | q
 ·exact h value slice pins s σ H x y v u Q I rx ry q hs
 ·exact h' value slice pins s σ H x y v u Q I rx ry q hs
theorem Qn0{r:R2}(hr:IxR X r)(ha:PE X a ta)(hb:PE X b tb)(hs:Qjj b):PE X (.Subscript a b pos) (tOp r ta tb):=by
 intro pins s σ H Q I h;exact Subscript_ (QwL ha hb I h λv u s2 x y H2 I2 rx ry q=>hr a b pins s2 σ H2 x y v u Q I2 rx ry q (hs _ _))
noncomputable def QzN(K:Fgg):R2:=λx y H Q=>∃p xs i v,x= .ref p/\y= .int i/\SqL K H p xs/\atI xs i=some v/\Q v H
noncomputable def QCW(K:Fgg):R2:=λx y H Q=>∃p xs i v,x= .ref p/\y= .int i/\SqT K H p xs/\atI xs i=some v/\Q v H
theorem Qrg:IxR X (QzN X.K):=by
 intro value slice pins s σ H x y v u Q I rx ry h hs;obtain⟨p,xs,i,z,rfl,rfl,hq,he,q⟩:=h;cases rx;obtain⟨t,rfl⟩:=ry;obtain⟨its,r,pl,hz⟩:=I.list hq;obtain⟨j,h1,h2,h3,h4,h5⟩:=Qm0 he;obtain⟨w,ew,rw'⟩:=r.get h2;have hl:=r.length;have hn:=Qhd;have fin:EP X pins σ Q w s:=⟨z,H,I,rw',q⟩;by_cases h0:0<=i
 ·have hj:i.toNat=j:=by
   rw[seqIndex_of h0 h5]at h1;exact Option.some.inj h1
  exact item_listR pl.isList h0 ⋯ (by rw[hj];simpa using ew) fin hs
 ·have hj:(i+(its.toArray.size:Int)).toNat=j:=by
   rw[seqIndex_neg ⋯ h4]at h1;rw[Zv,← hl];exact Option.some.inj h1
  exact subscriptTail_builtinR (x:=w) pl.isList.typeIs slot_list_getitem.lookup
   (wpAny_getItem_list_neg (Q:=λr s'=>r=w/\EP X pins σ Q r s') pl.isList ⋯ (by rw[Zv]<;>omega) ⋯ (by rw[hj];simpa using ew) ⟨rfl,fin⟩) hs
theorem Qlv:IxR X (QCW X.K):=by
 intro value slice pins s σ H x y v u Q I rx ry h hs;obtain⟨p,xs,i,z,rfl,rfl,hq,he,q⟩:=h;cases rx;obtain⟨t,rfl⟩:=ry;obtain⟨its,r,pl,hz⟩:=I.tuple hq;obtain⟨j,h1,h2,h3,h4,h5⟩:=Qm0 he;obtain⟨w,ew,rw'⟩:=r.get h2;have hl:=r.length;have hn:=Qhd;have fin:EP X pins σ Q w s:=⟨z,H,I,rw',q⟩
 exact subscriptTail_builtinR (x:=w) pl.typeIs slot_tuple_getitem.lookup
  (getItem_tuple (j:=j) (Q:=λr s'=>r=w/\EP X pins σ Q r s') pl ⋯ ⋯ (by rw[Zv,← hl];exact h1) (by simpa using ew) ⟨rfl,fin⟩) hs
theorem Qsu(its:List Value)(n j:Nat)(u:Value):Obj.mapSeq (·.setIfInBounds j u) {cls:= .type "list",data:= .seq its.toArray n}={cls:= .type "list",data:= .seq (its.set j u).toArray n}:=by
 simp[Obj.mapSeq]
theorem Inv.lst{pins:List (Addr×Obj)}{σ:St}{H:Hp}{s:Shared}{p:Addr}{xs:List V}(I:Inv X pins σ H s)(h:H p=some (.lst xs)):
  ∃(its:List Value) (n:Nat),QA xs its/\s.heap.get? p=some {cls:= .type "list",data:= .seq its.toArray n}/\xs.length<=sizeLine:=by
 obtain⟨z,its,n,r,e⟩:=I.hok p _ h;exact⟨its,n,r,e,z⟩
theorem Inv.Qz8{pins:List (Addr×Obj)}{σ:St}{H:Hp}{s:Shared}{p:Addr}{xs ys:List V}{its its':List Value}{n n':Nat}{f:Obj->Obj}(I:Inv X pins σ H s)(h:H p=some (.lst xs))
  (ho:s.heap.get? p=some {cls:= .type "list",data:= .seq its.toArray n}) (hf:f {cls:= .type "list",data:= .seq its.toArray n}={cls:= .type "list",data:= .seq its'.toArray n'}) (r:QA ys its') (hz:ys.length<=sizeLine) (t:Nat):
  Inv X pins σ (upd H p (.lst ys)) {s with heap:=s.heap.update p f,toks:=t}:=by
 have e:(s.heap.update p f).get? p=some {cls:= .type "list",data:= .seq its'.toArray n'}:=by
  rw[ZaF f ho (by rw[hf]<;>rfl),hf]
 refine I.write (x:=p) (e:=p) (by rw[h];trivial) (.inl rfl) (λb u hb q=>(ZaC _ _ (Ne.symm hb)).trans q) ⟨_,e⟩ ?_;exact⟨hz,its',n',r,e⟩
noncomputable def Qxa:V->V->V->Hp->(Hp->Prop)->Prop:=λo i v H Q=>∃p xs k j,o= .ref p/\i= .int k/\H p=some (.lst xs)/\ixN xs.length k=some j/\Q (upd H p (.lst (xs.set j v)))
theorem set_list:Qu2 X Qxa:=by
 intro pins s σ H o i v ov iv u Q I ro ri rv h;obtain⟨p,xs,k,j,rfl,rfl,hp,hj,q⟩:=h;cases ro;obtain⟨t,rfl⟩:=ri;obtain⟨its,n,r,ho,hz⟩:=I.lst hp;obtain⟨h1,h2,h3,h4⟩:=QgT hj;have hl:=r.length;have hn:=Qhd
 have I':Inv X pins σ (upd H p (.lst (xs.set j v))) {s with heap:=s.heap.update p (Obj.mapSeq (·.setIfInBounds j u))}:=
  I.Qz8 hp ho (Qsu its n j u) (r.set rv j) (by rw[ZaS];exact hz) s.toks
 by_cases h0:0<=k
 ·have hk:k.toNat=j:=by
   rw[seqIndex_of h0 h4]at h1;exact Option.some.inj h1
  exact PySem.W.ki_setAt ho h0 ⋯ (by rw[Zv,← hl];exact h4) (by rw[hk];exact⟨_,I',q⟩)
 ·have hk:(k+(its.toArray.size:Int)).toNat=j:=by
   rw[seqIndex_neg ⋯ h3]at h1;rw[Zv,← hl];exact Option.some.inj h1
  exact PySem.W.ki_setBack ho ⋯ (by rw[Zv,← hl];exact h3) ⋯ (by rw[hk];exact⟨_,I',q⟩)
theorem QoY(lo hi:Option Int)(n:Nat):(sliceBounds lo hi none n).1=((HT.sIx n 0 lo:Nat):Int)/\(sliceBounds lo hi none n).2.1=((HT.sIx n n hi:Nat):Int)/\(sliceBounds lo hi none n).2.2=1:=by
 refine⟨?_,?_,rfl⟩
 ·cases lo with
  | none=>simp[sliceBounds,HT.sIx]
  | some i=>
   simp only[sliceBounds,HT.sIx,Option.getD_none,show(1:Int)>0 by decide,if_true];by_cases h:i<0
   ·simp only[h,if_true]<;>omega
   ·simp only[h,if_false]<;>omega
 ·cases hi with
  | none=>simp[sliceBounds,HT.sIx]
  | some i=>
   simp only[sliceBounds,HT.sIx,Option.getD_none,show(1:Int)>0 by decide,if_true];by_cases h:i<0
   ·simp only[h,if_true]<;>omega
   ·simp only[h,if_false]<;>omega
theorem QnY(its:List Value)(lo hi:Option Int):slicePick its.toArray lo hi none=((its.drop (HT.sIx its.length 0 lo)).take (HT.sIx its.length its.length hi-HT.sIx its.length 0 lo)).toArray:=by
 obtain⟨h1,h2,h3⟩:=QoY lo hi its.toArray.size;unfold slicePick;rw[h1,h2,h3];simp only[sliceRange_one,pick_run,Zv]<;>rfl
noncomputable def QC2(K:Fgg):V->Option Int->Option Int->Hp->VK->Prop:=λx lo hi H Q=>∃a xs,x= .ref a/\SqL K H a xs/\∀p,H p=none->Q (.ref p) (upd H p (.lst (QmU xs lo hi)))
theorem QyJ:SlR X (QC2 X.K):=by
 intro pins s σ H x v vl vu lo hi sl Q I rx hs pl pu h;obtain⟨a,xs,rfl,hx,q⟩:=h;cases rx;obtain⟨its,r,ht,hz⟩:=I.list hx;have hlen:=r.length;refine⟨"list",_,slot_list_getitem.lookup,ht.isList.typeIs,?_⟩;refine wpAny_getItem_list_slice ht.isList hs pl pu .none (by simp) ?_ (by rw[Zv]<;>omega);rw[QnY,← hlen];refine⟨.ref s.heap.objs.size,_,I.laid (t':=s.toks) (o:= .lst (QmU xs lo hi)) (λb ob q=>Zb _ q) (Zj _) ?_,rfl,q _ (I.hok.fresh (Zj _))⟩;exact⟨ZC (Qqk xs lo hi) hz,_,0,(r.drop (HT.sIx xs.length 0 lo)).take (HT.sIx xs.length xs.length hi-HT.sIx xs.length 0 lo),Zq _ rfl⟩
theorem Qpc:Qbs X (.builtin "len") (λxs H Q=>∃p ys,xs=[.ref p]/\(SqL X.K H p ys∨SqT X.K H p ys)/\Q (.int ys.length) H):=by
 intro pins s σ H xs us Q I r h;obtain⟨p,ys,rfl,hq,q⟩:=h;obtain⟨u,rfl,rx⟩:=vals1 r;cases rx;have hn:=Qhd;rcases hq with hq | hq
 ·obtain⟨its,r',pl,hz⟩:=I.list hq;have hlen:=r'.length;exact Calls.call_len_list pl.isList (by simp only[Zv]<;>omega) ⟨.int ys.length,H,I.tok _,⟨s.toks+1,by rw[Zv,hlen]⟩,q⟩
 ·obtain⟨its,r',pl,hz⟩:=I.tuple hq;have hlen:=r'.length;exact len_tuple pl (by simp only[Zv]<;>omega) ⟨.int ys.length,H,I.tok _,⟨s.toks+1,by rw[Zv,hlen]⟩,q⟩
theorem Qbs.or{f:Value}{r r':List V->Hp->VK->Prop}(h:Qbs X f r)(h':Qbs X f r'):Qbs X f (λxs H Q=>r xs H Q∨r' xs H Q):=by
 intro pins s σ H xs us Q I rs q;rcases q with q | q
 ·exact h pins s σ H xs us Q I rs q
 ·exact h' pins s σ H xs us Q I rs q
theorem QpI:Qbs X (.type "list") (λxs H Q=>∃p ys,xs=[.ref p]/\(SqL X.K H p ys∨SqT X.K H p ys)/\∀l,H l=none->Q (.ref l) (upd H l (.lst ys))):=by
 intro pins s σ H xs us Q I r h;obtain⟨p,ys,rfl,hq,q⟩:=h;obtain⟨u,rfl,rx⟩:=vals1 r;cases rx
 have fin:∀(its:List Value),QA ys its->ys.length<=sizeLine->∀(h':Heap) (c':Nat),(∀b o',s.heap.get? b=some o'->h'.get? b=some o')→
   h'.get? s.heap.objs.size=some {cls:= .type "list",dict:=none,data:= .seq its.toArray c',slots:= #[]}->EP X pins σ Q (.ref s.heap.objs.size) {s with heap:=h'}:=λits r' hz h' c' kp e=>
  ⟨.ref s.heap.objs.size,_,I.laid (t':=s.toks) kp (Zj _) (show QaQ X.prog X.w _ h' _ (.lst ys)from⟨hz,its,c',r',e⟩),rfl,q _ (I.hok.fresh (Zj _))⟩
 rcases hq with hq | hq
 ·obtain⟨its,r',pl,hz⟩:=I.list hq;have hlen:=r'.length;obtain⟨o,ho,hc,n,hd⟩:=pl.isList;exact call_list_seq p (.inl rfl) ho hc hd (λh' c' kp e=>fin its r' hz h' c' kp e) (by simp only[Zv]<;>omega)
 ·obtain⟨its,r',pl,hz⟩:=I.tuple hq;have hlen:=r'.length;obtain⟨o,ho,hc,n,hd⟩:=pl;exact call_list_seq p (.inr rfl) ho hc hd (λh' c' kp e=>fin its r' hz h' c' kp e) (by simp only[Zv]<;>omega)
theorem Qh7:Qbs X (.type "tuple") (λxs H Q=>∃p ys,xs=[.ref p]/\((SqL X.K H p ys/\∀l,H l=none->Q (.ref l) (upd H l (.tup ys)))∨(SqT X.K H p ys/\Q (.ref p) H))):=by
 intro pins s σ H xs us Q I r h;obtain⟨p,ys,rfl,h⟩:=h;obtain⟨u,rfl,rx⟩:=vals1 r;cases rx;rcases h with⟨hq,q⟩ | ⟨hq,q⟩
 ·obtain⟨its,r',pl,hz⟩:=I.list hq;have hlen:=r'.length;refine call_tuple_list pl.isList (λh' kp=>?_) (by simp only[Zv]<;>omega);have I1:Inv X pins σ H {s with heap:=h'}:=I.kept (t':=s.toks) kp
  have I2:Inv X pins σ (upd H h'.objs.size (.tup ys)) {s with heap:=h'.push {cls:= .type "tuple",data:= .seq its.toArray}}:=
   I1.laid (t':=s.toks) (λb o e=>Zb _ e) (Zj _) (show QaQ X.prog X.w _ _ _ (.tup ys)from⟨hz,its,r',IsTup.new _ _⟩)
  exact⟨.ref h'.objs.size,_,I2,rfl,q _ (I1.hok.fresh (Zj _))⟩
 ·obtain⟨its,r',pl,hz⟩:=I.tuple hq;exact call_tuple_same pl ⟨.ref p,H,I,rfl,q⟩
def tyV(K:Fgg)(T:String)(x:V)(H:Hp):Prop:=match x with
 | .str _=>T= "str"
 | .int _=>T= "int"
 | .ref p=>(T= "list" /\∃xs,SqL K H p xs)∨(T= "tuple" /\∃o,K.lookup p=some o/\o.cls= .type "tuple" /\o.dict=none)∨
   (T= "dict" /\((∃kvs,H p=some (.dK kvs))∨∃kvs,H p=some (.dT kvs)))∨(T= "set" /\∃S n,H p=some (.set S n))
 | _=>False
theorem QsY{pins:List (Addr×Obj)}{σ:St}{H:Hp}{s:Shared}{T:String}{x:V}{v:Value}(I:Inv X pins σ H s)(r:RelV x v)(ty:tyV X.K T x H):
  s.TypeIs v T/\∀a,v= .ref a->∃ob,s.heap.get? a=some ob/\ob.dict=none:=by
 cases x with
 | str z=>
  obtain⟨t,rfl⟩:=r;cases(show T= "str" from ty);exact⟨typeIs_str s z t,λ_ e=>nomatch e⟩
 | int i=>
  obtain⟨t,rfl⟩:=r;cases(show T= "int" from ty);exact⟨typeIs_int s i t,λ_ e=>nomatch e⟩
 | ref p=>
  cases r;rcases ty with⟨rfl,xs,hq⟩ | ⟨rfl,o,hk,hc,hd⟩ | ⟨rfl,hk⟩ | ⟨rfl,S,n,hk⟩
  ·obtain⟨its,_,pl,_⟩:=I.list hq;refine⟨pl.isList.typeIs,λa e=>?_⟩;cases e;obtain⟨o,n,e,c,hd,_⟩:=pl;exact⟨o,e,hd⟩
  ·refine⟨⟨o,I.kIn p o hk,hc⟩,λa e=>?_⟩;cases e;exact⟨o,I.kIn _ o hk,hd⟩
  ·have z:∃o,s.heap.get? p=some o/\o.ExactDict:=by
    rcases hk with⟨kvs,hk⟩ | ⟨kvs,hk⟩
    ·obtain⟨_,_,_,_,o,_,_,e,ex,_⟩:=I.hok p _ hk;exact⟨o,e,ex⟩
    ·obtain⟨_,_,_,_,o,_,_,e,ex,_⟩:=I.hok p _ hk;exact⟨o,e,ex⟩
   obtain⟨o,e,ex⟩:=z;refine⟨⟨o,e,ex.1⟩,λa e2=>?_⟩;cases e2;exact⟨o,e,ex.2.1⟩
  ·obtain⟨o,_,_,_,e,ex,_⟩:=I.hok p _ hk;refine⟨⟨o,e,ex.1⟩,λa e2=>?_⟩;cases e2;exact⟨o,e,ex.2.1⟩
 | _=>exact False.elim ty
noncomputable def QDz(K:Fgg)(T:String)(r:V->List V->Hp->VK->Prop)(to:TE):TE:=λσ H Q=>to σ H λx H1=>tyV K T x H1/\r x [] H1 Q
noncomputable def tBM(K:Fgg)(T:String)(r:V->List V->Hp->VK->Prop)(to:TE)(t:TA):TE:=λσ H Q=>to σ H λx H1=>tyV K T x H1/\t σ H1 λxs H2=>r x xs H2 Q
variable {o e:Expr}{es:List Expr}{to:TE}{t:TA}{name:Str}{apos cpos:Pos}{T id:String}{r:V->List V->Hp->VK->Prop}
theorem QAo(pa:PlainAttrs T)(slot:Slot T name id)(hty:typeOf (.builtin id)=pure (.type "method_descriptor"))(hm:MtR X id r)(ho:PE X o to)
  (hbase:attributeBase o name X.env (eval o X.env)=eval o X.env:=by rfl) (hline:(apos.endLine == cpos.line)=true:=by rfl):PE X (.Call (.Attribute o name apos) [] [] cpos) (QDz X.K T r to):=by
 intro pins s σ H Q I h;refine wpAny_Call_method0_late hbase hline (thn (ho pins s σ H _ I h) λv s1 Z=>?_);obtain⟨x,H1,I1,r1,ty,q1⟩:=Z;obtain⟨h1,h2⟩:=QsY I1 r1 ty;exact⟨T,id,pa,slot,hty,h1,h2,Calls.callWith_builtin rfl (PySem.evalArgs_none (hm pins s1 σ H1 x [] v [] Q I1 r1 .nil q1))⟩
theorem QBI(pa:PlainAttrs T)(slot:Slot T name id)(hty:typeOf (.builtin id)=pure (.type "method_descriptor"))(hm:MtR X id r)(ho:PE X o to)(ha:PA X (e::es) t)
  (hbase:attributeBase o name X.env (eval o X.env)=eval o X.env:=by rfl)
  (hfew:((backTo cpos (starEach (e::es) X.env)).all (λx=> !x.1) && (backToKw cpos (keywordEach [] X.env)).all (λx=>x.1.isSome)
   && decide ((e::es).length+([]:List Keyword).length+(if([]:List Keyword).isEmpty then 0 else 1)<30))=true:=by rfl)
  (hline:(apos.endLine == cpos.line)=true:=by rfl) (hs:starEach (e::es) X.env=(false,eval e X.env)::starEach es X.env:=by rfl) (hplain:(backTo cpos (starEach es X.env)).any (·.1)=false:=by rfl):
  PE X (.Call (.Attribute o name apos) (e::es) [] cpos) (tBM X.K T r to t):=by
 intro pins s σ H Q I h;refine wpAny_Call_method_late hbase hfew hline rfl (thn (ho pins s σ H _ I h) λv s1 Z=>?_);obtain⟨x,H1,I1,r1,ty,q1⟩:=Z;obtain⟨h1,h2⟩:=QsY I1 r1 ty;refine⟨T,id,pa,slot,hty,h1,h2,?_⟩;have hA:=ha cpos pins s1 σ H1 _ I1 q1;rw[hs]at hA ⊢;refine Calls.callWith_builtin (by show(false || (backTo cpos (starEach es X.env)).any (·.1))=false;rw[hplain]<;>rfl) (Calls.evalArgs_plain ?_);exact thn hA λus s2 ⟨vs,H2,I2,r2,q2⟩=>hm pins s2 σ H2 x vs v us Q I2 r1 r2 q2
end
def MtM(X:Cx)(id:String)(r:V->List V->Hp->VK->Prop):Prop:=
 ∀(pins:List (Addr×Obj)) (s:Shared) (σ:St) (H:Hp) (x:V) (xs:List V) (v:Value) (us:List Value) (Q:VK),Inv X pins σ H s->RelV x v->QA xs us->r x xs H Q→
  wpAny (model X.prog X.w) X.A (call (.builtin id) (v::us)) (EP X pins σ Q) X.xe s
theorem QA.one{x:V}{us:List Value}(r:QA [x] us):∃u,us=[u]/\RelV x u:=vals1 r
theorem QA.zero:∀{us:List Value},QA [] us->us=[]
 | _,.nil=>rfl
theorem QA.reverse{xs:List V}{us:List Value}(h:QA xs us):QA xs.reverse us.reverse:=by
 induction h with
 | nil=>exact .nil
 | cons r t ih=>rw[Zbp,Zbp];exact QA.append ih (.cons r .nil)
theorem QA.rep{xs:List V}{us:List Value}(h:QA xs us):∀k:Nat,QA (List.replicate k xs).flatten (List.replicate k us).flatten
 | 0=> .nil
 | k+1=>by
  rw[Zai,Zai,Zal,Zal];exact QA.append h (QA.rep h k)
theorem foldl_rep(its:List Value):∀(k:Nat) (acc:List Value),
  List.foldl (λx1 x2=>x1++x2) acc.toArray (List.replicate k its.toArray)=(acc++(List.replicate k its).flatten).toArray
 | 0,acc=>by simp
 | k+1,acc=>by
  have e:acc.toArray++its.toArray=(acc++its).toArray:=by simp
  have e2:(acc++its)++(List.replicate k its).flatten=acc++(List.replicate (k+1) its).flatten:=by
   rw[Zai,Zal,ZaV]
  rw[← e2,← foldl_rep its k (acc++its),← e,Zai,List.foldl_cons]
section
variable {X:Cx}{pins:List (Addr×Obj)}{σ:St}{H:Hp}{s:Shared}{l b:Addr}{xs ys zs:List V}
theorem Inv.QCT{its its':List Value}{n:Nat}{f:Array Value->Array Value}{t':Nat}(I:Inv X pins σ H s)(hH:H l=some (.lst xs))
  (e:s.heap.get? l=some {cls:= .type "list",data:= .seq its.toArray n}) (hf:f its.toArray=its'.toArray) (hv:QA ys its') (hz:ys.length<=sizeLine):
  Inv X pins σ (upd H l (.lst ys)) {s with heap:=s.heap.update l (Obj.mapSeq f),toks:=t'}:=by
 have q:=PySem.IsL.update e f;rw[hf]at q;refine I.write (x:=l) (e:=l) (by rw[hH];exact trivial) (.inl rfl) (λb' u hb hu=>(ZaC s.heap (Obj.mapSeq f) (Ne.symm hb)).trans hu) ⟨_,q⟩ ?_;exact⟨hz,its',_,hv,q⟩
theorem Inv.QAq{its:List Value}{t':Nat}(I:Inv X pins σ H s)(hv:QA ys its)(hz:ys.length<=sizeLine):
  Inv X pins σ (upd H s.heap.objs.size (.lst ys)) {s with heap:=s.heap.push {cls:= .type "list",data:= .seq its.toArray},toks:=t'}:=
 I.laid (λ_ _ q=>Zb _ q) (Zj _) ⟨hz,its,0,hv,Zq _ rfl⟩
theorem Inv.fresh(I:Inv X pins σ H s):H s.heap.objs.size=none:=I.hok.fresh (Zj _)
theorem Inv.Qzv(I:Inv X pins σ H s)(hH:H l=some (.lst xs)):xs.length<=sizeLine/\∃(its:List Value) (n:Nat),QA xs its/\xs.length=its.length/\s.heap.get? l=some {cls:= .type "list",data:= .seq its.toArray n}:=by
 obtain⟨z,its,n,r,e⟩:=I.hok l _ hH;exact⟨z,its,n,r,r.length,e⟩
theorem Qwm{n:Nat}(h:n<=sizeLine):Builtin.List.listTooLong n=false:=by
 unfold Builtin.List.listTooLong;exact decide_eq_false ⋯
end
section
variable {X:Cx}
noncomputable def QqV:V->List V->Hp->VK->Prop:=λx vs H Q=>∃l xs y,x= .ref l/\vs=[y]/\H l=some (.lst xs)/\xs.length<sizeLine/\Q .non (upd H l (.lst (xs++[y])))
theorem QnR:MtM X "list.append" QqV:=by
 intro pins s σ H x vs v us Q I rx rv h;obtain⟨l,xs,y,rfl,rfl,hH,hz,q⟩:=h;cases rx;obtain⟨u,rfl,ru⟩:=rv.one;obtain⟨z,its,n,r,hl,e⟩:=I.Qzv hH;refine call_meets F.slot_list_append ⟨_,e,rfl⟩ F.entry_list_append (F.args_list_append_2 _ _) (PySem.list_append l its.toArray n u (by rw[Zv];omega)) ⟨e,?_⟩;refine⟨.non,_,I.QCT (its':=its++[u]) hH e (by simp) (r.append (.cons ru .nil)) ?_,rfl,q⟩;rw[Zz,Zbr];omega
theorem len_rep{α:Type}(xs:List α)(k:Nat):(List.replicate k xs).flatten.length=k*xs.length:=by
 induction k with
 | zero=>simp
 | succ k ih=>rw[Zai,Zal,Zz,ih,ZbY,Nat.add_comm]
end
section
variable {prog:Program}{w:World}{A:Around}{E:Value->Shared->Prop}{s:Shared}
end
section
variable {X:Cx}
end
end L2
namespace Att
open PySem PySem.W PySem.Calls PyProof.Rows
theorem Qln{P:Params}{h:Heap}:∀(ns:List Int) (vs:List Value),WellAll P h vs (ns.map WData.int)->IntsAre vs ns:=by
 intro ns
 induction ns with
 | nil=>
  intro vs w;rw[ZaZ]at w;cases w;exact .nil
 | cons n ns ih=>
  intro vs w;rw[Zp]at w;cases w with
  | cons a b=>
   cases a;exact .cons _ _ (ih _ b)
theorem Qtv{l:OpenLaw}{n:Nat}(hn:l.most=some n){P:Params}{h:Heap}{args:List WData}{vals:List Value}
  (hpre:l.row.toRowW.claim.pre args=true) (hwl:WellAll P h vals args):
  ∃a vs ns,vals=[Value.ref a]/\args=[WData.list (ns.map WData.int)]/\h.get? a=some {cls:= .type "list",data:= .seq vs.toArray}/\IntsAre vs ns/\ns.length<=n:=by
 have hsh:WShape.hasAll [] args [.list .int]=true:=(pre_splitW hpre).1;have hc:l.pre.holds [] {args:=args}=true:=(pre_splitW hpre).2;obtain⟨d,r,rfl,h1,h2⟩:=hasAllW_cons hsh;obtain rfl:=hasAllW_nil h2;obtain⟨xs,rfl,h3⟩:=hasW_list h1;obtain⟨ns,rfl⟩:=items_int h3;have hlen:ns.length<=n:=by
  unfold OpenLaw.pre at hc;have h4:(WTm.not (.lt (.lit (.int (n:Int))) (.len (.arg 0)))).holds [] {args:=[.list (ns.map .int)]}=true:=by
   have h4:=(holds_andW hc).1;rw[hn]at h4;exact h4
  have h5:=condW_of h4 (w_not (w_lt w_lit (w_len_list (w_arg rfl))));rw[Zl]at h5;refine Nat.le_of_not_lt λq=>?_;have q':(n:Int)<((ns.length:Nat):Int):= ⋯
  first
   | (rw[decide_eq_true q']at h5;exact absurd h5 (by decide))
   | (simp at h5;omega)
 cases hwl with
 | cons w1 w2=>
  cases w2;cases w1 with
  | list ho hall=>exact⟨_,_,ns,rfl,rfl,ho,Qln ns _ hall,hlen⟩
theorem QtH(l:OpenLaw)(args:List WData):l.row.toRowW.claim.post args (.bool true) args=true:=
 postW_of (r:=l.row.toRowW) (X:=(true == true))
  (show WShape.has [] (.bool true) .bool=true by first | rfl | decide | simp[WShape.has,WShape.arms,WShape.armsAll])
  (show(WTm.eq .res (.lit (.bool true))).value [] {args:=args,res:=some (.bool true),after:=args}=some (.bool (true == true))from w_eq_bool (w_res rfl) w_lit) rfl
theorem Qqm{l:OpenLaw}{n:Nat}{q:Program}{loose:List Str}{XP:(Str->Option Value)->Heap->Prop}{YP:World->Heap->Prop}{d:DefRec}
  (hn:l.most=some n) (hdf:d.params.defaults=[])
  (call:∀(w:World) (s₀ s₁:Shared) (mg mb:Str->Option Value) (fa:Addr) (o:Obj) (pm cd doc:Value) (a:Addr) (vs:List Value) (ns:List Int),
   Ground q loose [] XP w s₀ mg mb s₁.heap->YP w s₁.heap→
   s₁.heap.get? fa=some o->o.data= .func (docDef d.name d.params d.body d.scope pm cd doc)->s₁.heap.CodeRec cd d.name->mg d.name=some (.ref fa)→
   s₁.heap.get? a=some {cls:= .type "list",data:= .seq vs.toArray}->IntsAre vs ns->ns.length<=n->s₁.gens= #[]→
   codeAny (model l.prog w) callerA (.call (.ref fa) ⟨[.ref a],[]⟩) (λr s'=>r= .ok (.ret (.bool true))/\OldK s₁.heap s'.heap/\s'.os=s₁.os/\AllBare s'.gens) s₁):
  WalkO q loose XP YP l.row.toRowW d [] (λf vs=>PySem.call f vs):=by
 intro w s₀ s₁ mg mb G Y fa o pm cd doc dV kV ho hd hcd hD hmg hg args vals as hpre hlay hrd hwl hlo;obtain rfl:dV= .none:=Dflts.none hD hdf;obtain rfl:kV= .none:=Dflts.noKw hD;obtain⟨a,vs,ns,rfl,rfl,hobj,hints,hlen⟩:=Qtv hn hpre hwl;refine enter_call (codeAny_mono (call w s₀ s₁ mg mb fa o pm cd doc a vs ns G Y ho (fd_plain hd) hcd hmg hobj hints hlen hg) λr s' hq=>?_);obtain⟨rfl,h2,h3,h4⟩:=hq;exact⟨.inl ⟨.bool true,.bool true,[],rfl,λ_=>rfl,.bool true,QtH l _,λ_=>⟨List.Pairwise.nil,λ_ hm=>(nomatch hm)⟩⟩,h2,h3,h4⟩
section
variable {prog:Program}{w:World}{A:Around}{E:Value->Shared->Prop}{s:Shared}{K:Frag}
end
end Att
namespace L2
open PySem PySem.Spec PyProof.Rows
theorem QbY:∀{vs:List Value}{ns:List Int},IntsAre vs ns->QA (ns.map V.int) vs
 | _,_,.nil=> .nil
 | _,_,.cons n t h=> .cons ⟨t,rfl⟩ (QbY h)
def QAl(H:Hp):Prop:=∀b,H b=none∨∃o xs,H b=some (.frz o (.lst xs))
theorem QuQ{P:Program}{w:World}{K:Fgg}{mg mb:Str->Option Value}{CX:CXT}{k:Nat}{fa a:Addr}{fd:FuncData}{x:Str}{sp:Sp}{s₁:Shared}{vs:List Value}{ns:List Int}
  (KX:K.In s₁.heap) (hns:s₁.heap.Ns mainGlobals mg) (hb:s₁.heap.Ns builtinsNs mb) (hbb:∀x:Str,x≠ "__name__" ->mb x=bootBuiltins x) (hlim:s₁.heap.NoLimit) (hg:s₁.gens= #[])
  (ha:s₁.heap.get? a=some {cls:= .type "list",data:= .seq vs.toArray}) (hi:IntsAre vs ns) (hl:ns.length<=sizeLine) (hr:Qba k callerA)
  (F:∀base:Heap,K.In base->base.Ns mainGlobals mg->Qcq P w K mg base CX k fa fd [x] sp) (hbind:∀(s:Shared) (u:Value),BindsTo s fd ⟨[u],[]⟩ [(x,u)])
  (hsp:∀H:Hp,QAl H->SqL K H a (ns.map V.int)->sp [.ref a] H (λv _=>v= .bl true) λ_ _ _=>False)
  (hCX:∀H e s',CX [] H s₁ (λ_ _ _=>False) e s'->False):
  codeAny (model P w) callerA (.call (.ref fa) ⟨[.ref a],[]⟩) (λr s'=>r= .ok (.ret (.bool true))/\OldK s₁.heap s'.heap/\s'.os=s₁.os/\AllBare s'.gens) s₁:=by
 have rv:=QbY hi;have lenV:=hi.length
 have core:∀H:Hp,QAl H->SqL K H a (ns.map V.int)->HOk P w H s₁.heap->(∀b,H b≠none->b=a)->(H a≠none->K.lookup a=none)→
   codeAny (model P w) callerA (.call (.ref fa) ⟨[.ref a],[]⟩) (λr s'=>r= .ok (.ret (.bool true))/\OldK s₁.heap s'.heap/\s'.os=s₁.os/\AllBare s'.gens) s₁:=by
  intro H hO hS hok hA hK;have base_of:∀{b:Addr}{o:Obj},s₁.heap.get? b=some o->H b=none->(QhJ s₁.heap H).get? b=some o:=λe n=>QvI e n;have noA:∀{b:Addr}{o:Obj}{es:Array DictEntry}{ep:Nat},s₁.heap.get? b=some o->o.data= .dict es ep->H b=none:=λ{b o es ep} e d=>by
   cases q:H b with
   | none=>rfl
   | some u=>
    have e':b=a:=hA b (by rw[q];simp);subst e';rw[ha]at e;cases e;have d':Data.seq vs.toArray _=Data.dict es ep:=d;cases d'
  have nsK:∀{b:Addr}{m:Str->Option Value},s₁.heap.Ns b m->(QhJ s₁.heap H).Ns b m:=λ{b m} ⟨o,es,ep,e,d,r⟩=>⟨o,es,ep,base_of e (noA e d),d,r⟩;have hKb:K.In (QhJ s₁.heap H):=λb o e=>base_of (KX b o e) (by
   cases q:H b with
   | none=>rfl
   | some u=>
    have e':b=a:=hA b (by rw[q];simp);subst e';rw[hK (by rw[q];simp)]at e;cases e)
  have hM:Mod K mg (QhJ s₁.heap H):=⟨hKb,nsK hns,⟨mb,nsK hb,hbb⟩,let ⟨mc,h1,h2⟩:=hlim;⟨mc,nsK h1,h2⟩⟩;have e0:Qpk P w K mg (QhJ s₁.heap H) callerA [] s₁ H:=⟨rfl,hM,λb o e=>QxD e,Nat.le_of_eq (QtQ _ _),trivial,λb hb=>absurd (show b∈([]:LAd)from hb) (by simp),hok,.of_eq hg⟩;refine codeAny_mono ((F _ hKb (nsK hns)).run callerA [] s₁ H ⟨[.ref a],[]⟩ [.ref a] [.ref a] _ _ hr e0 (hbind s₁ (.ref a)) (.cons rfl .nil) (hsp H hO hS)) λr s' h=>?_;cases r with
  | error e=>exact(hCX H e s' h).elim
  | ok fl=>
   cases fl with
   | next=>exact False.elim h
   | brk=>exact False.elim h
   | cont=>exact False.elim h
   | ret u=>
    obtain⟨v,H',os,bare,un,hok',r',q⟩:=h;have q':v= .bl true:=q;subst q';obtain rfl:u=Value.bool true:=r';refine⟨rfl,OldK.of_keep λb o e=>?_,os,bare⟩;cases q:H b with
    | none=>exact un.keep b o e q (by intro z;exact absurd (show b∈([]:LAd)from z) (by simp)) (by simp)
    | some u=>
     rcases hO b with z | ⟨ob,xs,z⟩
     ·rw[q]at z;cases z
     ·have z2:=un.frzs b ob _ z;obtain⟨e1,_⟩:=hok b _ z;obtain⟨e2,_⟩:=hok' b _ z2;rw[e]at e1;cases e1;exact e2
 cases hk:K.lookup a with
 | some o=>
  have e:=KX a o hk;rw[ha]at e;cases e;refine core (λ_=>none) (λ_=> .inl rfl) (.inr ⟨_,vs.toArray,_,hk,rfl,rfl,rfl,by rw[Zv,lenV];exact hl,by simpa using rv⟩) (λb u z=>by have z':(none:Option HO)=some u:=z;cases z') (λb z=>absurd rfl z) λz=>absurd rfl z
 | none=>
  refine core (λb=>if b=a then some (.frz {cls:= .type "list",data:= .seq vs.toArray} (.lst (ns.map V.int)))else none) (λb=>?_) (.inl (.inr ⟨{cls:= .type "list",data:= .seq vs.toArray},if_pos rfl⟩)) (λb u z=>?_) (λb z=>?_) λ_=>hk
  ·by_cases hb:b=a
   ·exact .inr ⟨_,_,if_pos hb⟩
   ·exact .inl (if_neg hb)
  ·by_cases hb:b=a
   ·have z':=(if_pos hb).symm.trans z;cases z';subst hb;exact⟨ha,by rw[Zl];exact hl,vs,_,rv,ha⟩
   ·have z':=(if_neg hb).symm.trans z;cases z'
  ·by_cases hb:b=a
   ·exact hb
   ·exact absurd (if_neg hb) z
noncomputable abbrev KOf{K:Fgg}{h:Heap}(_:K.In h):PySem.W.Frag:=K
noncomputable def Qfs(s:Stmt):Arguments:=match s with
 | .FunctionDef _ a _ _ _ _ _ _ _ _=>a
 | _=>{posonlyargs:=[],args:=[],vararg:=none,kwonlyargs:=[],kw_defaults:=[],kwarg:=none,defaults:=[]}
noncomputable def QaM(s:Stmt):List Stmt:=match s with
 | .FunctionDef _ _ b _ _ _ _ _ _ _=>b
 | _=>[]
noncomputable def Ql(s:Stmt):Scope:=match s with
 | .FunctionDef _ _ _ _ _ _ sc _ _ _=>sc
 | _=>{kind:= .function,names:=[],isGenerator:=false,isCoroutine:=false}
noncomputable abbrev CX0:CXT:=λ_ _ _ _ _ _=>False
noncomputable abbrev E0:XK:=λ_ _ _=>False
theorem Qsf{X:Cx}:QlO CX0 X E0:=λ_ _ _ _ _ _ _ h=>h.elim
structure Fun (K:Fgg) (x qual:Str) (st:Stmt) (f:Addr) (fd:FuncData):Prop where
 ex:∃(oc:Value) (od:Option Addr) (kV doc pm:Value) (an:Option Addr) (cdv ct:Value) (osl:Array (Option Value)),
  fd=PySem.W.fnOf x qual (Qfs st) (QaM st) (Ql st) .none kV doc pm an cdv ct/\K.lookup f=some ⟨oc,od,.func fd,osl⟩/\PySem.W.codeIn K cdv qual=true
 kp:PySem.W.keepIn K (.ref f)=true
section
variable {P:Program}{w:World}{K:Fgg}{mg:Str->Option Value}{base:Heap}
theorem Fun.ok{x qual:Str}{st:Stmt}{f:Addr}{fd:FuncData}{N ps:List Str}{k:Nat}{sp:Sp}(F:Fun K x qual st f fd)(S:QbI N ps (Ql st))(len:∀vs H Q E,sp vs H Q E->vs.length=ps.length)
  (hbody:∀(cdv:Value) (A:Around) (outer:List Env) (s:Shared) (H:Hp) (vs:List V) (Q:VK) (E:XK),Qba k (A.deeper (envOfC qual (Ql st) s.heap.objs.size f cdv))->sp vs H Q E→
   ∃t,PSs (Qdk CX0 P w K mg base N qual (Ql st) f cdv A outer s H E).nox (QaM st) t/\t {nx:=λ_ H'=>Q .non H',rt:=Q} (start N vs) H):Qcq P w K mg base CX0 (k+1) f fd ps sp:=by
 obtain⟨oc,od,kV,doc,pm,an,cdv,ct,osl,rfl,lk,hcd⟩:=F.ex;refine Qxd lk hcd S len λA outer s H vs Q E hr hsp=>?_;obtain⟨t,h,q⟩:=hbody cdv A outer s H vs Q E hr hsp;exact⟨t,h.nox,q⟩
theorem Fun.binds{x qual:Str}{st:Stmt}{f:Addr}{fd:FuncData}{ps:List Str}(F:Fun K x qual st f fd)
  (h:∀(kV doc pm:Value) (an:Option Addr) (cdv ct:Value) (us:List Value),us.length=ps.length->bindArgs (PySem.W.fnOf x qual (Qfs st) (QaM st) (Ql st) .none kV doc pm an cdv ct) ⟨us,[]⟩=pure (ps.zip us)):Binds K fd ps []:=by
 obtain⟨oc,od,kV,doc,pm,an,cdv,ct,osl,rfl,lk,hcd⟩:=F.ex;exact .all (h kV doc pm an cdv ct)
theorem QzO{x qual:Str}{st:Stmt}{f:Addr}{oc:Value}{od an:Option Addr}{osl:Array (Option Value)}{kV doc pm cdv ct:Value}(l:K.lookup f=some ⟨oc,od,.func (PySem.W.fnOf x qual (Qfs st) (QaM st) (Ql st) .none kV doc pm an cdv ct),osl⟩)
  (c:PySem.W.codeIn K cdv qual=true) (k:PySem.W.keepIn K (.ref f)=true):Fun K x qual st f (PySem.W.fnOf x qual (Qfs st) (QaM st) (Ql st) .none kV doc pm an cdv ct):=⟨⟨oc,od,kV,doc,pm,an,cdv,ct,osl,rfl,l,c⟩,k⟩
end
section
variable {X:Cx}
end
theorem QrE{A B:Prop}(h:B):if false=true then A else B:=by
 rw[if_neg ZV];exact h
theorem Qsc{A B:Prop}(h:A):if true=true then A else B:=by
 rw[if_pos rfl];exact h
def QM(H H':Hp):Prop:=∀b o,H b=some o->H' b=some o
theorem QM.refl(H:Hp):QM H H:=λ_ _ h=>h
theorem QM.trans{H H1 H2:Hp}(a:QM H H1)(b:QM H1 H2):QM H H2:=λc o h=>b c o (a c o h)
theorem QM.free{H H':Hp}(e:QM H H'){l:Addr}(h:H' l=Option.none):H l=Option.none:=by
 cases q:H l with
 | none=>rfl
 | some o=>
  rw[e l o q]at h;cases h
section
variable {κ:Type} [DecidableEq κ]
noncomputable def QkB(kvs:List (κ×V))(k:κ):Option V:=(kvs.find? λkv=>decide (kv.1=k)).map (·.2)
noncomputable def putK(kvs:List (κ×V))(k:κ)(v:V):List (κ×V):=
 if(kvs.any λkv=>decide (kv.1=k))=true then kvs.map (λkv=>if kv.1=k then(kv.1,v)else kv)else kvs++[(k,v)]
theorem QpM{p:κ×V}{r:List (κ×V)}{k:κ}(e:p.1=k):QkB (p::r) k=some p.2:=by simp[QkB,List.find?_cons,e]
theorem Qop{p:κ×V}{r:List (κ×V)}{k:κ}(e:¬p.1=k):QkB (p::r) k=QkB r k:=by simp[QkB,List.find?_cons,e]
theorem QpZ(k:κ):∀kvs:List (κ×V),(kvs.any λkv=>decide (kv.1=k))=(QkB kvs k).isSome
 | []=>rfl
 | p::r=>by
  rw[Zch];by_cases e:p.1=k
  ·simp only[QpM e,decide_eq_true e,Bool.true_or,Option.isSome_some]
  ·rw[Qop e,decide_eq_false e,Bool.false_or];exact QpZ k r
theorem QjV(kvs:List (κ×V))(k:κ)(v:V):(putK kvs k v).length<=kvs.length+1:=by
 unfold putK;split
 ·rw[Zl];omega
 ·rw[Zz,ZU,List.length_nil];omega
theorem QpR.Qs3{o:Option V}{u:Option Value}(r:QpR o u):o.isSome=u.isSome:=by
 cases o with
 | none=>cases u with
  | none=>rfl
  | some _=>exact(show False from r).elim
 | some _=>cases u with
  | none=>exact(show False from r).elim
  | some _=>rfl
theorem KV.any{kvs:List (κ×V)}{vs:List (κ×Value)}(r:KV kvs vs)(k:κ):(kvs.any λkv=>decide (kv.1=k))=vs.any λkv=>decide (kv.1=k):=by
 unfold KV at r
 induction r with
 | nil=>rfl
 | cons h t ih=>rw[Zch,Zch,ih,h.1]
theorem KV.QvP{kvs:List (κ×V)}{vs:List (κ×Value)}(r:KV kvs vs)(k:κ){y:V}{u:Value}(ry:RelV y u):
  KV (kvs.map λkv=>if kv.1=k then(kv.1,y)else kv) (vs.map λkv=>if kv.1=k then(kv.1,u)else kv):=by
 unfold KV at r ⊢
 induction r with
 | nil=>exact .nil
 | @cons p q ps qs h t ih=>
  rw[Zp,Zp];refine .cons ?_ ih;obtain⟨h1,h2⟩:=h;by_cases e:p.1=k
  ·rw[if_pos e,if_pos (h1.symm.trans e)];exact⟨h1,ry⟩
  ·rw[if_neg e,if_neg (λz=>e (h1.trans z))];exact⟨h1,h2⟩
theorem KV.put{kvs:List (κ×V)}{vs:List (κ×Value)}(r:KV kvs vs)(k:κ){y:V}{u:Value}(ry:RelV y u):KV (putK kvs k y) (stored vs k u):=by
 unfold putK stored;rw[r.any k];by_cases e:(vs.any λkv=>decide (kv.1=k))=true
 ·rw[if_pos e,if_pos e];exact r.QvP k ry
 ·rw[if_neg e,if_neg e];exact Paired.snoc r ⟨rfl,ry⟩
theorem KV.length{kvs:List (κ×V)}{vs:List (κ×Value)}(r:KV kvs vs):kvs.length=vs.length:=Zbi r
end
theorem Qxg{P:Program}{w:World}{k:Key}{u:Value}(r:RelV (kV k) u):(Qa3 P w).is k u=true:=by
 cases k with
 | inl i=>obtain⟨t,e⟩:=(show ∃t,u=Value.int i t from r);subst e;exact Qp6 P w i t
 | inr x=>obtain⟨t,e⟩:=(show ∃t,u=Value.str x t from r);subst e;exact Qql P w x t
theorem Qnm{P:Program}{w:World}:∀{ks:List Key}{us:List Value},QA (ks.map kV) us->ItemsAre (Qa3 P w) ks us
 | [],_,r=>by rw[ZaZ]at r;cases r;exact .nil
 | k::ks,_,r=>by
  rw[Zp]at r;cases r with
  | cons h t=>exact .cons (Qxg h) (Qnm t)
noncomputable abbrev KT(H:Hp):List (List Key×V)->List (List Key×Addr×Value)->Prop:=Paired λp q=>p.1=q.1/\H q.2.1=some (.tup (p.1.map kV))/\RelV p.2 q.2.2
theorem KT.val{H:Hp}{kvs:List (List Key×V)}{xs:List (List Key×Addr×Value)}(r:KT H kvs xs)(k:List Key):QpR (QkB kvs k) ((atKey xs k).map (·.2)):=by
 induction r with
 | nil=>exact True.intro
 | @cons p q ps qs h t ih=>
  obtain⟨h1,_,h2⟩:=h;by_cases e:p.1=k
  ·have e':q.1=k:=h1.symm.trans e;have b:atKey (q::qs) k=some q.2:=by simp[atKey,List.find?_cons,e']
   rw[QpM e,b];exact h2
  ·have e':¬q.1=k:=λz=>e (h1.trans z);have b:atKey (q::qs) k=atKey qs k:=by simp[atKey,List.find?_cons,e']
   rw[Qop e,b];exact ih
theorem KT.QvP{H:Hp}{kvs:List (List Key×V)}{xs:List (List Key×Addr×Value)}(r:KT H kvs xs)(k:List Key){y:V}{u:Value}(ry:RelV y u):
  KT H (kvs.map λkv=>if kv.1=k then(kv.1,y)else kv) (xs.map (putAt k u)):=by
 induction r with
 | nil=>exact .nil
 | @cons p q ps qs h t ih=>
  rw[Zp,Zp];refine .cons ?_ ih;obtain⟨h1,h2,h3⟩:=h;unfold putAt;by_cases e:p.1=k
  ·rw[if_pos e,if_pos (h1.symm.trans e)];exact⟨h1,h2,ry⟩
  ·rw[if_neg e,if_neg (λz=>e (h1.trans z))];exact⟨h1,h2,h3⟩
theorem KT.put{H:Hp}{kvs:List (List Key×V)}{xs:List (List Key×Addr×Value)}(r:KT H kvs xs)(k:List Key){b:Addr}{y:V}{u:Value}(hb:H b=some (.tup (k.map kV)))(ry:RelV y u):
  KT H (putK kvs k y) (storedH xs k b u):=by
 have e:(kvs.any λkv=>decide (kv.1=k))=(atKey xs k).isSome:=by
  rw[QpZ,(r.val k).Qs3,Option.isSome_map]
 unfold putK storedH;rw[e];by_cases q:(atKey xs k).isSome=true
 ·rw[if_pos q,if_pos q];exact r.QvP k ry
 ·rw[if_neg q,if_neg q];exact Paired.snoc r ⟨rfl,hb,ry⟩
theorem KT.keeps{H H':Hp}{kvs:List (List Key×V)}{xs:List (List Key×Addr×Value)}(r:KT H kvs xs)(ht:∀b ys,H b=some (.tup ys)->H' b=some (.tup ys)):KT H' kvs xs:=
 Paired.Qwl r λ_ _ z=>⟨z.1,ht _ _ z.2.1,z.2.2⟩
section
variable {P:Program}{w:World}{H:Hp}{h:Heap}{a:Addr}
theorem Qw0{u:HO}(ok:HOk P w H h)(e:Rd H a u):QaQ P w H h a u:=e.ok ok
theorem QBL{kvs:List (Key×V)}(ok:HOk P w H h)(e:Rd H a (.dK kvs)):kvs.length<=sizeLine/\(a == sysModules)=false/\∃vs,KV kvs vs/\h.DictOf (Qa3 P w) a vs:=
 show QaQ P w H h a (.dK kvs)from Qw0 ok e
theorem QBK{kvs:List (Key×V)}(ok:HOk P w H h)(e:H a=some (.dK kvs)):kvs.length<=sizeLine/\(a == sysModules)=false/\∃vs,KV kvs vs/\h.DictOf (Qa3 P w) a vs:=QBL ok (.inl e)
theorem Qov{ks:List Key}(ok:HOk P w H h)(e:H a=some (.tup (ks.map kV))):(tupleKind (Qa3 P w)).is h ks a:=by
 obtain⟨_,its,r,o,h1,h2,n,h3⟩:=(show QaQ P w H h a (.tup (ks.map kV))from ok a _ e);exact⟨o,its.toArray,n,h1,h2,h3,by simpa using Qnm r⟩
theorem QCz{kvs:List (List Key×V)}(ok:HOk P w H h)(e:Rd H a (.dT kvs)):kvs.length<=sizeLine/\(a == sysModules)=false∧
  ∃xs,KT H kvs xs/\h.DictOfH (tupleKind (Qa3 P w)) a xs:=by
 obtain⟨z,y,xs,r,o,es,ep,h1,h2,h3,h4,h5⟩:=(show QaQ P w H h a (.dT kvs)from Qw0 ok e);refine⟨z,y,xs,r,o,es,ep,h1,h2,h3,h4,λx hx=>?_,h5⟩;have all:∀{l:List (List Key×V)}{m:List (List Key×Addr×Value)},KT H l m->∀x∈m,(tupleKind (Qa3 P w)).is h x.1 x.2.1:=by
  intro l m q
  induction q with
  | nil=>intro x hx;exact nomatch hx
  | @cons p q ps qs hq t ih=>
   intro x hx;rcases Zn.mp hx with e | hx
   ·subst e;exact Qov ok (by rw[← hq.1];exact hq.2.1)
   ·exact ih x hx
 exact all r x hx
theorem Qr3{kvs:List (List Key×V)}(ok:HOk P w H h)(e:H a=some (.dT kvs)):kvs.length<=sizeLine/\(a == sysModules)=false∧
  ∃xs,KT H kvs xs/\h.DictOfH (tupleKind (Qa3 P w)) a xs:=QCz ok (.inl e)
end
def QoO(H:Hp)(a:Addr)(y v:V)(H':Hp):Prop:=
 (∃kvs k,H a=some (.dK kvs)/\y=kV k/\kvs.length<sizeLine/\H'=upd H a (.dK (putK kvs k v)))∨
 ∃kvs k b,H a=some (.dT kvs)/\y= .ref b/\H b=some (.tup (k.map kV))/\kvs.length<sizeLine/\H'=upd H a (.dT (putK kvs k v))
theorem QoO.t{H:Hp}{a b:Addr}{kvs:List (List Key×V)}{k:List Key}{v:V}(e:H a=some (.dT kvs))(eb:H b=some (.tup (k.map kV)))(hl:kvs.length<sizeLine):
  QoO H a (.ref b) v (upd H a (.dT (putK kvs k v))):= .inr ⟨kvs,k,b,e,rfl,eb,hl,rfl⟩
section
variable {X:Cx}{pins:List (Addr×Obj)}{σ:St}{H:Hp}{s:Shared}{a:Addr}{y v:V}{u r:Value}{o:Option V}{A:Around}{E:Value->Shared->Prop}
theorem Inv.big(I:Inv X pins σ H s):sysModules<s.heap.objs.size:=by
 have h:mainGlobals<s.heap.objs.size:=(I.mod.glob.keeps I.bk).lt;exact Nat.lt_trans (by decide) h
theorem Qmk{h':Heap}{t':Nat}{ob:HO}(I:Inv X pins σ H s)(mu:Mut (H a))(hs:Heap.SameBut a s.heap h')(he:∃q,h'.get? a=some q)(new:QaQ X.prog X.w (upd H a ob) h' a ob):
  Inv X pins σ (upd H a ob) {s with heap:=h',toks:=t'}:=
 I.write (x:=a) (e:=a) mu (.inl rfl) (λb q hb z=>(hs.2 b hb).trans z) he new
theorem QAB{P:Program}{w:World}{H':Hp}{h':Heap}{kvs:List (Key×V)}{vs:List (Key×Value)}(z:kvs.length<=sizeLine)(hd:(a == sysModules)=false)(rel:KV kvs vs)(dd:h'.DictOf (Qa3 P w) a vs):
  QaQ P w H' h' a (.dK kvs):=⟨z,hd,vs,rel,dd⟩
theorem QtV{H':Hp}{Q:Unit->Shared->Prop}(hu:A.units+1<cLine)(I:Inv X pins σ H s)(g:QoO H a y v H')(ry:RelV y u)(rv:RelV v r)(h:∀s',Inv X pins σ H' s'->Q () s'):
  wpAny (model X.prog X.w) A (setItem (.ref a) u r) Q E s:=by
 rcases g with⟨kvs,k,e,ey,l,eH⟩ | ⟨kvs,k,b,e,ey,eb,l,eH⟩
 ·subst ey eH;obtain⟨z,hd,vs,rel,dd⟩:=QBK I.hok e;have hz:vs.length<=sizeLine:=by rw[← rel.length];exact z
  have hl:(putK kvs k v).length<=sizeLine:=by have:=QjV kvs k v;omega
  refine wpAny_setItem_pairs (hsz:=hz) (Qxg ry) dd λh' dd' hs=>h _ ?_;have he:∃q,h'.get? a=some q:=let ⟨q,_,_,hq,_⟩:=dd';⟨q,hq⟩;exact Qmk I (by rw[e];exact True.intro) hs he (QAB hl hd (rel.put k rv) dd')
 ·subst ey eH;cases(show u=Value.ref b from ry);obtain⟨z,hd,xs,rel,dd⟩:=Qr3 I.hok e;have hz:xs.length<=sizeLine:=by rw[← Zbi rel];exact z
  have hl:(putK kvs k v).length<=sizeLine:=by have:=QjV kvs k v;omega
  refine wpAny_setItem_heap (hsz:=hz) (tupleKind_room_in1 hu) (Qov I.hok eb) dd λh' dd' hs=>h _ ?_;obtain⟨q,es,ep,hq,h2,h3,h4,_,h5⟩:=dd';refine Qmk I (by rw[e];exact True.intro) hs ⟨q,hq⟩ ⟨hl,hd,_,(rel.put k eb rv).keeps λc ys ec=>?_,q,es,ep,hq,h2,h3,h4,h5⟩;rw[QD (QeO ec e (λz=>nomatch z))];exact ec
end
section
variable {X:Cx}{pins:List (Addr×Obj)}{σ:St}{H:Hp}{s:Shared}{a:Addr}{kvs:List (Key×V)}{k:Key}{u:Value}{A:Around}{E:Value->Shared->Prop}
end
noncomputable def QBw(td ty tv:TE):TS:=λD σ H=>tv σ H λv H1=>td σ H1 λx H2=>ty σ H2 λy H3=>∃a H4,x= .ref a/\QoO H3 a y v H4/\D.nx σ H4
section
variable {X:Cx}{o i e value:Expr}{pos pos' tpos:Pos}{td ty tv:TE}
theorem Qye(hu:X.A.units+1<cLine)(ho:PE X o td)(hi:PE X i ty)(hv:PE X value tv)(hs:swapsWith value (some (.Subscript o i pos')) pos.line X.env=pure false):
  PS X (.Assign [.Subscript o i pos'] value pos) (QBw td ty tv):=by
 intro pins s σ H D I h;refine wpAny_Assign_Subscript (thn (hv pins s σ H _ I h) λr s1 ⟨v,H1,I1,rv,q1⟩=>thn (ho pins s1 σ H1 _ I1 q1) λu s2 ⟨x,H2,I2,rx,q2⟩=>thn (hi pins s2 σ H2 _ I2 q2) λiv s3 ⟨y,H3,I3,ry,a,H4,ex,g,q3⟩=>?_) hs;subst ex;obtain rfl:u=Value.ref a:=rx;exact QtV hu I3 g ry rv λs4 I4=>⟨σ,H4,I4,q3⟩
end
theorem Qpl{P:Program}{w:World}{H:Hp}(h:Heap)(hb:sysModules<h.objs.size):QaQ P w H (h.push {cls:= .type "dict",data:= .dict #[]}) h.objs.size (.dT []):=
 ⟨ZO _,beq_eq_false_iff_ne.mpr (Ne.symm (ZG hb)),[],.nil,_,#[],0,Zq _ rfl,⟨rfl,rfl,rfl⟩,rfl,rfl,ZaD⟩
noncomputable def QAi:TE:=λ_ H Q=>∀p,H p=none->Q (.ref p) (upd H p (.dT []))
section
variable {X:Cx}{pos:Pos}
theorem Qww:PE X (.Dict [] [] pos) QAi:=λpins s σ H Q I h=>
 wpAny_Dict_empty ⟨.ref s.heap.objs.size,_,I.laid (a:=s.heap.objs.size) (o:= .dT []) (t':=s.toks) (λ_ _ q=>Zb _ q) (Zj _) (Qpl s.heap I.big),rfl,h _ (I.hok.fresh (Zj _))⟩
end
theorem QmW(env:Env)(body:Str×NameKind->List (Str×Addr)->Sem (ForInStep (List (Str×Addr))))
  (hb:∀n k cs,body (n,k) cs=if(k == NameKind.free)=true then(do let c ← cellOf env n;pure (ForInStep.yield ((n,c)::cs)))else pure (ForInStep.yield cs)):
  ∀(names:List (Str×NameKind)) (acc:List (Str×Addr)),(∀y∈names,y.2= .free->∃c,env.cells.lookup y.1=some c)->(∀x c,acc.lookup x=some c->env.cells.lookup x=some c)→
   ∃cl,forIn names acc body=(pure cl:Sem _)/\(∀x c,cl.lookup x=some c->env.cells.lookup x=some c)/\(∀x,acc.lookup x≠none->cl.lookup x≠none)/\∀y∈names,y.2= .free->cl.lookup y.1≠none
 | [],acc,_,ha=>⟨acc,rfl,ha,λ_ h=>h,λy hy=>by simp at hy⟩
 | (n,k)::r,acc,hn,ha=>by
  rw[ZbB,hb];have hr:∀y∈r,y.2= .free->∃c,env.cells.lookup y.1=some c:=λy hy=>hn y (Zc _ hy);by_cases hk:k= .free
  ·subst hk;obtain⟨c,hc⟩:=hn (n,.free) Zg rfl;have hce:cellOf env n=pure c:=by unfold cellOf;rw[show env.cells.lookup n=some c from hc]
   rw[if_pos (by rfl),hce];obtain⟨cl,e,h1,h2,h3⟩:=QmW env body hb r ((n,c)::acc) hr (λx c' e=>by
    rw[Zy]at e;cases q:x == n with
    | true=>rw[q]at e;cases e;rw[beq_iff_eq]at q;rw[q];exact hc
    | false=>rw[q]at e;exact ha x c' e)
   have hcons:∀x,((n,c)::acc).lookup x≠none->cl.lookup x≠none:=h2;refine⟨cl,by simpa using e,h1,λx hx=>hcons x ?_,λy hy hf=>?_⟩
   ·rw[Zy];cases x == n with
    | true=>simp
    | false=>exact hx
   ·rcases Zn.mp hy with rfl | hy
    ·exact hcons _ (by simp[Zy])
    ·exact h3 y hy hf
  ·rw[if_neg (by simpa using hk)];obtain⟨cl,e,h1,h2,h3⟩:=QmW env body hb r acc hr ha;refine⟨cl,by simpa using e,h1,h2,λy hy hf=>?_⟩;rcases Zn.mp hy with rfl | hy
   ·exact absurd hf hk
   ·exact h3 y hy hf
theorem Qyj(h:∀y∈scope.names,y.2= .free->∃c,env.cells.lookup y.1=some c):
  ∃cl,closureFor scope env=pure cl/\(∀x c,cl.lookup x=some c->env.cells.lookup x=some c)/\∀y∈scope.names,y.2= .free->∃c,cl.lookup y.1=some c:=by
 unfold closureFor;obtain⟨cl,e,h1,_,h3⟩:=QmW env (λx cs=>match x with | (name,kind)=>if(kind == NameKind.free)=true then(do let c ← cellOf env name;pure (ForInStep.yield ((name,c)::cs)))else pure (ForInStep.yield cs)) (λ_ _ _=>rfl) scope.names [] h (λx c e=>by simp at e);refine⟨cl,?_,h1,λy hy hf=>Option.ne_none_iff_exists'.mp (h3 y hy hf)⟩;show(forIn scope.names [] _ >>= λr=>pure r)=_;rw[e];rfl
noncomputable def cxc(X:Cx)(N':List Str)(scope:Scope)(cl:List (Str×Addr))(C:Addr)(fp:LAd)(s3:Shared)(H3:Hp):Cx:=
 {X with N:=N',s₀:=s3,H₀:=H3,env:=compEnvC scope cl C X.env,outer:=X.stack,ex:=fp,fn:=λx=>decide (scope.names.lookup x=some .cell),pn:=[],xe:=λ_ _=>False}
def PTs(X:Cx)(ifs:List Expr)(t:TT):Prop:=
 ∀(pins:List (Addr×Obj)) (s:Shared) (σ:St) (H:Hp) (Q:Bool->Hp->Prop),Inv X pins σ H s->t σ H Q→
  wpAny (model X.prog X.w) X.A (forIn ifs true λc r=>if r=true then do let ok ← isTrue c X.env (eval c X.env);pure (ForInStep.yield ok)else pure (ForInStep.yield r)) (TP X pins σ Q) X.xe s
noncomputable def QCS:TT:=λ_ H Q=>Q true H
theorem QxJ:PTs X [] QCS:=λ_ _ _ H _ I h=>wpAny_tests_nil ⟨H,I,h⟩
theorem QyR(h:PT X c t):PTs X [c] t:=λpins s σ H Q I q=>wpAny_tests_one (h pins s σ H Q I q)
def Qll(X:Cx)(N':List Str)(scope:Scope)(σ σ':St):Prop:=
 σ'.length=N'.length/\∀(j:Nat) (x:Str) (v:V),N'[j]? =some x->σ'[j]? =some (some v)->scope.names.lookup x=some .free/\∃i:Nat,X.N[i]? =some x/\σ[i]? =some (some v)/\(X.env.kindOf x=some .cell∨X.env.kindOf x=some .free)
noncomputable def Qoe(wi:TI)(cap:St->St->Prop)(g:TG)(tc:TT)(te:TE):TE:=λσ H Q=>wi σ H λJ H1=>∃σc,cap σ σc/\∀D,H1 D=none->∃W:Nat->Nat->List V->Hp->Prop,
 (∃m,W 0 m [] (upd H1 D (.lst [])))/\∀i m acc H2,W i m acc H2->(J.stop i H2/\Q (.ref D) H2)∨
  (J.go i H2/\∀x H3,J.yld i H2 x H3->g x σc H3 λσ2 H4=>(∀(j:Nat) v,σc[j]? =some (some v)->σ2[j]? =some (some v))/\tc σ2 H4 λb H5=>if b=true then
   te σ2 H5 λy H6=>H6 D=some (.lst acc)/\acc.length<sizeLine/\∃m',m'<m/\W (i+1) m' (acc++[y]) (upd H6 D (.lst (acc++[y])))
   else ∃m',m'<m/\W (i+1) m' acc H5)
theorem QcH{env:Env}:∀{names:List (Str×NameKind)}{x:Str},names.lookup x=some .free→
  (names.map λ(n,k)=>if(k == NameKind.free && env.scope.kind == .function && env.kindOf n == some .cell)then(n,NameKind.cell)else(n,k)).lookup x=some .cell∨
  (names.map λ(n,k)=>if(k == NameKind.free && env.scope.kind == .function && env.kindOf n == some .cell)then(n,NameKind.cell)else(n,k)).lookup x=some .free
 | [],_,h=>by simp at h
 | (n,k)::r,x,h=>by
  have ih:= @QcH env r x;rw[Zp];cases hx:x == n with
  | true=>
   simp only[Zy,hx]at h;cases h;dsimp only;split
   ·left;simp[Zy,hx]
   ·right;simp[Zy,hx]
  | false=>
   simp only[Zy,hx]at h;dsimp only;split
   ·simp only[Zy,hx];exact ih h
   ·simp only[Zy,hx];exact ih h
theorem QeR{env:Env}:∀{names:List (Str×NameKind)}{x:Str},
  ((names.map λ(n,k)=>if(k == NameKind.free && env.scope.kind == .function && env.kindOf n == some .cell)then(n,NameKind.cell)else(n,k)).lookup x=some .cell∨
  (names.map λ(n,k)=>if(k == NameKind.free && env.scope.kind == .function && env.kindOf n == some .cell)then(n,NameKind.cell)else(n,k)).lookup x=some .free)→
  ∃k,(x,k)∈names/\(k= .free∨k= .cell)
 | [],_,h=>by simp at h
 | (n,k)::r,x,h=>by
  have ih:= @QeR env r x;rw[Zp]at h;cases hx:x == n with
  | true=>
   have hn:x=n:=by simpa using hx
   subst hn;dsimp only at h;split at h
   ·rename_i hc;simp only[Zh]at hc;refine⟨k,Zg,.inl (by simpa using hc.1.1)⟩
   ·simp only[Zy,hx]at h;refine⟨k,Zg,?_⟩;rcases h with h | h
    ·exact .inr (Option.some.inj h)
    ·exact .inl (Option.some.inj h)
  | false=>
   dsimp only at h;have:∃k,(x,k)∈r/\(k= .free∨k= .cell):=by
    apply ih;split at h
    ·simpa only[Zy,hx]using h
    ·simpa only[Zy,hx]using h
   obtain⟨k',h1,h2⟩:=this;exact⟨k',Zc _ h1,h2⟩
theorem Qg9:∀(names:List (Str×NameKind)) (n:Nat) (acc:List (Str×Addr)) (x:Str) (c:Addr),(cellsFrom n names acc).lookup x=some c->acc.lookup x=some c∨(n<=c/\(x,NameKind.cell)∈names)
 | [],_,_,_,_,h=> .inl h
 | (nm,k)::r,n,acc,x,c,h=>by
  unfold cellsFrom at h;split at h
  ·rename_i hk;have hk:k= .cell:=by simpa using hk
   rcases Qg9 r (n+1) ((nm,n)::acc) x c h with h | ⟨h1,h2⟩
   ·rw[Zy]at h;cases q:x == nm with
    | true=>
     rw[q]at h;cases h;have:x=nm:=by simpa using q
     exact .inr ⟨Zj _,by rw[this,hk];exact Zg⟩
    | false=>rw[q]at h;exact .inl h
   ·exact .inr ⟨⋯,Zc _ h2⟩
  ·rcases Qg9 r n acc x c h with h | ⟨h1,h2⟩
   ·exact .inl h
   ·exact .inr ⟨h1,Zc _ h2⟩
theorem QoS:∀(names:List (Str×NameKind)) (n:Nat) (acc:List (Str×Addr)) (x:Str) (c:Addr),(x,NameKind.cell)∈names->(cellsFrom n names acc).lookup x=some c->n<=c
 | (nm,k)::r,n,acc,x,c,hm,h=>by
  unfold cellsFrom at h;split at h
  ·by_cases hr:(x,NameKind.cell)∈r
   ·have:=QoS r (n+1) _ x c hr h;omega
   ·have hx:x=nm:=by
     rcases Zn.mp hm with e | e
     ·exact(Prod.mk.inj e).1
     ·exact absurd e hr
    rcases Qg9 r (n+1) ((nm,n)::acc) x c h with h | ⟨h1,_⟩
    ·rw[Zy,show(x == nm)=true by simpa using hx]at h;cases h;exact Zj _
    ·omega
  ·rename_i hk;rcases Zn.mp hm with e | e
   ·exact absurd (by rw[← (Prod.mk.inj e).2];rfl) hk
   ·exact QoS r n acc x c e h
theorem Qoz:∀(names:List (Str×NameKind)) (n:Nat) (acc:List (Str×Addr)),(∀x y c,acc.lookup x=some c->acc.lookup y=some c->x=y)->(∀x c,acc.lookup x=some c->c<n)→
  ∀x y c,(cellsFrom n names acc).lookup x=some c->(cellsFrom n names acc).lookup y=some c->x=y
 | [],_,_,hi,_,x,y,c,h1,h2=>hi x y c h1 h2
 | (nm,k)::r,n,acc,hi,hb,x,y,c,h1,h2=>by
  unfold cellsFrom at h1 h2;split at h1
  ·rename_i hk;rw[if_pos hk]at h2;refine Qoz r (n+1) ((nm,n)::acc) (λx y c h1 h2=>?_) (λx c h=>?_) x y c h1 h2
   ·rw[Zy]at h1 h2;cases qx:x == nm with
    | true=>
     rw[qx]at h1;cases h1;cases qy:y == nm with
     | true=>rw[show x=nm by simpa using qx,show y=nm by simpa using qy]
     | false=>rw[qy]at h2;exact absurd (hb y _ h2) (ZP _)
    | false=>
     rw[qx]at h1;cases qy:y == nm with
     | true=>rw[qy]at h2;cases h2;exact absurd (hb x _ h1) (ZP _)
     | false=>rw[qy]at h2;exact hi x y c h1 h2
   ·rw[Zy]at h;cases qx:x == nm with
    | true=>rw[qx]at h;cases h;exact ZaN _
    | false=>rw[qx]at h;exact Zar (hb x c h)
  ·rename_i hk;rw[if_neg hk]at h2;exact Qoz r n acc hi hb x y c h1 h2
theorem QgQ:∀(names:List (Str×NameKind)) (n:Nat) (acc:List (Str×Addr)) (x:Str),(∃c,acc.lookup x=some c)->∃c,(cellsFrom n names acc).lookup x=some c
 | [],_,_,_,h=>h
 | (nm,k)::r,n,acc,x,h=>by
  unfold cellsFrom;split
  ·refine QgQ r (n+1) _ x ?_;rw[Zy];cases x == nm with
   | true=>exact⟨n,rfl⟩
   | false=>exact h
  ·exact QgQ r n acc x h
theorem Qo8:∀(names:List (Str×NameKind)) (n:Nat) (acc:List (Str×Addr)) (x:Str),(x,NameKind.cell)∈names->∃c,(cellsFrom n names acc).lookup x=some c
 | (nm,k)::r,n,acc,x,hm=>by
  unfold cellsFrom;rcases Zn.mp hm with e | e
  ·obtain⟨e1,e2⟩:=Prod.mk.inj e;subst e1;rw[← e2,if_pos (by rfl)];exact QgQ r (n+1) _ x ⟨n,by simp[Zy]⟩
  ·split
   ·exact Qo8 r (n+1) _ x e
   ·exact Qo8 r n acc x e
theorem Qm8(lo:Nat):∀(names:List (Str×NameKind)) (h:Heap) (acc:List (Str×Addr)),(∀x c,acc.lookup x=some c->lo<=c->h.IsCell c none)->lo<=h.objs.size→
  ∀x c,(cellsFrom h.objs.size names acc).lookup x=some c->lo<=c->(pushCells h names).IsCell c none
 | [],_,_,ha,_,x,c,e,hl=>ha x c e hl
 | (nm,k)::r,h,acc,ha,hlo,x,c,e,hl=>by
  unfold cellsFrom at e;unfold pushCells;split at e
  ·rename_i hk;rw[if_pos hk];have hs:=Zah h {cls:= .type "cell",data:= .cell none};refine Qm8 lo r (h.push {cls:= .type "cell",data:= .cell none}) ((nm,h.objs.size)::acc) (λx c e hl=>?_) (by rw[hs];omega) x c (by rw[hs];exact e) hl;rw[Zy]at e;cases q:x == nm with
   | true=>rw[q]at e;cases e;exact⟨_,Zq _ rfl,rfl⟩
   | false=>rw[q]at e;exact(ha x c e hl).keeps λb o e=>Zb _ e
  ·rename_i hk;rw[if_neg hk];exact Qm8 lo r h acc ha hlo x c e hl
theorem QrF
  (hQ:∀h':Heap,h'.Ns s.heap.objs.size (λ_=>none)->(∀b o,s.heap.get? b=some o->h'.get? b=some o)->((∀x c,cl.lookup x=some c->c<s.heap.objs.size)->∀x c,(cellsFrom (s.heap.objs.size+1) scope.names cl).lookup x=some c->s.heap.objs.size+1<=c->h'.IsCell c none)→
   Q (newEnv scope s.heap.objs.size globals (cellsFrom (s.heap.objs.size+1) scope.names cl) qual none .none (some env) builtins) {s with heap:=h'}):
  wpAny M A (newFunctionEnv scope globals cl [] qual none .none (some env) builtins) Q E s:=by
 simp only[newFunctionEnv,Option.isSome_some,if_true];refine wpAny_bind (wpAny_alloc ?_);refine wpAny_bind (wpAny_layCells _ (λname kind cells=>by cases hkc:kind == NameKind.cell<;>simp[hkc]) _ _ _ _ ?_);have hs:=Zah s.heap {cls:= .type "dict",data:= .dict #[]};rw[show({s with heap:=s.heap.push {cls:= .type "dict",data:= .dict #[]}}:Shared).heap.objs.size=s.heap.objs.size+1 from hs];refine wpAny_bind (wpAny_pure (wpAny_pure ?_));refine hQ _ ((Heap.Ns.new s.heap (.type "dict")).keeps (pushCells_keeps _ _)) (λb o e=>pushCells_keeps _ _ b o (Zb _ e)) λhb x c e hl=>?_;refine Qm8 (s.heap.objs.size+1) scope.names (s.heap.push {cls:= .type "dict",data:= .dict #[]}) cl (λx c e hl=>?_) (by rw[hs];exact Zj _) x c (by rw[hs];exact e) hl;exact absurd (Zt (hb x c e) (ZC (ZaW _) hl)) (ZP _)
section
variable {X:Cx}{tg iter elt:Expr}{ifs:List Expr}{scope:Scope}{N':List Str}{pos:Pos}
structure Qe3 (X:Cx) (N':List Str) (scope:Scope):Prop where
 kind:scope.kind= .function
 own:∀y∈scope.names,y.2= .cell->scope.names.lookup y.1=some .cell
 loc:∀y∈scope.names,y.2= .local ->scope.names.lookup y.1=some .local
 free:∀y∈scope.names,y.2= .free->X.env.kindOf y.1=some .cell∨X.env.kindOf y.1=some .free
theorem Qvr{pins:List (Addr×Obj)}{σ σc:St}{H3:Hp}{s3:Shared}{fp:LAd}{cl:List (Str×Addr)}{h':Heap}{tk:Nat}(S:Qe3 X N' scope)(I:Inv X pins σ H3 s3)
  (hf:∀b∈fp,Qd1 X pins H3 b) (hfl:∀b∈fp,b<s3.heap.objs.size) (hc1:∀x c,cl.lookup x=some c->X.env.cells.lookup x=some c) (hc2:∀y∈scope.names,y.2= .free->∃c,cl.lookup y.1=some c) (cap:Qll X N' scope σ σc)
  (hns:h'.Ns s3.heap.objs.size (λ_=>none)) (hk:∀b o,s3.heap.get? b=some o->h'.get? b=some o)
  (hown:(∀x c,cl.lookup x=some c->c<s3.heap.objs.size)->∀x c,(cellsFrom (s3.heap.objs.size+1) scope.names cl).lookup x=some c->s3.heap.objs.size+1<=c->h'.IsCell c none):
  Inv (cxc X N' scope (cellsFrom (s3.heap.objs.size+1) scope.names cl) s3.heap.objs.size fp s3 H3) [] σc H3 {s3 with heap:=h',toks:=tk}:=by
 have nold:∀b,b∈fp->b≠s3.heap.objs.size:=λb hb e=>absurd (hfl b hb) (by rw[e];exact ZP _);have cellOld:∀x c,cl.lookup x=some c->∃v,s3.heap.IsCell c v:=λx c e=>I.cell x c (hc1 x c e);have cellLt:∀x c,cl.lookup x=some c->c<s3.heap.objs.size:=λx c e=>let ⟨v,q⟩:=cellOld x c e;q.lt;have cellNew:∀c v,s3.heap.IsCell c v->h'.IsCell c v:=λc v ⟨o,ho,hd⟩=>⟨o,hk c o ho,hd⟩;have hown:=hown cellLt;have look:∀x c,(cellsFrom (s3.heap.objs.size+1) scope.names cl).lookup x=some c->cl.lookup x=some c∨(s3.heap.objs.size+1<=c/\(x,NameKind.cell)∈scope.names):=Qg9 scope.names _ cl
 refine⟨⟨I.ok.mod,S.kind,I.ok.glob,I.ok.blt,Zj _,Qoz scope.names _ cl (λx y c h1 h2=>I.ok.inj x y c (hc1 x c h1) (hc1 y c h2)) (λx c e=>Zar (cellLt x c e)),λx hx=>?_,λx c e1 e2=>?_,I.ok.hd,I.ok.frames,.inl rfl,λb hb=>⟨nold b hb,λx c e=>?_⟩,
  I.bs,ZC I.ok.bsz I.sz,λb o e hb=>?_,λb hb hs=>?_,I.stack,I.Qm7⟩,rfl,I.bare,Un.kept hk,⟨_,hns,λj x v h1 h2 h3=>?_⟩,λx c e=>?_,I.hok.fresh (Zj _),λx c e=>?_,λp hp=>absurd (show p∈([]:List (Addr×Obj))from hp) (by simp),I.hok.kept hk,cap.1⟩
 ·obtain⟨k,hm,hk'⟩:=QeR hx;rcases hk' with rfl | rfl
  ·exact QgQ scope.names _ cl x (hc2 _ hm rfl)
  ·exact Qo8 scope.names _ cl x hm
 ·have e1:decide (scope.names.lookup x=some .cell)=true:=e1;have:=QoS scope.names _ cl x c (Zae (of_decide_eq_true e1)) e2;exact ZC (ZaW _) this
 ·rcases look x c e with e | ⟨e,_⟩
  ·exact(hf b hb).2.2.2.2.1 x c (hc1 x c e)
  ·intro z;rw[z]at e;exact absurd (Zt (hfl b hb) (ZC (ZaW _) e)) (ZP _)
 ·rcases(hf b hb).2.2.2.1 with z | z
  ·exact I.ok.noex b o e z
  ·exact absurd (Zt (Zo e) (ZC I.ok.bsz z)) (ZP _)
 ·rcases Zn.mp (I.Qf5 b hs)with e | z
  ·exact(hf b hb).2.1 e
  ·exact(hf b hb).2.2.1 z
 ·obtain⟨hl,i,e1,e2,e3⟩:=cap.2 j x v h1 h2;obtain⟨m,hn,look'⟩:=I.loc;obtain⟨u,r,l⟩:=look' i x v e1 e2 (e3.elim (λz=> .inr (.inl z)) λz=> .inr (.inr z));refine⟨u,r,.inr ⟨QcH hl,?_⟩⟩;rcases l with⟨k,_⟩ | ⟨_,c,ec,hcell⟩
  ·rcases e3 with z | z<;>(rw[k]at z;cases z)
  ·obtain⟨c',ec'⟩:=QgQ scope.names (s3.heap.objs.size+1) cl x (hc2 (x,.free) (Zae hl) rfl);rcases look x c' ec' with q | ⟨_,q⟩
   ·have:=hc1 x c' q;rw[ec]at this;cases this;exact⟨c,ec',cellNew c _ hcell⟩
   ·have:=S.own _ q rfl;rw[hl]at this;cases this
 ·rcases look x c e with q | ⟨q,_⟩
  ·obtain⟨v,q⟩:=cellOld x c q;exact⟨v,cellNew c v q⟩
  ·exact⟨none,hown x c e q⟩
 ·rcases look x c e with q | ⟨q,_⟩
  ·exact I.freeC x c (hc1 x c q)
  ·exact I.hok.fresh ⋯
theorem QtF(J:Nat->Shared->Prop)
  (turn:∀n s,J n s->wpAny (model prog w) A (pyNext it) (λr s1=>match r with
   | none=>R (.ok .next) s1
   | some v=>wpAny (model prog w) A (letOwnedTupleGo tg it v) (λ_ s2=>wpAny (model prog w) A (assign tg env v) (λ_ s3=>
     wpAny (model prog w) A (forIn ifs true λc r=>if r=true then do let ok ← isTrue c env (eval c env);pure (ForInStep.yield ok)else pure (ForInStep.yield r)) (λok s4=>
      if ok=true then wpAny (model prog w) A (eval elt env) (λx s5=>wpAny (model prog w) A (call (.builtin "list.append") [acc,x]) (λ_ s6=>∃m,m<n/\J m s6) (λ_ _=>False) s5) (λ_ _=>False) s4
      else ∃m,m<n/\J m s4) (λ_ _=>False) s3) (λ_ _=>False) s2) (λ_ _=>False) s1) (λ_ _=>False) s)
  (n:Nat) (h:J n s0):codeAny (model prog w) A (.compLoop (.ListComp elt [⟨tg,iter,ifs,0⟩] scope pos) 0 it acc env) R s0:=by
 have up:∀{α:Type}{t:Sem α}{Q:α->Shared->Prop}{E:Value->Shared->Prop}{s:Shared},wpAny (model prog w) A t Q (λ_ _=>False) s->wpAny (model prog w) A t Q E s:=λh=>wpAny_mono h (λ_ _ q=>q) λ_ _ f=>f.elim;refine codeAny_loop (by rfl) J (λk sk hk=>?_) n h;show wpAny (model prog w) A ((compTurn (.ListComp elt [⟨tg,iter,ifs,0⟩] scope pos) 0 it acc env).onRaise (λx=>do noteFrame x env;theTreesLotGoes x)) _ _ sk;refine wpAny_noted (up ?_);rw[compTurn_list];refine wpAny_bind (wpAny_standAt (wpAny_bind (thn (turn k sk hk) λr s1 h1=>?_)));cases r with
 | none=>exact wpAny_pure h1
 | some v=>
  refine wpAny_bind (thn h1 λ_ s2 h2=>wpAny_bind (thn h2 λ_ s3 h3=>wpAny_bind (thn h3 λok s4 h4=>?_)));cases ok with
  | false=>exact wpAny_pure ⟨rfl,h4⟩
  | true=>exact wpAny_bind (wpAny_bind (thn h4 λx s5 h5=>wpAny_bind (thn h5 λ_ s6 h6=>wpAny_pure (wpAny_pure ⟨rfl,h6⟩))))
theorem QvA{it D C:Addr}{fp:LAd}{tn:Nat->Heap->Prop}{J:It}{cl:List (Str×Addr)}{s3 s4:Shared}{H3:Hp}{σc:St}{g:TG}{tc:TT}{te:TE}{Q:Hp->Prop}(hcalm:X.calm=true)
  (T:Turn X.prog X.w X.K tg J fp it tn)
  (hg:PG (cxc X N' scope cl C fp s3 H3) tg g) (ht:PTs (cxc X N' scope cl C fp s3 H3) ifs tc) (he:PE (cxc X N' scope cl C fp s3 H3) elt te)
  (I:Inv (cxc X N' scope cl C fp s3 H3) [] σc H3 s4) (st:tn 0 s4.heap) (ff:∀b∈fp,Qd1 (cxc X N' scope cl C fp s3 H3) [] H3 b)
  (W:Nat->Nat->List V->Hp->Prop) (hw:∃m,W 0 m [] H3)
  (turn:∀i m acc H2,W i m acc H2->(J.stop i H2/\Q H2)∨
   (J.go i H2/\∀x H5,J.yld i H2 x H5->g x σc H5 λσ2 H6=>(∀(j:Nat) v,σc[j]? =some (some v)->σ2[j]? =some (some v))/\tc σ2 H6 λb H7=>if b=true then
    te σ2 H7 λy H8=>H8 D=some (.lst acc)/\acc.length<sizeLine/\∃m',m'<m/\W (i+1) m' (acc++[y]) (upd H8 D (.lst (acc++[y])))
    else ∃m',m'<m/\W (i+1) m' acc H7))
  {R:Result->Shared->Prop}(hR:∀H' s',Inv (cxc X N' scope cl C fp s3 H3) [] σc H' s'->Q H'->R (.ok .next) s'):
  codeAny (model X.prog X.w) X.A (.compStart (.ListComp elt [⟨tg,iter,ifs,0⟩] scope pos) 0 (.ref it) (.ref D) (compEnvC scope cl C X.env)) R s4:=by
 obtain⟨m0,w0⟩:=hw;have stat:∀{H':Hp},(∀b∈fp,H' b=none)->∀b∈fp,Qd1 (cxc X N' scope cl C fp s3 H3) [] H' b:=λhn b hb=>⟨hn b hb,(ff b hb).2⟩;have loop:codeAny (model X.prog X.w) X.A (.compLoop (.ListComp elt [⟨tg,iter,ifs,0⟩] scope pos) 0 (.ref it) (.ref D) (compEnvC scope cl C X.env)) R s4:=by
  refine QtF (λn s'=>∃i acc H',Inv (cxc X N' scope cl C fp s3 H3) [] σc H' s'/\tn i s'.heap/\(∀b∈fp,H' b=none)/\W i n acc H') ?_ m0 ⟨0,[],H3,I,st,λb hb=>(ff b hb).1,w0⟩;rintro n s5 ⟨i,acc,H5,I5,st5,fr5,w5⟩;rcases turn i n acc H5 w5 with⟨stop,q⟩ | ⟨go,step⟩
  ·refine thn (T.done (cxc X N' scope cl C fp s3 H3) rfl rfl rfl hcalm i [] s5 σc H5 _ I5 (stat fr5) st5 stop) λr s6 Z=>?_;obtain⟨hr,I6⟩:=Z;subst hr;exact hR H5 s6 I6 q
  ·refine thn (T.item (cxc X N' scope cl C fp s3 H3) rfl rfl rfl hcalm i [] s5 σc H5 _ I5 (stat fr5) st5 go) λr s6 Z=>?_;obtain⟨u,hr,h6⟩:=Z;subst hr;refine thn h6 λ_ s7 Z=>?_;obtain⟨x,H7,I7,r7,y7,st7,fr7⟩:=Z;have I7':=I7.pinned (stat fr7) (T.obj _ _ st7);refine thn (hg _ s7 σc H7 x u _ I7' r7 (step x H7 y7)) λ_ s8=>exJ λσ8 H8 I8 k8 q8=>?_;refine thn (ht _ s8 σ8 H8 _ I8 q8) λok s9 Z=>?_;obtain⟨H9,I9,q9⟩:=Z
   have again:∀{H':Hp}{s':Shared}{acc':List V},Inv (cxc X N' scope cl C fp s3 H3) ([]++QiL fp s7.heap) σ8 H' s'->(∃m',m'<n/\W (i+1) m' acc' H')→
     ∃m,m<n/\∃i acc H',Inv (cxc X N' scope cl C fp s3 H3) [] σc H' s'/\tn i s'.heap/\(∀b∈fp,H' b=none)/\W i m acc H':=λ{H' s' acc'} I' ⟨m',hm,w'⟩=>by
    have pin:∀b∈fp,∀o,s7.heap.get? b=some o->s'.heap.get? b=some o/\H' b=none:=λb hb o e=>by
     have z:=I'.pin (b,o) (Zd _ (Zd _ (Qht hb e)));exact⟨z.1,z.2.1⟩
    refine⟨m',hm,i+1,acc',H',?_,T.keep _ _ _ st7 λb hb o e=>(pin b hb o e).1,λb hb=>?_,w'⟩
    ·exact I'.Qhv.weak (I.len.trans I8.len.symm) k8
    ·obtain⟨o,e,_⟩:=T.obj _ _ st7 b hb;exact(pin b hb o e).2
   cases ok with
   | false=>
    rw[if_neg ZV]at q9 ⊢;exact again I9 q9
   | true=>
    rw[if_pos rfl]at q9 ⊢;refine thn (he _ s9 σ8 H9 _ I9 q9) λyv s10 Z=>?_;obtain⟨y,H10,I10,r10,e10,l10,q10⟩:=Z;refine thn (QnR _ s10 σ8 H10 (.ref D) [y] (.ref D) [yv] (λv H11=>H11=upd H10 D (.lst (acc++[y]))) I10 rfl (.cons r10 .nil) ⟨D,acc,y,rfl,rfl,e10,l10,rfl⟩) λ_ s11 Z=>?_;obtain⟨_,H11,I11,_,e11⟩:=Z;subst e11;exact again I11 q10
 exact codeAny_compStart_list loop (T.self _ 0 _ _ _ st loop)
theorem QoC{wi:TI}{g:TG}{tc:TT}{te:TE}{cp:Pos}{use:Option (Value->Sem Unit)}{pins:List (Addr×Obj)}{s:Shared}{σ:St}{H:Hp}{QV:Value->Shared->Prop}{Q:VK}(hcalm:X.calm=true)(S:Qe3 X N' scope)(hi:PI X tg iter wi)
  (hin:∀cl C fp s3 H3,PG (cxc X N' scope cl C fp s3 H3) tg g/\PTs (cxc X N' scope cl C fp s3 H3) ifs tc/\PE (cxc X N' scope cl C fp s3 H3) elt te)
  (hs:∀x,foldedSetIterable iter X.env x=pure x) (I:Inv X pins σ H s) (h:Qoe wi (Qll X N' scope) g tc te σ H Q)
  (fin:∀(D C:Addr) (H':Hp) (s':Shared),Inv X pins σ H' s'->H' C=none->C≠X.env.locals->X.s₀.heap.objs.size<=C->(∀x c,X.env.cells.lookup x=some c->c≠C)->(∀p∈X.pn++pins,p.1≠C)->(∃m,s'.heap.Ns C m)->Q (.ref D) H'→
   compPost (model X.prog X.w) X.A X.xe use QV (.ref D) C (.ok .next) s'):
  wpAny (model X.prog X.w) X.A (comprehension (.ListComp elt [⟨tg,iter,ifs,0⟩] scope pos) scope X.env cp (newList []) false (eval iter X.env) use) QV X.xe s:=by
 obtain⟨cl,hcl,hc1,hc2⟩:=Qyj λy hy hf=>I.ok.has y.1 (S.free y hy hf);refine wpAny_comprehension_free rfl hs hcl S.kind S.loc ?_;refine thn (hi pins s σ H _ I h) λv s1 h1=>thn h1 λitv s2 h2=>?_;obtain⟨it,fp,tn,J,H2,e,I2,T,st2,f2,σc,cap,hw⟩:=h2;subst e;have hD0:H2 s2.heap.objs.size=none:=I2.hok.fresh (Zj _);obtain⟨W,hW0,turn⟩:=hw _ hD0;have fpl:∀b∈fp,b<s2.heap.objs.size:=λb hb=>let ⟨o,e,_⟩:=T.obj _ _ st2 b hb;Zo e;have hlist:∀D:Addr,D=s2.heap.objs.size->∃x,x=D:=λD _=>⟨D,rfl⟩;refine wpAny_newObj_type ?_
 have I3:Inv X pins σ (upd H2 s2.heap.objs.size (.lst [])) {s2 with heap:=s2.heap.push {cls:= .type "list",dict:=none,data:= .seq ([]:List Value).toArray}}:=
  I2.laid (t':=s2.toks) (λb o e=>Zb _ e) (Zj _) ⟨ZO _,[],0,.nil,Zq _ rfl⟩
 generalize hs3:({s2 with heap:=s2.heap.push {cls:= .type "list",dict:=none,data:= .seq ([]:List Value).toArray}}:Shared)=s3 at I3;have hs3':s3.heap=s2.heap.push {cls:= .type "list",dict:=none,data:= .seq ([]:List Value).toArray}:=by rw[← hs3]
 have sz3:s3.heap.objs.size=s2.heap.objs.size+1:=by rw[hs3',Zah]
 have old3:∀b o,s2.heap.get? b=some o->s3.heap.get? b=some o:=λb o e=>by rw[hs3'];exact Zb _ e
 have f3:∀b∈fp,Qd1 X pins (upd H2 s2.heap.objs.size (.lst [])) b:=λb hb=>⟨by rw[QD (ZG (fpl b hb))];exact(f2 b hb).1,(f2 b hb).2⟩;have fpl3:∀b∈fp,b<s3.heap.objs.size:=λb hb=>by rw[sz3];exact Zar (fpl b hb)
 refine QrF (λh4 hns4' keep4 hown4=>?_);have I4:=Qvr (tk:=s3.toks) S I3 f3 fpl3 hc1 hc2 cap hns4' keep4 hown4;have hout:∀H' s',Inv (cxc X N' scope (cellsFrom (s3.heap.objs.size+1) scope.names cl) s3.heap.objs.size fp s3 (upd H2 s2.heap.objs.size (.lst []))) [] σc H' s'->Inv X pins σ H' s':=λH' s' J'=>
  I3.Qxb J'.os J'.base J'.hok J'.bare λb hb=>⟨(f3 b hb).2.2.2.1,(f3 b hb).2.1,(f3 b hb).2.2.2.2.1,(f3 b hb).2.2.2.2.2⟩
 obtain⟨hg,ht,he⟩:=hin (cellsFrom (s3.heap.objs.size+1) scope.names cl) s3.heap.objs.size fp s3 (upd H2 s2.heap.objs.size (.lst []));have fc:∀b∈fp,Qd1 (cxc X N' scope (cellsFrom (s3.heap.objs.size+1) scope.names cl) s3.heap.objs.size fp s3 (upd H2 s2.heap.objs.size (.lst []))) [] (upd H2 s2.heap.objs.size (.lst [])) b:=λb hb=>
  ⟨(f3 b hb).1,ZG (fpl3 b hb),λhs'=>(Zn.mp (I3.Qf5 b hs')).elim (f3 b hb).2.1 (f3 b hb).2.2.1,.inl hb,λx c e=>(by
   rcases Qg9 scope.names _ cl x c e with e | ⟨e,_⟩
   ·exact(f3 b hb).2.2.2.2.1 x c (hc1 x c e)
   ·intro z;rw[z]at e;exact absurd (Zt (fpl3 b hb) (ZC (ZaW _) e)) (ZP _)),λp hp=>absurd (show p∈([]:List (Addr×Obj))from hp) (by simp)⟩
 have hC1:s3.heap.objs.size≠X.env.locals:=Ne.symm (ZG I3.lt);refine QvA (W:=W) hcalm T hg ht he I4 (T.keep _ _ _ st2 λb hb o e=>keep4 b o (old3 b o e)) fc hW0 turn λH' s' J' q=>?_;have O:=hout H' s' J';refine fin _ _ H' s' O J'.free hC1 (ZC I3.sz (Zj _)) (λx c e z=>?_) (λp hp z=>?_) (let ⟨m,hn,_⟩:=J'.loc;⟨m,hn⟩) q
 ·obtain⟨v,o,ho,_⟩:=I3.cell x c e;exact absurd (Zo ho) (by rw[z];exact ZP _)
 ·exact absurd (Zo (I3.pin p hp).1) (by rw[z];exact ZP _)
theorem Inv.QwY(I:Inv X pins σ H s)(hs:Heap.SameBut C s.heap h')(hn:H C=none)(hL:C≠X.env.locals)(h1:X.s₀.heap.objs.size<=C)
  (h2:∀x c,X.env.cells.lookup x=some c->c≠C) (h3:∀p∈X.pn++pins,p.1≠C):Inv X pins σ H {s with heap:=h'}:=
 I.turned (t':=s.toks) (λb o hb e=>(hs.2 b hb).trans e) hn hL (.inr h1) h2 h3
theorem QqC(hcalm:X.calm=true)(S:Qe3 X N' scope)(hi:PI X tg iter wi)
  (hin:∀cl C fp s3 H3,PG (cxc X N' scope cl C fp s3 H3) tg g/\PTs (cxc X N' scope cl C fp s3 H3) ifs tc/\PE (cxc X N' scope cl C fp s3 H3) elt te)
  (hs:∀x,foldedSetIterable iter X.env x=pure x:=by intro _;rfl):PE X (.ListComp elt [⟨tg,iter,ifs,0⟩] scope pos) (Qoe wi (Qll X N' scope) g tc te):=by
 intro pins s σ H Q I h;rw[eval_ListComp];refine QoC hcalm S hi hin hs I h λD C H' s' O h1 h2 h3 h4 h5 Z q=>?_;obtain⟨m,hm⟩:=Z;exact⟨m,hm,λh' hs'=>⟨.ref D,H',O.QwY hs' h1 h2 h3 h4 h5,rfl,q⟩⟩
theorem Qzg(hN:X.N.Nodup)(hx1:X.N[i]? =some x)(hx:Loc X.env.scope x)(hf:X.fn x=true∨X.env.scope.names.lookup x=some .local)(hcalm:X.calm=true)(S:Qe3 X N' scope)(hi:PI X tg iter wi)
  (hin:∀cl C fp s3 H3,PG (cxc X N' scope cl C fp s3 H3) tg g/\PTs (cxc X N' scope cl C fp s3 H3) ifs tc/\PE (cxc X N' scope cl C fp s3 H3) elt te)
  (hs:∀x,foldedSetIterable iter X.env x=pure x:=by intro _;rfl):
  PS X (.Assign [.Name x pos'] (.ListComp elt [⟨tg,iter,ifs,0⟩] scope pos) spos) (QoP (Qoe wi (Qll X N' scope) g tc te) (Qjo i)):=by
 have hb:∃b,swapsWith (.ListComp elt [⟨tg,iter,ifs,0⟩] scope pos) (some (.Name x pos')) spos.line X.env=pure b:=⟨_,rfl⟩;obtain⟨b,hb⟩:=hb;cases b with
 | false=>exact Qi6 hN hx1 hx (QqC hcalm S hi hin hs) hb hf
 | true=>
  intro pins s σ H D I h;rw[exec_Assign_Name_used _ _ _ _ hb];refine wpAny_bind (wpAny_standAt (wpAny_bind ?_));show wpAny _ X.A (do let _ ← comprehension (.ListComp elt [⟨tg,iter,ifs,0⟩] scope pos) scope X.env _ (newList []) false (eval iter X.env) (some (assign (.Name x pos') X.env))) _ _ s;refine wpAny_bind (thn (QoC hcalm S hi hin hs I h λDl C H' s' O h1 h2 h3 h4 h5 ⟨m,hm⟩ q=>?_) λ_ s' hq=>wpAny_pure (wpAny_pure hq));refine wpAny_assign_Name (QnF O hN hx1 hx (v:= .ref Dl) rfl (λs2 I2 hsb=>?_) hf);obtain⟨a,sb,ha⟩:=hsb;have haC:C≠a:=by
   rcases ha with rfl | ha
   ·exact h2
   ·exact Ne.symm (h4 _ _ ha)
  exact⟨m,hm.sameBut sb haC,λh' hs'=>⟨_,H',I2.QwY hs' h1 h2 h3 h4 h5,q⟩⟩
end
section
theorem Inv.Qrz{t':Nat}{ch:LAd}{T:Addr}{ts:List V}(I:Inv X pins σ H s)(hf:∀b∈ch,Qd1 X pins H b)(k:∀b o,b∉ch->s.heap.get? b=some o->h'.get? b=some o)(hp:∀b∈ch,∃o,h'.get? b=some o)
  (hT:s.heap.objs.size<=T) (hnew:ts.length<=sizeLine/\∃its:List Value,QA ts its/\IsTup h' T its.toArray):Inv X pins σ (upd H T (.tup ts)) {s with heap:=h',toks:=t'}:=by
 have hn:H T=none:=I.hok.fresh hT;have neT:∀b u,H b=some u->b≠T:=λb u e=>Qb9 e hn;have nch:∀b u,H b=some u->b∉ch:=λb u e hb=>by rw[(hf b hb).1]at e;cases e
 have ltT:∀b o,s.heap.get? b=some o->b≠T:=λb o e=>ZG (Zt (Zo e) hT)
 refine I.step (g':=s.gens) (d':=s.drawn) (ch:=ch) (λb hb=>?_) (λb o _ _ hc e _=>k b o hc e) (λb o _ _ hc e _=>⟨o.slots,k b o hc e⟩) (λb o _ e n=>by rw[QD (ltT b o e)];exact n)
  (λb o hc e=>⟨o,k b o hc e⟩) (λb xs e=>by rw[QD (neT b _ e)];exact e) (λb o u e=>by rw[QD (neT b _ e)];exact e) (λb ps e=>⟨#[],by rw[QD (neT b _ e),e];simp⟩) (λm hm=>?_) (λb u e=>?_) I.bare
 ·obtain⟨f0,f1,f2,f3,f4,f5⟩:=hf b hb;exact⟨f3,f1,f4,f5⟩
 ·obtain⟨o,es,ep,ho,r⟩:=hm;exact⟨o,es,ep,k _ o (λz=>(hf _ z).2.1 rfl) ho,r⟩
 ·by_cases hb:b=T
  ·subst hb;rw[Qad]at e;cases e;exact hnew
  ·rw[QD hb]at e;refine(I.hok b u e).QgI (λc v hc q=>k c v ?_ q) (λc q=>by rw[QD (neT c _ q)];exact q) λc xs q=>by rw[QD (neT c _ q)];exact q
   rcases hc with z | z
   ·rw[z];exact nch b u e
   ·exact nch c _ z
theorem Inv.turns{t':Nat}{ch:LAd}(I:Inv X pins σ H s)(hf:∀b∈ch,Qd1 X pins H b)(k:∀b o,b∉ch->s.heap.get? b=some o->h'.get? b=some o):Inv X pins σ H {s with heap:=h',toks:=t'}:=by
 have nch:∀b u,H b=some u->b∉ch:=λb u e hb=>by rw[(hf b hb).1]at e;cases e
 refine I.step (g':=s.gens) (d':=s.drawn) (ch:=ch) (λb hb=>?_) (λb o _ _ hc e _=>k b o hc e) (λb o _ _ hc e _=>⟨o.slots,k b o hc e⟩) (λb o _ e n=>n)
  (λb o hc e=>⟨o,k b o hc e⟩) (λb xs e=>e) (λb o u e=>e) (λb ps e=>⟨#[],by rw[e];simp⟩) (λm hm=>?_) (λb u e=>?_) I.bare
 ·obtain⟨f0,f1,f2,f3,f4,f5⟩:=hf b hb;exact⟨f3,f1,f4,f5⟩
 ·obtain⟨o,es,ep,ho,r⟩:=hm;exact⟨o,es,ep,k _ o (λz=>(hf _ z).2.1 rfl) ho,r⟩
 ·refine(I.hok b u e).QgI (λc v hc q=>k c v ?_ q) (λc q=>q) λc xs q=>q;rcases hc with z | z
  ·rw[z];exact nch b u e
  ·exact nch c _ z
end
noncomputable def Ite(K:Fgg)(a:Addr):It:=
 ⟨λi H=>∃xs x,SqL K H a xs/\xs[i]? =some x,λi H v H'=>∃p x,v= .ref p/\H p=none/\H'=upd H p (.tup [.int i,x])/\∀xs,SqL K H a xs->xs[i]? =some x,λi H=>∃xs,SqL K H a xs/\xs.length<=i⟩
theorem mm0{a:Addr}{l:LAd}:a∈a::l:= .head _
theorem mm1{a b:Addr}{l:LAd}:a∈b::a::l:= .tail _ mm0
theorem mm2{a b c:Addr}{l:LAd}:a∈b::c::a::l:= .tail _ mm1
theorem mm3{a b c d:Addr}{l:LAd}:a∈b::c::d::a::l:= .tail _ mm2
theorem mm4{a b c d e:Addr}{l:LAd}:a∈b::c::d::e::a::l:= .tail _ mm3
theorem nmm{a b:Addr}{l:LAd}(hb:b∉l)(ha:a∈l):b≠a:=λe=>hb (e▸ha)
theorem fa1{p:Addr->Prop}{a:Addr}{l:LAd}(h:p a)(t:∀x∈l,p x):∀x∈a::l,p x:=List.forall_mem_cons.2 ⟨h,t⟩
def NL(h:Heap)(b:Addr):Prop:=∃o,h.get? b=some o/\o.cls≠ .type "list" /\∀v,o.data≠ .cell v
theorem NL.it{h:Heap}(q:h.IsListIter b l k):NL h b:=by
 obtain⟨o,ho,hc,hd⟩:=q;exact⟨o,ho,by rw[hc];simp,λv z=>by rw[hd]at z;cases z⟩
theorem NL.zip(hz:IsZip h z T1 T2 x):NL h z:=⟨_,hz,by simp,λv z=>by cases z⟩
theorem NL.tup{h:Heap}(q:h.get? b=some {cls:= .type "tuple",data:= .seq a}):NL h b:=⟨_,q,by simp,λv z=>by cases z⟩
theorem NL.obj(n:NL h b):∃o,h.get? b=some o/\∀v,o.data≠ .cell v:=let ⟨o,e,_,v⟩:=n;⟨o,e,v⟩
theorem NL.ex(n:NL h b):∃o,h.get? b=some o:=let ⟨o,e,_⟩:=n;⟨o,e⟩
theorem NL.lt(n:NL h b):b<h.objs.size:=let ⟨_,e⟩:=n.ex;Zo e
theorem NL.apart{X:Cx}{H:Hp}{s:Shared}(n:NL s.heap b)(I:Inv X pins σ H s)(hn:H b=none)(hq:SqL X.K H l ys):l≠b:=λe=>by
 subst e;rcases hq with(hq | ⟨_,hq⟩) | ⟨o',its,k,hk,hc',_⟩
 ·rw[hn]at hq;cases hq
 ·rw[hn]at hq;cases hq
 ·obtain⟨o,ho,hc,_⟩:=n;rw[I.kIn l o' hk]at ho;exact hc (Option.some.inj ho▸hc')
theorem Qtj{P:Program}{w:World}{K:Fgg}{es:List Expr}{tk:Nat}{tpos:Pos}(a e it:Addr)(hne:e≠it):Turn P w K (.Tuple es tk tpos) (Ite K a) [e,it] e (λi h=>∃old,IsEnum h e it (i:Int) old/\h.IsListIter it a i) where
 mem:=mm0
 obj:=λi h st b hb=>by
  obtain⟨old,he,hi⟩:=st;exact(fa1 (p:=NL h) ⟨_,he,by simp,λv z=>by cases z⟩ (fa1 (.it hi) (List.forall_mem_nil _)) b hb).obj
 keep:=λi h h' st k=>by
  obtain⟨old,he,hi⟩:=st;exact⟨old,k e mm0 _ he,hi.at (k it mm1)⟩
 item:=by
  intro X hP hw hK hc i pins s σ H E I hf st hg;subst hP hw hK;obtain⟨old,he,hi⟩:=st;obtain⟨xs,x,hq,hx⟩:=hg;obtain⟨its,rv,p,hz⟩:=I.list hq;obtain⟨u,hu,ru⟩:=rv.get hx;refine wpAny_pyNext_enum_item he hi p.isList (x:=u) (by simpa using hu) hne λh1 heo hi1 ht1 hz1 hk1=>?_;refine⟨.ref s.heap.objs.size,rfl,wpAny_letOwnedTupleGo_enum heo λh2 he2 hs2=>?_⟩
  replace hs2:Heap.SameBut e h1 h2:=hs2
  have helt:e<s.heap.objs.size:=Zo he;have hilt:it<s.heap.objs.size:=by obtain⟨o,ho,_⟩:=hi;exact Zo ho
  have ht2:IsTup h2 s.heap.objs.size [Value.int i s.toks,u].toArray:=⟨_,(hs2.2 _ (ZaQ helt)).trans ht1,rfl,_,rfl⟩;have hi2:h2.IsListIter it a (i+1):=hi1.extBut hs2.extBut (Ne.symm hne);have kk:∀b o,b∉[e,it]->s.heap.get? b=some o->h2.get? b=some o:=λb o hb q=>by
   have h1:b≠e:=λz=>hb (by simp[z]);have h2:b≠it:=λz=>hb (by simp[z]);exact hs2.extBut b o h1 (hk1 b o h1 h2 q)
  refine⟨.ref s.heap.objs.size,upd H s.heap.objs.size (.tup [.int i,x]),I.Qrz (t':=s.toks+1) hf kk (λb hb=>?_) (Zj _) ⟨by show 2<=sizeLine;decide,_,.cons ⟨_,rfl⟩ (.cons ru .nil),ht2⟩,rfl,
   ⟨_,x,rfl,I.hok.fresh (Zj _),rfl,λys hy=>by rw[I.QdD hy hq];exact hx⟩,⟨u,?_,hi2⟩,λb hb=>?_⟩
  ·have hb:b=e∨b=it:=by simpa using hb
   rcases hb with rfl | rfl
   ·exact⟨_,he2⟩
   ·obtain⟨o,ho,_⟩:=hi2;exact⟨o,ho⟩
  ·have:((i+1:Nat):Int)=(i:Int)+1:=by push_cast;rfl
   rw[this];exact he2
  ·have hb':b=e∨b=it:=by simpa using hb
   have:b≠s.heap.objs.size:=by
    rcases hb' with rfl | rfl
    ·exact ZG helt
    ·exact ZG hilt
   rw[QD this];exact(hf b hb).1
 done:=by
  intro X hP hw hK hc i pins s σ H E I hf st hg;subst hP hw hK;obtain⟨old,he,hi⟩:=st;obtain⟨xs,hq,hx⟩:=hg;obtain⟨its,rv,p,hz⟩:=I.list hq;have hl:=rv.length;refine wpAny_pyNext_enum_end (I.ok.hd hc) he hi p.isList (by simp;omega) λh1 eb=>⟨rfl,?_⟩;exact I.turns (t':=s.toks) hf λb o hb q=>eb b o (λz=>hb (by simp[z])) q
 self:=λ_ _ _ _ _ st h=>by
  obtain⟨old,he,hi⟩:=st;exact wpAny_pyIter_enum he h
section
noncomputable def QCo(K:Fgg)(ta:TA):TI:=λσ H R=>ta σ H λvs H1=>∃a,vs=[.ref a]/\(∃xs,SqL K H1 a xs)/\R (Ite K a) H1
theorem Qyd{a:Expr}{ta:TA}{p pos:Pos}{es:List Expr}{tk:Nat}{tpos:Pos}(hg:Gl X "enumerate")(hm:X.mg "enumerate" =none)(ha:PA X [a] ta)(hs:starEach [a] X.env=[(false,eval a X.env)]):
  PI X (.Tuple es tk tpos) (.Call (.Name "enumerate" p) [a] [] pos) (QCo X.K ta):=by
 intro pins s σ H R I h;refine Call_ (Qdm I hg hm PyProof.Rows.boot_enumerate (Zad (thn (ha pos pins s σ H _ I h) λus s1 ⟨vs,H1,I1,r1,q1⟩=>?_) hs rfl));obtain⟨l,e,⟨xs,hq⟩,q⟩:=q1;subst e;obtain⟨u,rfl,ru⟩:=vals1 r1;cases ru;obtain⟨its,rv,pl,hz⟩:=I1.list hq;refine call_enumerate_list pl.isList λh2 he2 hi2 hz2 hk2=>?_;have I2:Inv X pins σ H1 {s1 with heap:=h2}:=I1.kept (t':=s1.toks) hk2;refine wpAny_pyIter_enum he2 ⟨_,[s1.heap.objs.size+1,s1.heap.objs.size],_,_,H1,rfl,I2,Qtj l _ _ (Nat.succ_ne_self _),⟨_,he2,hi2⟩,λb hb=>?_,q⟩;have hb:b=s1.heap.objs.size+1∨b=s1.heap.objs.size:=by simpa using hb
 have hle:s1.heap.objs.size<=b:=by rcases hb with rfl | rfl<;>omega
 exact I1.Qkp hle (I1.hok.fresh hle)
end
noncomputable def Itz(K:Fgg)(a b:Addr):It:=
 ⟨λi H=>∃xs ys x y,SqL K H a xs/\SqL K H b ys/\xs[i]? =some x/\ys[i]? =some y,λi H v H'=>∃p x y,v= .ref p/\H p=none/\H'=upd H p (.tup [x,y])/\(∀xs,SqL K H a xs->xs[i]? =some x)/\∀ys,SqL K H b ys->ys[i]? =some y,
  λi H=>∃xs ys,SqL K H a xs/\SqL K H b ys/\(xs.length<=i∨ys.length<=i)⟩
structure Qrb (z TI TO i1 i2:Addr):Prop where
 a:TI≠z
 b:TO≠z
 c:i1≠z
 d:i2≠z
 e:TI≠TO
 f:TI≠i1
 g:TI≠i2
 h:TO≠i1
 i:TO≠i2
 j:i1≠i2
theorem Qlu{h:Heap}(hz:IsZip h z T1 T2 x)(hA:IsPair h T1 a b)(hB:IsPair h T2 c d)(h1:h.IsListIter i1 l1 k)(h2:h.IsListIter i2 l2 k):∀b∈[z,T1,T2,i1,i2],NL h b:=
 fa1 (.zip hz) (fa1 (.tup hA) (fa1 (.tup hB) (fa1 (.it h1) (fa1 (.it h2) λ_ h=>nomatch h))))
theorem QsU{X:Cx}{s:Shared}(D:Qrb z T1 T2 i1 i2)(I:Inv X pins σ H s)(hf:∀b∈[z,T1,T2,i1,i2],Qd1 X pins H b)(O:∀b∈[z,T1,T2,i1,i2],NL s.heap b)(hq1:SqL X.K H l1 xs)(hq2:SqL X.K H l2 ys):ZipApart z T1 T2 i1 i2 l1 l2:=by
 have A1:=λb hb=>(O b hb).apart I (hf b hb).1 hq1;have A2:=λb hb=>(O b hb).apart I (hf b hb).1 hq2;exact⟨D.a,D.b,D.c,D.d,D.e,D.f,D.g,D.h,D.i,D.j,A1 z mm0,A1 T2 mm2,A1 i1 mm3,A1 i2 mm4,A2 z mm0,A2 T2 mm2,A2 i1 mm3,A2 i2 mm4⟩
theorem QvZ{P:Program}{w:World}{K:Fgg}{es:List Expr}{tk:Nat}{tpos:Pos}(l1 l2 z TI TO i1 i2:Addr)(D:Qrb z TI TO i1 i2):
  Turn P w K (.Tuple es tk tpos) (Itz K l1 l2) [z,TI,TO,i1,i2] z (λi h=>IsZip h z TI TO .none/\IsPair h TI (.ref i1) (.ref i2)/\(∃a b,IsPair h TO a b)/\h.IsListIter i1 l1 i/\h.IsListIter i2 l2 i) where
 mem:=mm0
 obj:=λi h st b hb=>by
  obtain⟨hz,hTI,⟨p,q,hTO⟩,h1,h2⟩:=st;exact(Qlu hz hTI hTO h1 h2 b hb).obj
 keep:=λi h h' st k=>by
  obtain⟨hz,hTI,⟨p,q,hTO⟩,h1,h2⟩:=st;exact⟨k z mm0 _ hz,k TI mm1 _ hTI,⟨p,q,k TO mm2 _ hTO⟩,h1.at (k i1 mm3),h2.at (k i2 mm4)⟩
 item:=by
  intro X hP hw hK hc i pins s σ H E I hf st hg;subst hP hw hK;obtain⟨hz,hTI,⟨a0,b0,hTO⟩,h1,h2⟩:=st;obtain⟨xs,ys,x,y,hq1,hq2,hx,hy⟩:=hg;obtain⟨its,rv,p,hzz⟩:=I.list hq1;obtain⟨its2,rv2,p2,hzz2⟩:=I.list hq2;obtain⟨u,hu,ru⟩:=rv.get hx;obtain⟨u2,hu2,ru2⟩:=rv2.get hy;have O:=Qlu hz hTI hTO h1 h2;refine wpAny_pyNext_zip_item (QsU D I hf O hq1 hq2) hz hTI hTO h1 h2 p.isList p2.isList (x:=u) (y:=u2) (by simpa using hu) (by simpa using hu2) λh3 z3 TO3 a3 b3 T3 sz3 k3=>?_;refine⟨.ref s.heap.objs.size,rfl,wpAny_letOwnedTupleGo_zip z3 λh4 z4 hs4=>?_⟩
  replace hs4:Heap.SameBut z h3 h4:=hs4
  have kk:∀b o,b∉[z,TI,TO,i1,i2]->s.heap.get? b=some o->h4.get? b=some o:=λb o hb q=>
   hs4.extBut b o (nmm hb mm0) (k3 b o (nmm hb mm0) (nmm hb mm2) (nmm hb mm3) (nmm hb mm4) q)
  have TI4:IsPair h4 TI (.ref i1) (.ref i2):=hs4.extBut _ _ D.a (k3 _ _ D.a D.e D.f D.g hTI);have TO4:IsPair h4 TO u u2:=hs4.extBut _ _ D.b TO3;have a4:h4.IsListIter i1 l1 (i+1):=a3.extBut hs4.extBut D.c;have b4:h4.IsListIter i2 l2 (i+1):=b3.extBut hs4.extBut D.d
  exact⟨.ref s.heap.objs.size,upd H s.heap.objs.size (.tup [x,y]),I.Qrz (t':=s.toks) hf kk (λb hb=>(Qlu z4 TI4 TO4 a4 b4 b hb).ex) (Zj _) ⟨by show 2<=sizeLine;decide,_,.cons ru (.cons ru2 .nil),_,(hs4.2 _ (ZaQ (O z mm0).lt)).trans T3,rfl,_,rfl⟩,rfl,
   ⟨_,x,y,rfl,I.hok.fresh (Zj _),rfl,λzs hy'=>by rw[I.QdD hy' hq1];exact hx,λzs hy'=>by rw[I.QdD hy' hq2];exact hy⟩,⟨z4,TI4,⟨_,_,TO4⟩,a4,b4⟩,λb hb=>by rw[QD (ZG (O b hb).lt)];exact(hf b hb).1⟩
 done:=by
  intro X hP hw hK hc i pins s σ H E I hf st hg;subst hP hw hK;obtain⟨hz,hTI,⟨a0,b0,hTO⟩,h1,h2⟩:=st;obtain⟨xs,ys,hq1,hq2,hx⟩:=hg;obtain⟨its,rv,p,hzz⟩:=I.list hq1;obtain⟨its2,rv2,p2,hzz2⟩:=I.list hq2;have hl:=rv.length;have hl2:=rv2.length;refine wpAny_pyNext_zip_end (I.ok.hd hc) (QsU D I hf (Qlu hz hTI hTO h1 h2) hq1 hq2) hz hTI hTO h1 h2 p.isList p2.isList (by rcases hx with hx | hx;(left;simp;omega);(right;simp;omega)) λh3 k3=>⟨rfl,?_⟩;exact I.turns (t':=s.toks) hf λb o hb q=>k3 b o (nmm hb mm0) (nmm hb mm2) (nmm hb mm3) (nmm hb mm4) q
 self:=λ_ _ _ _ _ st h=>wpAny_pyIter_zip st.1 h
section
noncomputable def QDb(K:Fgg)(ta:TA):TI:=λσ H R=>ta σ H λvs H1=>∃a b,vs=[.ref a,.ref b]/\(∃xs,SqL K H1 a xs)/\(∃ys,SqL K H1 b ys)/\R (Itz K a b) H1
theorem QA9{a b:Expr}{ta:TA}{p pos:Pos}{es:List Expr}{tk:Nat}{tpos:Pos}(hg:Gl X "zip")(hm:X.mg "zip" =none)(ha:PA X [a,b] ta)(hs:starEach [a,b] X.env=[(false,eval a X.env),(false,eval b X.env)])(hs2:starEach [b] X.env=[(false,eval b X.env)]):
  PI X (.Tuple es tk tpos) (.Call (.Name "zip" p) [a,b] [] pos) (QDb X.K ta):=by
 intro pins s σ H R I h;refine Call_ (Qdm I hg hm PyProof.Rows.boot_zip (Zad (thn (ha pos pins s σ H _ I h) λus s1 ⟨vs,H1,I1,r1,q1⟩=>?_) (by rw[hs,hs2]) (by rw[hs2];rfl)));obtain⟨l,l2,e,⟨xs,hq⟩,⟨ys,hq2⟩,q⟩:=q1;subst e;obtain⟨u,u2,rfl,ru,ru2⟩:=vals2 r1;cases ru;cases ru2;obtain⟨its,rv,pl,hz⟩:=I1.list hq;obtain⟨its2,rv2,pl2,hz2⟩:=I1.list hq2;refine call_zip_2 pl.isList pl2.isList λh2 hz hTI hTO h1 h2' hsz hk2=>?_;have I2:Inv X pins σ H1 {s1 with heap:=h2}:=I1.kept (t':=s1.toks) hk2;refine wpAny_pyIter_zip hz ⟨_,[s1.heap.objs.size+4,s1.heap.objs.size+2,s1.heap.objs.size+3,s1.heap.objs.size,s1.heap.objs.size+1],_,_,H1,rfl,I2,QvZ l l2 _ _ _ _ _ ⟨?_,?_,?_,?_,?_,?_,?_,?_,?_,?_⟩,⟨hz,hTI,⟨_,_,hTO⟩,h1,h2'⟩,λb hb=>?_,q⟩
 iterate 10 (exact(by intro e;first | (have e':(s1.heap.objs.size:Nat)+_=_:=e;omega) | (have e':(s1.heap.objs.size:Nat)=_:=e;omega)))
 have hle:s1.heap.objs.size<=b:=by
  simp only[Zn,List.not_mem_nil,or_false]at hb;rcases hb with rfl | rfl | rfl | rfl | rfl<;>first | exact Zj _ | exact Nat.le_add_right _ _
 exact I1.Qkp hle (I1.hok.fresh hle)
end
end L2
namespace L2
open PySem PySem.Spec
theorem Qne(a b c:Value):checkTypeCall "zip" ⟨[a,b,c],[]⟩=pure ():=by kernel_rfl
theorem QnZ(a b c:Value):checkBuiltinCall "zip.__new__" ⟨[.type "zip",a,b,c],[]⟩=pure ():=by kernel_rfl
theorem Qih(a b c d:Value):argsOk "object.__init__" ⟨[a,b,c,d],[]⟩:=by
 unfold argsOk;rw[signature?_of (n:=['_','_','t','i','n','i','_','_']) (by kernel_rfl) F.owner_object];kernel_rfl
abbrev Qap(h:Heap)(T:Addr)(a b c:Value):Prop:=h.get? T=some {cls:= .type "tuple",data:= .seq #[a,b,c]}
section
variable {prog:Program}{w:World}{A:Around}{E:Value->Shared->Prop}{s:Shared}
theorem QeE(hT:Qap s.heap T a b c)
  (h:∀h',h'.get? T=some {cls:= .type "tuple",data:= .seq ((#[a,b,c]:Array Value).setIfInBounds k x)}->Heap.SameBut T s.heap h'->Q () {s with heap:=h'}):
  wpAny (model prog w) A (updateSeq T (·.setIfInBounds k x)) Q E s:=by
 refine wpAny_updateSeq hT rfl (h _ ?_ (Heap.SameBut.update ..));rw[ZaF _ hT rfl];simp[Obj.mapSeq]
structure Six (z TI TO i1 i2 i3:Addr):Prop where
 TIz:TI≠z
 TOz:TO≠z
 i1z:i1≠z
 i2z:i2≠z
 i3z:i3≠z
 TITO:TI≠TO
 TIi1:TI≠i1
 TIi2:TI≠i2
 TIi3:TI≠i3
 TOi1:TO≠i1
 TOi2:TO≠i2
 TOi3:TO≠i3
 i12:i1≠i2
 i13:i1≠i3
 i23:i2≠i3
def Off(z TO i1 i2 i3 l:Addr):Prop:=l≠z/\l≠TO/\l≠i1/\l≠i2/\l≠i3
theorem Qtt{z TI TO i1 i2 i3 l1 l2 l3:Addr}{k:Nat}{xs ys zs:Array Value}{x y u a b c:Value}{Q:Value->Shared->Prop}(D:Six z TI TO i1 i2 i3)(O1:Off z TO i1 i2 i3 l1)(O2:Off z TO i1 i2 i3 l2)(O3:Off z TO i1 i2 i3 l3)
  (hz:IsZip s.heap z TI TO .none) (hTI:Qap s.heap TI (.ref i1) (.ref i2) (.ref i3)) (hTO:Qap s.heap TO a b c)
  (h1:s.heap.IsListIter i1 l1 k) (h2:s.heap.IsListIter i2 l2 k) (h3:s.heap.IsListIter i3 l3 k) (hl1:s.heap.IsList l1 xs) (hl2:s.heap.IsList l2 ys) (hl3:s.heap.IsList l3 zs) (hx:xs[k]? =some x) (hy:ys[k]? =some y) (hu:zs[k]? =some u)
  (hQ:∀h',IsZip h' z TI TO (rawInt s.heap.objs.size)->Qap h' TO x y u->h'.IsListIter i1 l1 (k+1)->h'.IsListIter i2 l2 (k+1)->h'.IsListIter i3 l3 (k+1)->Qap h' s.heap.objs.size x y u->h'.objs.size=s.heap.objs.size+1→
   (∀c o,c≠z->c≠TO->c≠i1->c≠i2->c≠i3->s.heap.get? c=some o->h'.get? c=some o)->Q (.ref s.heap.objs.size) {s with heap:=h'}):
  wpAny (model prog w) A (Builtin.«zip.__next__» ⟨[.ref z],[]⟩) (λfin s'=>∃v,fin= .done (.ret v)/\Q v s') E s:=by
 show wpAny _ _ (field (.ref z) 2 >>= _) _ _ _;refine wpAny_bind (wpAny_field hz rfl rfl ?_);show wpAny _ _ (field (.ref z) 3 >>= _) _ _ _;refine wpAny_bind (wpAny_field hz rfl rfl ?_);refine wpAny_bind (wpAny_seqItems hTI rfl ?_);show wpAny _ _ (Builtin.SmallTypes.ownedTupleIsFree (.ref z) >>= _) _ _ _;refine wpAny_bind ?_;unfold Builtin.SmallTypes.ownedTupleIsFree;refine wpAny_bind (wpAny_field hz rfl rfl (wpAny_pure ?_));simp only[if_true];refine wpAny_bind (wpAny_rule ?_);refine wpAny_bind (wpAny_field hz rfl rfl ?_);refine wpAny_bind (wpAny_setField_rec hz (by simp) λg1 hz1 s1=>?_)
 replace hz1:IsZip g1 z TI TO .ellipsis:=hz1
 refine wpAny_bind ?_;simp only[List.zipIdx_cons,List.zipIdx_nil,ZbB,Zcg];refine wpAny_bind (wpAny_bind (wpAny_onRaise ?_));show wpAny _ _ (Builtin.SmallTypes.nextOf (.ref i1) >>= _) _ _ _;have k1:∀e o,e≠z->s.heap.get? e=some o->g1.get? e=some o:=λe o a1 q=>s1.extBut _ _ a1 q;refine wpAny_bind (wpAny_nextOf_list_item (h1.at λo e=>k1 _ o D.i1z e) (hl1.at λo e=>k1 _ o O1.1 e) hx λg2 m1 s2=>wpAny_pure ?_);have k2:∀e o,e≠z->e≠i1->s.heap.get? e=some o->g2.get? e=some o:=λe o a1 a3 q=>s2.extBut _ _ a3 (k1 e o a1 q);have t2:Qap g2 TO a b c:=k2 _ _ D.TOz D.TOi1 hTO;refine wpAny_bind (wpAny_seqItems t2 rfl ?_);refine wpAny_bind (QeE t2 λg3 t3 s3=>?_)
 replace t3:Qap g3 TO x b c:=t3
 have k3:∀e o,e≠z->e≠TO->e≠i1->s.heap.get? e=some o->g3.get? e=some o:=λe o a1 a2 a3 q=>s3.extBut _ _ a2 (k2 e o a1 a3 q);refine wpAny_bind (wpAny_letGo (wpAny_pure ?_));refine wpAny_bind (wpAny_bind (wpAny_onRaise ?_));show wpAny _ _ (Builtin.SmallTypes.nextOf (.ref i2) >>= _) _ _ _;refine wpAny_bind (wpAny_nextOf_list_item (h2.at λo e=>k3 _ o D.i2z D.TOi2.symm D.i12.symm e) (hl2.at λo e=>k3 _ o O2.1 O2.2.1 O2.2.2.1 e) hy λg4 m2 s4=>wpAny_pure ?_);have k4:∀e o,e≠z->e≠TO->e≠i1->e≠i2->s.heap.get? e=some o->g4.get? e=some o:=λe o a1 a2 a3 a4 q=>s4.extBut _ _ a4 (k3 e o a1 a2 a3 q);have t4:Qap g4 TO x b c:=s4.extBut _ _ D.TOi2 t3;refine wpAny_bind (wpAny_seqItems t4 rfl ?_);refine wpAny_bind (QeE t4 λg5 t5 s5=>?_)
 replace t5:Qap g5 TO x y c:=t5
 have k5:∀e o,e≠z->e≠TO->e≠i1->e≠i2->s.heap.get? e=some o->g5.get? e=some o:=λe o a1 a2 a3 a4 q=>s5.extBut _ _ a2 (k4 e o a1 a2 a3 a4 q);refine wpAny_bind (wpAny_letGo (wpAny_pure ?_));refine wpAny_bind (wpAny_bind (wpAny_onRaise ?_));show wpAny _ _ (Builtin.SmallTypes.nextOf (.ref i3) >>= _) _ _ _;refine wpAny_bind (wpAny_nextOf_list_item (h3.at λo e=>k5 _ o D.i3z D.TOi3.symm D.i13.symm D.i23.symm e) (hl3.at λo e=>k5 _ o O3.1 O3.2.1 O3.2.2.1 O3.2.2.2.1 e) hu λg6 m3 s6=>wpAny_pure ?_);have k6:∀e o,e≠z->e≠TO->e≠i1->e≠i2->e≠i3->s.heap.get? e=some o->g6.get? e=some o:=λe o a1 a2 a3 a4 a5 q=>s6.extBut _ _ a5 (k5 e o a1 a2 a3 a4 q);have t6:Qap g6 TO x y c:=s6.extBut _ _ D.TOi3 t5;refine wpAny_bind (wpAny_seqItems t6 rfl ?_);refine wpAny_bind (QeE t6 λg7 t7 s7=>?_)
 replace t7:Qap g7 TO x y u:=t7
 have k7:∀e o,e≠z->e≠TO->e≠i1->e≠i2->e≠i3->s.heap.get? e=some o->g7.get? e=some o:=λe o a1 a2 a3 a4 a5 q=>s7.extBut _ _ a2 (k6 e o a1 a2 a3 a4 a5 q);refine wpAny_bind (wpAny_letGo (wpAny_pure (wpAny_pure ?_)));refine wpAny_bind (wpAny_seqItems t7 rfl ?_);refine wpAny_bind (wpAny_newTuple ?_);have hsz:g7.objs.size=s.heap.objs.size:=by rw[s7.1,s6.1,s5.1,s4.1,s3.1,s2.1,s1.1]
 have hz7:IsZip g7 z TI TO .ellipsis:=s7.extBut _ _ D.TOz.symm (s6.extBut _ _ D.i3z.symm (s5.extBut _ _ D.TOz.symm (s4.extBut _ _ D.i2z.symm (s3.extBut _ _ D.TOz.symm (s2.extBut _ _ D.i1z.symm hz1)))));have n1:g7.IsListIter i1 l1 (k+1):=((((m1.extBut s3.extBut D.TOi1.symm).extBut s4.extBut D.i12).extBut s5.extBut D.TOi1.symm).extBut s6.extBut D.i13).extBut s7.extBut D.TOi1.symm;have n2:g7.IsListIter i2 l2 (k+1):=((m2.extBut s5.extBut D.TOi2.symm).extBut s6.extBut D.i23).extBut s7.extBut D.TOi2.symm;have n3:g7.IsListIter i3 l3 (k+1):=m3.extBut s7.extBut D.TOi3.symm;have hzlt:z<g7.objs.size:=Zo hz7;show wpAny _ _ (Builtin.SmallTypes.ownedTupleHandOut (.ref z) (.ref g7.objs.size) >>= _) _ _ _;refine wpAny_bind ?_;unfold Builtin.SmallTypes.ownedTupleHandOut;have hz8:IsZip (g7.push {cls:= .type "tuple",data:= .seq #[x,y,u]}) z TI TO .ellipsis:=Zb _ hz7;refine wpAny_bind (wpAny_setField_rec hz8 (by simp) λg9 hz9 s9=>?_)
 replace hz9:IsZip g9 z TI TO (rawInt g7.objs.size):=hz9
 refine wpAny_setField_rec hz9 (by simp) λg10 hz10 s10=>?_
 replace hz10:IsZip g10 z TI TO (rawInt g7.objs.size):=hz10
 have up:∀c o,c≠z->g7.get? c=some o->g10.get? c=some o:=λc o c1 e=>s10.extBut _ _ c1 (s9.extBut _ _ c1 (Zb _ e));have hT:Qap g10 g7.objs.size x y u:=s10.extBut _ _ (ZaQ hzlt) (s9.extBut _ _ (ZaQ hzlt) (Zq _ rfl));have hz':g10.objs.size=g7.objs.size+1:=by rw[s10.1,s9.1,Zah]
 rw[hsz]at hz10 hT hz';refine wpAny_pure ⟨_,rfl,?_⟩;show Q (.ref g7.objs.size) _;rw[hsz];exact hQ g10 hz10 (up _ _ D.TOz t7) (n1.at λo e=>up _ o D.i1z e) (n2.at λo e=>up _ o D.i2z e) (n3.at λo e=>up _ o D.i3z e) hT hz' λc o c1 c2 c3 c4 c5 e=>up c o c1 (k7 c o c1 c2 c3 c4 c5 e)
theorem QvS{z TI TO i1 i2 i3 l1:Addr}{k:Nat}{xs:Array Value}{Q:Fin->Shared->Prop}(hh:A.handled=none)(D:Six z TI TO i1 i2 i3)(O1:l1≠z)
  (hz:IsZip s.heap z TI TO .none) (hTI:Qap s.heap TI (.ref i1) (.ref i2) (.ref i3)) (h1:s.heap.IsListIter i1 l1 k) (hl1:s.heap.IsList l1 xs) (hx:xs[k]? =none)
  (hE:∀h' e,(∀c o,c≠z->c≠i1->s.heap.get? c=some o->h'.get? c=some o)->(∃o,h'.get? e=some o/\o.cls= .type "StopIteration")->E (.ref e) {s with heap:=h'}):
  wpAny (model prog w) A (Builtin.«zip.__next__» ⟨[.ref z],[]⟩) Q E s:=by
 show wpAny _ _ (field (.ref z) 2 >>= _) _ _ _;refine wpAny_bind (wpAny_field hz rfl rfl ?_);show wpAny _ _ (field (.ref z) 3 >>= _) _ _ _;refine wpAny_bind (wpAny_field hz rfl rfl ?_);refine wpAny_bind (wpAny_seqItems hTI rfl ?_);show wpAny _ _ (Builtin.SmallTypes.ownedTupleIsFree (.ref z) >>= _) _ _ _;refine wpAny_bind ?_;unfold Builtin.SmallTypes.ownedTupleIsFree;refine wpAny_bind (wpAny_field hz rfl rfl (wpAny_pure ?_));simp only[if_true];refine wpAny_bind (wpAny_rule ?_);refine wpAny_bind (wpAny_field hz rfl rfl ?_);refine wpAny_bind (wpAny_setField_rec hz (by simp) λg1 hz1 s1=>?_)
 replace hz1:IsZip g1 z TI TO .ellipsis:=hz1
 refine wpAny_bind ?_;simp only[List.zipIdx_cons,List.zipIdx_nil,ZbB,Zcg];refine wpAny_bind (wpAny_bind (wpAny_onRaise ?_));show wpAny _ _ (Builtin.SmallTypes.nextOf (.ref i1) >>= _) _ _ _;refine wpAny_bind (wpAny_nextOf_list_end hh (h1.extBut s1.extBut D.i1z) (hl1.extBut s1.extBut O1) hx λg2 e s2 he=>?_);obtain⟨oe,hoe,hce⟩:=he;have hz2:IsZip g2 z TI TO .ellipsis:=s2 _ _ D.i1z.symm hz1;have hez:e≠z:=λx=>by subst x;rw[hz2]at hoe;cases hoe;simp at hce
 refine wpAny_setField_rec hz2 (by simp) λg3 _ s3=>hE g3 e (λc o c1 c3 x=>s3.extBut _ _ c1 (s2 _ _ c3 (s1.extBut _ _ c1 x))) ⟨oe,s3.extBut _ _ hez hoe,hce⟩
theorem QqA{z TI TO i1 i2 i3 l1 l2 l3:Addr}{k:Nat}{xs ys zs:Array Value}{x y u a b c:Value}{Q:Option Value->Shared->Prop}(D:Six z TI TO i1 i2 i3)(O1:Off z TO i1 i2 i3 l1)(O2:Off z TO i1 i2 i3 l2)(O3:Off z TO i1 i2 i3 l3)
  (hz:IsZip s.heap z TI TO .none) (hTI:Qap s.heap TI (.ref i1) (.ref i2) (.ref i3)) (hTO:Qap s.heap TO a b c)
  (h1:s.heap.IsListIter i1 l1 k) (h2:s.heap.IsListIter i2 l2 k) (h3:s.heap.IsListIter i3 l3 k) (hl1:s.heap.IsList l1 xs) (hl2:s.heap.IsList l2 ys) (hl3:s.heap.IsList l3 zs) (hx:xs[k]? =some x) (hy:ys[k]? =some y) (hu:zs[k]? =some u)
  (hQ:∀h',IsZip h' z TI TO (rawInt s.heap.objs.size)->Qap h' TO x y u->h'.IsListIter i1 l1 (k+1)->h'.IsListIter i2 l2 (k+1)->h'.IsListIter i3 l3 (k+1)->Qap h' s.heap.objs.size x y u->h'.objs.size=s.heap.objs.size+1→
   (∀c o,c≠z->c≠TO->c≠i1->c≠i2->c≠i3->s.heap.get? c=some o->h'.get? c=some o)->Q (some (.ref s.heap.objs.size)) {s with heap:=h'}):
  wpAny (model prog w) A (pyNext (.ref z)) Q E s:=by
 have hT:s.TypeIs (.ref z) "zip" :=⟨_,hz,rfl⟩;unfold pyNext
 exact wpAny_bind (wpAny_attempt (wpAny_callSpecial?_slot hT ZbC
  (wpAny_call_entry ZbC hT F.entry_zip_next
   (Qtt D O1 O2 O3 hz hTI hTO h1 h2 h3 hl1 hl2 hl3 hx hy hu λh' a1 a2 a3 a4 a5 a6 a7 a8=>wpAny_pure (hQ h' a1 a2 a3 a4 a5 a6 a7 a8)) (F.args_zip_next_1 _))))
theorem QlZ{z TI TO i1 i2 i3 l1:Addr}{k:Nat}{xs:Array Value}{Q:Option Value->Shared->Prop}(hh:A.handled=none)(D:Six z TI TO i1 i2 i3)(O1:l1≠z)
  (hz:IsZip s.heap z TI TO .none) (hTI:Qap s.heap TI (.ref i1) (.ref i2) (.ref i3)) (h1:s.heap.IsListIter i1 l1 k) (hl1:s.heap.IsList l1 xs) (hx:xs[k]? =none)
  (hQ:∀h',(∀c o,c≠z->c≠i1->s.heap.get? c=some o->h'.get? c=some o)->Q none {s with heap:=h'}):wpAny (model prog w) A (pyNext (.ref z)) Q E s:=by
 have hT:s.TypeIs (.ref z) "zip" :=⟨_,hz,rfl⟩;unfold pyNext
 refine wpAny_bind (wpAny_attempt (wpAny_callSpecial?_slot hT ZbC
  (wpAny_call_entry ZbC hT F.entry_zip_next (QvS hh D O1 hz hTI h1 hl1 hx λh' e hk he=>?_) (F.args_zip_next_1 _))))
 obtain⟨o,ho,hc⟩:=he;refine wpAny_bind (wpAny_isInstance ⟨o,ho,hc⟩ isSubtype_stop ?_);exact wpAny_pure (hQ _ hk)
end
noncomputable abbrev zA(h:Heap)(l1:Addr):Heap:=h.push {cls:= .type "list_iterator",data:= .fields #[.ref l1,.int 0 0]}
noncomputable abbrev zB(h:Heap)(l1 l2:Addr):Heap:=(zA h l1).push {cls:= .type "list_iterator",data:= .fields #[.ref l2,.int 0 0]}
noncomputable abbrev zC(h:Heap)(l1 l2 l3:Addr):Heap:=(zB h l1 l2).push {cls:= .type "list_iterator",data:= .fields #[.ref l3,.int 0 0]}
noncomputable abbrev zD(h:Heap)(l1 l2 l3:Addr):Heap:=(zC h l1 l2 l3).push {cls:= .type "tuple",data:= .seq #[.ref h.objs.size,.ref (zA h l1).objs.size,.ref (zB h l1 l2).objs.size]}
noncomputable abbrev zE(h:Heap)(l1 l2 l3:Addr):Heap:=(zD h l1 l2 l3).push {cls:= .type "tuple",data:= .seq #[.none,.none,.none]}
noncomputable abbrev zF(h:Heap)(l1 l2 l3:Addr):Heap:=(zE h l1 l2 l3).push {cls:= .type "zip",data:= .fields #[.none,.bool false,.bool false,.ref (zC h l1 l2 l3).objs.size,.ref (zD h l1 l2 l3).objs.size]}
theorem QmT(l1 l2 l3:Addr)(xs ys zs:Array Value):
  Meets (Builtin.«zip.__new__» ⟨[.type "zip",.ref l1,.ref l2,.ref l3],[]⟩) (λ_ R s=>s.heap.IsList l1 xs/\s.heap.IsList l2 ys/\s.heap.IsList l3 zs∧
   R (.ok (.ret (.ref (zE s.heap l1 l2 l3).objs.size))) {s with heap:=zF s.heap l1 l2 l3}):=
 .of_wp λprog w A R s h=>by
  obtain⟨hp,g,d,tk,os⟩:=s;obtain⟨hl1,hl2,hl3,h⟩:=h;have hsub:=sub_zip;have hL1:Heap.IsList (Shared.heap ⟨hp,g,d,tk,os⟩) l1 xs:=hl1;have hL2:Heap.IsList (Shared.heap ⟨hp.push {cls:= .type "list_iterator",data:= .fields #[.ref l1,.int 0 0]},g,d,tk,os⟩) l2 ys:=ZbS hl2 _;have hL3:Heap.IsList (Shared.heap ⟨(hp.push {cls:= .type "list_iterator",data:= .fields #[.ref l1,.int 0 0]}).push {cls:= .type "list_iterator",data:= .fields #[.ref l2,.int 0 0]},g,d,tk,os⟩) l3 zs:=ZbS (ZbS hl3 _) _
  wp_walk using wpAny_pyIter_list hL1,wpAny_pyIter_list hL2,wpAny_pyIter_list hL3
  exact⟨_,rfl,h⟩
section
variable {prog:Program}{w:World}{A:Around}{E:Value->Shared->Prop}{s:Shared}
theorem Qr5(hl1:s.heap.IsList l1 xs)(hl2:s.heap.IsList l2 ys)(hl3:s.heap.IsList l3 zs)
  (h:∀h',IsZip h' (s.heap.objs.size+5) (s.heap.objs.size+3) (s.heap.objs.size+4) .none->Qap h' (s.heap.objs.size+3) (.ref s.heap.objs.size) (.ref (s.heap.objs.size+1)) (.ref (s.heap.objs.size+2))→
   Qap h' (s.heap.objs.size+4) .none .none .none->h'.IsListIter s.heap.objs.size l1 0->h'.IsListIter (s.heap.objs.size+1) l2 0->h'.IsListIter (s.heap.objs.size+2) l3 0→
   (∀c o,s.heap.get? c=some o->h'.get? c=some o)->Q (.ref (s.heap.objs.size+5)) {s with heap:=h'}):
  wpAny (model prog w) A (call (.type "zip") [.ref l1,.ref l2,.ref l3]) Q E s:=by
 refine callType_new F.called_zip (by decide) (Qne _ _ _) (QnZ _ _ _) (λobj=>Qih obj _ _ _) F.entry_zip_new
  (QmT l1 l2 l3 xs ys zs) ⟨hl1,hl2,hl3,?_⟩
 have z1:(zA s.heap l1).objs.size=s.heap.objs.size+1:=Zah ..;have z2:(zB s.heap l1 l2).objs.size=s.heap.objs.size+2:=by rw[Zah,z1]
 have z3:(zC s.heap l1 l2 l3).objs.size=s.heap.objs.size+3:=by rw[Zah,z2]
 have z4:(zD s.heap l1 l2 l3).objs.size=s.heap.objs.size+4:=by rw[Zah,z3]
 have z5:(zE s.heap l1 l2 l3).objs.size=s.heap.objs.size+5:=by rw[Zah,z4]
 have g6:(zF s.heap l1 l2 l3).get? (zE s.heap l1 l2 l3).objs.size=some _:=Zq _ rfl;have g5:(zF s.heap l1 l2 l3).get? (zD s.heap l1 l2 l3).objs.size=some _:=Zb _ (Zq _ rfl);have g4:(zF s.heap l1 l2 l3).get? (zC s.heap l1 l2 l3).objs.size=some _:=Zb _ (Zb _ (Zq _ rfl));have g3:(zF s.heap l1 l2 l3).get? (zB s.heap l1 l2).objs.size=some _:=Zb _ (Zb _ (Zb _ (Zq _ rfl)));have g2:(zF s.heap l1 l2 l3).get? (zA s.heap l1).objs.size=some _:=Zb _ (Zb _ (Zb _ (Zb _ (Zq _ rfl))));have g1:(zF s.heap l1 l2 l3).get? s.heap.objs.size=some _:=Zb _ (Zb _ (Zb _ (Zb _ (Zb _ (Zq _ rfl)))));show _/\_;rw[z3,z4,z5]at g6;rw[z1,z2,z3]at g4;rw[z4]at g5;rw[z2]at g3;rw[z1]at g2;rw[z5];exact⟨⟨_,g6,rfl⟩,h _ g6 g4 g5 ⟨_,g1,rfl,rfl⟩ ⟨_,g2,rfl,rfl⟩ ⟨_,g3,rfl,rfl⟩ λc o x=>
  Zb _ (Zb _ (Zb _ (Zb _ (Zb _ (Zb _ x)))))⟩
end
open PyProof.Rows
noncomputable def QuU(K:Fgg)(a b c:Addr):It:=
 ⟨λi H=>∃xs ys zs x y z,SqL K H a xs/\SqL K H b ys/\SqL K H c zs/\xs[i]? =some x/\ys[i]? =some y/\zs[i]? =some z,λi H v H'=>∃p x y z,v= .ref p/\H p=none/\H'=upd H p (.tup [x,y,z])/\(∀xs,SqL K H a xs->xs[i]? =some x)/\(∀ys,SqL K H b ys->ys[i]? =some y)/\∀zs,SqL K H c zs->zs[i]? =some z,
  λi H=>∃xs,SqL K H a xs/\xs.length<=i⟩
theorem mm5{a b c d e f:Addr}{l:LAd}:a∈b::c::d::e::f::a::l:= .tail _ mm4
theorem Qnd{h:Heap}(hz:IsZip h z T1 T2 x)(hA:Qap h T1 a b c)(hB:Qap h T2 d e f)(h1:h.IsListIter i1 l1 k)(h2:h.IsListIter i2 l2 k)(h3:h.IsListIter i3 l3 k):∀b∈[z,T1,T2,i1,i2,i3],NL h b:=
 fa1 (.zip hz) (fa1 (.tup hA) (fa1 (.tup hB) (fa1 (.it h1) (fa1 (.it h2) (fa1 (.it h3) λ_ h=>nomatch h)))))
theorem Qtz{P:Program}{w:World}{K:Fgg}{es:List Expr}{tk:Nat}{tpos:Pos}(l1 l2 l3 z TI TO i1 i2 i3:Addr)(D:Six z TI TO i1 i2 i3):
  Turn P w K (.Tuple es tk tpos) (QuU K l1 l2 l3) [z,TI,TO,i1,i2,i3] z (λi h=>IsZip h z TI TO .none/\Qap h TI (.ref i1) (.ref i2) (.ref i3)/\(∃a b c,Qap h TO a b c)/\h.IsListIter i1 l1 i/\h.IsListIter i2 l2 i/\h.IsListIter i3 l3 i) where
 mem:=mm0
 obj:=λi h st b hb=>by
  obtain⟨hz,hTI,⟨p,q,r,hTO⟩,h1,h2,h3⟩:=st;exact(Qnd hz hTI hTO h1 h2 h3 b hb).obj
 keep:=λi h h' st k=>by
  obtain⟨hz,hTI,⟨p,q,r,hTO⟩,h1,h2,h3⟩:=st;exact⟨k z mm0 _ hz,k TI mm1 _ hTI,⟨p,q,r,k TO mm2 _ hTO⟩,h1.at (k i1 mm3),h2.at (k i2 mm4),h3.at (k i3 mm5)⟩
 item:=by
  intro X hP hw hK hc i pins s σ H E I hf st hg;subst hP hw hK;obtain⟨hz,hTI,⟨a0,b0,c0,hTO⟩,h1,h2,h3⟩:=st;obtain⟨xs,ys,zs,x,y,u,hq1,hq2,hq3,hx,hy,hu⟩:=hg;obtain⟨its,rv,p,hzz⟩:=I.list hq1;obtain⟨its2,rv2,p2,hzz2⟩:=I.list hq2;obtain⟨its3,rv3,p3,hzz3⟩:=I.list hq3;obtain⟨v1,hv1,r1⟩:=rv.get hx;obtain⟨v2,hv2,r2⟩:=rv2.get hy;obtain⟨v3,hv3,r3⟩:=rv3.get hu;have O:=Qnd hz hTI hTO h1 h2 h3;have A:=λb hb l ys (hq:SqL X.K H l ys)=>(O b hb).apart I (hf b hb).1 hq;have off:∀l ys,SqL X.K H l ys->Off z TO i1 i2 i3 l:=λl ys hq=>⟨A z mm0 l ys hq,A TO mm2 l ys hq,A i1 mm3 l ys hq,A i2 mm4 l ys hq,A i3 mm5 l ys hq⟩;refine QqA D (off l1 xs hq1) (off l2 ys hq2) (off l3 zs hq3) hz hTI hTO h1 h2 h3 p.isList p2.isList p3.isList (by simpa using hv1) (by simpa using hv2) (by simpa using hv3) λg3 z3 TO3 a3 b3 c3 T3 sz3 k3=>?_;refine⟨.ref s.heap.objs.size,rfl,wpAny_letOwnedTupleGo_zip z3 λg4 z4 hs4=>?_⟩
  replace hs4:Heap.SameBut z g3 g4:=hs4
  have kk:∀b o,b∉[z,TI,TO,i1,i2,i3]->s.heap.get? b=some o->g4.get? b=some o:=λb o hb q=>
   hs4.extBut b o (nmm hb mm0) (k3 b o (nmm hb mm0) (nmm hb mm2) (nmm hb mm3) (nmm hb mm4) (nmm hb mm5) q)
  have TI4:Qap g4 TI (.ref i1) (.ref i2) (.ref i3):=hs4.extBut _ _ D.TIz (k3 _ _ D.TIz D.TITO D.TIi1 D.TIi2 D.TIi3 hTI);have TO4:Qap g4 TO v1 v2 v3:=hs4.extBut _ _ D.TOz TO3;have a4:g4.IsListIter i1 l1 (i+1):=a3.extBut hs4.extBut D.i1z;have b4:g4.IsListIter i2 l2 (i+1):=b3.extBut hs4.extBut D.i2z;have c4:g4.IsListIter i3 l3 (i+1):=c3.extBut hs4.extBut D.i3z
  exact⟨.ref s.heap.objs.size,upd H s.heap.objs.size (.tup [x,y,u]),I.Qrz (t':=s.toks) hf kk (λb hb=>(Qnd z4 TI4 TO4 a4 b4 c4 b hb).ex) (Zj _) ⟨by show 3<=sizeLine;decide,_,.cons r1 (.cons r2 (.cons r3 .nil)),_,(hs4.2 _ (ZaQ (O z mm0).lt)).trans T3,rfl,_,rfl⟩,rfl,
   ⟨_,x,y,u,rfl,I.hok.fresh (Zj _),rfl,λws hy'=>by rw[I.QdD hy' hq1];exact hx,λws hy'=>by rw[I.QdD hy' hq2];exact hy,λws hy'=>by rw[I.QdD hy' hq3];exact hu⟩,⟨z4,TI4,⟨_,_,_,TO4⟩,a4,b4,c4⟩,λb hb=>by rw[QD (ZG (O b hb).lt)];exact(hf b hb).1⟩
 done:=by
  intro X hP hw hK hc i pins s σ H E I hf st hg;subst hP hw hK;obtain⟨hz,hTI,⟨a0,b0,c0,hTO⟩,h1,h2,h3⟩:=st;obtain⟨xs,hq1,hx⟩:=hg;obtain⟨its,rv,p,hzz⟩:=I.list hq1;have hl:=rv.length;refine QlZ (I.ok.hd hc) D ((NL.zip hz).apart I (hf z mm0).1 hq1) hz hTI h1 p.isList (by simp;omega) λg3 k3=>⟨rfl,?_⟩;exact I.turns (t':=s.toks) hf λb o hb q=>k3 b o (nmm hb mm0) (nmm hb mm3) q
 self:=λ_ _ _ _ _ st h=>wpAny_pyIter_zip st.1 h
theorem vals3(r:QA [x,y,z] us):∃u v w',us=[u,v,w']/\RelV x u/\RelV y v/\RelV z w':=by
 cases r with
 | cons r1 r2=>
  obtain⟨v,w',rfl,h1,h2⟩:=vals2 r2;exact⟨_,_,_,rfl,r1,h1,h2⟩
section
noncomputable def QBF(K:Fgg)(ta:TA):TI:=λσ H R=>ta σ H λvs H1=>∃a b c,vs=[.ref a,.ref b,.ref c]/\(∃xs,SqL K H1 a xs)/\(∃ys,SqL K H1 b ys)/\(∃zs,SqL K H1 c zs)/\R (QuU K a b c) H1
theorem Qxw{a b c:Expr}{ta:TA}{p pos:Pos}{es:List Expr}{tk:Nat}{tpos:Pos}(hg:Gl X "zip")(hm:X.mg "zip" =none)(ha:PA X [a,b,c] ta)(hs:starEach [a,b,c] X.env=(false,eval a X.env)::starEach [b,c] X.env)(hs2:(backTo pos (starEach [b,c] X.env)).any (·.1)=false):
  PI X (.Tuple es tk tpos) (.Call (.Name "zip" p) [a,b,c] [] pos) (QBF X.K ta):=by
 intro pins s σ H R I h;refine Call_ (Qdm I hg hm PyProof.Rows.boot_zip (Zad (thn (ha pos pins s σ H _ I h) λus s1 ⟨vs,H1,I1,r1,q1⟩=>?_) hs hs2));obtain⟨l,l2,l3,e,⟨xs,hq⟩,⟨ys,hq2⟩,⟨zs,hq3⟩,q⟩:=q1;subst e;obtain⟨u,u2,u3,rfl,ru,ru2,ru3⟩:=vals3 r1;cases ru;cases ru2;cases ru3;obtain⟨its,rv,pl,hz⟩:=I1.list hq;obtain⟨its2,rv2,pl2,hz2⟩:=I1.list hq2;obtain⟨its3,rv3,pl3,hz3⟩:=I1.list hq3;refine Qr5 pl.isList pl2.isList pl3.isList λh2 hz hTI hTO h1 h2' h3' hk2=>?_;have I2:Inv X pins σ H1 {s1 with heap:=h2}:=I1.kept (t':=s1.toks) hk2;refine wpAny_pyIter_zip hz ⟨_,[s1.heap.objs.size+5,s1.heap.objs.size+3,s1.heap.objs.size+4,s1.heap.objs.size,s1.heap.objs.size+1,s1.heap.objs.size+2],_,_,H1,rfl,I2,Qtz l l2 l3 _ _ _ _ _ _ ⟨?_,?_,?_,?_,?_,?_,?_,?_,?_,?_,?_,?_,?_,?_,?_⟩,⟨hz,hTI,⟨_,_,_,hTO⟩,h1,h2',h3'⟩,λb hb=>?_,q⟩
 iterate 15 (exact(by intro e;first | (have e':(s1.heap.objs.size:Nat)+_=_:=e;omega) | (have e':(s1.heap.objs.size:Nat)=_:=e;omega)))
 have hle:s1.heap.objs.size<=b:=by
  simp only[Zn,List.not_mem_nil,or_false]at hb;rcases hb with rfl | rfl | rfl | rfl | rfl | rfl<;>first | exact Zj _ | exact Nat.le_add_right _ _
 exact I1.Qkp hle (I1.hok.fresh hle)
end
end L2
namespace HS
open PySem PySem.Spec PyProof.Rows L2
inductive D where
 | non | bl (b:Bool) | int (i:Int) | str (x:Str) | tup (xs:List D) | lst (xs:List D) | exc (x:Str) | dk (ks:List (List Int))
mutual
noncomputable def D.flat:D->Bool
 | .lst _=>false
 | .tup xs=>QT xs
 | .non=>true
 | .bl _=>true
 | .int _=>true
 | .str _=>true
 | .exc _=>true
 | .dk _=>false
noncomputable def QT:List D->Bool
 | []=>true
 | d::ds=>d.flat && QT ds
end
mutual
noncomputable def D.nl:D->Nat
 | .lst xs=>nls xs+1
 | .tup xs=>nls xs
 | .non=>0
 | .bl _=>0
 | .int _=>0
 | .str _=>0
 | .exc _=>0
 | .dk _=>1
noncomputable def nls:List D->Nat
 | []=>0
 | d::ds=>d.nl+nls ds
end
mutual
theorem QdM:∀(d:D),d.flat=true->d.nl=0
 | .non,_=>rfl
 | .bl _,_=>rfl
 | .int _,_=>rfl
 | .str _,_=>rfl
 | .exc _,_=>rfl
 | .dk _,h=>by simp[D.flat]at h
 | .tup xs,h=>by simp only[D.nl];simp only[D.flat]at h;exact Qk3 xs h
 | .lst xs,h=>by simp[D.flat]at h
theorem Qk3:∀(ds:List D),QT ds=true->nls ds=0
 | [],_=>rfl
 | d::ds,h=>by simp only[QT,Zh]at h;simp only[nls,QdM d h.1,Qk3 ds h.2]
end
def Fix(K:Fgg)(H:Hp)(a:Addr)(vs:List V):Prop:=
 (∃o,H a=some (.frz o (.lst vs)))∨
  ∃(its:List Value) (n:Nat),K.lookup a=some {cls:= .type "list",data:= .seq its.toArray n}/\vs.length<=sizeLine/\QA vs its
def QdH(a C:Addr)(h:Heap):Prop:=∃o vs,h.get? a=some o/\o.cls= .ref C/\o.data= .fields vs
def ExcAt(K:Fgg)(H:Hp)(a:Addr)(x:Str):Prop:=∃C,PySem.W.nsIn K mainGlobals x=some (some (.ref C))/\H a=some (.ext (QdH a C))
theorem QrH{K:Fgg}{H H':Hp}{a:Addr}{x:Str}(s:QM H H')(h:ExcAt K H a x):ExcAt K H' a x:=by
 obtain⟨C,h1,h2⟩:=h;exact⟨C,h1,s _ _ h2⟩
theorem QsR{K:Fgg}{H:Hp}{a p:Addr}{x:Str}{zs ys:List V}(hp:H p=some (.lst zs))(h:ExcAt K H a x):ExcAt K (upd H p (.lst ys)) a x:=by
 obtain⟨C,h1,h2⟩:=h;exact⟨C,h1,by rw[QD (QeO h2 hp (by intro z;cases z))];exact h2⟩
noncomputable def dkC(ks:List (List Int)):List (List Key×V):=ks.map λk=>(k.map Sum.inl,V.bl true)
mutual
noncomputable def Rp(K:Fgg)(H:Hp):D->V->List Addr->Prop
 | .non,v,F=>v= .non/\F=[]
 | .bl b,v,F=>v= .bl b/\F=[]
 | .int i,v,F=>v= .int i/\F=[]
 | .str x,v,F=>v= .str x/\F=[]
 | .exc x,v,F=>(∃a,v= .ref a/\ExcAt K H a x)/\F=[]
 | .dk ks,v,F=>∃a,v= .ref a/\F=[a]/\H a=some (.dT (dkC ks))
 | .tup ds,v,F=>∃a vs,v= .ref a/\SqT K H a vs/\Rps K H ds vs F
 | .lst ds,v,F=>ds.length<=sizeLine/\∃a vs,v= .ref a/\((∃G,F=a::G/\H a=some (.lst vs)/\Rps K H ds vs G)∨(Fix K H a vs/\Rps K H ds vs F))
noncomputable def Rps(K:Fgg)(H:Hp):List D->List V->List Addr->Prop
 | [],vs,F=>vs=[]/\F=[]
 | d::ds,vs,F=>∃v ws F1 F2,vs=v::ws/\F=F1++F2/\Rp K H d v F1/\Rps K H ds ws F2
end
theorem Qpt{K:Fgg}{H H':Hp}{a:Addr}{vs:List V}(s:QM H H')(h:SqT K H a vs):SqT K H' a vs:=by
 rcases h with(h | ⟨o,h⟩) | h
 ·exact .inl (.inl (s _ _ h))
 ·exact .inl (.inr ⟨o,s _ _ h⟩)
 ·exact .inr h
theorem QpQ{K:Fgg}{H H':Hp}{a:Addr}{vs:List V}(s:QM H H')(h:Fix K H a vs):Fix K H' a vs:=by
 rcases h with⟨o,h⟩ | h
 ·exact .inl ⟨o,s _ _ h⟩
 ·exact .inr h
theorem QqF{K:Fgg}{H:Hp}{a p:Addr}{vs zs ys:List V}(hp:H p=some (.lst zs))(h:SqT K H a vs):SqT K (upd H p (.lst ys)) a vs:=by
 rcases h with(h | ⟨o,h⟩) | h
 ·exact .inl (.inl (by rw[QD (QeO h hp (by intro z;cases z))];exact h))
 ·exact .inl (.inr ⟨o,by rw[QD (QeO h hp (by intro z;cases z))];exact h⟩)
 ·exact .inr h
theorem Qxk{K:Fgg}{H:Hp}{a p:Addr}{vs zs ys:List V}(hp:H p=some (.lst zs))(h:Fix K H a vs):Fix K (upd H p (.lst ys)) a vs:=by
 rcases h with⟨o,h⟩ | h
 ·exact .inl ⟨o,by rw[QD (QeO h hp (by intro z;cases z))];exact h⟩
 ·exact .inr h
section
variable {K:Fgg}{H H':Hp}
mutual
theorem Rp.same(s:QM H H'):∀{d:D}{v:V}{F:LAd},Rp K H d v F->Rp K H' d v F
 | .exc _,_,_,h=>by
  simp only[Rp]at h ⊢;obtain⟨⟨a,e,q⟩,z⟩:=h;exact⟨⟨a,e,QrH s q⟩,z⟩
 | .dk _,_,_,h=>by
  simp only[Rp]at h ⊢;obtain⟨a,e,eF,q⟩:=h;exact⟨a,e,eF,s _ _ q⟩
 | .non,_,_,h=>h
 | .bl _,_,_,h=>h
 | .int _,_,_,h=>h
 | .str _,_,_,h=>h
 | .tup ds,_,_,h=>by
  simp only[Rp]at h ⊢;obtain⟨a,vs,e,q,r⟩:=h;exact⟨a,vs,e,Qpt s q,Rps.same s r⟩
 | .lst ds,_,_,h=>by
  simp only[Rp]at h ⊢;obtain⟨hz,a,vs,e,⟨G,eF,q,r⟩ | ⟨q,r⟩⟩:=h
  ·exact⟨hz,a,vs,e,.inl ⟨G,eF,s _ _ q,Rps.same s r⟩⟩
  ·exact⟨hz,a,vs,e,.inr ⟨QpQ s q,Rps.same s r⟩⟩
theorem Rps.same(s:QM H H'):∀{ds:List D}{vs:List V}{F:LAd},Rps K H ds vs F->Rps K H' ds vs F
 | [],_,_,h=>h
 | d::ds,_,_,h=>by
  simp only[Rps]at h ⊢;obtain⟨v,ws,F1,F2,e,eF,r,q⟩:=h;exact⟨v,ws,F1,F2,e,eF,Rp.same s r,Rps.same s q⟩
end
mutual
theorem Rp.upd{p:Addr}{zs ys:List V}(hp:H p=some (.lst zs)):∀{d:D}{v:V}{F:LAd},Rp K H d v F->p∉F->Rp K (upd H p (.lst ys)) d v F
 | .exc _,_,_,h,_=>by
  simp only[Rp]at h ⊢;obtain⟨⟨a,e,q⟩,z⟩:=h;exact⟨⟨a,e,QsR hp q⟩,z⟩
 | .dk _,_,_,h,hn=>by
  simp only[Rp]at h ⊢;obtain⟨a,e,eF,q⟩:=h;subst eF;exact⟨a,e,rfl,by rw[QD (λz=>hn (by rw[z];exact Zg))];exact q⟩
 | .non,_,_,h,_=>h
 | .bl _,_,_,h,_=>h
 | .int _,_,_,h,_=>h
 | .str _,_,_,h,_=>h
 | .tup ds,_,_,h,hn=>by
  simp only[Rp]at h ⊢;obtain⟨a,vs,e,q,r⟩:=h;exact⟨a,vs,e,QqF hp q,Rps.upd hp r hn⟩
 | .lst ds,_,_,h,hn=>by
  simp only[Rp]at h ⊢;obtain⟨hz,a,vs,e,⟨G,eF,q,r⟩ | ⟨q,r⟩⟩:=h
  ·subst eF;have h1:a≠p:=λz=>hn (by rw[z];exact Zg);exact⟨hz,a,vs,e,.inl ⟨G,rfl,by rw[QD h1];exact q,Rps.upd hp r λz=>hn (Zc _ z)⟩⟩
  ·exact⟨hz,a,vs,e,.inr ⟨Qxk hp q,Rps.upd hp r hn⟩⟩
theorem Rps.upd{p:Addr}{zs ys:List V}(hp:H p=some (.lst zs)):∀{ds:List D}{vs:List V}{F:LAd},Rps K H ds vs F->p∉F->Rps K (upd H p (.lst ys)) ds vs F
 | [],_,_,h,_=>h
 | d::ds,_,_,h,hn=>by
  simp only[Rps]at h ⊢;obtain⟨v,ws,F1,F2,e,eF,r,q⟩:=h;subst eF;exact⟨v,ws,F1,F2,e,rfl,Rp.upd hp r λz=>hn (Zf _ z),Rps.upd hp q λz=>hn (Zd _ z)⟩
end
mutual
theorem Rp.mem:∀{d:D}{v:V}{F:LAd},Rp K H d v F->∀a∈F,∃u,H a=some u
 | .non,_,_,h,a,ha=>by simp only[Rp]at h;rw[h.2]at ha;simp at ha
 | .bl _,_,_,h,a,ha=>by simp only[Rp]at h;rw[h.2]at ha;simp at ha
 | .int _,_,_,h,a,ha=>by simp only[Rp]at h;rw[h.2]at ha;simp at ha
 | .str _,_,_,h,a,ha=>by simp only[Rp]at h;rw[h.2]at ha;simp at ha
 | .exc _,_,_,h,a,ha=>by simp only[Rp]at h;rw[h.2]at ha;simp at ha
 | .dk _,_,_,h,a,ha=>by simp only[Rp]at h;obtain⟨b,e,eF,q⟩:=h;subst eF;rw[Zw.mp ha];exact⟨_,q⟩
 | .tup ds,_,_,h,a,ha=>by
  simp only[Rp]at h;obtain⟨_,vs,e,q,r⟩:=h;exact Rps.mem r a ha
 | .lst ds,_,_,h,a,ha=>by
  simp only[Rp]at h;obtain⟨_,b,vs,e,⟨G,eF,q,r⟩ | ⟨q,r⟩⟩:=h
  ·subst eF;rcases Zn.mp ha with z | z
   ·exact⟨_,by rw[z];exact q⟩
   ·exact Rps.mem r a z
  ·exact Rps.mem r a ha
theorem Rps.mem:∀{ds:List D}{vs:List V}{F:LAd},Rps K H ds vs F->∀a∈F,∃u,H a=some u
 | [],_,_,h,a,ha=>by simp only[Rps]at h;rw[h.2]at ha;simp at ha
 | d::ds,_,_,h,a,ha=>by
  simp only[Rps]at h;obtain⟨v,ws,F1,F2,e,eF,r,q⟩:=h;subst eF;rcases ZH.mp ha with z | z
  ·exact Rp.mem r a z
  ·exact Rps.mem q a z
end
mutual
theorem Rp.Qci:∀{d:D}{v:V}{F:LAd},Rp K H d v F->d.flat=true->F=[]
 | .non,_,_,h,_=>by simp only[Rp]at h;exact h.2
 | .bl _,_,_,h,_=>by simp only[Rp]at h;exact h.2
 | .int _,_,_,h,_=>by simp only[Rp]at h;exact h.2
 | .str _,_,_,h,_=>by simp only[Rp]at h;exact h.2
 | .exc _,_,_,h,_=>by simp only[Rp]at h;exact h.2
 | .dk _,_,_,h,hf=>by simp[D.flat]at hf
 | .tup ds,_,_,h,hf=>by
  simp only[Rp]at h;simp only[D.flat]at hf;obtain⟨_,vs,e,q,r⟩:=h;exact Rps.Qci r hf
 | .lst ds,_,_,h,hf=>by simp[D.flat]at hf
theorem Rps.Qci:∀{ds:List D}{vs:List V}{F:LAd},Rps K H ds vs F->QT ds=true->F=[]
 | [],_,_,h,_=>by simp only[Rps]at h;exact h.2
 | d::ds,_,_,h,hf=>by
  simp only[Rps]at h;simp only[QT,Zh]at hf;obtain⟨v,ws,F1,F2,e,eF,r,q⟩:=h;rw[eF,Rp.Qci r hf.1,Rps.Qci q hf.2];rfl
end
mutual
theorem Rp.Qa6:∀{d:D}{v:V}{F:LAd},Rp K H d v F->F.length<=d.nl
 | .non,_,_,h=>by simp only[Rp]at h;rw[h.2];exact ZO _
 | .bl _,_,_,h=>by simp only[Rp]at h;rw[h.2];exact ZO _
 | .int _,_,_,h=>by simp only[Rp]at h;rw[h.2];exact ZO _
 | .str _,_,_,h=>by simp only[Rp]at h;rw[h.2];exact ZO _
 | .exc _,_,_,h=>by simp only[Rp]at h;rw[h.2];exact ZO _
 | .dk _,_,_,h=>by simp only[Rp]at h;obtain⟨b,e,eF,q⟩:=h;subst eF;exact Zj _
 | .tup ds,_,_,h=>by
  simp only[Rp]at h;obtain⟨_,vs,e,q,r⟩:=h;simp only[D.nl];exact Rps.Qa6 r
 | .lst ds,_,_,h=>by
  simp only[Rp]at h;simp only[D.nl];obtain⟨_,b,vs,e,⟨G,eF,q,r⟩ | ⟨q,r⟩⟩:=h
  ·rw[eF,ZU];have:=Rps.Qa6 r;omega
  ·have:=Rps.Qa6 r;omega
theorem Rps.Qa6:∀{ds:List D}{vs:List V}{F:LAd},Rps K H ds vs F->F.length<=nls ds
 | [],_,_,h=>by simp only[Rps]at h;rw[h.2];exact ZO _
 | d::ds,_,_,h=>by
  simp only[Rps]at h;obtain⟨v,ws,F1,F2,e,eF,r,q⟩:=h;simp only[nls];rw[eF,Zz];have:=Rp.Qa6 r;have:=Rps.Qa6 q;omega
end
theorem Rps.length:∀{ds:List D}{vs:List V}{F:LAd},Rps K H ds vs F->ds.length=vs.length
 | [],_,_,h=>by simp only[Rps]at h;rw[h.1];rfl
 | d::ds,_,_,h=>by
  simp only[Rps]at h;obtain⟨v,ws,F1,F2,e,eF,r,q⟩:=h;rw[e,ZU,ZU,Rps.length q]
theorem Rps.append:∀{ds es:List D}{vs ws:List V}{F G:LAd},Rps K H ds vs F->Rps K H es ws G->Rps K H (ds++es) (vs++ws) (F++G)
 | [],_,_,_,_,_,h,g=>by simp only[Rps]at h;rw[h.1,h.2];exact g
 | d::ds,_,_,_,_,_,h,g=>by
  simp only[Rps,ZbT]at h ⊢;obtain⟨v,ws,F1,F2,e,eF,r,q⟩:=h;subst e eF;exact⟨v,_,F1,_,rfl,by rw[ZaV],r,Rps.append q g⟩
theorem Rps.get:∀{ds:List D}{vs:List V}{F:LAd}{i:Nat}{d:D},Rps K H ds vs F->ds[i]? =some d->∃v F1 G F2,vs[i]? =some v/\F=F1++(G++F2)/\Rp K H d v G/\(F.length=nls ds->G.length=d.nl)
 | [],_,_,_,_,_,e=>by simp at e
 | d::ds,_,_,0,_,h,e=>by
  simp only[Rps]at h;obtain⟨v,ws,F1,F2,e1,eF,r,q⟩:=h;simp at e;subst e e1 eF;refine⟨v,[],F1,F2,by simp,rfl,r,λhl=>?_⟩;simp only[nls,Zz]at hl;have:=Rp.Qa6 r;have:=Rps.Qa6 q;omega
 | d::ds,_,_,i+1,_,h,e=>by
  simp only[Rps]at h;obtain⟨v,ws,F1,F2,e1,eF,r,q⟩:=h;obtain⟨v',G1,G,G2,h1,h2,h3,h4⟩:=Rps.get q (by simpa using e);have l1:=Rp.Qa6 r;have l2:=Rps.Qa6 q;subst e1 eF;refine⟨v',F1++G1,G,G2,by simpa using h1,by rw[h2,ZaV],h3,λhl=>h4 ?_⟩;simp only[nls,Zz]at hl;omega
theorem Fix.sq{K:Fgg}{H:Hp}{a:Addr}{vs:List V}(h:Fix K H a vs):SqL K H a vs:=by
 rcases h with⟨o,h⟩ | ⟨its,n,h,hz,r⟩
 ·exact .inl (.inr ⟨o,h⟩)
 ·exact .inr ⟨_,its.toArray,n,h,rfl,rfl,rfl,by rw[Zv,← r.length];exact hz,by simpa using r⟩
theorem _root_.L2.Inv.Qol(I:Inv X pins σ H s)(h:H a=some (.lst vs)∨Fix X.K H a vs):
  vs.length<=sizeLine/\∃(its:List Value) (n:Nat),QA vs its/\vs.length=its.length/\s.heap.get? a=some {cls:= .type "list",data:= .seq its.toArray n}:=by
 rcases h with h | ⟨o,h⟩ | ⟨its,n,h,hz,r⟩
 ·exact I.Qzv h
 ·obtain⟨e,hz,its,n,r,e2⟩:=I.hok a _ h;exact⟨hz,its,n,r,r.length,e2⟩
 ·exact⟨hz,its,n,r,r.length,I.kIn _ _ h⟩
theorem Rp.lst_inv{K:Fgg}{H:Hp}{ds:List D}{v:V}{F:LAd}(h:Rp K H (.lst ds) v F):
  ∃a vs G,v= .ref a/\(H a=some (.lst vs)∨Fix K H a vs)/\Rps K H ds vs G/\ds.length<=sizeLine/\(F=a::G∨F=G):=by
 simp only[Rp]at h;obtain⟨hz,a,vs,e,⟨G,eF,q,r⟩ | ⟨q,r⟩⟩:=h
 ·exact⟨a,vs,G,e,.inl q,r,hz,.inl eF⟩
 ·exact⟨a,vs,F,e,.inr q,r,hz,.inr rfl⟩
theorem QX{K:Fgg}{H:Hp}{a:Addr}{vs:List V}(h:H a=some (.lst vs)∨Fix K H a vs):SqL K H a vs:=h.elim (λh=>SqL.of h) Fix.sq
theorem Rp.QaZ{K:Fgg}{H:Hp}{ds:List D}{v:V}{F:LAd}(h:Rp K H (.tup ds) v F):∃a vs,v= .ref a/\SqT K H a vs/\Rps K H ds vs F:=by
 simp only[Rp]at h;exact h
theorem Rp.QfE{K:Fgg}{H:Hp}{ds:List D}{a:Addr}{vs:List V}{G:LAd}(h:H a=some (.lst vs))(r:Rps K H ds vs G)(hz:ds.length<=sizeLine):Rp K H (.lst ds) (.ref a) (a::G):=by
 simp only[Rp];exact⟨hz,a,vs,rfl,.inl ⟨G,rfl,h,r⟩⟩
theorem Rp.Qii{K:Fgg}{H:Hp}{ds:List D}{a:Addr}{vs:List V}{G:LAd}(h:H a=some (.tup vs))(r:Rps K H ds vs G):Rp K H (.tup ds) (.ref a) G:=by
 simp only[Rp];exact⟨a,vs,rfl,SqT.of h,r⟩
theorem Rp.int_inv{K:Fgg}{H:Hp}{i:Int}{v:V}{F:LAd}(h:Rp K H (.int i) v F):v= .int i:=by simp only[Rp]at h;exact h.1
theorem Rp.Qfz{K:Fgg}{H:Hp}{i:Bool}{v:V}{F:LAd}(h:Rp K H (.bl i) v F):v= .bl i:=by simp only[Rp]at h;exact h.1
theorem Rp.Qmi{K:Fgg}{H:Hp}{v:V}{F:LAd}(h:Rp K H .non v F):v= .non:=by simp only[Rp]at h;exact h.1
theorem Rp.str_inv{K:Fgg}{H:Hp}{i:Str}{v:V}{F:LAd}(h:Rp K H (.str i) v F):v= .str i:=by simp only[Rp]at h;exact h.1
theorem Rp.int_mk{K:Fgg}{H:Hp}{i:Int}:Rp K H (.int i) (.int i) []:=by simp[Rp]
theorem Rp.QcO{K:Fgg}{H:Hp}{i:Bool}:Rp K H (.bl i) (.bl i) []:=by simp[Rp]
theorem Rp.QlG{K:Fgg}{H:Hp}:Rp K H .non .non []:=by simp[Rp]
theorem Rp.str_mk{K:Fgg}{H:Hp}{i:Str}:Rp K H (.str i) (.str i) []:=by simp[Rp]
theorem QaH(h:H p=none):QM H (L2.upd H p o):=λb u e=>by rw[QD (Qb9 e h)];exact e
end
end HS
namespace HS
open PySem PySem.Spec L2
noncomputable abbrev En:=List (Option (D×Bool))
noncomputable abbrev slT(d:D):Option (D×Bool):=some (d,true)
noncomputable abbrev slF(d:D):Option (D×Bool):=some (d,false)
noncomputable abbrev slI(i:Int):Option (D×Bool):=some (.int i,true)
theorem nn{α:Type}{x:α}{C:Prop}(h:(none:Option α)=some x):C:=nomatch h
structure R where
 d:D
 fr:Bool
 M:List Nat
noncomputable abbrev reT(d:D):R:=⟨d,true,[]⟩
noncomputable abbrev reF(d:D):R:=⟨d,false,[]⟩
noncomputable abbrev reI(i:Int):R:=⟨.int i,true,[]⟩
structure RA where
 ds:List D
 fr:Bool
 M:List Nat
noncomputable abbrev DE:=En->Option R
noncomputable abbrev DA:=En->Option RA
noncomputable abbrev DT:=En->Option Bool
structure Rel (K:Fgg) (H0:Hp) (A0:LAd) (hs:List (V×D×List Addr)) (U:En) (F:Nat->List Addr) (σ:St) (H:Hp):Prop where
 len:U.length=σ.length
 val:∀(i:Nat) d b,U[i]? =some (some (d,b))->∃v,σ[i]? =some (some v)/\Rp K H d v (F i)
 own:∀(i:Nat) d,U[i]? =some (some (d,true))->(F i).length=d.nl/\(F i).Nodup/\(∀a∈F i,H0 a=none)/\(∀(j:Nat) d' b',j≠i->U[j]? =some (some (d',b'))->∀a∈F i,a∉F j)/\∀t∈hs,∀a∈F i,a∉t.2.2
 src:∀(i:Nat) d b,U[i]? =some (some (d,b))->∀a∈F i,H0 a=none∨a∈A0
 held:∀t∈hs,Rp K H t.2.1 t.1 t.2.2/\∀a∈t.2.2,H0 a=none∨a∈A0
 same:QM H0 H
def Src(U:En)(F:Nat->List Addr)(H:Hp)(M:List Nat)(G:LAd):Prop:=
 ∀a∈G,H a=none∨∃(i:Nat) (d:D) (b:Bool),U[i]? =some (some (d,b))/\a∈F i/\(b=true->i∈M)
noncomputable def nw(H:Hp)(a:Addr):Nat:=match H a with | none=>1 | some _=>0
def Cnt(F:Nat->List Addr)(H:Hp)(M:List Nat)(G:LAd):Prop:=
 ∀a,G.count a<=nw H a+((M.map F).flatten).count a
def Qbv(U:En)(M:List Nat):Prop:=∀i∈M,∃d,U[i]? =some (some (d,true))
structure Qaj (K:Fgg) (U:En) (F:Nat->List Addr) (H H':Hp) (r:R) (v:V) (G:LAd):Prop where
 same:QM H H'
 rp:Rp K H' r.d v G
 src:Src U F H r.M G
 cnt:r.fr=true->Cnt F H r.M G/\G.length=r.d.nl
 own:Qbv U r.M
structure Qss (K:Fgg) (U:En) (F:Nat->List Addr) (H H':Hp) (r:RA) (vs:List V) (G:LAd):Prop where
 same:QM H H'
 rp:Rps K H' r.ds vs G
 src:Src U F H r.M G
 cnt:r.fr=true->Cnt F H r.M G/\G.length=nls r.ds
 own:Qbv U r.M
noncomputable def tV(K:Fgg)(H0:Hp)(A0:LAd)(f:DE):TE:=λσ H Q=>∃U hs F r,Rel K H0 A0 hs U F σ H/\f U=some r/\∀v H' G,Qaj K U F H H' r v G->Q v H'
noncomputable def tVA(K:Fgg)(H0:Hp)(A0:LAd)(f:DA):TA:=λσ H Q=>∃U hs F r,Rel K H0 A0 hs U F σ H/\f U=some r/\∀v H' G,Qss K U F H H' r v G->Q v H'
noncomputable def tVT(K:Fgg)(H0:Hp)(A0:LAd)(f:DT):TT:=λσ H Q=>∃U hs F b,Rel K H0 A0 hs U F σ H/\f U=some b/\∀H',QM H H'->Q b H'
def SE(X:Cx)(e:Expr)(f:DE):Prop:=∀H0 A0,PE X e (tV X.K H0 A0 f)
def SA(X:Cx)(es:List Expr)(f:DA):Prop:=∀H0 A0,PA X es (tVA X.K H0 A0 f)
def ST(X:Cx)(e:Expr)(f:DT):Prop:=∀H0 A0,PT X e (tVT X.K H0 A0 f)
theorem _root_.L2.PE.mono(h:PE X e t)(m:∀σ H Q,t' σ H Q->t σ H Q):PE X e t':=λpins s σ H Q I q=>h pins s σ H Q I (m σ H Q q)
theorem _root_.L2.PT.mono(h:PT X e t)(m:∀σ H Q,t' σ H Q->t σ H Q):PT X e t':=λpins s σ H Q I q=>h pins s σ H Q I (m σ H Q q)
theorem _root_.L2.PA.mono(h:PA X e t)(m:∀σ H Q,t' σ H Q->t σ H Q):PA X e t':=λpos pins s σ H Q I q=>h pos pins s σ H Q I (m σ H Q q)
section
theorem Rel.ext(r:Rel K H0 A0 hs U F σ H)(s:QM H H'):Rel K H0 A0 hs U F σ H' where
 len:=r.len
 val:=λi d b e=>let ⟨v,h1,h2⟩:=r.val i d b e;⟨v,h1,h2.same s⟩
 own:=r.own
 src:=r.src
 held:=λt ht=>⟨(r.held t ht).1.same s,(r.held t ht).2⟩
 same:=r.same.trans s
theorem Rel.mem(r:Rel K H0 A0 hs U F σ H)(e:U[i]? =some (some (d,b)))(h:a∈F i):∃u,H a=some u:=
 let ⟨_,_,h2⟩:=r.val i d b e;h2.mem a h
theorem Qet(h:H a=some o):nw H a=0:=by simp[nw,h]
theorem QaU(h:H a=none):nw H a=1:=by simp[nw,h]
theorem Rel.fl0(r:Rel K H0 A0 hs U F σ H)(ow:Qbv U M)(h:H a=none):((M.map F).flatten).count a=0:=by
 rw[ZW];intro hm;obtain⟨l,hl,ha⟩:=Zbw.mp hm;obtain⟨i,hi,rfl⟩:=ZT.mp hl;obtain⟨d,e⟩:=ow i hi;obtain⟨vs,q⟩:=r.mem e ha;rw[h]at q;cases q
theorem Cnt.append(r:Rel K H0 A0 hs U F σ H)(c1:Cnt F H M1 G1)(c2:Cnt F H1 M2 G2)(s:QM H H1)(m1:∀a∈G1,∃u,H1 a=some u):Cnt F H (M1++M2) (G1++G2):=λa=>by
 rw[Zam,ZQ,List.flatten_append,Zam];have h1:=c1 a;have h2:=c2 a;cases q:H1 a with
 | some o=>rw[Qet q]at h2;omega
 | none=>
  rw[QaU q]at h2;have h3:H a=none:=s.free q;rw[QaU h3]at h1 ⊢;have h4:G1.count a=0:=ZW.mpr λhm=>by obtain⟨vs,z⟩:=m1 a hm;rw[q]at z;cases z
  omega
theorem Src.append(c1:Src U F H M1 G1)(c2:Src U F H1 M2 G2)(s:QM H H1):Src U F H (M1++M2) (G1++G2):=λa ha=>by
 rcases ZH.mp ha with h | h
 ·rcases c1 a h with z | ⟨i,d,b,e,m,w⟩
  ·exact .inl z
  ·exact .inr ⟨i,d,b,e,m,λhb=>Zf _ (w hb)⟩
 ·rcases c2 a h with z | ⟨i,d,b,e,m,w⟩
  ·exact .inl (s.free z)
  ·exact .inr ⟨i,d,b,e,m,λhb=>Zd _ (w hb)⟩
theorem Qbv.append(h1:Qbv U M1)(h2:Qbv U M2):Qbv U (M1++M2):=λi hi=>(ZH.mp hi).elim (h1 i) (h2 i)
theorem Qbv.nil:Qbv U []:=λi hi=>by simp at hi
theorem Src.nil:Src U F H M []:=λa ha=>by simp at ha
theorem Cnt.nil:Cnt F H M []:=λa=>by simp
theorem Qaj.flat(s:QM H H')(r:Rp K H' d v [])(hf:d.flat=true:=by rfl):Qaj K U F H H' ⟨d,true,[]⟩ v []:=⟨s,r,Src.nil,λ_=>⟨Cnt.nil,(QdM d hf).symm⟩,Qbv.nil⟩
theorem Qaj.sub(p:Qaj K U F H H1 r v G)(rp:Rp K H1 d u G')(hs:∀a,G'.count a<=G.count a)(hn:G.length=r.d.nl->G'.length=d.nl):Qaj K U F H H1 ⟨d,r.fr,r.M⟩ u G' where
 same:=p.same
 rp:=rp
 src:=λa ha=>p.src a (by
  have:=hs a;have h1:0<G'.count a:=Zaw.mpr ha;exact Zaw.mp ⋯)
 cnt:=λh=>⟨λa=>ZC (hs a) ((p.cnt h).1 a),hn (p.cnt h).2⟩
 own:=p.own
noncomputable def R.norm(r:R):R:=if r.d.flat then⟨r.d,true,[]⟩else r
theorem R.Qd4(r:R):r.norm.d=r.d:=by unfold R.norm;split<;>rfl
theorem Qaj.norm(p:Qaj K U F H H' r v G):Qaj K U F H H' r.norm v G:=by
 unfold R.norm;split
 ·rename_i h;have:=p.rp.Qci h;subst this;exact .flat p.same p.rp h
 ·exact p
end
noncomputable def Qq(i:Nat):DE:=λU=>match U[i]? with
 | some (some (d,b))=>if d.flat then some ⟨d,true,[]⟩else if b then some ⟨d,true,[i]⟩else some ⟨d,false,[]⟩
 | _=>none
noncomputable def dC(d:D):DE:=λ_=>some ⟨d,true,[]⟩
noncomputable abbrev vv0:DE:=Qq 0
noncomputable abbrev vv1:DE:=Qq 1
noncomputable abbrev vv2:DE:=Qq 2
noncomputable abbrev vv3:DE:=Qq 3
noncomputable abbrev vv4:DE:=Qq 4
noncomputable abbrev vv5:DE:=Qq 5
noncomputable abbrev vv6:DE:=Qq 6
noncomputable abbrev vv7:DE:=Qq 7
noncomputable abbrev vv8:DE:=Qq 8
noncomputable abbrev vv9:DE:=Qq 9
noncomputable abbrev kk0:DE:=dC (.int 0)
noncomputable abbrev kk1:DE:=dC (.int 1)
noncomputable abbrev kk2:DE:=dC (.int 2)
noncomputable abbrev kk3:DE:=dC (.int 3)
noncomputable abbrev kk4:DE:=dC (.int 4)
noncomputable abbrev kk5:DE:=dC (.int 5)
noncomputable abbrev kk6:DE:=dC (.int 6)
noncomputable abbrev kk7:DE:=dC (.int 7)
noncomputable abbrev kk8:DE:=dC (.int 8)
noncomputable abbrev kk9:DE:=dC (.int 9)
noncomputable abbrev QBe:DE:=dC (.int 11)
noncomputable abbrev QzK:DE:=dC (.int 12)
noncomputable abbrev QC1:DE:=dC (.int 17)
noncomputable abbrev QCV:DE:=dC (.int 21)
noncomputable abbrev QzS:DE:=dC (.int 22)
noncomputable abbrev QC8:DE:=dC (.int 23)
noncomputable abbrev QDx:DE:=dC (.int 64)
noncomputable abbrev QCK:DE:=dC (.int 72)
noncomputable abbrev QBG:DE:=dC (.int 300)
noncomputable abbrev QAv:DE:=dC (.int 1009)
noncomputable abbrev Qq3:DE:=dC (.int 48271)
noncomputable abbrev Qzb:DE:=dC (.int 65537)
noncomputable abbrev Qrq:DE:=dC (.int 69621)
noncomputable abbrev Qty:DE:=dC (.int 1000000)
noncomputable abbrev Qnv:DE:=dC (.int 1000003)
noncomputable abbrev Qpd:DE:=dC (.int 2147483629)
noncomputable abbrev Qjg:DE:=dC (.int 2147483647)
section
theorem Quc(h:PE X (.Name x pos) (QkL i)):SE X (.Name x pos) (Qq i):=λH0 A0=>h.mono λσ H Q=>exK λU hs F r rel e q=>by
 unfold Qq at e;split at e
 ·rename_i d b q1;obtain⟨v,h1,h2⟩:=rel.val i d b q1;refine⟨v,h1,q v H (F i) ?_⟩;split at e
  ·rename_i hf;cases e;have:=h2.Qci hf;rw[this]at h2 ⊢;exact .flat (QM.refl _) h2 hf
  ·split at e
   ·rename_i hb;cases e;subst hb;exact⟨QM.refl _,h2,λa ha=> .inr ⟨i,d,true,q1,ha,λ_=>by simp⟩,λ_=>⟨λa=>(by simp),(rel.own i d q1).1⟩,λj hj=>by simp at hj;subst hj;exact⟨d,q1⟩⟩
   ·rename_i hb;cases e;simp at hb;subst hb;exact⟨QM.refl _,h2,λa ha=> .inr ⟨i,d,false,q1,ha,λz=>by cases z⟩,λz=>(by cases z),Qbv.nil⟩
 ·cases e
theorem QhM(h:PE X e (tC v))(r:∀K H,Rp K H d v [])(hf:d.flat=true):SE X e (dC d):=λH0 A0=>h.mono λσ H Q=>exK λU hs F r' rel e q=>by
 cases e;exact q v H [] (.flat (QM.refl _) (r _ _) hf)
theorem two{K:Fgg}{H0:Hp}{A0:LAd}{fa fb:DE}{σ:St}{H:Hp}{hs:List (V×D×List Addr)}{U:En}{F:Nat->List Addr}{ra rb:R}{Rr:V->V->Hp->Prop}(rel:Rel K H0 A0 hs U F σ H)(ea:fa U=some ra)(eb:fb U=some rb)
  (k:∀x y H1 H2 G1 G2,Qaj K U F H H1 ra x G1->Qaj K U F H1 H2 rb y G2->Rr x y H2):tV K H0 A0 fa σ H λx H1=>tV K H0 A0 fb σ H1 λy H2=>Rr x y H2:=
 ⟨U,hs,F,ra,rel,ea,λx H1 G1 p1=>⟨U,hs,F,rb,rel.ext p1.same,eb,λy H2 G2 p2=>k x y H1 H2 G1 G2 p1 p2⟩⟩
noncomputable def dOp(g:D->D->Option D)(fa fb:DE):DE:=λU=>(fa U).bind λra=>(fb U).bind λrb=>(g ra.d rb.d).map λd=>⟨d,true,[]⟩
theorem QmP(e:dOp g fa fb U=some r):∃ra rb d,fa U=some ra/\fb U=some rb/\g ra.d rb.d=some d/\r=⟨d,true,[]⟩:=by
 unfold dOp at e;cases h1:fa U with
 | none=>rw[h1]at e;cases e
 | some ra=>
  cases h2:fb U with
  | none=>rw[h1,h2]at e;cases e
  | some rb=>
   rw[h1,h2]at e;cases h3:g ra.d rb.d with
   | none=>simp[h3]at e
   | some d=>simp[h3]at e;exact⟨ra,rb,d,rfl,rfl,h3,e.symm⟩
def QcD(K:Fgg)(g:D->D->Option D)(r:R2):Prop:=∀a b d,g a b=some d->d.flat=true/\∀H x y F G (Q:VK),Rp K H a x F->Rp K H b y G->(∀v,(∀H',Rp K H' d v [])->Q v H)->r x y H Q
theorem Qn2(ho:OpR X (binaryOp op) r)(hg:QcD X.K g r)(ha:SE X a fa)(hb:SE X b fb):SE X (.BinOp a op b pos) (dOp g fa fb):=λH0 A0=>
 (Qsr ho (ha H0 A0) (hb H0 A0)).mono λσ H Q=>exK λU hs F r' rel e q=>by
  obtain⟨ra,rb,d,ea,eb,eg,rfl⟩:=QmP e;refine two rel ea eb λx y H1 H2 G1 G2 p1 p2=>(hg _ _ _ eg).2 H2 x y G1 G2 Q (p1.rp.same p2.same) p2.rp λv hv=>?_;exact q v H2 [] (.flat (p1.same.trans p2.same) (hv H2) (hg _ _ _ eg).1)
theorem QAf(ho:OpR X (compareOp op) r)(hg:QcD X.K g r)(ha:SE X a fa)(hb:SE X b fb)(hm:behindInMarks op b=false):SE X (.Compare a [op] [b] pos) (dOp g fa fb):=λH0 A0=>
 (Qy7 ho (ha H0 A0) (hb H0 A0) hm).mono λσ H Q=>exK λU hs F r' rel e q=>by
  obtain⟨ra,rb,d,ea,eb,eg,rfl⟩:=QmP e;refine two rel ea eb λx y H1 H2 G1 G2 p1 p2=>(hg _ _ _ eg).2 H2 x y G1 G2 Q (p1.rp.same p2.same) p2.rp λv hv=>?_;exact q v H2 [] (.flat (p1.same.trans p2.same) (hv H2) (hg _ _ _ eg).1)
end
noncomputable def QdX(i j:Int):Int:=if 0<=j then i / j else i.fdiv j
noncomputable def QdF(i j:Int):Int:=if 0<=j then i % j else i.fmod j
theorem Qna(i j:Int):QdX i j=i.fdiv j:=by
 unfold QdX;split
 ·rw[ZbI _ (by assumption)]
 ·rfl
theorem Qmz(i j:Int):QdF i j=i.fmod j:=by
 unfold QdF;split
 ·rw[Int.fmod_eq_emod_of_nonneg _ (by assumption)]
 ·rfl
noncomputable def Qeq(i j:Int):Bool:=decide (i.natAbs<2^64) || decide (j.natAbs<2^64) || (decide (Builtin.Int.intBits i<=2^20) && decide (Builtin.Int.intBits j<=2^20))
noncomputable def Qcg(j:Int):Bool:=decide (j≠0) && decide (j.natAbs<2^8000)
noncomputable def gI(f:Int->Int->Option D)(a b:D):Option D:=match a,b with
 | .int i,.int j=>f i j
 | _,_=>none
noncomputable def QaI:=gI λi j=>some (.int (i-j))
noncomputable def QbU:=gI λi j=>if Qcg j then some (.int (QdX i j))else none
noncomputable def Qag:=gI λi j=>if j≠0 then some (.int (QdF i j))else none
noncomputable def QpD:=gI λi j=>if 0<=j then some (.int (i / 2^j.toNat))else none
noncomputable def gLt:=gI λi j=>some (.bl (decide (i<j)))
noncomputable def gLe:=gI λi j=>some (.bl (decide (i<=j)))
noncomputable def gGt:=gI λi j=>some (.bl (decide (j<i)))
noncomputable def gGe:=gI λi j=>some (.bl (decide (j<=i)))
theorem QsN(h:gI f a b=some d):∃i j,a= .int i/\b= .int j/\f i j=some d:=by
 unfold gI at h;split at h
 ·exact⟨_,_,rfl,rfl,h⟩
 ·cases h
section
theorem QhT(hf:∀i j d,f i j=some d->d.flat=true)(h:∀i j d,f i j=some d->∀H (Q:VK),(∀v,(∀H',Rp K H' d v [])->Q v H)->r (.int i) (.int j) H Q):QcD K (gI f) r:=λa b d e=>by
 obtain⟨i,j,rfl,rfl,ef⟩:=QsN e;refine⟨hf i j d ef,λH x y F G Q ha hb q=>?_⟩;rw[ha.int_inv,hb.int_inv];exact h i j d ef H Q q
theorem QtP:QcD K QaI (rI0 λi j=> .int (i-j)):=QhT (λi j d e=>by cases e;rfl) λi j d e H Q q=>by cases e;exact⟨i,j,rfl,rfl,q _ λ_=> .int_mk⟩
theorem QwP(h:Qeq i j=true):IntMulOk i j:=by
 have small:∀k:Int,k.natAbs<2^64->Builtin.Int.intBits k<=64:=λk hk=>by
  unfold Builtin.Int.intBits;split
  ·omega
  ·rename_i h0;have h0':k.natAbs≠0:=λz=>by simp_all
   have:=(Nat.log2_lt h0').mpr hk;omega
 unfold Qeq at h;simp only[Zcd,Zh,decide_eq_true_eq]at h;rcases h with(h | h) | ⟨h1,h2⟩
 ·exact .of_left (small i h)
 ·exact .of_right (small j h)
 ·exact .of_bits h1 h2
theorem QyX:OpR X (binaryOp .Mult) (rI (λi j=>Qeq i j=true) λi j=> .int (i*j)):=opI λ_ _ _ _ _ _ _ hc q=>PyProof.Rows.mul_int q (QwP hc)
theorem Qzd:OpR X (binaryOp .FloorDiv) (rI (λi j=>Qcg j=true) λi j=> .int (QdX i j)):=opI λi j _ _ _ _ _ hc q=>by
 unfold Qcg at hc;simp only[Zh,decide_eq_true_eq]at hc;rw[Qna]at q;refine PyProof.Rows.floordiv_int hc.1 q (.inl (ZbN ?_));have h0:j.natAbs≠0:= ⋯
 exact Nat.lt_trans ((Nat.log2_lt h0).mpr hc.2) (by decide)
theorem QxS:OpR X (binaryOp .Mod) (rI (λi j=>j≠0) λi j=> .int (QdF i j)):=opI λi j _ _ _ _ _ hc q=>by
 rw[Qmz]at q;exact PyProof.Rows.mod_int' hc q
theorem QBs:QcD K QbU (rI (λi j=>Qcg j=true) λi j=> .int (QdX i j)):=QhT (λi j d e=>by split at e<;>cases e;rfl) λi j d e H Q q=>by
 split at e
 ·cases e;exact⟨i,j,rfl,rfl,by assumption,q _ λ_=> .int_mk⟩
 ·cases e
theorem QzT:QcD K Qag (rI (λi j=>j≠0) λi j=> .int (QdF i j)):=QhT (λi j d e=>by split at e<;>cases e;rfl) λi j d e H Q q=>by
 split at e
 ·cases e;exact⟨i,j,rfl,rfl,by assumption,q _ λ_=> .int_mk⟩
 ·cases e
theorem QzP:QcD K QpD (rI (λ_ j=>0<=j) λi j=> .int (i / 2^j.toNat)):=QhT (λi j d e=>by split at e<;>cases e;rfl) λi j d e H Q q=>by
 split at e
 ·cases e;exact⟨i,j,rfl,rfl,by assumption,q _ λ_=> .int_mk⟩
 ·cases e
theorem QBB:QcD K gLt (rI0 λi j=> .bl (decide (i<j))):=QhT (λi j d e=>by cases e;rfl) λi j d e H Q q=>by cases e;exact⟨i,j,rfl,rfl,q _ λ_=> .QcO⟩
theorem QCm:QcD K gLe (rI0 λi j=> .bl (decide (i<=j))):=QhT (λi j d e=>by cases e;rfl) λi j d e H Q q=>by cases e;exact⟨i,j,rfl,rfl,q _ λ_=> .QcO⟩
theorem QBV:QcD K gGt (rI0 λi j=> .bl (decide (j<i))):=QhT (λi j d e=>by cases e;rfl) λi j d e H Q q=>by cases e;exact⟨i,j,rfl,rfl,q _ λ_=> .QcO⟩
theorem QBx:QcD K gGe (rI0 λi j=> .bl (decide (j<=i))):=QhT (λi j d e=>by cases e;rfl) λi j d e H Q q=>by cases e;exact⟨i,j,rfl,rfl,q _ λ_=> .QcO⟩
end
theorem QcR:∀(xs ys:List D),QT (xs++ys)=(QT xs && QT ys)
 | [],ys=>by simp[QT]
 | x::xs,ys=>by simp[QT,QcR xs ys,Bool.and_assoc]
noncomputable def Qat(ds:List D)(M:List Nat):R:=if QT ds then⟨.lst ds,true,[]⟩else⟨.lst ds,false,M⟩
section
variable {K:Fgg}{H0 H H':Hp}{A0:LAd}{hs:List (V×D×List Addr)}{U:En}{F:Nat->List Addr}{σ:L2.St}
theorem Qaj.Qat(s:QM H H1)(hp:H1 p=none)(r:Rps K H1 ds vs G)(hz:ds.length<=sizeLine)(src:Src U F H M G)(ow:Qbv U M):
  Qaj K U F H (upd H1 p (.lst vs)) (Qat ds M) (.ref p) (p::G):=by
 have s2:QM H1 (upd H1 p (.lst vs)):=QaH hp;have rp:Rp K (upd H1 p (.lst vs)) (.lst ds) (.ref p) (p::G):=Rp.QfE Qad (r.same s2) hz;have hH:H p=none:=s.free hp;unfold HS.Qat
 split
 ·rename_i hf;have:=r.Qci hf;subst this;refine⟨s.trans s2,rp,λa ha=>?_,λ_=>⟨λa=>?_,by simp only[D.nl,Qk3 ds hf];rfl⟩,Qbv.nil⟩
  ·have:a=p:=by simpa using ha
   subst this;exact .inl hH
  ·rw[Zbz];split
   ·rename_i e;have e':p=a:=by simpa using e
    subst e';rw[QaU hH];omega
   ·omega
 ·refine⟨s.trans s2,rp,λa ha=>?_,λz=>(by cases z),ow⟩;rcases Zn.mp ha with rfl | h
  ·exact .inl hH
  ·exact src a h
end
noncomputable def QI(fa fb:DE):DE:=λU=>(fa U).bind λra=>(fb U).bind λrb=>match ra.d,rb.d with
 | .int i,.int j=>some ⟨.int (i+j),true,[]⟩
 | .lst xs,.lst ys=>if xs.length+ys.length<=sizeLine then some (Qat (xs++ys) (ra.M++rb.M))else none
 | _,_=>none
noncomputable def Qaz(fa fb:DE):DE:=λU=>(fa U).bind λra=>(fb U).bind λrb=>match ra.d,rb.d with
 | .int i,.int j=>if Qeq i j then some ⟨.int (i*j),true,[]⟩else none
 | .lst xs,.int j=>if xs.length*j.toNat<=sizeLine/\ -(2^63)<=j/\j<2^63/\QT xs=true then some ⟨.lst (List.replicate j.toNat xs).flatten,true,[]⟩else none
 | _,_=>none
theorem QrP{fa fb:DE}{U:En}{k:R->R->Option R}{r:R}(e:((fa U).bind λra=>(fb U).bind λrb=>k ra rb)=some r):∃ra rb,fa U=some ra/\fb U=some rb/\k ra rb=some r:=by
 cases h1:fa U with
 | none=>rw[h1]at e;cases e
 | some ra=>
  cases h2:fb U with
  | none=>rw[h1,h2]at e;cases e
  | some rb=>rw[h1,h2]at e;exact⟨ra,rb,rfl,rfl,e⟩
theorem bind1{α β:Type}{x:Option α}{k:α->Option β}{r:β}(e:x.bind k=some r):∃a,x=some a/\k a=some r:=by
 cases x with
 | none=>cases e
 | some a=>exact⟨a,rfl,e⟩
section
noncomputable def QB3(K:Fgg):R2:=λx y H Q=>∃l c xs zs,x= .ref l/\y= .ref c/\(H l=some (.lst xs)∨Fix K H l xs)/\(H c=some (.lst zs)∨Fix K H c zs)/\xs.length+zs.length<=sizeLine/\∀p,H p=none->Q (.ref p) (upd H p (.lst (xs++zs)))
theorem mapR{α γ:Type}{x:Option α}{f:α->γ}{r:γ}{M:γ->Prop}(e:x.map f=some r)(g:∀a,x=some a->M (f a)):M r:=by
 obtain⟨a,h,rfl⟩:=Ze.mp e;exact g a h
theorem Qh{α β:Type}{x:Option α}{k:α->Option β}{r:β}{G:Prop}(e:x.bind k=some r)(g:∀a,x=some a->k a=some r->G):G:=let ⟨a,h1,h2⟩:=bind1 e;g a h1 h2
theorem QyH:OpR X (binaryOp .Add) (QB3 X.K):=by
 intro pins s σ H x y v u Q I rx ry h;obtain⟨l,c,xs,zs,rfl,rfl,hH,hB,hz,q⟩:=h;cases rx;cases ry;obtain⟨z,its,n,r,hl,e⟩:=I.Qol hH;obtain⟨z2,its2,n2,r2,hl2,e2⟩:=I.Qol hB;refine PySem.P.add_list e e2 ?_ (by rw[Zv,Zv];omega);have ea:its.toArray++its2.toArray=(its++its2).toArray:=by simp
 rw[ea];exact⟨.ref _,_,I.QAq (t':=s.toks) (r.append r2) (by rw[Zz];omega),rfl,q _ I.fresh⟩
theorem QtR(ha:SE X a fa)(hb:SE X b fb):SE X (.BinOp a .Add b pos) (QI fa fb):=λH0 A0=>
 (Qsr (QzA.or QyH) (ha H0 A0) (hb H0 A0)).mono λσ H Q=>exK λU hs F r' rel e q=>by
  obtain⟨ra,rb,ea,eb,ek⟩:=QrP e;refine two rel ea eb λx y H1 H2 G1 G2 p1 p2=>?_;have p1':=p1.rp.same p2.same;have p2':=p2.rp;have c1:=p1.src.append p2.src p1.same;have o1:=p1.own.append p2.own;revert ek;revert p1' p2';cases ra.d<;>cases rb.d<;>intro p1' p2' ek<;>first | (cases ek;done) | skip
  ·cases ek;rw[p1'.int_inv,p2'.int_inv];exact .inl ⟨_,_,rfl,rfl,q _ H2 [] (.flat (p1.same.trans p2.same) .int_mk)⟩
  ·rename_i xs ys;dsimp only at ek;split at ek
   ·rename_i hz;cases ek;obtain⟨l,vs,L1,rfl,hl,rl,zl,el⟩:=p1'.lst_inv;obtain⟨c,ws,L2',rfl,hc,rc,zc,ec⟩:=p2'.lst_inv;have n1:=rl.length;have n2:=rc.length;refine .inr ⟨l,c,vs,ws,rfl,rfl,hl,hc,⋯,λp hp=>?_⟩;refine q _ _ (p::(L1++L2')) (Qaj.Qat (p1.same.trans p2.same) hp (rl.append rc) (by rw[Zz];exact hz) (λa ha=>c1 a ?_) o1);rcases ZH.mp ha with h | h
    ·refine Zf _ ?_;rcases el with rfl | rfl
     ·exact Zc _ h
     ·exact h
    ·refine Zd _ ?_;rcases ec with rfl | rfl
     ·exact Zc _ h
     ·exact h
   ·cases ek
noncomputable def QCi(K:Fgg):R2:=λx y H Q=>∃l k xs,x= .ref l/\y= .int k/\(H l=some (.lst xs)∨Fix K H l xs)/\ -(2^63)<=k/\k<2^63/\xs.length*k.toNat<=sizeLine∧
 ∀p,H p=none->Q (.ref p) (upd H p (.lst (List.replicate k.toNat xs).flatten))
theorem QxF:OpR X (binaryOp .Mult) (QCi X.K):=by
 intro pins s σ H x y v u Q I rx ry h;obtain⟨l,k,xs,rfl,rfl,hH,h1,h2,hz,q⟩:=h;cases rx;obtain⟨t,rfl⟩:=ry;obtain⟨z,its,n,r,hl,e⟩:=I.Qol hH;have hlen:its.toArray.size*k.toNat<=sizeLine:=by rw[Zv,← hl];exact hz
 have hcap:¬its.toArray.size*k.toNat>(2^63-1) / 8:=by
  have:(sizeLine:Nat)<=(2^63-1) / 8:=by decide
  omega
 have hfit:¬(!Builtin.List.listFitsIndex k)=true:=by
  rw[fitsIndex_both h1 h2];exact ZV
 have hlong:¬Builtin.List.listTooLong (its.toArray.size*k.toNat)=true:=by
  rw[Qwm hlen];exact ZV
 have hnew:List.foldl (λx1 x2=>x1++x2) #[] (List.replicate (if its.toArray.isEmpty=true then 0 else k.toNat) its.toArray)=(List.replicate k.toNat its).flatten.toArray:=by
  have f0:∀m:Nat,List.foldl (λx1 x2=>x1++x2) #[] (List.replicate m its.toArray)=(List.replicate m its).flatten.toArray:=λm=>by
   have:=foldl_rep its m [];rw[List.nil_append]at this;exact this
  rw[f0];cases its with
  | nil=>simp
  | cons a r'=>rw[if_neg (by simp)]
 open PyProof.Rows in
 refine wpAny_binaryOp_repeat_ref (by decide) ⟨_,e,rfl⟩ (λs'=>typeIs_int s' k t) noFill_list_mul F.fills_int_mul F.slot_int_rmul repeat_list F.slot_int_index.lookup
  (call_meets F.slot_int_rmul (typeIs_int s k t) F.entry_int_rmul (F.args_int_rmul_2 _ _) (int___rmul___int_list k t l its.toArray n)
   ⟨e,rfl,⟨_,e,rfl⟩,call_meets F.slot_list_mul ⟨_,e,rfl⟩ F.entry_list_mul (F.args_list_mul_2 _ _) (AutoListH.list___mul___list_int_3 l its.toArray n k t hfit hcap hlong) ⟨e,?_⟩⟩)
 rw[hnew];exact⟨.ref _,_,I.QAq (t':=s.toks) (r.rep k.toNat) (by rw[len_rep,Nat.mul_comm];exact hz),rfl,q _ I.fresh⟩
theorem QnD(h:QT xs=true):∀n:Nat,QT (List.replicate n xs).flatten=true
 | 0=>by simp[QT]
 | n+1=>by rw[Zai,Zal,QcR,h,QnD h n];rfl
theorem Rps.rep(h:Rps K H ds vs []):∀n:Nat,Rps K H (List.replicate n ds).flatten (List.replicate n vs).flatten []
 | 0=>by simp[Rps]
 | n+1=>by rw[Zai,Zal,Zai,Zal];exact h.append (Rps.rep h n)
theorem Qzp(ha:SE X a fa)(hb:SE X b fb):SE X (.BinOp a .Mult b pos) (Qaz fa fb):=λH0 A0=>
 (Qsr (QyX.or QxF) (ha H0 A0) (hb H0 A0)).mono λσ H Q=>exK λU hs F r' rel e q=>by
  obtain⟨ra,rb,ea,eb,ek⟩:=QrP e;refine two rel ea eb λx y H1 H2 G1 G2 p1 p2=>?_;have p1':=p1.rp.same p2.same;have p2':=p2.rp;revert ek;revert p1' p2';cases ra.d<;>cases rb.d<;>intro p1' p2' ek<;>first | (cases ek;done) | skip
  ·dsimp only at ek;split at ek
   ·rename_i hm;cases ek;rw[p1'.int_inv,p2'.int_inv];exact .inl ⟨_,_,rfl,rfl,hm,q _ H2 [] (.flat (p1.same.trans p2.same) .int_mk)⟩
   ·cases ek
  ·rename_i xs j;dsimp only at ek;split at ek
   ·rename_i hz;cases ek;obtain⟨hz1,hz2,hz3,hf⟩:=hz;obtain⟨l,vs,L1,rfl,hl,rl,zl,el⟩:=p1'.lst_inv;have n1:=rl.length;have e0:=rl.Qci hf;subst e0;rw[p2'.int_inv];refine .inr ⟨l,j,vs,rfl,rfl,hl,hz2,hz3,by rw[← n1];exact hz1,λp hp=>?_⟩;have w:HS.Qat (List.replicate j.toNat xs).flatten []=⟨.lst (List.replicate j.toNat xs).flatten,true,[]⟩:=by
     unfold HS.Qat;rw[if_pos (QnD hf _)]
    rw[← w]at q;exact q _ _ (p::[]) (Qaj.Qat (p1.same.trans p2.same) hp (rl.rep _) (by rw[len_rep,Nat.mul_comm];exact hz1) Src.nil Qbv.nil)
   ·cases ek
end
noncomputable def Qb:DA:=λ_=>some ⟨[],true,[]⟩
noncomputable def Qa(fa:DE)(fr:DA):DA:=λU=>(fa U).bind λr=>(fr U).bind λrs=>some ⟨r.d::rs.ds,r.fr && rs.fr,r.M++rs.M⟩
noncomputable def QaF(fa:DA):DE:=λU=>(fa U).bind λr=>if r.ds.length<=64 then some ⟨.tup r.ds,r.fr,r.M⟩else none
noncomputable def QN(fa:DA):DE:=λU=>(fa U).bind λr=>if r.ds.length<=64 then some ⟨.lst r.ds,r.fr,r.M⟩else none
section
variable {X:Cx}{a b e:Expr}{es:List Expr}{fa fb:DE}{fs:DA}{pos:Pos}
theorem QgW:SA X [] Qb:=λH0 A0=>QcW.mono λσ H Q=>exK λU hs F r' rel e q=>by
 cases e;exact q [] H [] ⟨QM.refl _,by simp[Rps],Src.nil,λ_=>⟨Cnt.nil,rfl⟩,Qbv.nil⟩
theorem QeC(ha:SE X e fa)(hr:SA X es fs)(hs:starEach (e::es) X.env=(false,eval e X.env)::starEach es X.env):SA X (e::es) (Qa fa fs):=λH0 A0=>
 (Qaq (ha H0 A0) (hr H0 A0) hs).mono λσ H Q=>exK λU hs F r' rel e q=>by
  refine Qh e λr e1 e=>?_;refine Qh e λrs e2 e=>?_;cases e;refine⟨U,hs,F,r,rel,e1,λx H1 G1 p1=>⟨U,hs,F,rs,rel.ext p1.same,e2,λxs H2 G2 p2=>?_⟩⟩;refine q _ H2 (G1++G2) ⟨p1.same.trans p2.same,?_,p1.src.append p2.src p1.same,λh=>?_,p1.own.append p2.own⟩
  ·simp only[Rps];exact⟨x,xs,G1,G2,rfl,rfl,p1.rp.same p2.same,p2.rp⟩
  ·simp only[Zh]at h;exact⟨(p1.cnt h.1).1.append rel (p2.cnt h.2).1 p1.same p1.rp.mem,by simp only[nls,Zz,(p1.cnt h.1).2,(p2.cnt h.2).2]⟩
theorem Qfh{n:Nat}(h:n<=64):n<=sizeLine:=ZC h (by decide)
theorem QzH{k:Nat}(ha:SA X es fs):SE X (.Tuple es k pos) (QaF fs):=λH0 A0=>
 (Qtq (ha H0 A0)).mono λσ H Q=>exK λU hs F r' rel e q=>by
  refine Qh e λr e1 e=>?_;split at e
  ·rename_i hz;cases e;refine⟨U,hs,F,r,rel,e1,λxs H1 G p=>⟨by rw[← p.rp.length];exact Qfh hz,λc hc=>q _ _ G ⟨p.same.trans (QaH hc),Rp.Qii Qad (p.rp.same (QaH hc)),p.src,λh=>⟨(p.cnt h).1,by simp only[D.nl];exact(p.cnt h).2⟩,p.own⟩⟩⟩
  ·cases e
theorem QtW(ha:SA X es fs):SE X (.List es pos) (QN fs):=λH0 A0=>
 (Qzm (ha H0 A0)).mono λσ H Q=>exK λU hs F r' rel e q=>by
  refine Qh e λr e1 e=>?_;split at e
  ·rename_i hz;cases e;refine⟨U,hs,F,r,rel,e1,λxs H1 G p=>⟨by rw[← p.rp.length];exact Qfh hz,λc hc=>?_⟩⟩;have hH:H c=none:=p.same.free hc;refine q _ _ (c::G) ⟨p.same.trans (QaH hc),Rp.QfE Qad (p.rp.same (QaH hc)) (Qfh hz),λz hz'=>?_,λh=>⟨λz=>?_,by simp only[D.nl,ZU,(p.cnt h).2]⟩,p.own⟩
   ·rcases Zn.mp hz' with rfl | h
    ·exact .inl hH
    ·exact p.src z h
   ·rw[ZaI];have:=(p.cnt h).1 z;split
    ·rename_i e';have e':c=z:=by simpa using e'
     subst e';have h0:G.count c=0:=ZW.mpr λhm=>by obtain⟨vs,w⟩:=p.rp.mem c hm;rw[hc]at w;cases w
     rw[QaU hH];omega
    ·exact this
  ·cases e
noncomputable def D.items:D->Option (List D)
 | .lst xs=>some xs
 | .tup xs=>some xs
 | _=>none
noncomputable def Qv(fa fb:DE):DE:=λU=>(fa U).bind λra=>(fb U).bind λrb=>match rb.d with
 | .int i=>(ra.d.items).bind λxs=>(atI xs i).map λd=>(R.norm ⟨d,ra.fr,ra.M⟩)
 | _=>none
theorem QyT{α β:Type}{xs:List α}{i:Int}{d:α}(h:atI xs i=some d):∃j:Nat,xs[j]? =some d/\∀(ys:List β),ys.length=xs.length->∀y,ys[j]? =some y->atI ys i=some y:=by
 unfold atI at h;cases e:ixN xs.length i with
 | none=>rw[e]at h;cases h
 | some j=>
  rw[e]at h;refine⟨j,h,λys hl y hy=>?_⟩;unfold atI;rw[hl,e];exact hy
theorem QAT(ha:SE X a fa)(hb:SE X b fb)(hs:Qjj b):SE X (.Subscript a b pos) (Qv fa fb):=λH0 A0=>
 (Qn0 (Qrg.or Qlv) (ha H0 A0) (hb H0 A0) hs).mono λσ H Q=>exK λU hs F r' rel e q=>by
  obtain⟨ra,rb,ea,eb,ek⟩:=QrP e;refine two rel ea eb λx y H1 H2 G1 G2 p1 p2=>?_;have p1':=p1.rp.same p2.same;have p2':=p2.rp;have pp:Qaj X.K U F H H2 ra x G1:=⟨p1.same.trans p2.same,p1',p1.src,p1.cnt,p1.own⟩;cases hb':rb.d with
  | int i=>
   rw[hb']at ek p2';rw[p2'.int_inv];refine Qh ek λxs ex ek=>?_;obtain⟨d,ed,ek⟩:=Ze.mp ek;subst ek;obtain⟨j,hj,hm⟩:=QyT ed;have fin:∀(L:LAd) (vs:List V),Rps X.K H2 xs vs L->(∀z,L.count z<=G1.count z)->(G1.length=ra.d.nl->L.length=nls xs)->∃v,atI vs i=some v/\Q v H2:=λL vs rl hc hn=>by
    obtain⟨v,F1,G,F2,hv,eF,rv,hx⟩:=rl.get hj;refine⟨v,hm vs rl.length.symm v hv,q v H2 G (Qaj.norm (Qaj.sub pp rv (λz=>ZC ?_ (hc z)) λz=>hx (hn z)))⟩;rw[eF,Zam,Zam];omega
   cases hra:ra.d with
   | lst ys=>
    rw[hra]at ex p1';cases ex;obtain⟨l,vs,L,rfl,hl,rl,zl,el⟩:=p1'.lst_inv;have hn:G1.length=ra.d.nl->L.length=nls xs:=λhz=>by
     have:=rl.Qa6;simp only[hra,D.nl]at hz;rcases el with rfl | rfl
     ·rw[ZU]at hz;omega
     ·omega
    have hc:∀z,L.count z<=G1.count z:=λz=>by
     rcases el with rfl | rfl
     ·rw[ZaI];omega
     ·exact Zj _
    obtain⟨v,h1,h2⟩:=fin L vs rl hc hn;exact .inl ⟨l,vs,i,v,rfl,rfl,QX hl,h1,h2⟩
   | tup ys=>
    rw[hra]at ex p1';cases ex;obtain⟨l,vs,rfl,hl,rl⟩:=p1'.QaZ;obtain⟨v,h1,h2⟩:=fin G1 vs rl (λz=>Zj _) λz=>(by simpa only[hra,D.nl]using z);exact .inr ⟨l,vs,i,v,rfl,rfl,hl,h1,h2⟩
   | _=>rw[hra]at ex;cases ex
  | _=>rw[hb']at ek;cases ek
noncomputable abbrev DO:=En->Option (Option Int)
noncomputable def Qff:DO:=λ_=>some none
noncomputable def QcJ(f:DE):DO:=λU=>(f U).bind λr=>match r.d with
 | .int i=>some (some i)
 | _=>none
noncomputable def tVO(K:Fgg)(H0:Hp)(A0:LAd)(f:DO):TO:=λσ H Q=>∃U hs F o,Rel K H0 A0 hs U F σ H/\f U=some o/\∀H',QM H H'->Q o H'
def SO(X:Cx)(e:Option Expr)(f:DO):Prop:=∀H0 A0,PO X e (tVO X.K H0 A0 f)
theorem _root_.L2.PO.mono{X:Cx}{e:Option Expr}{t t':TO}(h:PO X e t)(m:∀σ H Q,t' σ H Q->t σ H Q):PO X e t':=by
 intro pins s σ H Q I q;exact h pins s σ H Q I (m σ H Q q)
theorem QyV:SO X none Qff:=λH0 A0=>QxL.mono λσ H Q=>exK λU hs F o rel e q=>by
 cases e;exact q H (QM.refl _)
theorem Qyw(h:SE X a fa):SO X (some a) (QcJ fa):=λH0 A0=>(QxO (h H0 A0)).mono λσ H Q=>exK λU hs F o rel e q=>by
 refine Qh e λr e1 e=>?_;refine⟨U,hs,F,r,rel,e1,λv H1 G p=>?_⟩;have rp:=p.rp;cases hr:r.d with
 | int i=>
  rw[hr]at e rp;cases e;exact⟨i,rp.int_inv,q H1 p.same⟩
 | _=>rw[hr]at e;cases e
noncomputable def cutD(xs:List D)(lo hi:Option Int):List D:=(xs.drop (HT.sIx xs.length 0 lo)).take (HT.sIx xs.length xs.length hi-HT.sIx xs.length 0 lo)
noncomputable def Qeb(fa:DE)(lo hi:DO):DE:=λU=>(fa U).bind λra=>(lo U).bind λl=>(hi U).bind λh=>match ra.d with
 | .lst xs=>some (Qat (cutD xs l h) ra.M)
 | _=>none
theorem Rps.drop:∀{ds:List D}{vs:List V}{F:LAd}{K:Fgg}{H:Hp}(n:Nat),Rps K H ds vs F->∃G,Rps K H (ds.drop n) (vs.drop n) G/\∀a∈G,a∈F
 | [],vs,F,K,H,n,h=>by simp only[Rps]at h;rw[h.1,h.2];exact⟨[],by simp[Rps],λ_ h=>h⟩
 | d::ds,vs,F,K,H,0,h=>⟨F,by simpa using h,λ_ h=>h⟩
 | d::ds,vs,F,K,H,n+1,h=>by
  simp only[Rps]at h;obtain⟨v,ws,F1,F2,e,eF,r,q⟩:=h;subst e eF;obtain⟨G,h1,h2⟩:=Rps.drop n q;exact⟨G,by simpa using h1,λa ha=>Zd _ (h2 a ha)⟩
theorem Rps.take:∀{ds:List D}{vs:List V}{F:LAd}{K:Fgg}{H:Hp}(n:Nat),Rps K H ds vs F->∃G,Rps K H (ds.take n) (vs.take n) G/\∀a∈G,a∈F
 | [],vs,F,K,H,n,h=>by simp only[Rps]at h;rw[h.1,h.2];exact⟨[],by simp[Rps],λ_ h=>h⟩
 | d::ds,vs,F,K,H,0,h=>⟨[],by simp[Rps],λ_ h=>by simp at h⟩
 | d::ds,vs,F,K,H,n+1,h=>by
  simp only[Rps]at h;obtain⟨v,ws,F1,F2,e,eF,r,q⟩:=h;subst e eF;obtain⟨G,h1,h2⟩:=Rps.take n q;refine⟨F1++G,?_,λa ha=>?_⟩
  ·simp only[ZbG,Rps];exact⟨v,_,F1,G,rfl,rfl,r,h1⟩
  ·rcases ZH.mp ha with h | h
   ·exact Zf _ h
   ·exact Zd _ (h2 a h)
theorem QAz{lo hi:Option Expr}{fl fh:DO}{p2:Pos}(ha:SE X a fa)(hl:SO X lo fl)(hh:SO X hi fh):SE X (.Subscript a (.Slice lo hi none p2) pos) (Qeb fa fl fh):=λH0 A0=>
 (Qu1 QyJ (ha H0 A0) (hl H0 A0) (hh H0 A0)).mono λσ H Q=>exK λU hs F r' rel e q=>by
  refine Qh e λra e1 e=>?_;refine Qh e λl e2 e=>?_;refine Qh e λh e3 e=>?_;refine⟨U,hs,F,ra,rel,e1,λx H1 G1 p1=>⟨U,hs,F,l,rel.ext p1.same,e2,λH2 s2=>⟨U,hs,F,h,(rel.ext p1.same).ext s2,e3,λH3 s3=>?_⟩⟩⟩;have rp:=p1.rp.same (s2.trans s3);cases hra:ra.d with
  | lst xs=>
   rw[hra]at e rp;cases e;obtain⟨c,vs,L,rfl,hc,rl,zl,el⟩:=rp.lst_inv;refine⟨c,vs,rfl,QX hc,λp hp=>?_⟩;obtain⟨G2,h2,m2⟩:=rl.drop (HT.sIx xs.length 0 l);obtain⟨G3,h3,m3⟩:=h2.take (HT.sIx xs.length xs.length h-HT.sIx xs.length 0 l);have n1:=rl.length;rw[show QmU vs l h=(vs.drop (HT.sIx xs.length 0 l)).take (HT.sIx xs.length xs.length h-HT.sIx xs.length 0 l) by unfold QmU;rw[n1]];refine q _ _ (p::G3) (Qaj.Qat (p1.same.trans (s2.trans s3)) hp h3 ?_ (λz hz=>p1.src z ?_) p1.own)
   ·unfold cutD;rw[Zbv,Zba];omega
   ·have:=m2 z (m3 z hz);rcases el with rfl | rfl
    ·exact Zc _ this
    ·exact this
  | _=>rw[hra]at e;cases e
noncomputable def dBf(g:List D->Option D)(fs:DA):DE:=λU=>(fs U).bind λr=>(g r.ds).map λd=>⟨d,true,[]⟩
def Qd0(K:Fgg)(g:List D->Option D)(r:List V->Hp->VK->Prop):Prop:=∀ds d,g ds=some d->d.flat=true/\∀H vs F (Q:VK),Rps K H ds vs F->(∀v,(∀H',Rp K H' d v [])->Q v H)->r vs H Q
theorem Qgo{x:Str}{id:String}{g:List D->Option D}{r:List V->Hp->VK->Prop}{p:Pos}(hc:Qbs X (.builtin id) r)(hk:Qd0 X.K g r)(hg:Gl X x)(hm:X.mg x=none)(hv:bootBuiltins x=some (.builtin id))(ha:SA X (e::es) fs)(hn:x≠ "__name__")(hdb:(x == ("__debug__" :Str))=false)
  (he:starEach (e::es) X.env=(false,eval e X.env)::starEach es X.env) (hpl:(backTo pos (starEach es X.env)).any (·.1)=false):SE X (.Call (.Name x p) (e::es) [] pos) (dBf g fs):=λH0 A0=>
 (QkE hc hg hm hv (ha H0 A0) hn hdb he hpl).mono λσ H Q=>exK λU hs F r' rel e q=>by
  refine Qh e λra e1 e=>?_;obtain⟨d,ed,e⟩:=Ze.mp e;subst e;exact⟨U,hs,F,ra,rel,e1,λvs H1 G p1=>(hk _ _ ed).2 H1 vs G Q p1.rp λv hv=>q v H1 [] (.flat p1.same (hv _) (hk _ _ ed).1)⟩
theorem Rps.one{K:Fgg}{H:Hp}{d:D}{vs:List V}{F:LAd}(h:Rps K H [d] vs F):∃v,vs=[v]/\Rp K H d v F:=by
 simp only[Rps]at h;obtain⟨v,ws,F1,F2,rfl,rfl,r,rfl,rfl⟩:=h;exact⟨v,rfl,by simpa using r⟩
theorem Rps.two{K:Fgg}{H:Hp}{d e:D}{vs:List V}{F:LAd}(h:Rps K H [d,e] vs F):∃v w F1 F2,vs=[v,w]/\Rp K H d v F1/\Rp K H e w F2:=by
 simp only[Rps]at h;obtain⟨v,ws,F1,F2,rfl,rfl,r,w,ws',F3,F4,rfl,rfl,r2,rfl,rfl⟩:=h;exact⟨v,w,F1,F3,rfl,r,r2⟩
noncomputable def Qbz:List D->Option D
 | [.lst xs]=>some (.int xs.length)
 | [.tup xs]=>some (.int xs.length)
 | _=>none
theorem QAh{K:Fgg}:Qd0 K Qbz (λxs H Q=>∃p ys,xs=[.ref p]/\(SqL K H p ys∨SqT K H p ys)/\Q (.int ys.length) H):=λds d e=>by
 unfold Qbz at e;split at e
 ·cases e;refine⟨rfl,λH vs F Q r q=>?_⟩;obtain⟨v,rfl,rp⟩:=r.one;obtain⟨l,ws,L,rfl,hl,rl,zl,el⟩:=rp.lst_inv;exact⟨l,ws,rfl,.inl (QX hl),by rw[← rl.length];exact q _ λ_=> .int_mk⟩
 ·cases e;refine⟨rfl,λH vs F Q r q=>?_⟩;obtain⟨v,rfl,rp⟩:=r.one;obtain⟨l,ws,rfl,hl,rl⟩:=rp.QaZ;exact⟨l,ws,rfl,.inr hl,by rw[← rl.length];exact q _ λ_=> .int_mk⟩
 ·cases e
noncomputable def Qmg:List D->Option D
 | [.int i,.int j]=>some (.int (if j<i then j else i))
 | _=>none
noncomputable def Ql5:List D->Option D
 | [.int i,.int j]=>some (.int (if j>i then j else i))
 | _=>none
noncomputable def Qr9:List D->Option D
 | [.int i]=>some (.int (if i<0 then-i else i))
 | _=>none
theorem Qxy{K:Fgg}:Qd0 K Qmg (λxs H Q=>∃i j,xs=[.int i,.int j]/\Q (.int (if j<i then j else i)) H):=λds d e=>by
 unfold Qmg at e;split at e
 ·cases e;refine⟨rfl,λH vs F Q r q=>?_⟩;obtain⟨v,w,F1,F2,rfl,r1,r2⟩:=r.two;exact⟨_,_,by rw[r1.int_inv,r2.int_inv],q _ λ_=> .int_mk⟩
 ·cases e
theorem Qx0{K:Fgg}:Qd0 K Ql5 (λxs H Q=>∃i j,xs=[.int i,.int j]/\Q (.int (if j>i then j else i)) H):=λds d e=>by
 unfold Ql5 at e;split at e
 ·cases e;refine⟨rfl,λH vs F Q r q=>?_⟩;obtain⟨v,w,F1,F2,rfl,r1,r2⟩:=r.two;exact⟨_,_,by rw[r1.int_inv,r2.int_inv],q _ λ_=> .int_mk⟩
 ·cases e
theorem QBh{K:Fgg}:Qd0 K Qr9 (λxs H Q=>∃i,xs=[.int i]/\Q (.int (if i<0 then-i else i)) H):=λds d e=>by
 unfold Qr9 at e;split at e
 ·cases e;refine⟨rfl,λH vs F Q r q=>?_⟩;obtain⟨v,rfl,r1⟩:=r.one;exact⟨_,by rw[r1.int_inv],q _ λ_=> .int_mk⟩
 ·cases e
noncomputable def dList(fs:DA):DE:=λU=>(fs U).bind λr=>match r.ds with
 | [.lst xs]=>some (Qat xs r.M)
 | [.tup xs]=>if xs.length<=sizeLine then some (Qat xs r.M)else none
 | [.dk ks]=>some (Qat (ks.map λk=> .tup (k.map .int)) [])
 | _=>none
end
end HS
namespace HS
open PySem PySem.Spec L2 PyProof.Rows
noncomputable def intsOf:List D->Option (List Int)
 | []=>some []
 | d::ds=>match d with
  | .int i=>(intsOf ds).map (i:: ·)
  | _=>none
theorem Qk7{K:Fgg}{H:Hp}:∀{ds:List D}{vs:List V}{F:LAd}{k:List Int},Rps K H ds vs F->intsOf ds=some k->vs=k.map .int/\F=[]
 | [],vs,F,k,h,e=>by simp only[Rps]at h;cases e;exact h
 | d::ds,vs,F,k,h,e=>by
  simp only[Rps]at h;obtain⟨v,ws,F1,F2,rfl,rfl,r,q⟩:=h;unfold intsOf at e;split at e
  ·obtain⟨k',e1,rfl⟩:=Ze.mp e;obtain⟨rfl,rfl⟩:=Qk7 q e1;simp only[Rp]at r;obtain⟨rfl,rfl⟩:=r;exact⟨rfl,rfl⟩
  ·cases e
theorem Qrd:∀{a b:List Int},a.map (Sum.inl:Int->Key)=b.map Sum.inl->a=b
 | [],[],_=>rfl
 | [],_::_,e=>by simp at e
 | _::_,[],e=>by simp at e
 | x::xs,y::ys,e=>by
  simp only[Zp,List.cons.injEq,Sum.inl.injEq]at e;rw[e.1,Qrd e.2]
noncomputable def Qn5:DE:=λ_=>some ⟨.dk [],true,[]⟩
theorem Qyk{X:Cx}{pos:Pos}:SE X (.Dict [] [] pos) Qn5:=λH0 A0=>Qww.mono λσ H Q=>exK λU hs F r rel e q=>by
 cases e;intro p hp;refine q (.ref p) _ [p] ⟨QaH hp,by simp only[Rp];exact⟨p,rfl,rfl,Qad⟩,λa ha=> .inl (by rw[Zw.mp ha];exact hp),λ_=>⟨λa=>?_,rfl⟩,λi hi=>by cases hi⟩;rw[Zbz];split
 ·rename_i h;have h:p=a:=by simpa using h
  subst h;rw[QaU hp];omega
 ·exact ZO _
end HS
namespace HS
open PySem PySem.Spec L2
mutual
noncomputable def D.py:D->PyData
 | .non=> .none
 | .bl b=> .bool b
 | .int i=> .int i
 | .str x=> .str x
 | .tup xs=> .tuple (pys xs)
 | .lst xs=> .list (pys xs)
 | .exc _=> .none
 | .dk _=> .none
noncomputable def pys:List D->List PyData
 | []=>[]
 | d::ds=>d.py::pys ds
end
noncomputable def D.sim:Nat->D->Bool
 | _,.non=>true
 | _,.bl _=>true
 | _,.int _=>true
 | _,.str x=>PyData.canLay0 (.str x)
 | 0,.tup xs=>xs.isEmpty
 | 0,.lst xs=>xs.isEmpty
 | n+1,.tup xs=>xs.all (D.sim n)
 | n+1,.lst xs=>xs.all (D.sim n)
 | _,.exc _=>false
 | _,.dk _=>false
theorem QfU:∀{ds:List D},(∀d∈ds,d.py.canLay0=true)->PyData.canLayAll0 (pys ds)=true
 | [],_=>rfl
 | d::ds,h=>by
  simp only[pys,PyData.canLayAll0,Zh];exact⟨h d Zg,QfU λe he=>h e (Zc _ he)⟩
theorem QgB:∀{ds:List D},(∀d∈ds,d.py.depth<=n)->PyData.depthAll (pys ds)<=n
 | [],_=>ZO _
 | d::ds,h=>by
  simp only[pys,PyData.depthAll];exact Nat.max_le.mpr ⟨h d Zg,QgB λe he=>h e (Zc _ he)⟩
theorem Qei:∀(n:Nat) (d:D),d.sim n=true->d.py.canLay0=true/\d.py.depth<=n+1
 | n,.exc _,h=>by cases n<;>cases h
 | n,.dk _,h=>by cases n<;>cases h
 | n,.non,_=>by simp[D.py,PyData.canLay0,PyData.depth]
 | n,.bl _,_=>by simp[D.py,PyData.canLay0,PyData.depth]
 | n,.int _,_=>by simp[D.py,PyData.canLay0,PyData.depth]
 | n,.str x,h=>by
  simp only[D.py,PyData.depth];refine⟨?_,ZO _⟩;cases n<;>exact h
 | 0,.tup xs,h=>by
  have:xs=[]:=by simpa[D.sim]using h
  subst this;simp[D.py,pys,PyData.canLay0,PyData.canLayAll0,PyData.depth,PyData.depthAll]
 | 0,.lst xs,h=>by
  have:xs=[]:=by simpa[D.sim]using h
  subst this;simp[D.py,pys,PyData.canLay0,PyData.canLayAll0,PyData.depth,PyData.depthAll]
 | n+1,.tup xs,h=>by
  simp only[D.sim,Zax]at h;simp only[D.py,PyData.canLay0,PyData.depth];exact⟨QfU λd hd=>(Qei n d (h d hd)).1,ZaX (QgB λd hd=>(Qei n d (h d hd)).2) 1⟩
 | n+1,.lst xs,h=>by
  simp only[D.sim,Zax]at h;simp only[D.py,PyData.canLay0,PyData.depth];exact⟨QfU λd hd=>(Qei n d (h d hd)).1,ZaX (QgB λd hd=>(Qei n d (h d hd)).2) 1⟩
noncomputable def deq(a b:D):Bool:=PyData.eqv a.py b.py
theorem QpV(h:d.sim n=true):deq d d=true:=SeqAt.eqv_refl _ (Qei n d h).1
mutual
noncomputable def D.noX:D->Bool
 | .exc _=>false
 | .dk _=>false
 | .tup xs=>Qk0 xs
 | .lst xs=>Qk0 xs
 | .non=>true
 | .bl _=>true
 | .int _=>true
 | .str _=>true
noncomputable def Qk0:List D->Bool
 | []=>true
 | d::ds=>d.noX && Qk0 ds
end
theorem Qmx:∀{ds:List D},(∀d∈ds,d.noX=true)->Qk0 ds=true
 | [],_=>rfl
 | d::ds,h=>by
  simp only[Qk0,Zh];exact⟨h d Zg,Qmx λe he=>h e (Zc _ he)⟩
theorem Qft:∀(n:Nat) (d:D),d.sim n=true->d.noX=true
 | n,.exc _,h=>by cases n<;>cases h
 | n,.dk _,h=>by cases n<;>cases h
 | n,.non,_=>rfl
 | n,.bl _,_=>rfl
 | n,.int _,_=>rfl
 | n,.str x,_=>rfl
 | 0,.tup xs,h=>by
  have:xs=[]:=by simpa[D.sim]using h
  subst this;rfl
 | 0,.lst xs,h=>by
  have:xs=[]:=by simpa[D.sim]using h
  subst this;rfl
 | n+1,.tup xs,h=>by
  simp only[D.sim,Zax]at h;simp only[D.noX];exact Qmx λd hd=>Qft n d (h d hd)
 | n+1,.lst xs,h=>by
  simp only[D.sim,Zax]at h;simp only[D.noX];exact Qmx λd hd=>Qft n d (h d hd)
section
variable {X:Cx}{pins:List (Addr×Obj)}{σ:L2.St}{H:Hp}{s:Shared}
mutual
theorem Rp.reads(I:Inv X pins σ H s):∀{d:D}{v:V}{F:LAd}{u:Value},d.noX=true->Rp X.K H d v F->RelV v u->∃as,Reads s.heap u d.py as
 | .exc _,v,_,u,hx,h,r=>by cases hx
 | .dk _,v,_,u,hx,h,r=>by cases hx
 | .non,v,_,u,hx,h,r=>by
  rw[h.Qmi]at r;cases(show u=Value.none from r);exact⟨_,.none⟩
 | .bl b,v,_,u,hx,h,r=>by
  rw[h.Qfz]at r;cases(show u=Value.bool b from r);exact⟨_,.bool b⟩
 | .int i,v,_,u,hx,h,r=>by
  rw[h.int_inv]at r;obtain⟨t,rfl⟩:=(show ∃t,u=Value.int i t from r);exact⟨_,.int i t⟩
 | .str i,v,_,u,hx,h,r=>by
  rw[h.str_inv]at r;obtain⟨t,rfl⟩:=(show ∃t,u=Value.str i t from r);exact⟨_,.str i t⟩
 | .tup ds,v,_,u,hx,h,r=>by
  obtain⟨a,vs,rfl,hq,rs⟩:=h.QaZ;cases(show u=Value.ref a from r);obtain⟨its,rv,⟨o,h1,h2,n,h3⟩,_⟩:=I.tuple hq;obtain⟨as,ra⟩:=Rps.reads I (by simpa only[D.noX]using hx) rs rv;exact⟨_,.tuple h1 h2 h3 (by simpa using ra)⟩
 | .lst ds,v,_,u,hx,h,r=>by
  simp only[Rp]at h;obtain⟨hz,a,vs,rfl,h⟩:=h;have key:∃G,(H a=some (.lst vs)∨Fix X.K H a vs)/\Rps X.K H ds vs G:=by
   rcases h with⟨G,_,q,rs⟩ | ⟨q,rs⟩
   ·exact⟨G,.inl q,rs⟩
   ·exact⟨_,.inr q,rs⟩
  obtain⟨G,hq,rs⟩:=key;cases(show u=Value.ref a from r);obtain⟨_,its,n,rv,_,e⟩:=I.Qol hq;obtain⟨as,ra⟩:=Rps.reads I (by simpa only[D.noX]using hx) rs rv;exact⟨_,.list e rfl rfl (by simpa using ra)⟩
theorem Rps.reads(I:Inv X pins σ H s):∀{ds:List D}{vs:List V}{F:LAd}{us:List Value},Qk0 ds=true->Rps X.K H ds vs F->QA vs us->∃as,ReadsAll s.heap us (pys ds) as
 | [],vs,_,us,_,h,r=>by
  simp only[Rps]at h;rw[h.1]at r;cases r;exact⟨_,.nil⟩
 | d::ds,vs,_,us,hx,h,r=>by
  simp only[Qk0,Zh]at hx;simp only[Rps]at h;obtain⟨v,ws,F1,F2,rfl,rfl,h1,h2⟩:=h;cases r with
  | cons r rr=>
   obtain⟨as,ra⟩:=Rp.reads I hx.1 h1 r;obtain⟨bs,rb⟩:=Rps.reads I hx.2 h2 rr;exact⟨_,.cons ra rb⟩
end
end
noncomputable def gEq(a b:D):Option D:=if a.sim 8 && b.sim 8 then some (.bl (deq a b))else none
noncomputable def gNe(a b:D):Option D:=if a.sim 8 && b.sim 8 then some (.bl (!deq a b))else none
noncomputable def QBc(K:Fgg):R2:=λx y H Q=>∃a b F G,Rp K H a x F/\Rp K H b y G/\a.sim 8=true/\b.sim 8=true/\Q (.bl (deq a b)) H
noncomputable def QzR(K:Fgg):R2:=λx y H Q=>∃a b F G,Rp K H a x F/\Rp K H b y G/\a.sim 8=true/\b.sim 8=true/\Q (.bl (!deq a b)) H
section
variable {X:Cx}
theorem Qz6(hu:X.A.units+64<cLine):OpR X (compareOp .Eq) (QBc X.K):=by
 intro pins s σ H x y v u Q I rx ry h;obtain⟨a,b,F,G,ha,hb,sa,sb,q⟩:=h;obtain⟨as,ra⟩:=Rp.reads I (Qft 8 _ sa) ha rx;obtain⟨bs,rb⟩:=Rp.reads I (Qft 8 _ sb) hb ry;have h1:=Qei 8 a sa;have h2:=Qei 8 b sb;exact SeqAt.compareEq_reads ra rb h1.1 h2.1 (by have:=Nat.min_le_left a.py.depth b.py.depth;omega) ⟨.bl _,H,I,rfl,q⟩
theorem QzX(hu:X.A.units+64<cLine):OpR X (compareOp .NotEq) (QzR X.K):=by
 intro pins s σ H x y v u Q I rx ry h;obtain⟨a,b,F,G,ha,hb,sa,sb,q⟩:=h;obtain⟨as,ra⟩:=Rp.reads I (Qft 8 _ sa) ha rx;obtain⟨bs,rb⟩:=Rp.reads I (Qft 8 _ sb) hb ry;have h1:=Qei 8 a sa;have h2:=Qei 8 b sb;exact SeqAt.compareNe_reads ra rb h1.1 h2.1 (by have:=Nat.min_le_left a.py.depth b.py.depth;omega) ⟨.bl _,H,I,rfl,q⟩
theorem QCd:QcD K gEq (QBc K):=λa b d e=>by
 unfold gEq at e;split at e
 ·rename_i h;simp only[Zh]at h;cases e;exact⟨rfl,λH x y F G Q ha hb q=>⟨a,b,F,G,ha,hb,h.1,h.2,q _ λ_=> .QcO⟩⟩
 ·cases e
theorem QBS:QcD K gNe (QzR K):=λa b d e=>by
 unfold gNe at e;split at e
 ·rename_i h;simp only[Zh]at h;cases e;exact⟨rfl,λH x y F G Q ha hb q=>⟨a,b,F,G,ha,hb,h.1,h.2,q _ λ_=> .QcO⟩⟩
 ·cases e
noncomputable def D.tyN:D->String
 | .non=> "NoneType" | .bl _=> "bool" | .int _=> "int" | .str _=> "str" | .tup _=> "tuple" | .lst _=> "list" | .exc _=> "?" | .dk _=> "?"
noncomputable def D.isE:D->Bool
 | .exc _=>true
 | .dk _=>true
 | _=>false
noncomputable def D.isa(T:String)(d:D):Option Bool:=if(T == "int" || T == "bool" || T == "list" || T == "tuple" || T == "str") && !d.isE then some (d.tyN == T || (d.tyN == "bool" && T == "int"))else none
theorem Qzs(I:Inv X pins σ H s)(rp:Rp X.K H d v F)(rx:RelV v u)(e:d.isa T=some b)(h:∀tk,Q (.bool b) {s with toks:=tk}):
  wpAny (model X.prog X.w) A (call (.builtin "isinstance") [u,.type T]) Q E s:=by
 have kit:PySem.W.kitOne X.K (.type d.tyN) (.type T)=some b:=by
  unfold D.isa at e;split at e
  ·rename_i hT;cases e;simp only[Zh,Zcd,beq_iff_eq]at hT;obtain⟨hT,hE⟩:=hT;rcases hT with(((rfl | rfl) | rfl) | rfl) | rfl<;>cases d<;>first | rfl | (cases hE)
  ·cases e
 cases d with
 | exc x=>unfold D.isa at e;split at e;(rename_i hT;exfalso;simp only[Zh]at hT;exact nomatch hT.2);cases e
 | dk x=>unfold D.isa at e;split at e;(rename_i hT;exfalso;simp only[Zh]at hT;exact nomatch hT.2);cases e
 | non=>rw[rp.Qmi]at rx;cases(show u=Value.none from rx);exact ZaJ PySem.W.kitx_none I.kIn True.intro kit (λz=>nomatch z) h
 | bl y=>rw[rp.Qfz]at rx;cases(show u=Value.bool y from rx);exact ZaJ PySem.W.kitx_bool I.kIn True.intro kit (λz=>nomatch z) h
 | int i=>rw[rp.int_inv]at rx;obtain⟨t,q⟩:=(show ∃t,u=Value.int i t from rx);cases q;exact ZaJ PySem.W.kitx_int I.kIn True.intro kit (λz=>nomatch z) h
 | str y=>rw[rp.str_inv]at rx;obtain⟨t,q⟩:=(show ∃t,u=Value.str y t from rx);cases q;exact ZaJ PySem.W.kitx_str I.kIn True.intro kit (λz=>nomatch z) h
 | tup ds=>
  obtain⟨a,vs,rfl,hq,_⟩:=rp.QaZ;cases(show u=Value.ref a from rx);obtain⟨its,rv,⟨o,h1,h2,n,h3⟩,_⟩:=I.tuple hq;exact ZaJ PySem.W.kitx_tuple I.kIn ⟨o,h1,h2⟩ kit (λz=>nomatch z) h
 | lst ds=>
  obtain⟨a,vs,G,rfl,hq,_⟩:=rp.lst_inv;cases(show u=Value.ref a from rx);obtain⟨_,its,n,rv,_,e1⟩:=I.Qol hq;exact ZaJ PySem.W.kitx_list I.kIn ⟨_,e1,rfl⟩ kit (λz=>nomatch z) h
noncomputable def QCI(K:Fgg):List V->Hp->VK->Prop:=λxs H Q=>∃x T d F b,xs=[x,.ty T]/\Rp K H d x F/\d.isa T=some b/\Q (.bl b) H
theorem Qvh:Qbs X (.builtin "isinstance") (QCI X.K):=by
 intro pins s σ H xs us Q I r h;obtain⟨x,T,d,F,b,rfl,rp,e,q⟩:=h;obtain⟨u,w,rfl,ru,rw'⟩:=vals2 r;cases(show w=Value.type T from rw');exact Qzs I rp ru e λtk=>⟨.bl b,H,I.tok _,rfl,q⟩
noncomputable def QeF(T:String)(fa:DE):DE:=λU=>(fa U).bind λr=>(r.d.isa T).map λb=>⟨.bl b,true,[]⟩
theorem QAW(hg:Gl X "isinstance")(hm:X.mg "isinstance" =none)(ha:SE X a fa)(hT:PE X (.Name x p2) (tC (.ty T)))
  (he:starEach [a,.Name x p2] X.env=(false,eval a X.env)::starEach [.Name x p2] X.env):SE X (.Call (.Name "isinstance" p) [a,.Name x p2] [] pos) (QeF T fa):=λH0 A0=>
 (QkE Qvh hg hm ZbD (Qaq (ha H0 A0) (Qaq hT QcW) he) (by decide) (by decide) he (by rfl)).mono λσ H Q=>exK λU hs F r' rel e q=>by
  refine Qh e λr e1 e=>?_;obtain⟨b,eb,e⟩:=Ze.mp e;subst e;exact⟨U,hs,F,r,rel,e1,λv H1 G p=>⟨v,T,r.d,G,b,rfl,p.rp,eb,q _ H1 [] (.flat p.same .QcO)⟩⟩
noncomputable def D.tru:D->Option Bool
 | .non=>some false
 | .bl b=>some b
 | .int i=>some (i != 0)
 | .lst xs=>some (!xs.isEmpty)
 | .tup xs=>some (!xs.isEmpty)
 | .str _=>none
 | .exc _=>none
 | .dk _=>none
theorem Qn1(h:Rp K H d v F)(e:d.tru=some b):Qu0 K v H b:=by
 have emp:∀{ds:List D}{vs:List V}{G:LAd},Rps K H ds vs G->(!ds.isEmpty)= !vs.isEmpty:=λ{ds vs G} r=>by
  have:=r.length;cases ds<;>cases vs<;>simp_all
 cases d with
 | non=>rw[h.Qmi];cases e;exact rfl
 | bl c=>rw[h.Qfz];cases e;exact rfl
 | int i=>rw[h.int_inv];cases e;exact rfl
 | str i=>cases e
 | exc i=>cases e
 | dk i=>cases e
 | tup ds=>cases e;obtain⟨a,vs,rfl,hq,r⟩:=h.QaZ;exact .inr (.inl ⟨vs,hq,emp r⟩)
 | lst ds=>cases e;obtain⟨a,vs,G,rfl,hq,r,_⟩:=h.lst_inv;exact .inl ⟨vs,QX hq,emp r⟩
noncomputable def QC(fa:DE):DT:=λU=>(fa U).bind λr=>r.d.tru
noncomputable def QhI(f g:DT):DT:=λU=>(f U).bind λb=>if b=true then g U else some false
noncomputable def bOr(f g:DT):DT:=λU=>(f U).bind λb=>if b=true then some true else g U
noncomputable def QbL(f:DT):DT:=λU=>(f U).bind λb=>some (!b)
def SW(X:Cx)(e:Expr)(f:DT):Prop:=∀H0 A0,PW X e (tVT X.K H0 A0 f)
theorem _root_.L2.PW.mono(h:PW X e t)(m:∀σ H Q,t' σ H Q->t σ H Q):PW X e t':=λwh pins s σ H Q I q=>h wh pins s σ H Q I (m σ H Q q)
variable {a b e:Expr}{fa fb:DE}{ga gb gc:DT}{pos:Pos}{rest:List Expr}
theorem QtL(ha:SE X a fa)(he:∀whole,isTrue a X.env whole=(do let v ← whole;standAt a.pos;holding [v] (truthy v))):ST X a (QC fa):=λH0 A0=>
 (Qvx (ha H0 A0) he).mono λσ H Q=>exK λU hs F b rel e q=>by
  refine Qh e λr e1 e=>?_;exact⟨U,hs,F,r,rel,e1,λv H1 G p=>⟨b,Qn1 p.rp e,q H1 p.same⟩⟩
theorem Qz2(ho:OpR X (compareOp op) r)(hg:QcD X.K g r)(hbl:∀a b d,g a b=some d->∃k,d= .bl k)(ha:SE X a fa)(hb:SE X b fb)(hm:behindInMarks op b=false):ST X (.Compare a [op] [b] pos) (QC (dOp g fa fb)):=λH0 A0=>
 (Qyx ho (ha H0 A0) (hb H0 A0) hm).mono λσ H Q=>exK λU hs F k rel e q=>by
  refine Qh e λr' e0 e=>?_;obtain⟨ra,rb,d,ea,eb,eg,rfl⟩:=QmP e0;obtain⟨k',rfl⟩:=hbl _ _ _ eg;cases e;refine two rel ea eb λx y H1 H2 G1 G2 p1 p2=>(hg _ _ _ eg).2 H2 x y G1 G2 _ (p1.rp.same p2.same) p2.rp λv hv=>?_;exact⟨_,(hv H2).Qfz,q H2 (p1.same.trans p2.same)⟩
theorem Qt1(ha:ST X a ga):ST X (.UnaryOp .Not a pos) (QbL ga):=λH0 A0=>
 (Qz3 (ha H0 A0)).mono λσ H Q=>exK λU hs F b rel e q=>by
  refine Qh e λc e1 e=>?_;cases e;exact⟨U,hs,F,c,rel,e1,λH1 s1=>q H1 s1⟩
theorem Qyq(ha:ST X a ga):SW X (.BoolOp .And [a] pos) ga:=λH0 A0=>QxP (ha H0 A0)
theorem Qs5(ha:ST X a ga):SW X (.BoolOp .Or [a] pos) ga:=λH0 A0=>QBq (ha H0 A0)
theorem Qz0(ha:ST X a ga)(hb:SW X (.BoolOp .And (b::rest) pos) gb):SW X (.BoolOp .And (a::b::rest) pos) (QhI ga gb):=λH0 A0=>
 (QAr (ha H0 A0) (hb H0 A0)).mono λσ H Q=>exK λU hs F c rel e q=>by
  refine Qh e λd e1 e=>?_;refine⟨U,hs,F,d,rel,e1,λH1 s1=>?_⟩;cases d with
  | true=>exact⟨U,hs,F,c,rel.ext s1,e,λH2 s2=>q H2 (s1.trans s2)⟩
  | false=>cases e;exact q H1 s1
theorem Qxe(ha:ST X a ga)(hb:SW X (.BoolOp .Or (b::rest) pos) gb):SW X (.BoolOp .Or (a::b::rest) pos) (bOr ga gb):=λH0 A0=>
 (QB1 (ha H0 A0) (hb H0 A0)).mono λσ H Q=>exK λU hs F c rel e q=>by
  refine Qh e λd e1 e=>?_;refine⟨U,hs,F,d,rel,e1,λH1 s1=>?_⟩;cases d with
  | true=>cases e;exact q H1 s1
  | false=>exact⟨U,hs,F,c,rel.ext s1,e,λH2 s2=>q H2 (s1.trans s2)⟩
theorem SW.st(h:SW X e ga):ST X e ga:=λH0 A0=>(h H0 A0).pt
noncomputable def QcF(fa fb:DE):DE:=λU=>(fa U).bind λra=>(ra.d.tru).bind λb=>if b=true then fb U else some ra
noncomputable def dOr(fa fb:DE):DE:=λU=>(fa U).bind λra=>(ra.d.tru).bind λb=>if b=true then some ra else fb U
noncomputable def Qsn(fa:DE):DE:=λU=>(fa U).bind λra=>(ra.d.tru).bind λb=>some ⟨.bl (!b),true,[]⟩
theorem Qpg{op}(h:SE X a fa):SE X (.BoolOp op [a] pos) fa:=λH0 A0=>QAM (h H0 A0)
theorem Qaj.ext(s:QM H H1)(p:Qaj K U F H1 H2 r v G)(rel:Rel K H0 A0 hs U F σ H):Qaj K U F H H2 r v G where
 same:=s.trans p.same
 rp:=p.rp
 src:=λa ha=>(p.src a ha).elim (λz=> .inl (s.free z)) .inr
 cnt:=λh=>⟨λa=>ZC ((p.cnt h).1 a) (ZaX (by
  cases q:H1 a with
  | none=>rw[QaU q,QaU (s.free q)];exact Zj _
  | some o=>rw[Qet q];exact ZO _) _),(p.cnt h).2⟩
 own:=p.own
theorem Qt5(ha:SE X a fa)(hb:SE X (.BoolOp .And (b::rest) pos) fb):SE X (.BoolOp .And (a::b::rest) pos) (QcF fa fb):=λH0 A0=>by
 intro pins s σ H Q I ⟨U,hs,F,r,rel,e,q⟩;refine Qh e λra e1 e=>?_;refine Qh e λc e2 e=>?_;refine PyProof.Rows.BoolOp_and (thn (ha H0 A0 pins s σ H _ I ⟨U,hs,F,ra,rel,e1,λv H' G p=>(⟨G,p⟩:∃G,Qaj X.K U F H H' ra v G)⟩) λv s1 Z=>?_);obtain⟨x,H1,I1,r1,G,p⟩:=Z;refine thn (Qlx pins s1 σ H1 x v (λk H2=>k=c/\H2=H1) I1 r1 ⟨c,Qn1 p.rp e2,rfl,rfl⟩) λk s2 Z=>?_;obtain⟨H2,I2,e3,e4⟩:=Z;subst e3 e4;cases k with
 | true=>exact hb H0 A0 pins s2 σ _ Q I2 ⟨U,hs,F,r,rel.ext p.same,e,λw H3 G3 p3=>q w H3 G3 (p3.ext p.same rel)⟩
 | false=>cases e;exact⟨x,_,I2,r1,q x _ G p⟩
theorem Qxf(ha:SE X a fa)(hb:SE X (.BoolOp .Or (b::rest) pos) fb):SE X (.BoolOp .Or (a::b::rest) pos) (dOr fa fb):=λH0 A0=>by
 intro pins s σ H Q I ⟨U,hs,F,r,rel,e,q⟩;refine Qh e λra e1 e=>?_;refine Qh e λc e2 e=>?_;refine PyProof.Rows.BoolOp_or (thn (ha H0 A0 pins s σ H _ I ⟨U,hs,F,ra,rel,e1,λv H' G p=>(⟨G,p⟩:∃G,Qaj X.K U F H H' ra v G)⟩) λv s1 Z=>?_);obtain⟨x,H1,I1,r1,G,p⟩:=Z;refine thn (Qlx pins s1 σ H1 x v (λk H2=>k=c/\H2=H1) I1 r1 ⟨c,Qn1 p.rp e2,rfl,rfl⟩) λk s2 Z=>?_;obtain⟨H2,I2,e3,e4⟩:=Z;subst e3 e4;cases k with
 | false=>exact hb H0 A0 pins s2 σ _ Q I2 ⟨U,hs,F,r,rel.ext p.same,e,λw H3 G3 p3=>q w H3 G3 (p3.ext p.same rel)⟩
 | true=>cases e;exact⟨x,_,I2,r1,q x _ G p⟩
theorem QtG(ha:SE X a fa):SE X (.UnaryOp .Not a pos) (Qsn fa):=λH0 A0=>by
 intro pins s σ H Q I ⟨U,hs,F,r,rel,e,q⟩;refine Qh e λra e1 e=>?_;refine Qh e λc e2 e=>?_;cases e;refine PyProof.Rows.UnaryOp_ (thn (ha H0 A0 pins s σ H _ I ⟨U,hs,F,ra,rel,e1,λv H' G p=>(⟨G,p⟩:∃G,Qaj X.K U F H H' ra v G)⟩) λv s1 Z=>?_);obtain⟨x,H1,I1,r1,G,p⟩:=Z;refine PyProof.Rows.not_of (thn (Qlx pins s1 σ H1 x v (λk H2=>k=c/\H2=H1) I1 r1 ⟨c,Qn1 p.rp e2,rfl,rfl⟩) λk s2 Z=>?_);obtain⟨H2,I2,e3,e4⟩:=Z;subst e3 e4;exact⟨.bl (!k),_,I2,rfl,q _ _ [] (.flat p.same .QcO)⟩
noncomputable def QdU(fa:DE):DE:=λU=>(fa U).bind λra=>match ra.d with
 | .int i=>some ⟨.int (-i),true,[]⟩
 | _=>none
theorem QAk(ha:SE X a fa):SE X (.UnaryOp .USub a pos) (QdU fa):=λH0 A0=>
 (QB0 QBr (ha H0 A0)).mono λσ H Q=>exK λU hs F r rel e q=>by
  refine Qh e λra e1 e=>?_;refine⟨U,hs,F,ra,rel,e1,λv H1 G p=>?_⟩;have rp:=p.rp;cases hr:ra.d with
  | int i=>
   rw[hr]at e rp;cases e;exact⟨i,rp.int_inv,q _ H1 [] (.flat p.same .int_mk)⟩
  | _=>rw[hr]at e;cases e
end
end HS
namespace HS
open PySem PySem.Spec L2
section
def Qc7(U U':En):Prop:=U'.length=U.length/\∀(i:Nat) d b,U'[i]? =some (some (d,b))->∃b',U[i]? =some (some (d,b'))/\(b=true->b'=true)
theorem Qc7.refl:Qc7 U U:=⟨rfl,λi d b h=>⟨b,h,id⟩⟩
theorem Qc7.trans(a:Qc7 U U')(b:Qc7 U' U''):Qc7 U U'':=⟨b.1.trans a.1,λi d c h=>by
 obtain⟨c',h1,h2⟩:=b.2 i d c h;obtain⟨c'',h3,h4⟩:=a.2 i d c' h1;exact⟨c'',h3,λz=>h4 (h2 z)⟩⟩
theorem Rel.weak(r:Rel K H0 A0 hs U F σ H)(w:Qc7 U U'):Rel K H0 A0 hs U' F σ H where
 len:=w.1.trans r.len
 val:=λi d b e=>let ⟨b',h,_⟩:=w.2 i d b e;r.val i d b' h
 own:=λi d e=>by
  obtain⟨b',h,hb⟩:=w.2 i d true e;have:b'=true:=hb rfl;subst this;obtain⟨h1,h2,h3,h4,h5⟩:=r.own i d h;exact⟨h1,h2,h3,λj d' b' hj e'=>let ⟨b'',h',_⟩:=w.2 j d' b' e';h4 j d' b'' hj h',h5⟩
 src:=λi d b e=>let ⟨b',h,_⟩:=w.2 i d b e;r.src i d b' h
 held:=r.held
 same:=r.same
noncomputable def kill:List Nat->En->En
 | [],U=>U
 | i::M,U=>kill M (U.set i none)
noncomputable def Qa7:List Nat->En->En
 | [],U=>U
 | i::M,U=>Qa7 M (match U[i]? with
  | some (some (d,_))=>U.set i (some (d,false))
  | _=>U)
theorem QnE(i:Nat):Qc7 U (U.set i none):=⟨by simp,λj d b h=>by
 by_cases hj:i=j
 ·subst hj;by_cases hl:i<U.length
  ·rw[Zu hl]at h;cases h
  ·rw[ZA (by simp;omega)]at h;cases h
 ·rw[Zi hj]at h;exact⟨b,h,id⟩⟩
theorem QcP:∀(M:List Nat) (U:En),Qc7 U (kill M U)
 | [],U=> .refl
 | i::M,U=>(QnE i).trans (QcP M _)
theorem Qio:∀(M:List Nat) (U:En) (i:Nat) (d:D) (b:Bool),i∈M->(kill M U)[i]? =some (some (d,b))->False
 | [],U,i,d,b,h,_=>by simp at h
 | j::M,U,i,d,b,h,e=>by
  rcases Zn.mp h with rfl | h
  ·obtain⟨b',e',_⟩:=(QcP M (U.set i none)).2 i d b e;by_cases hl:i<U.length
   ·rw[Zu hl]at e';cases e'
   ·rw[ZA (by simp;omega)]at e';cases e'
  ·exact Qio M _ i d b h e
theorem Qu9(i:Nat):Qc7 U (match U[i]? with
  | some (some (d,_))=>U.set i (some (d,false))
  | _=>U):=by
 split
 ·rename_i d b e;refine⟨by simp,λj d' b' h=>?_⟩;by_cases hj:i=j
  ·subst hj;have hl:i<U.length:=(Zm.mp e).1;rw[Zu hl]at h;cases h;exact⟨b,e,λz=>by cases z⟩
  ·rw[Zi hj]at h;exact⟨b',h,id⟩
 ·exact .refl
theorem Qcd:∀(M:List Nat) (U:En),Qc7 U (Qa7 M U)
 | [],U=> .refl
 | i::M,U=>(Qu9 i).trans (Qcd M _)
theorem QlP:∀(M:List Nat) (U:En) (i:Nat) (d:D),i∈M->(Qa7 M U)[i]? =some (some (d,true))->False
 | [],U,i,d,h,_=>by simp at h
 | j::M,U,i,d,h,e=>by
  rcases Zn.mp h with rfl | h
  ·obtain⟨b',e',hb⟩:=(Qcd M _).2 i d true e;have:b'=true:=hb rfl;subst this;split at e'
   ·rename_i d' b e1;have hl:i<U.length:=(Zm.mp e1).1;rw[Zu hl]at e';cases e'
   ·rename_i h1;exact h1 d true e'
  ·exact QlP M _ i d h e
def Shr(H0:Hp)(A0:LAd)(U:En)(F:Nat->List Addr)(G:LAd):Prop:=
 ∀a∈G,(H0 a=none∨a∈A0)/\∀(i:Nat) d,U[i]? =some (some (d,true))->a∉F i
theorem Shr.of(r:Rel K H0 A0 hs U F σ H)(s:Src U F H M G):Shr H0 A0 (Qa7 M U) F G:=λa ha=>by
 have w:=Qcd M U;rcases s a ha with h | ⟨i,d,b,e,m,hm⟩
 ·refine⟨.inl (r.same.free h),λj d' e' hj=>?_⟩;obtain⟨b',e2,_⟩:=w.2 j d' true e';obtain⟨vs,q⟩:=r.mem e2 hj;rw[h]at q;cases q
 ·refine⟨r.src i d b e a m,λj d' e' hj=>?_⟩;obtain⟨b',e2,hb⟩:=w.2 j d' true e';have:b'=true:=hb rfl;subst this;by_cases hij:i=j
  ·subst hij;rw[e]at e2;cases e2;exact QlP M U i _ (hm rfl) e'
  ·exact(r.own j d' e2).2.2.2.1 i d b hij e a hj m
theorem Rel.Qr0(r:Rel K H0 A0 hs U F σ H)(rp:Rp K H d v G)(sh:Shr H0 A0 U F G):
  Rel K H0 A0 hs (U.set i (some (d,d.flat))) (λj=>if j=i then G else F j) (σ.set i (some v)) H where
 len:=by simp[r.len]
 val:=λj d' b e=>by
  by_cases hj:j=i
  ·subst hj;have hl:j<U.length:=by
    by_cases hl:j<U.length
    ·exact hl
    ·rw[ZA (by simp;omega)]at e;cases e
   rw[Zu hl]at e;cases e;exact⟨v,by rw[Zu (by rw[← r.len];exact hl)],by rw[if_pos rfl];exact rp⟩
  ·rw[Zi (Ne.symm hj)]at e;obtain⟨w,h1,h2⟩:=r.val j d' b e;exact⟨w,by rw[Zi (Ne.symm hj)];exact h1,by rw[if_neg hj];exact h2⟩
 own:=λj d' e=>by
  by_cases hj:j=i
  ·subst hj;have hl:j<U.length:=by
    by_cases hl:j<U.length
    ·exact hl
    ·rw[ZA (by simp;omega)]at e;cases e
   rw[Zu hl]at e;have e1:=Option.some.inj (Option.some.inj e);have ed:d=d':=congrArg Prod.fst e1;have ef:d.flat=true:=congrArg Prod.snd e1;subst ed;have:=rp.Qci ef;subst this;rw[if_pos rfl];exact⟨(QdM d ef).symm,ZaD,λa ha=>by simp at ha,λ_ _ _ _ _ a ha=>by simp at ha,λ_ _ a ha=>by simp at ha⟩
  ·rw[Zi (Ne.symm hj)]at e;obtain⟨h1,h2,h3,h4,h5⟩:=r.own j d' e;rw[if_neg hj];refine⟨h1,h2,h3,λk d'' b hk ek a ha=>?_,h5⟩;by_cases hki:k=i
   ·subst hki;rw[if_pos rfl];exact λhG=>(sh a hG).2 j d' e ha
   ·rw[Zi (Ne.symm hki)]at ek;rw[if_neg hki];exact h4 k d'' b hk ek a ha
 src:=λj d' b e a ha=>by
  by_cases hj:j=i
  ·subst hj;rw[if_pos rfl]at ha;exact(sh a ha).1
  ·rw[Zi (Ne.symm hj)]at e;rw[if_neg hj]at ha;exact r.src j d' b e a ha
 held:=r.held
 same:=r.same
theorem QCx(r:Rel K H0 A0 hs U F σ H)(ow:Qbv U M)(nd:M.Nodup)(a:Addr):((M.map F).flatten).count a<=1:=by
 induction M with
 | nil=>simp
 | cons i M ih=>
  rw[Zp,Zal,Zam];obtain⟨h1,h2⟩:=Zat.mp nd;have ih':=ih (λj hj=>ow j (Zc _ hj)) h2;obtain⟨d,e⟩:=ow i Zg;obtain⟨_,nd1,_,apart,_⟩:=r.own i d e;by_cases ha:a∈F i
  ·have c1:(F i).count a<=1:=Zaz.mp nd1 a;have c2:((M.map F).flatten).count a=0:=ZW.mpr λhm=>by
    obtain⟨l,hl,hal⟩:=Zbw.mp hm;obtain⟨j,hj,rfl⟩:=ZT.mp hl;obtain⟨d',e'⟩:=ow j (Zc _ hj);exact apart j d' true (λz=>h1 (z▸hj)) e' a ha hal
   omega
  ·have:(F i).count a=0:=ZW.mpr ha;omega
theorem Qaj.fresh(r:Rel K H0 A0 hs U F σ H)(p:Qaj K U F H H' rr v G)(hf:rr.fr=true)(nd:rr.M.Nodup):
  G.Nodup/\∀a∈G,H0 a=none/\(H a=none∨∃i d,i∈rr.M/\U[i]? =some (some (d,true))/\a∈F i):=by
 obtain⟨c,_⟩:=p.cnt hf;refine⟨Zaz.mpr λa=>?_,λa ha=>?_⟩
 ·have h1:=c a;have h2:=QCx r p.own nd a;cases q:H a with
  | none=>rw[QaU q,r.fl0 p.own q]at h1;omega
  | some o=>rw[Qet q]at h1;omega
 ·cases q:H a with
  | none=>exact⟨r.same.free q,.inl rfl⟩
  | some o=>
   have h1:=c a;rw[Qet q]at h1;have h2:0<G.count a:=Zaw.mpr ha;obtain⟨l,hl,hal⟩:=Zbw.mp (Zaw.mp (by omega:0<((rr.M.map F).flatten).count a));obtain⟨i,hi,rfl⟩:=ZT.mp hl;obtain⟨d,e⟩:=p.own i hi;exact⟨(r.own i d e).2.2.1 a hal,.inr ⟨i,d,hi,e,hal⟩⟩
theorem Rel.QDq(r:Rel K H0 A0 hs U F σ H)(p:Qaj K U F H H' rr v G)(hf:rr.fr=true)(nd:rr.M.Nodup):
  Rel K H0 A0 hs ((kill rr.M U).set i (some (rr.d,true))) (λj=>if j=i then G else F j) (σ.set i (some v)) H':=by
 have r1:=(r.ext p.same).weak (QcP rr.M U);obtain⟨gn,gs⟩:=p.fresh r hf nd;have gl:=(p.cnt hf).2;have apart:∀(j:Nat) d b,(kill rr.M U)[j]? =some (some (d,b))->∀a∈G,a∉F j:=λj d b e a ha hj=>by
  obtain⟨b',e',_⟩:=(QcP rr.M U).2 j d b e;rcases(gs a ha).2 with q | ⟨k,d',hk,ek,hak⟩
  ·obtain⟨vs,w⟩:=r.mem e' hj;rw[q]at w;cases w
  ·have hjk:j≠k:=λz=>by subst z;exact Qio rr.M U j d b hk e
   exact(r.own k d' ek).2.2.2.1 j d b' hjk e' a hak hj
 have apartH:∀t∈hs,∀a∈G,a∉t.2.2:=λt ht a ha hj=>by
  rcases(gs a ha).2 with q | ⟨k,d',hk,ek,hak⟩
  ·obtain⟨vs,w⟩:=(r.held t ht).1.mem a hj;rw[q]at w;cases w
  ·exact(r.own k d' ek).2.2.2.2 t ht a hak hj
 have lt:∀{j:Nat}{x:Option (D×Bool)}{y:D×Bool},((kill rr.M U).set j x)[j]? =some (some y)->j<(kill rr.M U).length:=λ{j x y} e=>by
  by_cases hl:j<(kill rr.M U).length
  ·exact hl
  ·rw[ZA (by simp;omega)]at e;cases e
 refine⟨by simp[r1.len],λj d b e=>?_,λj d e=>?_,λj d b e a ha=>?_,r1.held,r1.same⟩
 ·by_cases hj:j=i
  ·subst hj;have hl:=lt e;rw[Zu hl]at e;cases e;exact⟨v,by rw[Zu (by rw[← r1.len];exact hl)],by rw[if_pos rfl];exact p.rp⟩
  ·rw[Zi (Ne.symm hj)]at e;obtain⟨w,h1,h2⟩:=r1.val j d b e;exact⟨w,by rw[Zi (Ne.symm hj)];exact h1,by rw[if_neg hj];exact h2⟩
 ·by_cases hj:j=i
  ·subst hj;have hl:=lt e;rw[Zu hl]at e;cases e;rw[if_pos rfl];refine⟨gl,gn,λa ha=>(gs a ha).1,λk d' b hk ek a ha=>?_,apartH⟩;rw[Zi (Ne.symm hk)]at ek;rw[if_neg hk];exact apart k d' b ek a ha
  ·rw[Zi (Ne.symm hj)]at e;obtain⟨h1,h2,h3,h4,h5⟩:=r1.own j d e;rw[if_neg hj];refine⟨h1,h2,h3,λk d' b hk ek a ha=>?_,h5⟩;by_cases hki:k=i
   ·subst hki;rw[if_pos rfl];exact λhG=>apart j d true e a hG ha
   ·rw[Zi (Ne.symm hki)]at ek;rw[if_neg hki];exact h4 k d' b hk ek a ha
 ·by_cases hj:j=i
  ·subst hj;rw[if_pos rfl]at ha;exact .inl (gs a ha).1
  ·rw[Zi (Ne.symm hj)]at e;rw[if_neg hj]at ha;exact r1.src j d b e a ha
noncomputable def asg(i:Nat)(r:R)(U:En):En:=
 if r.norm.fr && decide r.norm.M.Nodup then(kill r.norm.M U).set i (some (r.d,true))else(Qa7 r.norm.M U).set i (some (r.d,r.d.flat))
theorem Rel.asg(r:Rel K H0 A0 hs U F σ H)(p:Qaj K U F H H' rr v G):∃F',Rel K H0 A0 hs (asg i rr U) F' (σ.set i (some v)) H':=by
 have p':=p.norm;unfold HS.asg;split
 ·rename_i h;simp only[Zh,decide_eq_true_eq]at h;have:=r.QDq (i:=i) p' h.1 h.2;rw[rr.Qd4]at this;exact⟨_,this⟩
 ·have r1:=(r.ext p'.same).weak (Qcd rr.norm.M U);have rp:=p'.rp;rw[rr.Qd4]at rp;have sh:=Shr.of r p'.src;exact⟨_,r1.Qr0 rp sh⟩
theorem Rel.hold(r:Rel K H0 A0 hs U F σ H)(h:∀t∈ts,Rp K H t.2.1 t.1 t.2.2/\Shr H0 A0 U F t.2.2):Rel K H0 A0 (ts++hs) U F σ H where
 len:=r.len
 val:=r.val
 own:=λi d e=>by
  obtain⟨h1,h2,h3,h4,h5⟩:=r.own i d e;refine⟨h1,h2,h3,h4,λt ht a ha hm=>?_⟩;rcases ZH.mp ht with z | z
  ·exact((h t z).2 a hm).2 i d e ha
  ·exact h5 t z a ha hm
 src:=r.src
 held:=λt ht=>by
  rcases ZH.mp ht with z | z
  ·exact⟨(h t z).1,λa ha=>((h t z).2 a ha).1⟩
  ·exact r.held t z
 same:=r.same
theorem Rel.Qpf(r:Rel K H0 A0 (ts++hs) U F σ H):Rel K H0 A0 hs U F σ H where
 len:=r.len
 val:=r.val
 own:=λi d e=>let ⟨h1,h2,h3,h4,h5⟩:=r.own i d e;⟨h1,h2,h3,h4,λt ht=>h5 t (Zd _ ht)⟩
 src:=r.src
 held:=λt ht=>r.held t (Zd _ ht)
 same:=r.same
end
structure Ret (K:Fgg) (H0:Hp) (A0:LAd) (d:D) (fr:Bool) (v:V) (H':Hp) (G:LAd):Prop where
 same:QM H0 H'
 rp:Rp K H' d v G
 src:∀a∈G,H0 a=none∨a∈A0
 cnt:fr=true->G.Nodup/\G.length=d.nl/\∀a∈G,H0 a=none
noncomputable abbrev Den:=List D->Option (D×Bool)
noncomputable def spV(K:Fgg)(n:Nat)(den:Den):Sp:=λvs H Q _=>∃ds F d fr,Rps K H ds vs F/\ds.length=n/\den ds=some (d,fr)/\∀v H' G,Ret K H F d fr v H' G->Q v H'
theorem Qnf{K:Fgg}{n:Nat}{den:Den}{ps:List Str}(hn:ps.length=n):∀vs H Q E,spV K n den vs H Q E->vs.length=ps.length:=λvs H Q E ⟨ds,F,d,fr,r,hl,_⟩=>by rw[hn,← hl,r.length]
noncomputable def Qg(n:Nat)(den:Den)(dfl:List D)(fs:DA):DE:=λU=>(fs U).bind λr=>if r.ds.length+dfl.length=n then(den (r.ds++dfl)).map λq=>if q.2=true then⟨q.1,true,[]⟩else R.norm ⟨q.1,false,r.M⟩else none
section
variable {X:Cx}{e:Expr}{es:List Expr}{fs:DA}{pos p:Pos}{x:Str}{n k:Nat}{f:Addr}{fd:FuncData}{ps:List Str}{den:Den}{dfl:List D}{dvs:List V}{ds:List Value}
theorem QiQ{σ:L2.St}{H H0:Hp}{A0:LAd}{Q:VK}(hdf:∀H,Rps X.K H dfl dvs []):tV X.K H0 A0 (Qg n den dfl fs) σ H Q->QrY (spV X.K n den) dvs E0 (tVA X.K H0 A0 fs) σ H Q:=exK λU hs F r rel e q=>by
 refine Qh e λra e1 e=>?_;split at e
 ·rename_i hl;obtain⟨⟨d,fr⟩,e2,e⟩:=Ze.mp e;refine⟨U,hs,F,ra,rel,e1,λvs H1 G p1=>⟨ra.ds++dfl,G++[],d,fr,p1.rp.append (hdf H1),by rw[Zz];exact hl,e2,λv H2 G2 rt=>?_⟩⟩;subst e;have src:Src U F H ra.M G2:=λa ha=>by
   rcases rt.src a ha with z | z
   ·exact .inl (p1.same.free z)
   ·rw[Zag]at z;exact p1.src a z
  split at q
  ·rename_i hf;have hf:fr=true:=hf;obtain⟨nd,hn,fresh⟩:=rt.cnt hf;have hH:∀a∈G2,H a=none:=λa ha=>p1.same.free (fresh a ha);refine q v H2 G2 ⟨p1.same.trans rt.same,rt.rp,λa ha=> .inl (hH a ha),λ_=>⟨λa=>?_,hn⟩,Qbv.nil⟩;by_cases ha:a∈G2
   ·rw[QaU (hH a ha)];have:=Zaz.mp nd a;omega
   ·rw[ZW.mpr ha];exact ZO _
  ·refine q v H2 G2 (Qaj.norm ⟨p1.same.trans rt.same,rt.rp,src,λz=>(by cases z),p1.own⟩)
 ·cases e
theorem Qxh(Fk:Qcq X.prog X.w X.K X.mg X.base CX0 k f fd ps (spV X.K n den))(hr:Qba k X.A)(hg:Gl X x)(hm:X.mg x=some (.ref f))(hk:PySem.W.keepIn X.K (.ref f)=true)(hb:Binds X.K fd ps ds)(hd:QA dvs ds)(hdf:∀H,Rps X.K H dfl dvs [])
  (ha:SA X (e::es) fs) (hdb:(x == ("__debug__" :Str))=false) (he:starEach (e::es) X.env=(false,eval e X.env)::starEach es X.env) (hpl:(backTo pos (starEach es X.env)).any (·.1)=false):
  SE X (.Call (.Name x p) (e::es) [] pos) (Qg n den dfl fs):=λH0 A0=>
 (Qy1 Fk hr hg hm hk hb hd Qsf (ha H0 A0) hdb he hpl).mono λσ H Q h=>QiQ hdf h
theorem Qvb(Fk:Qcq X.prog X.w X.K X.mg X.base CX0 k f fd ps (spV X.K n den))(hr:Qba k X.A)(hg:Gl X x)(hm:X.mg x=some (.ref f))(hk:PySem.W.keepIn X.K (.ref f)=true)(hb:Binds X.K fd ps ds)(hd:QA dvs ds)(hdf:∀H,Rps X.K H dfl dvs [])
  (hdb:(x == ("__debug__" :Str))=false):SE X (.Call (.Name x p) [] [] pos) (Qg n den dfl Qb):=λH0 A0=>
 (QwR Fk hr hg hm hk hb hd Qsf hdb).mono λσ H Q h=>by
  have h':=QiQ hdf h;obtain⟨U,hs,F,r,rel,e,q⟩:=h';cases e;exact q [] H [] ⟨QM.refl _,by simp[Rps],Src.nil,λ_=>⟨Cnt.nil,rfl⟩,Qbv.nil⟩
end
structure IR where
 items:List D
 M:List Nat
noncomputable abbrev DI:=En->Option IR
def QkS(K:Fgg)(H:Hp)(ts:List (V×D×List Addr)):Prop:=∀t∈ts,Rp K H t.2.1 t.1 t.2.2
structure Walk (K:Fgg) (J:It) (ts:List (V×D×List Addr)) (ds:List D):Prop where
 stop:∀H,QkS K H ts->J.stop ds.length H
 go:∀i H,i<ds.length->QkS K H ts->J.go i H
 yld:∀(i:Nat) d H x H',ds[i]? =some d->QkS K H ts->J.yld i H x H'->QM H H'/\∃G,Rp K H' d x G/\∀a∈G,∃t∈ts,a∈t.2.2
noncomputable def tI(K:Fgg)(H0:Hp)(A0:LAd)(f:DI):TI:=λσ H Rr=>∃U hs F ir,Rel K H0 A0 hs U F σ H/\f U=some ir∧
 ∀J H1 ts,QM H H1->Walk K J ts ir.items->(∀t∈ts,Rp K H1 t.2.1 t.1 t.2.2/\Src U F H ir.M t.2.2)->Qbv U ir.M->ir.items.length<=sizeLine->Rr J H1
def SI(X:Cx)(tg e:Expr)(f:DI):Prop:=∀H0 A0,PI X tg e (tI X.K H0 A0 f)
theorem _root_.L2.PI.mono(h:PI X tg e t)(m:∀σ H Q,t' σ H Q->t σ H Q):PI X tg e t':=λpins s σ H Q I q=>h pins s σ H Q I (m σ H Q q)
section
variable {X:Cx}{tg a b:Expr}{fa fb:DE}{fs:DA}{pos p:Pos}
theorem Rps.nth{K:Fgg}{H:Hp}{ds:List D}{vs:List V}{F:LAd}{i:Nat}{d:D}(h:Rps K H ds vs F)(e:ds[i]? =some d):∃v G,vs[i]? =some v/\Rp K H d v G/\∀a∈G,a∈F:=by
 obtain⟨v,F1,G,F2,h1,h2,h3,_⟩:=h.get e;exact⟨v,G,h1,h3,λa ha=>by rw[h2];exact Zd _ (Zf _ ha)⟩
noncomputable def QCU(K:Fgg)(tl:TE):TI:=λσ H Rr=>tl σ H λx H1=>(∃a,x= .ref a/\(∃xs,SqL K H1 a xs)/\Rr (Itl K a) H1)∨(∃a,x= .ref a/\(∃xs,SqT K H1 a xs)/\Rr (Itt K a) H1)
theorem QA6(hl:PE X l tl):PI X tg l (QCU X.K tl):=by
 intro pins s σ H Rr I h;refine thn (hl pins s σ H _ I h) λv s1=>exJ λx H1 I1 r1 q1=>?_;rcases q1 with⟨a,e,⟨xs,hq⟩,q⟩ | ⟨a,e,⟨xs,hq⟩,q⟩
 ·subst e;cases r1;obtain⟨its,rv,pl,hz⟩:=I1.list hq;refine wpAny_pyIter_list pl.isList ⟨s1.heap.objs.size,[s1.heap.objs.size],_,_,H1,rfl,I1.kept (t':=s1.toks) λb o e=>Zb _ e,QsG a _,⟨_,Zq _ rfl,rfl,rfl⟩,λb hb=>?_,q⟩;have e:b=s1.heap.objs.size:=by simpa using hb
  subst e;exact I1.Qkp (Zj _) (I1.hok.fresh (Zj _))
 ·subst e;cases r1;obtain⟨its,rv,pl,hz⟩:=I1.tuple hq;refine wpAny_pyIter_tuple (show s1.heap.IsTuple a its.toArray from pl) ⟨s1.heap.objs.size,[s1.heap.objs.size],_,_,H1,rfl,I1.kept (t':=s1.toks) λb o e=>Zb _ e,QrA a _,⟨_,Zq _ rfl,rfl,rfl⟩,λb hb=>?_,q⟩;have e:b=s1.heap.objs.size:=by simpa using hb
  subst e;exact I1.Qkp (Zj _) (I1.hok.fresh (Zj _))
noncomputable def Qar(fa:DE):DI:=λU=>(fa U).bind λr=>match r.d with
 | .lst xs=>some ⟨xs,r.M⟩
 | .tup xs=>if xs.length<=sizeLine then some ⟨xs,r.M⟩else none
 | _=>none
theorem Qtd{K:Fgg}{c:Addr}{ds:List D}{G:LAd}:Walk K (Itl K c) [(.ref c,.lst ds,G)] ds where
 stop:=λH h=>by
  obtain⟨l,vs,L,e,hl,rl,zl,el⟩:=(h _ (Zw.mpr rfl)).lst_inv;cases e;exact⟨vs,QX hl,by rw[rl.length];exact Zj _⟩
 go:=λi H hi h=>by
  obtain⟨l,vs,L,e,hl,rl,zl,el⟩:=(h _ (Zw.mpr rfl)).lst_inv;cases e;have:i<vs.length:=by rw[← rl.length];exact hi
  exact⟨vs,vs[i],QX hl,by simp[this]⟩
 yld:=λi d H x H' e h y=>by
  obtain⟨l,vs,L,e1,hl,rl,zl,el⟩:=(h _ (Zw.mpr rfl)).lst_inv;cases e1;obtain⟨rfl,y⟩:=y;obtain⟨v,G',h1,h2,h3⟩:=rl.nth e;have:=y vs (QX hl);rw[h1]at this;cases this;refine⟨QM.refl _,G',h2,λz hz=>⟨_,Zw.mpr rfl,?_⟩⟩;have:=h3 z hz;rcases el with rfl | rfl
  ·exact Zc _ this
  ·exact this
theorem QwI{K:Fgg}{c:Addr}{ds:List D}{G:LAd}:Walk K (Itt K c) [(.ref c,.tup ds,G)] ds where
 stop:=λH h=>by
  obtain⟨l,vs,e,hl,rl⟩:=(h _ (Zw.mpr rfl)).QaZ;cases e;exact⟨vs,hl,by rw[rl.length];exact Zj _⟩
 go:=λi H hi h=>by
  obtain⟨l,vs,e,hl,rl⟩:=(h _ (Zw.mpr rfl)).QaZ;cases e;have:i<vs.length:=by rw[← rl.length];exact hi
  exact⟨vs,vs[i],hl,by simp[this]⟩
 yld:=λi d H x H' e h y=>by
  obtain⟨l,vs,e1,hl,rl⟩:=(h _ (Zw.mpr rfl)).QaZ;cases e1;obtain⟨rfl,y⟩:=y;obtain⟨v,G',h1,h2,h3⟩:=rl.nth e;have:=y vs hl;rw[h1]at this;cases this;exact⟨QM.refl _,G',h2,λz hz=>⟨_,Zw.mpr rfl,h3 z hz⟩⟩
theorem QAP(ha:SE X a fa):SI X tg a (Qar fa):=λH0 A0=>(QA6 (ha H0 A0)).mono λσ H Rr=>exK λU hs F ir rel e q=>by
 refine Qh e λr e1 e=>?_;refine⟨U,hs,F,r,rel,e1,λv H1 G p=>?_⟩;have rp:=p.rp;cases hr:r.d with
 | lst xs=>
  rw[hr]at e rp;cases e;obtain⟨c,vs,L,rfl,hl,rl,zl,el⟩:=rp.lst_inv;refine .inl ⟨c,rfl,⟨vs,QX hl⟩,q _ H1 [(.ref c,.lst xs,G)] p.same Qtd (λt ht=>?_) p.own zl⟩;rw[Zw.mp ht];exact⟨rp,p.src⟩
 | tup xs=>
  rw[hr]at e rp;dsimp only at e;split at e
  ·rename_i hz;cases e;obtain⟨c,vs,rfl,hl,rl⟩:=rp.QaZ;refine .inr ⟨c,rfl,⟨vs,hl⟩,q _ H1 [(.ref c,.tup xs,G)] p.same QwI (λt ht=>?_) p.own hz⟩;rw[Zw.mp ht];exact⟨rp,p.src⟩
  ·cases e
 | _=>rw[hr]at e;cases e
noncomputable def Qim(lo:Int)(n:Nat):List D:=(List.range n).map λ(k:Nat)=> .int (lo+(k:Int))
theorem Qhn:(Qim lo n).length=n:=by simp[Qim]
theorem Qvk(h:(Qim lo n)[i]? =some d):i<n/\d= .int (lo+i):=by
 unfold Qim at h;rw[Zs]at h;cases q:(List.range n)[i]? with
 | none=>rw[q]at h;cases h
 | some k=>
  rw[q]at h;obtain⟨h1,h2⟩:=Zm.mp q;simp at h1 h2;subst h2;exact⟨h1,(Option.some.inj h).symm⟩
theorem QlW:Walk K (Itr lo n) [] (Qim lo n) where
 stop:=λH _=>by rw[Qhn];exact Zj _
 go:=λi H hi _=>by rw[Qhn]at hi;exact hi
 yld:=λi d H x H' e _ y=>by
  obtain⟨h1,rfl⟩:=Qvk e;obtain⟨rfl,rfl⟩:=y;exact⟨QM.refl _,[],.int_mk,λz hz=>by simp at hz⟩
noncomputable def Qcz(fa:DE):DI:=λU=>(fa U).bind λr=>match r.d with
 | .int j=>if j<=16777216/\ -(2^62)<=j then some ⟨Qim 0 j.toNat,[]⟩else none
 | _=>none
noncomputable def Qfr(fa fb:DE):DI:=λU=>(fa U).bind λr=>(fb U).bind λr'=>match r.d,r'.d with
 | .int i,.int j=>if j-i<=16777216/\ -(2^62)<=i/\i<2^62/\ -(2^62)<=j/\j<2^62 then some ⟨Qim i (j-i).toNat,[]⟩else none
 | _,_=>none
theorem QmV:(sizeLine:Nat)=16777216:=sizeLine_eq
theorem Qte(hg:Gl X "range")(hm:X.mg "range" =none)(ha:SE X a fa)(hs:starEach [a] X.env=[(false,eval a X.env)]):SI X tg (.Call (.Name "range" p) [a] [] pos) (Qcz fa):=λH0 A0=>
 (QsW hg hm (Qaq (ha H0 A0) QcW hs) hs).mono λσ H Rr=>exK λU hs F ir rel e q=>by
  refine Qh e λr e1 e=>?_;refine⟨U,hs,F,r,rel,e1,λv H1 G pp=>?_⟩;have rp:=pp.rp;cases hr:r.d with
  | int j=>
   rw[hr]at e rp;dsimp only at e;split at e
   ·rename_i hz;cases e;rw[rp.int_inv];refine⟨j,rfl,hz.2,⋯,q _ H1 [] pp.same QlW (λt ht=>by simp at ht) Qbv.nil ?_⟩;rw[Qhn,QmV];omega
   ·cases e
  | _=>rw[hr]at e;cases e
theorem Quz(hg:Gl X "range")(hm:X.mg "range" =none)(ha:SE X a fa)(hb:SE X b fb)(hs:starEach [a,b] X.env=[(false,eval a X.env),(false,eval b X.env)])(hs2:starEach [b] X.env=[(false,eval b X.env)]):
  SI X tg (.Call (.Name "range" p) [a,b] [] pos) (Qfr fa fb):=λH0 A0=>
 (Quv hg hm (Qaq (ha H0 A0) (Qaq (hb H0 A0) QcW hs2) (by rw[hs,hs2])) hs hs2).mono λσ H Rr=>exK λU hs F ir rel e q=>by
  refine Qh e λr e1 e=>?_;refine Qh e λr' e2 e=>?_;refine⟨U,hs,F,r,rel,e1,λv H1 G pp=>⟨U,hs,F,r',rel.ext pp.same,e2,λv' H2 G' pp'=>?_⟩⟩;have rp:=pp.rp.same pp'.same;have rp':=pp'.rp;cases hr:r.d with
  | int i=>
   cases hr':r'.d with
   | int j=>
    rw[hr,hr']at e;rw[hr]at rp;rw[hr']at rp';dsimp only at e;split at e
    ·rename_i hz;cases e;rw[rp.int_inv,rp'.int_inv];refine⟨i,j,rfl,hz.2,q _ H2 [] (pp.same.trans pp'.same) QlW (λt ht=>by simp at ht) Qbv.nil ?_⟩;rw[Qhn,QmV];omega
    ·cases e
   | _=>rw[hr,hr']at e;cases e
  | _=>rw[hr]at e;cases e
noncomputable def Qfl(ds:List D):List D:=ds.zipIdx.map λq=> .tup [.int q.2,q.1]
theorem QiA:(Qfl ds).length=ds.length:=by simp[Qfl]
theorem QtE{ds:List D}{i:Nat}{d:D}(h:(Qfl ds)[i]? =some d):∃e,ds[i]? =some e/\d= .tup [.int i,e]:=by
 unfold Qfl at h;rw[Zs,List.getElem?_zipIdx]at h;cases q:ds[i]? with
 | none=>rw[q]at h;cases h
 | some e=>rw[q]at h;simp at h;exact⟨e,rfl,h.symm⟩
theorem QsP{K:Fgg}{c:Addr}{ds:List D}{G:LAd}:Walk K (Ite K c) [(.ref c,.lst ds,G)] (Qfl ds) where
 stop:=λH h=>by
  obtain⟨l,vs,L,e,hl,rl,zl,el⟩:=(h _ (Zw.mpr rfl)).lst_inv;cases e;exact⟨vs,QX hl,by rw[QiA,rl.length];exact Zj _⟩
 go:=λi H hi h=>by
  obtain⟨l,vs,L,e,hl,rl,zl,el⟩:=(h _ (Zw.mpr rfl)).lst_inv;cases e;rw[QiA]at hi;have:i<vs.length:=by rw[← rl.length];exact hi
  exact⟨vs,vs[i],QX hl,by simp[this]⟩
 yld:=λi d H x H' e h y=>by
  obtain⟨l,vs,L,e1,hl,rl,zl,el⟩:=(h _ (Zw.mpr rfl)).lst_inv;cases e1;obtain⟨d',e',rfl⟩:=QtE e;obtain⟨pp,u,rfl,hp,rfl,y⟩:=y;obtain⟨v,G',h1,h2,h3⟩:=rl.nth e';have:=y vs (QX hl);rw[h1]at this;cases this;have s:=QaH (o:= .tup [.int i,u]) hp;refine⟨s,G',Rp.Qii Qad ?_,λz hz=>⟨_,Zw.mpr rfl,?_⟩⟩
  ·simp only[Rps];exact⟨.int i,[u],[],G',rfl,rfl,.int_mk,u,[],G',[],rfl,by simp,h2.same s,rfl,rfl⟩
  ·have:=h3 z hz;rcases el with rfl | rfl
   ·exact Zc _ this
   ·exact this
noncomputable def Qjh(fa:DE):DI:=λU=>(fa U).bind λr=>match r.d with
 | .lst xs=>some ⟨Qfl xs,r.M⟩
 | _=>none
theorem QyZ(hg:Gl X "enumerate")(hm:X.mg "enumerate" =none)(ha:SE X a fa)(hs:starEach [a] X.env=[(false,eval a X.env)]):SI X (.Tuple es tk tpos) (.Call (.Name "enumerate" p) [a] [] pos) (Qjh fa):=λH0 A0=>
 (Qyd hg hm (Qaq (ha H0 A0) QcW hs) hs).mono λσ H Rr=>exK λU hs F ir rel e q=>by
  refine Qh e λr e1 e=>?_;refine⟨U,hs,F,r,rel,e1,λv H1 G pp=>?_⟩;have rp:=pp.rp;cases hr:r.d with
  | lst xs=>
   rw[hr]at e rp;cases e;obtain⟨c,vs,L,rfl,hl,rl,zl,el⟩:=rp.lst_inv;refine⟨c,rfl,⟨vs,QX hl⟩,q _ H1 [(.ref c,.lst xs,G)] pp.same QsP (λt ht=>?_) pp.own (by rw[QiA];exact zl)⟩;rw[Zw.mp ht];exact⟨rp,pp.src⟩
  | _=>rw[hr]at e;cases e
noncomputable def Qf3(xs ys:List D):List D:=(xs.zip ys).map λq=> .tup [q.1,q.2]
theorem Qk6:(Qf3 xs ys).length=min xs.length ys.length:=by simp[Qf3]
theorem Qwt{xs ys:List D}{i:Nat}{d:D}(h:(Qf3 xs ys)[i]? =some d):∃e f,xs[i]? =some e/\ys[i]? =some f/\d= .tup [e,f]:=by
 unfold Qf3 at h;rw[Zs]at h;cases q:(xs.zip ys)[i]? with
 | none=>rw[q]at h;cases h
 | some e=>
  rw[q]at h;obtain⟨h1,h2⟩:=Zav.mp q;exact⟨e.1,e.2,h1,h2,(Option.some.inj h).symm⟩
theorem Qvl{K:Fgg}{c c':Addr}{xs ys:List D}{G G':LAd}:Walk K (Itz K c c') [(.ref c,.lst xs,G),(.ref c',.lst ys,G')] (Qf3 xs ys) where
 stop:=λH h=>by
  obtain⟨l,vs,L,e,hl,rl,zl,el⟩:=(h _ (Zg)).lst_inv;obtain⟨l',vs',L',e',hl',rl',zl',el'⟩:=(h _ (Zc _ Zg)).lst_inv;cases e;cases e';refine⟨vs,vs',QX hl,QX hl',?_⟩;rw[Qk6,← rl.length,← rl'.length];omega
 go:=λi H hi h=>by
  obtain⟨l,vs,L,e,hl,rl,zl,el⟩:=(h _ (Zg)).lst_inv;obtain⟨l',vs',L',e',hl',rl',zl',el'⟩:=(h _ (Zc _ Zg)).lst_inv;cases e;cases e';rw[Qk6]at hi;have h1:i<vs.length:=by rw[← rl.length];omega
  have h2:i<vs'.length:=by rw[← rl'.length];omega
  exact⟨vs,vs',vs[i],vs'[i],QX hl,QX hl',by simp[h1],by simp[h2]⟩
 yld:=λi d H x H' e h y=>by
  obtain⟨l,vs,L,e1,hl,rl,zl,el⟩:=(h _ (Zg)).lst_inv;obtain⟨l',vs',L',e1',hl',rl',zl',el'⟩:=(h _ (Zc _ Zg)).lst_inv;cases e1;cases e1';obtain⟨d1,d2,ea,eb,rfl⟩:=Qwt e;obtain⟨pp,u,u',rfl,hp,rfl,y,y'⟩:=y;obtain⟨v,G1,h1,h2,h3⟩:=rl.nth ea;obtain⟨v',G2,h1',h2',h3'⟩:=rl'.nth eb;have:=y vs (QX hl);rw[h1]at this;cases this;have:=y' vs' (QX hl');rw[h1']at this;cases this;have s:=QaH (o:= .tup [u,u']) hp;refine⟨s,G1++G2,Rp.Qii Qad ?_,λz hz=>?_⟩
  ·simp only[Rps];exact⟨u,[u'],G1,G2,rfl,rfl,h2.same s,u',[],G2,[],rfl,by simp,h2'.same s,rfl,rfl⟩
  ·rcases ZH.mp hz with hz | hz
   ·refine⟨_,Zg,?_⟩;have:=h3 z hz;rcases el with rfl | rfl
    ·exact Zc _ this
    ·exact this
   ·refine⟨_,Zc _ Zg,?_⟩;have:=h3' z hz;rcases el' with rfl | rfl
    ·exact Zc _ this
    ·exact this
noncomputable def Qaw(fa fb:DE):DI:=λU=>(fa U).bind λr=>(fb U).bind λr'=>match r.d,r'.d with
 | .lst xs,.lst ys=>some ⟨Qf3 xs ys,r.M++r'.M⟩
 | _,_=>none
theorem QAQ(hg:Gl X "zip")(hm:X.mg "zip" =none)(ha:SE X a fa)(hb:SE X b fb)(hs:starEach [a,b] X.env=[(false,eval a X.env),(false,eval b X.env)])(hs2:starEach [b] X.env=[(false,eval b X.env)]):
  SI X (.Tuple es tk tpos) (.Call (.Name "zip" p) [a,b] [] pos) (Qaw fa fb):=λH0 A0=>
 (QA9 hg hm (Qaq (ha H0 A0) (Qaq (hb H0 A0) QcW hs2) (by rw[hs,hs2])) hs hs2).mono λσ H Rr=>exK λU hs F ir rel e q=>by
  refine Qh e λr e1 e=>?_;refine Qh e λr' e2 e=>?_;refine⟨U,hs,F,r,rel,e1,λv H1 G pp=>⟨U,hs,F,r',rel.ext pp.same,e2,λv' H2 G' pp'=>?_⟩⟩;have rp:=pp.rp.same pp'.same;have rp':=pp'.rp;cases hr:r.d with
  | lst xs=>
   cases hr':r'.d with
   | lst ys=>
    rw[hr,hr']at e;rw[hr]at rp;rw[hr']at rp';cases e;obtain⟨c,vs,L,rfl,hl,rl,zl,el⟩:=rp.lst_inv;obtain⟨c',vs',L',rfl,hl',rl',zl',el'⟩:=rp'.lst_inv;refine⟨c,c',rfl,⟨vs,QX hl⟩,⟨vs',QX hl'⟩,q _ H2 [(.ref c,.lst xs,G),(.ref c',.lst ys,G')] (pp.same.trans pp'.same) Qvl (λt ht=>?_) (pp.own.append pp'.own) (by rw[Qk6];omega)⟩;have sa:=pp.src.append pp'.src pp.same;rcases Zn.mp ht with rfl | ht
    ·exact⟨rp,λz hz=>sa z (Zf _ hz)⟩
    ·rw[Zw.mp ht];exact⟨rp',λz hz=>sa z (Zd _ hz)⟩
   | _=>rw[hr,hr']at e;cases e
  | _=>rw[hr]at e;cases e
end
end HS
namespace HS
open PySem L2
noncomputable def Qgl(xs ys zs:List D):List D:=(xs.zip (ys.zip zs)).map λq=> .tup [q.1,q.2.1,q.2.2]
theorem Qta{xs ys zs:List D}{i:Nat}{d:D}(h:(Qgl xs ys zs)[i]? =some d):∃e f g,xs[i]? =some e/\ys[i]? =some f/\zs[i]? =some g/\d= .tup [e,f,g]:=by
 unfold Qgl at h;rw[Zs]at h;cases q:(xs.zip (ys.zip zs))[i]? with
 | none=>rw[q]at h;cases h
 | some e=>
  rw[q]at h;obtain⟨h1,h2⟩:=Zav.mp q;obtain⟨h3,h4⟩:=Zav.mp h2;exact⟨e.1,e.2.1,e.2.2,h1,h3,h4,(Option.some.inj h).symm⟩
theorem Qi0(h1:xs.length=ys.length)(h2:ys.length=zs.length):(Qgl xs ys zs).length=xs.length:=by
 simp[Qgl];omega
theorem Qth{K:Fgg}{c c' c'':Addr}{xs ys zs:List D}{G G' G'':LAd}(n1:xs.length=ys.length)(n2:ys.length=zs.length):Walk K (QuU K c c' c'') [(.ref c,.lst xs,G),(.ref c',.lst ys,G'),(.ref c'',.lst zs,G'')] (Qgl xs ys zs):=by
 have inv:∀H,QkS K H [(.ref c,.lst xs,G),(.ref c',.lst ys,G'),(.ref c'',.lst zs,G'')]->(∃vs L,SqL K H c vs/\Rps K H xs vs L/\∀a∈L,a∈G)/\(∃vs L,SqL K H c' vs/\Rps K H ys vs L/\∀a∈L,a∈G')/\∃vs L,SqL K H c'' vs/\Rps K H zs vs L/\∀a∈L,a∈G'':=λH h=>by
  have one:∀{p:Addr}{ds:List D}{G:LAd},Rp K H (.lst ds) (.ref p) G->∃vs L,SqL K H p vs/\Rps K H ds vs L/\∀a∈L,a∈G:=λ{p ds G} r=>by
   obtain⟨l,vs,L,e,hl,rl,zl,el⟩:=r.lst_inv;cases e;refine⟨vs,L,QX hl,rl,λa ha=>?_⟩;rcases el with rfl | rfl
   ·exact Zc _ ha
   ·exact ha
  exact⟨one (h _ Zg),one (h _ (Zc _ Zg)),one (h _ (Zc _ (Zc _ Zg)))⟩
 refine⟨λH h=>?_,λi H hi h=>?_,λi d H x H' e h y=>?_⟩
 ·obtain⟨⟨vs,L,hl,rl,el⟩,_⟩:=inv H h;exact⟨vs,hl,by rw[Qi0 n1 n2,← rl.length];omega⟩
 ·obtain⟨⟨vs,L,hl,rl,el⟩,⟨vs',L',hl',rl',el'⟩,⟨vs'',L'',hl'',rl'',el''⟩⟩:=inv H h;rw[Qi0 n1 n2]at hi;have h1:i<vs.length:=by rw[← rl.length];omega
  have h2:i<vs'.length:=by rw[← rl'.length];omega
  have h3:i<vs''.length:=by rw[← rl''.length];omega
  exact⟨vs,vs',vs'',vs[i],vs'[i],vs''[i],hl,hl',hl'',by simp[h1],by simp[h2],by simp[h3]⟩
 ·obtain⟨⟨vs,L,hl,rl,el⟩,⟨vs',L',hl',rl',el'⟩,⟨vs'',L'',hl'',rl'',el''⟩⟩:=inv H h;obtain⟨d1,d2,d3,ea,eb,ec,rfl⟩:=Qta e;obtain⟨pp,u,u',u'',rfl,hp,rfl,y,y',y''⟩:=y;obtain⟨v,G1,h1,h2,h3⟩:=rl.nth ea;obtain⟨v',G2,h1',h2',h3'⟩:=rl'.nth eb;obtain⟨v'',G3,h1'',h2'',h3''⟩:=rl''.nth ec;have q:=y vs hl;rw[h1]at q;cases q;have q:=y' vs' hl';rw[h1']at q;cases q;have q:=y'' vs'' hl'';rw[h1'']at q;cases q;have s:=QaH (o:= .tup [u,u',u'']) hp;refine⟨s,G1++(G2++G3),Rp.Qii Qad ?_,λz hz=>?_⟩
  ·simp only[Rps];exact⟨u,[u',u''],G1,G2++G3,rfl,rfl,h2.same s,u',[u''],G2,G3,rfl,rfl,h2'.same s,u'',[],G3,[],rfl,by simp,h2''.same s,rfl,rfl⟩
  ·rcases ZH.mp hz with hz | hz
   ·exact⟨_,Zg,el _ (h3 z hz)⟩
   ·rcases ZH.mp hz with hz | hz
    ·exact⟨_,Zc _ Zg,el' _ (h3' z hz)⟩
    ·exact⟨_,Zc _ (Zc _ Zg),el'' _ (h3'' z hz)⟩
noncomputable def Qg6(fa fb fc:DE):DI:=λU=>(fa U).bind λr=>(fb U).bind λr'=>(fc U).bind λr''=>match r.d,r'.d,r''.d with
 | .lst xs,.lst ys,.lst zs=>if xs.length=ys.length/\ys.length=zs.length then some ⟨Qgl xs ys zs,r.M++(r'.M++r''.M)⟩else none
 | _,_,_=>none
section
theorem QxH(hg:Gl X "zip")(hm:X.mg "zip" =none)(ha:SE X a fa)(hb:SE X b fb)(hc:SE X c fc)(hs:starEach [a,b,c] X.env=(false,eval a X.env)::starEach [b,c] X.env)(hs2:starEach [b,c] X.env=(false,eval b X.env)::starEach [c] X.env)(hs3:starEach [c] X.env=[(false,eval c X.env)]):
  SI X (.Tuple es tk tpos) (.Call (.Name "zip" p) [a,b,c] [] pos) (Qg6 fa fb fc):=λH0 A0=>
 (Qxw hg hm (Qaq (ha H0 A0) (Qaq (hb H0 A0) (Qaq (hc H0 A0) QcW hs3) hs2) hs) hs (by rw[hs2,hs3];rfl)).mono λσ H Rr=>exK λU hs F ir rel e q=>by
  refine Qh e λr e1 e=>?_;refine Qh e λr' e2 e=>?_;refine Qh e λr'' e3 e=>?_;refine⟨U,hs,F,r,rel,e1,λv H1 G pp=>⟨U,hs,F,r',rel.ext pp.same,e2,λv' H2 G' pp'=>⟨U,hs,F,r'',(rel.ext pp.same).ext pp'.same,e3,λv'' H3 G'' pp''=>?_⟩⟩⟩;have rp:=(pp.rp.same pp'.same).same pp''.same;have rp':=pp'.rp.same pp''.same;have rp'':=pp''.rp;cases hr:r.d with
  | lst xs=>
   cases hr':r'.d with
   | lst ys=>
    cases hr'':r''.d with
    | lst zs=>
     rw[hr,hr',hr'']at e;rw[hr]at rp;rw[hr']at rp';rw[hr'']at rp'';dsimp only at e;split at e
     ·rename_i hn;cases e;obtain⟨c1,vs,L,rfl,hl,rl,zl,el⟩:=rp.lst_inv;obtain⟨c2,vs',L',rfl,hl',rl',zl',el'⟩:=rp'.lst_inv;obtain⟨c3,vs'',L'',rfl,hl'',rl'',zl'',el''⟩:=rp''.lst_inv;refine⟨c1,c2,c3,rfl,⟨vs,QX hl⟩,⟨vs',QX hl'⟩,⟨vs'',QX hl''⟩,q _ H3 [(.ref c1,.lst xs,G),(.ref c2,.lst ys,G'),(.ref c3,.lst zs,G'')] ((pp.same.trans pp'.same).trans pp''.same) (Qth hn.1 hn.2) (λt ht=>?_) (pp.own.append (pp'.own.append pp''.own)) (by rw[Qi0 hn.1 hn.2];exact zl)⟩;have sb:=pp'.src.append pp''.src pp'.same;have sa:=pp.src.append sb pp.same;rcases Zn.mp ht with rfl | ht
      ·exact⟨rp,λz hz=>sa z (Zf _ hz)⟩
      ·rcases Zn.mp ht with rfl | ht
       ·exact⟨rp',λz hz=>sa z (Zd _ (Zf _ hz))⟩
       ·rw[Zw.mp ht];exact⟨rp'',λz hz=>sa z (Zd _ (Zd _ hz))⟩
     ·cases e
    | _=>rw[hr,hr',hr'']at e;cases e
   | _=>rw[hr,hr']at e;cases e
  | _=>rw[hr]at e;cases e
end
end HS
namespace HS
open PySem PySem.Spec L2
inductive Tg where
 | nm (i:Nat)
 | tp (is:List Nat)
noncomputable def Tg.slots:Tg->List Nat
 | .nm i=>[i]
 | .tp is=>is
noncomputable def Qej:List Nat->List D->En->En
 | i::is,d::ds,U=>Qej is ds (U.set i (some (d,d.flat)))
 | _,_,U=>U
noncomputable def QbB:Tg->D->En->Option En
 | .nm i,d,U=>some (U.set i (some (d,d.flat)))
 | .tp is,.tup xs,U=>if xs.length=is.length then some (Qej is xs U)else none
 | .tp is,.lst xs,U=>if xs.length=is.length then some (Qej is xs U)else none
 | .tp _,_,_=>none
noncomputable def tG(K:Fgg)(H0:Hp)(A0:LAd)(t:Tg):TG:=λv σ H Q=>∃U hs F d G U',Rel K H0 A0 hs U F σ H/\Rp K H d v G/\Shr H0 A0 U F G/\QbB t d U=some U'∧
 ∀σ' F',Rel K H0 A0 hs U' F' σ' H->(∀j,j∉t.slots->σ'[j]? =σ[j]?)->(∀j a,a∈F' j->a∈F j∨a∈G)->Q σ' H
def SG(X:Cx)(tg:Expr)(t:Tg):Prop:=∀H0 A0,PG X tg (tG X.K H0 A0 t)
theorem _root_.L2.PG.mono{X:Cx}{tg:Expr}{t t':TG}(h:PG X tg t)(m:∀v σ H Q,t' v σ H Q->t v σ H Q):PG X tg t':=λpins s σ H v u Q I r q=>h pins s σ H v u Q I r (m v σ H Q q)
noncomputable def QlT:List Nat->TGs
 | []=>QzU
 | i::is=>Qw8 (Qjo i) (QlT is)
theorem Shr.set{H0:Hp}{A0:LAd}{U:En}{F:Nat->List Addr}{G G1:LAd}{i:Nat}{d:D}(h:Shr H0 A0 U F G)(hf:d.flat=true->G1=[]):Shr H0 A0 (U.set i (some (d,d.flat))) (λj=>if j=i then G1 else F j) G:=λa ha=>by
 refine⟨(h a ha).1,λj d' e=>?_⟩;by_cases hj:j=i
 ·subst hj;show ¬a∈(if j=j then G1 else F j);rw[if_pos rfl];have hl:j<U.length:=by
   by_cases hl:j<U.length
   ·exact hl
   ·rw[ZA (by simp;omega)]at e;cases e
  rw[Zu hl]at e;have e1:=Option.some.inj (Option.some.inj e);rw[hf (congrArg Prod.snd e1)];simp
 ·rw[Zi (Ne.symm hj)]at e;show ¬a∈(if j=i then G1 else F j);rw[if_neg hj];exact(h a ha).2 j d' e
theorem Qk2{K:Fgg}{H0:Hp}{A0:LAd}{hs:List (V×D×List Addr)}:∀(is:List Nat) (ds:List D) (vs:List V) (U:En) (F:Nat->List Addr) (σ:L2.St) (H:Hp) (G:LAd) (Q:L2.St->Hp->Prop),
  Rel K H0 A0 hs U F σ H->Rps K H ds vs G->Shr H0 A0 U F G->ds.length=is.length→
  (∀σ' F',Rel K H0 A0 hs (Qej is ds U) F' σ' H->(∀j,j∉is->σ'[j]? =σ[j]?)->(∀j a,a∈F' j->a∈F j∨a∈G)->Q σ' H)->QlT is vs σ H Q
 | [],ds,vs,U,F,σ,H,G,Q,rel,rp,sh,hl,q=>by
  have:ds=[]:=by simpa using hl
  subst this;simp only[Rps]at rp;exact⟨rp.1,q σ F rel (λ_ _=>rfl) λ_ _ h=> .inl h⟩
 | i::is,[],vs,U,F,σ,H,G,Q,rel,rp,sh,hl,q=>by simp at hl
 | i::is,d::ds,vs,U,F,σ,H,G,Q,rel,rp,sh,hl,q=>by
  simp only[Rps]at rp;obtain⟨v,ws,G1,G2,rfl,rfl,r1,r2⟩:=rp;refine⟨v,ws,rfl,?_⟩;have sh1:Shr H0 A0 U F G1:=λa ha=>sh a (Zf _ ha);have sh2:Shr H0 A0 U F G2:=λa ha=>sh a (Zd _ ha);refine Qk2 is ds ws _ _ _ H G2 Q (rel.Qr0 r1 sh1) r2 (sh2.set r1.Qci) (by simpa using hl) λσ' F' rel' k m=>q σ' F' rel' (λj hj=>?_) λj a ha=>?_
  ·have h1:j≠i:=λz=>hj (by rw[z];exact Zg);rw[k j λz=>hj (Zc _ z),Zi (Ne.symm h1)]
  ·rcases m j a ha with z | z
   ·by_cases hj:j=i
    ·rw[if_pos hj]at z;exact .inr (Zf _ z)
    ·rw[if_neg hj]at z;exact .inl z
   ·exact .inr (Zd _ z)
section
variable {X:Cx}{tg:Expr}{pos:Pos}
theorem QxE{i:Nat}{x:Str}(h:PG X (.Name x pos) (Qjo i)):SG X (.Name x pos) (.nm i):=λH0 A0=>h.mono λv σ H Q Z=>by
 obtain⟨U,hs,F,d,G,U',rel,rp,sh,e,q⟩:=Z;cases e;refine q _ _ (rel.Qr0 rp sh) (λj hj=>?_) λj a ha=>?_
 ·have:j≠i:=λz=>hj (by simp[Tg.slots,z]);rw[Zi (Ne.symm this)]
 ·by_cases hj:j=i
  ·rw[if_pos hj]at ha;exact .inr ha
  ·rw[if_neg hj]at ha;exact .inl ha
theorem Qys{es:List Expr}{k:Nat}{t:TGs}{n:Nat}(hc:X.calm=true)(h:PGs X es t)
  (hn:(assignEach es X.env).length=n) (hst:(assignEach es X.env).findIdx? (·.1)=none):PG X (.Tuple es k pos) (λv σ H Q=>∃a xs,v= .ref a/\SqL X.K H a xs/\xs.length=n/\t xs σ H Q):=by
 intro pins s σ H v u Q I r hw;obtain⟨a,xs,e1,hq,hl,hw⟩:=hw;subst e1;cases r;obtain⟨its,rv,ht,hz⟩:=I.list hq;rw[PyProof.Rows.assign_Tuple];refine wpAny_bind (wpAny_standAt ?_);unfold unpack;rw[hn,hst,show n=its.toArray.size by simp[← hl,rv.length]];refine wpAny_bind (wpAny_holding (PySem.W.kun_itemsOf (I.ok.hd hc) ht.isList λh' hx=>?_));have I1:Inv X pins σ H {s with heap:=h'}:=I.kept (t':=s.toks) λb o e=>hx b o (ZG (Zo e)) e;exact h pins _ σ H xs _ Q I1 (by simpa using rv) hw
theorem QAs{es:List Expr}{k:Nat}{is:List Nat}(hc:X.calm=true)(h:PGs X es (QlT is))(hn:(assignEach es X.env).length=is.length)(hst:(assignEach es X.env).findIdx? (·.1)=none):SG X (.Tuple es k pos) (.tp is):=λH0 A0=>
 λpins s σ H v u Q I r Z=>by
  obtain⟨U,hs,F,d,G,U',rel,rp,sh,e,q⟩:=Z;cases d with
  | tup xs=>
   simp only[QbB]at e;split at e
   ·rename_i hl;cases e;obtain⟨a,vs,rfl,hq,rs⟩:=rp.QaZ;exact QBf hc h hn hst pins s σ H _ u Q I r ⟨a,vs,rfl,hq,by rw[← rs.length];exact hl,Qk2 is xs vs U F σ H G Q rel rs sh hl q⟩
   ·cases e
  | lst xs=>
   simp only[QbB]at e;split at e
   ·rename_i hl;cases e;obtain⟨a,vs,L,rfl,hq,rs,_,eG⟩:=rp.lst_inv;have sub:∀b∈L,b∈G:=λb hb=>by
     rcases eG with rfl | rfl
     ·exact Zc _ hb
     ·exact hb
    exact Qys hc h hn hst pins s σ H _ u Q I r ⟨a,vs,rfl,QX hq,by rw[← rs.length];exact hl,Qk2 is xs vs U F σ H L Q rel rs (λb hb=>sh b (sub b hb)) hl λσ' F' rel' k m=>q σ' F' rel' k λj b hb=>(m j b hb).imp id (sub b)⟩
   ·cases e
  | _=>simp only[QbB]at e;cases e
end
noncomputable def Qfm(cap:List (Option Nat))(U:En):En:=cap.map λo=>o.bind λi=>match U[i]? with
 | some (some (d,_))=>some (d,d.flat)
 | _=>none
noncomputable def Qsp(cap:List (Option Nat))(U:En):List Nat:=cap.filterMap λo=>o.bind λi=>match U[i]? with
 | some (some (d,b))=>if b && !d.flat then some i else none
 | _=>none
noncomputable def Qgp(t:Tg)(ft:DT)(fe:DE)(Uc:En)(acc:List D×Bool)(d:D):Option (List D×Bool):=
 (QbB t d Uc).bind λU1=>(ft U1).bind λc=>if c=true then(fe U1).map λr=>(acc.1++[r.d],acc.2 && r.norm.fr)else some acc
noncomputable def QQ(fi:DI)(t:Tg)(cap:List (Option Nat))(ft:DT)(fe:DE):DE:=λU=>(fi U).bind λir=>
 (ir.items.foldlM (Qgp t ft fe (Qfm cap U)) ([],true)).map λq=>if q.2=true then⟨.lst q.1,true,[]⟩else⟨.lst q.1,false,ir.M++Qsp cap U⟩
def Qdg(U:En):Prop:=∀(j:Nat) d,U[j]? =some (some (d,true))->d.flat=true
theorem Qdg.set{U:En}(h:Qdg U)(i:Nat)(d:D):Qdg (U.set i (some (d,d.flat))):=λj d' e=>by
 by_cases hj:j=i
 ·subst hj;have hl:j<U.length:=by
   by_cases hl:j<U.length
   ·exact hl
   ·rw[ZA (by simp;omega)]at e;cases e
  rw[Zu hl]at e;have e1:=Option.some.inj (Option.some.inj e);have h1:d=d':=congrArg Prod.fst e1;have h2:d.flat=true:=congrArg Prod.snd e1;rw[← h1];exact h2
 ·rw[Zi (Ne.symm hj)]at e;exact h j d' e
theorem Qdg.Qej:∀(is:List Nat) (ds:List D) {U:En},Qdg U->Qdg (Qej is ds U)
 | [],_,_,h=>h
 | _::_,[],_,h=>h
 | i::is,d::ds,_,h=>Qdg.Qej is ds (h.set i d)
theorem Qdg.bind{t:Tg}{d:D}{U U':En}(h:Qdg U)(e:QbB t d U=some U'):Qdg U':=by
 cases t with
 | nm i=>cases e;exact h.set i d
 | tp is=>
  cases d with
  | tup xs=>
   simp only[QbB]at e;split at e
   ·cases e;exact h.Qej is xs
   ·cases e
  | lst xs=>
   simp only[QbB]at e;split at e
   ·cases e;exact h.Qej is xs
   ·cases e
  | _=>simp only[QbB]at e;cases e
theorem Qkt(cap:List (Option Nat))(U:En):Qdg (Qfm cap U):=λj d e=>by
 unfold Qfm at e;rw[Zs]at e;cases q:cap[j]? with
 | none=>rw[q]at e;cases e
 | some o=>
  rw[q]at e;cases o with
  | none=>cases e
  | some i=>
   simp only[ZR,Za,Option.some.injEq]at e;split at e
   ·have e1:=Option.some.inj e;have h1:=congrArg Prod.fst e1;have h2:=congrArg Prod.snd e1;dsimp only at h1 h2;rw[← h1];exact h2
   ·cases e
theorem QnG{cap:List (Option Nat)}{U:En}{j:Nat}{d:D}{b:Bool}(e:(Qfm cap U)[j]? =some (some (d,b))):∃i b',cap[j]? =some (some i)/\U[i]? =some (some (d,b')):=by
 unfold Qfm at e;rw[Zs]at e;cases q:cap[j]? with
 | none=>rw[q]at e;cases e
 | some o=>
  rw[q]at e;cases o with
  | none=>cases e
  | some i=>
   simp only[ZR,Za,Option.some.injEq]at e;split at e
   ·rename_i d' b' hi;have e1:=Option.some.inj e;have h1:d'=d:=congrArg Prod.fst e1;subst h1;exact⟨i,b',rfl,hi⟩
   ·cases e
def QpG(X:Cx)(ifs:List Expr)(f:DT):Prop:=∀H0 A0,PTs X ifs (tVT X.K H0 A0 f)
noncomputable def Q8:DT:=λ_=>some true
theorem Qwg{X:Cx}:QpG X [] Q8:=λH0 A0 pins s σ H Q I=>exK λU hs F b rel e q=>by
 cases e;exact QxJ pins s σ H Q I (q H (QM.refl _))
theorem Qwq{X:Cx}{c:Expr}{f:DT}(h:ST X c f):QpG X [c] f:=λH0 A0=>QyR (h H0 A0)
structure Qn4 (X:Cx) (N':List Str) (scope:Scope) (cap:List (Option Nat)) (tgs:List Nat):Prop where
 len:cap.length=N'.length
 get:∀(j i:Nat),cap[j]? =some (some i)->∃x,N'[j]? =some x/\scope.names.lookup x=some .free/\X.N[i]? =some x/\(X.env.kindOf x=some .cell∨X.env.kindOf x=some .free)
 apart:∀(j i:Nat),cap[j]? =some (some i)->j∉tgs
theorem join_some{α:Type}{o:Option (Option α)}{v:α}(h:o.join=some v):o=some (some v):=by
 cases o with
 | none=>cases h
 | some p=>cases p with
  | none=>cases h
  | some x=>exact h▸rfl
theorem Qnp{X:Cx}{N':List Str}{scope:Scope}{fi:DI}{t:Tg}{cap:List (Option Nat)}{ft:DT}{fe:DE}{H0:Hp}{A0:LAd}{σ:L2.St}{H:Hp}{Q:VK}(hc:Qn4 X N' scope cap t.slots):
  tV X.K H0 A0 (QQ fi t cap ft fe) σ H Q->Qoe (tI X.K H0 A0 fi) (Qll X N' scope) (tG X.K (λ_=>none) [] t) (tVT X.K (λ_=>none) [] ft) (tV X.K (λ_=>none) [] fe) σ H Q:=exK λU hs F r rel e q=>by
 refine Qh e λir e1 e=>?_;obtain⟨⟨xs,f⟩,ef,e⟩:=Ze.mp e;subst e;refine⟨U,hs,F,ir,rel,e1,λJ H1 ts s1 wk hts ow hz=>?_⟩;refine⟨cap.map λo=>o.bind λi=>σ[i]?.join,⟨by simp[hc.len],λj x v hN hv=>?_⟩,λDl hD=>?_⟩
 ·rw[Zs]at hv;cases qc:cap[j]? with
  | none=>rw[qc]at hv;cases hv
  | some o=>
   rw[qc]at hv;cases o with
   | none=>cases hv
   | some i=>
    simp only[ZR,Za,Option.some.injEq]at hv;obtain⟨y,h1,h2,h3,h4⟩:=hc.get j i qc;rw[hN]at h1;cases h1;exact⟨h2,i,h3,join_some hv,h4⟩
 generalize hσc:(cap.map λo=>o.bind λi=>σ[i]?.join)=σc;generalize hUc:Qfm cap U=Uc at ef
 have hF0:∃Fc:Nat->List Addr,Fc=λj=>match cap[j]? with
  | some (some i)=>(match U[i]? with
   | some (some _)=>F i
   | _=>[])
  | _=>[]:=⟨_,rfl⟩
 obtain⟨Fc,hFc⟩:=hF0;have rel1:=rel.ext s1;have relC:∀H2,QM H1 H2->Rel X.K (λ_=>none) [] [] Uc Fc σc H2:=λH2 s2=>by
  refine⟨by rw[← hUc,← hσc];simp[Qfm],λj d b e=>?_,λj d e=>?_,λj d b e a ha=> .inl rfl,λt ht=>(by simp at ht),λb o z=>(by cases z)⟩
  ·rw[← hUc]at e;obtain⟨i,b',h1,h2⟩:=QnG e;obtain⟨v,h3,h4⟩:=(rel1.ext s2).val i d b' h2;refine⟨v,?_,?_⟩
   ·rw[← hσc,Zs,h1];simp only[ZR,Za,h3,Option.join_some]
   ·rw[hFc];simp only[h1,h2];exact h4
  ·have hf:d.flat=true:=Qkt cap U j d (by rw[hUc];exact e);have:Fc j=[]:=by
    rw[← hUc]at e;obtain⟨i,b',h1,h2⟩:=QnG e;obtain⟨v,h3,h4⟩:=rel1.val i d b' h2;rw[hFc];simp only[h1,h2];exact h4.Qci hf
   rw[this];exact⟨(QdM d hf).symm,ZaD,λa ha=>(by simp at ha),λ_ _ _ _ _ a ha=>(by simp at ha),λt ht=>(by simp at ht)⟩
 have shC:∀G,Shr (λ_=>none) [] Uc Fc G:=λG a ha=>⟨.inl rfl,λj d e hj=>by
  have h0:=(relC H1 (QM.refl _)).own j d e;have hf:d.flat=true:=Qkt cap U j d (by rw[hUc];exact e);have:(Fc j).length=0:=by rw[h0.1,QdM d hf]
  rw[Zan this]at hj;simp at hj⟩
 have hSh:Qdg Uc:=by rw[← hUc];exact Qkt cap U
 have heldOf:∀H2,QM H1 H2->QkS X.K H2 ts:=λH2 s2 t ht=>(hts t ht).1.same s2;have oldOf:∀a,((∃t∈ts,a∈t.2.2)∨∃j,a∈Fc j)->(∃u,H1 a=some u)/\(H a=none∨∃(i:Nat) (d:D) (b:Bool),U[i]? =some (some (d,b))/\a∈F i/\(b=true->i∈ir.M++Qsp cap U)):=λa ha=>by
  rcases ha with⟨t,ht,ha⟩ | ⟨j,ha⟩
  ·refine⟨(hts t ht).1.mem a ha,?_⟩;rcases(hts t ht).2 a ha with z | ⟨i,d,b,e,m,w⟩
   ·exact .inl z
   ·exact .inr ⟨i,d,b,e,m,λhb=>Zf _ (w hb)⟩
  ·have ha0:=ha;rw[hFc]at ha;dsimp only at ha;split at ha
   ·rename_i i hi;split at ha
    ·rename_i db hdb;obtain⟨d,b⟩:=db;obtain⟨v,h3,h4⟩:=rel1.val i d b hdb;refine⟨h4.mem a ha,.inr ⟨i,d,b,hdb,ha,λhb=>Zd _ ?_⟩⟩;unfold Qsp;refine ZaR.mpr ⟨some i,Zaj hi,?_⟩;simp only[Za,hdb];have hnf:d.flat=false:=by
      cases hf:d.flat with
      | false=>rfl
      | true=>rw[h4.Qci hf]at ha;simp at ha
     rw[hb,hnf];rfl
    ·simp at ha
   ·simp at ha
 have fresh5:∀H2,QM H1 H2->∀a,H2 a=none->H1 a=none:=λH2 s2 a h=>s2.free h
 refine⟨λi m acc H2=>m=ir.items.length-i/\i<=ir.items.length/\QM H1 H2/\H2 Dl=some (.lst acc)/\∃(ys:List D) (g:Bool) (G:LAd),(ir.items.drop i).foldlM (Qgp t ft fe Uc) (ys,g)=some (xs,f)/\Rps X.K H2 ys acc G/\ys.length<=i∧
  (∀a∈G,a≠Dl/\(H1 a=none∨(∃t∈ts,a∈t.2.2)∨∃j,a∈Fc j))/\(g=true->G.length=nls ys/\∀a,G.count a<=nw H1 a),⟨ir.items.length,rfl,ZO _,QaH hD,Qad,[],true,[],by simpa using ef,by simp[Rps],Zj _,λa ha=>(by simp at ha),λ_=>⟨rfl,λa=>by simp⟩⟩,?_⟩
 rintro i m acc H2 ⟨rfl,hi,s2,eD,ys,g,G,hfold,rps,hlen,hG,hcnt⟩;by_cases hlt:i<ir.items.length
 ·refine .inr ⟨wk.go i H2 hlt (heldOf H2 s2),λx H3 hy=>?_⟩;obtain⟨s3,G0,rp0,hG0⟩:=wk.yld i ir.items[i] H2 x H3 (by simp[hlt]) (heldOf H2 s2) hy;rw[Zab hlt,ZbU]at hfold;refine Qh hfold λacc1 hstep hrest=>?_;unfold Qgp at hstep;refine Qh hstep λU1 eb hstep=>?_;refine Qh hstep λc ec hstep=>?_;have sh1:Qdg U1:=hSh.bind eb;refine⟨Uc,[],Fc,ir.items[i],G0,U1,relC H3 (s2.trans s3),rp0,shC G0,eb,λσ2 F2 rel2 keep mem2=>⟨λj v hv=>?_,U1,[],F2,c,rel2,ec,λH5 s5=>?_⟩⟩
  ·have hj:j∉t.slots:=λhj=>by
    rw[← hσc,Zs]at hv;cases qc:cap[j]? with
    | none=>rw[qc]at hv;cases hv
    | some o=>
     cases o with
     | none=>rw[qc]at hv;cases hv
     | some k=>exact hc.apart j k qc hj
   rw[keep j hj];exact hv
  have s15:QM H1 H5:=(s2.trans s3).trans s5;have eD5:H5 Dl=some (.lst acc):=s5 _ _ (s3 _ _ eD);cases c with
  | false=>
   rw[if_neg ZV]at hstep;refine QrE ?_;cases hstep;exact⟨_,⋯,rfl,hlt,s15,eD5,ys,g,G,hrest,rps.same (s3.trans s5),⋯,hG,hcnt⟩
  | true=>
   rw[if_pos rfl]at hstep;refine Qsc ?_;obtain⟨rr,er,hstep⟩:=Ze.mp hstep;subst hstep;refine⟨U1,[],F2,rr,rel2.ext s5,er,λy H6 Ge pe=>?_⟩;have eD6:H6 Dl=some (.lst acc):=pe.same _ _ eD5;have s16:=s15.trans pe.same;refine⟨eD6,?_,_,⋯,rfl,hlt,?_⟩
   ·rw[← rps.length];exact ZaE hlen (Zt hlt hz)
   have hGe:∀a∈Ge,a≠Dl/\(H1 a=none∨(∃t∈ts,a∈t.2.2)∨∃j,a∈Fc j):=λa ha=>by
    rcases pe.src a ha with z | ⟨j,d,b,ej,hj,_⟩
    ·exact⟨λw=>(by rw[w,eD5]at z;cases z),.inl (s15.free z)⟩
    ·have h1:(∃t∈ts,a∈t.2.2)∨∃j,a∈Fc j:=by
      rcases mem2 j a hj with w | w
      ·exact .inr ⟨j,w⟩
      ·exact .inl (hG0 a w)
     obtain⟨⟨vs,w⟩,_⟩:=oldOf a h1;exact⟨λw'=>(by rw[w',hD]at w;cases w),.inr h1⟩
   have nD:Dl∉G:=λh=>(hG _ h).1 rfl;have nDe:Dl∉Ge:=λh=>(hGe _ h).1 rfl;have sU:QM H1 (L2.upd H6 Dl (.lst (acc++[y]))):=λb o hb=>by rw[QD (Qb9 hb hD)];exact s16 b o hb
   refine⟨sU,Qad,ys++[rr.d],g && rr.norm.fr,G++Ge,hrest,?_,by rw[Zz,Zbr];omega,λa ha=>?_,λhg=>?_⟩
   ·refine Rps.append ((rps.same ((s3.trans s5).trans pe.same)).upd eD6 nD) ?_;simp only[Rps];exact⟨y,[],Ge,[],rfl,by simp,pe.rp.upd eD6 nDe,rfl,rfl⟩
   ·rcases ZH.mp ha with h | h
    ·exact hG a h
    ·exact hGe a h
   ·simp only[Zh]at hg;obtain⟨l1,c1⟩:=hcnt hg.1;have pn:=pe.norm;obtain⟨c2,l2⟩:=pn.cnt hg.2;rw[rr.Qd4]at l2;have nlapp:∀(as bs:List D),nls (as++bs)=nls as+nls bs:=λas bs=>by
     induction as with
     | nil=>simp[nls]
     | cons a as ih=>simp only[ZbT,nls,ih];omega
    refine⟨by rw[Zz,l1,l2,nlapp];simp[nls],λa=>?_⟩;have fl:((rr.norm.M.map F2).flatten).count a=0:=by
     rw[ZW];intro hm;obtain⟨l,hl,hal⟩:=Zbw.mp hm;obtain⟨j,hj,rfl⟩:=ZT.mp hl;obtain⟨d,ej⟩:=pn.own j hj;have hf:=sh1 j d ej;obtain⟨v,_,rv⟩:=rel2.val j d true ej;rw[rv.Qci hf]at hal;simp at hal
    have h1:=c1 a;have h2:=c2 a;rw[fl]at h2;rw[Zam];cases q5:H5 a with
    | some o=>rw[Qet q5]at h2;omega
    | none=>
     rw[QaU q5]at h2;have h0:G.count a=0:=ZW.mpr λhm=>by
      obtain⟨vs,w⟩:=rps.mem a hm;rw[s5 _ _ (s3 _ _ w)]at q5;cases q5
     rw[QaU (s15.free q5)];omega
 ·have hn:i=ir.items.length:= ⋯
  subst hn;refine .inl ⟨wk.stop H2 (heldOf H2 s2),?_⟩;rw[ZbV]at hfold;have:(ys,g)=(xs,f):=Option.some.inj hfold;cases this;have rp:Rp X.K H2 (.lst xs) (.ref Dl) (Dl::G):=Rp.QfE eD rps (ZC hlen hz);have hHD:H Dl=none:=s1.free hD;split at q
  ·rename_i hg;have hg:f=true:=hg;obtain⟨l1,c1⟩:=hcnt hg;have hn:∀a∈G,H1 a=none:=λa ha=>by
    have:=c1 a;have h2:0<G.count a:=Zaw.mpr ha;cases w:H1 a with
    | none=>rfl
    | some o=>rw[Qet w]at this;omega
   refine q _ H2 (Dl::G) ⟨s1.trans s2,rp,λa ha=>?_,λ_=>⟨λa=>?_,by simp only[D.nl,ZU,l1]⟩,Qbv.nil⟩
   ·rcases Zn.mp ha with rfl | h
    ·exact .inl hHD
    ·exact .inl (s1.free (hn a h))
   ·rw[ZaI];have h1:=c1 a;split
    ·rename_i w;have w:Dl=a:=by simpa using w
     subst w;have h0:G.count Dl=0:=ZW.mpr λh=>(hG _ h).1 rfl;rw[QaU hHD];omega
    ·cases w:H1 a with
     | none=>rw[QaU w]at h1;rw[QaU (s1.free w)];omega
     | some o=>rw[Qet w]at h1;omega
  ·refine q _ H2 (Dl::G) ⟨s1.trans s2,rp,λa ha=>?_,λz=>(by cases z),?_⟩
   ·rcases Zn.mp ha with rfl | h
    ·exact .inl hHD
    ·rcases(hG a h).2 with z | z
     ·exact .inl (s1.free z)
     ·exact(oldOf a z).2
   ·refine ow.append λi hi=>?_;unfold Qsp at hi;obtain⟨o,_,ho⟩:=ZaR.mp hi;cases o with
    | none=>cases ho
    | some k=>
     simp only[Za]at ho;split at ho
     ·rename_i d b hk;split at ho
      ·rename_i hb;cases ho;simp only[Zh]at hb;rw[hb.1]at hk;exact⟨d,hk⟩
      ·cases ho
     ·cases ho
section
variable {X:Cx}{tg iter elt:Expr}{ifs:List Expr}{scope:Scope}{N':List Str}{pos:Pos}{fi:DI}{t:Tg}{cap:List (Option Nat)}{ft:DT}{fe:DE}
theorem Qyu(hcalm:X.calm=true)(S:Qe3 X N' scope)(hi:SI X tg iter fi)(hcap:Qn4 X N' scope cap t.slots)
  (hin:∀cl C fp s3 H3,SG (cxc X N' scope cl C fp s3 H3) tg t/\QpG (cxc X N' scope cl C fp s3 H3) ifs ft/\SE (cxc X N' scope cl C fp s3 H3) elt fe) (hs:∀x,foldedSetIterable iter X.env x=pure x):
  SE X (.ListComp elt [⟨tg,iter,ifs,0⟩] scope pos) (QQ fi t cap ft fe):=λH0 A0=>
 (QqC hcalm S (hi H0 A0) (λcl C fp s3 H3=>⟨(hin cl C fp s3 H3).1 _ _,(hin cl C fp s3 H3).2.1 _ _,(hin cl C fp s3 H3).2.2 _ _⟩) hs).mono λσ H Q h=>Qnp hcap h
end
inductive Out where
 | nx (U:En)
 | bk (U:En)
 | ct (U:En)
 | rt (d:D) (fr:Bool)
noncomputable abbrev DS:=En->Option Out
noncomputable def Fits(K:Fgg)(H0:Hp)(A0:LAd)(hs:List (V×D×List Addr))(E:Ends):Out->Prop
 | .nx U=>∀σ H F,Rel K H0 A0 hs U F σ H->E.nx σ H
 | .bk U=>∀σ H F,Rel K H0 A0 hs U F σ H->E.bk σ H
 | .ct U=>∀σ H F,Rel K H0 A0 hs U F σ H->E.ct σ H
 | .rt d fr=>∀v H G,Ret K H0 A0 d fr v H G->E.rt v H
noncomputable def tS(K:Fgg)(H0:Hp)(A0:LAd)(f:DS):TS:=λE σ H=>∃U hs F o,Rel K H0 A0 hs U F σ H/\f U=some o/\Fits K H0 A0 hs E o
def S1(X:Cx)(st:Stmt)(f:DS):Prop:=∀H0 A0,PS X st (tS X.K H0 A0 f)
def SS(X:Cx)(sts:List Stmt)(f:DS):Prop:=∀H0 A0,PSs X sts (tS X.K H0 A0 f)
theorem _root_.L2.PS.mono(h:PS X st t)(m:∀D σ H,t' D σ H->t D σ H):PS X st t':=λpins s σ H D I q=>h pins s σ H D I (m D σ H q)
theorem _root_.L2.PSs.mono(h:PSs X st t)(m:∀D σ H,t' D σ H->t D σ H):PSs X st t':=λpins s σ H D I q=>h pins s σ H D I (m D σ H q)
noncomputable def Qi:DS:=λU=>some (.nx U)
noncomputable def Qc(f g:DS):DS:=λU=>(f U).bind λo=>match o with
 | .nx U'=>g U'
 | .bk U'=>some (.bk U')
 | .ct U'=>some (.ct U')
 | .rt d fr=>some (.rt d fr)
noncomputable def Qvu:DS:=λU=>some (.bk U)
noncomputable def QvR:DS:=λU=>some (.ct U)
noncomputable def Qt(i:Nat)(fa:DE):DS:=λU=>(fa U).bind λr=>some (.nx (asg i r U))
noncomputable def QbP(fa:DE):DE:=λU=>(fa U).map λr=>⟨r.d,false,r.M⟩
noncomputable def QB(fa:DE):DS:=λU=>(fa U).bind λr=>some (.rt r.d (r.norm.fr && decide r.norm.M.Nodup))
noncomputable def Qal(fa:DE):DS:=λU=>(fa U).bind λ_=>some (.nx U)
noncomputable def sIf(g:DT)(f1 f2:DS):DS:=λU=>(g U).bind λb=>if b=true then f1 U else f2 U
noncomputable def Qdc(t:Tg)(fb:DS):List D->DS
 | [],U=>some (.nx U)
 | d::ds,U=>(QbB t d U).bind λU1=>(fb U1).bind λo=>match o with
  | .nx U2=>Qdc t fb ds U2
  | .ct U2=>Qdc t fb ds U2
  | .bk U2=>some (.nx U2)
  | .rt d fr=>some (.rt d fr)
noncomputable def Qbh(fi:DI)(t:Tg)(fb:DS):DS:=λU=>(fi U).bind λir=>Qdc t fb ir.items (Qa7 ir.M U)
noncomputable def Qbc(g:DT)(fb:DS):Nat->DS
 | 0,_=>none
 | n+1,U=>(g U).bind λb=>if b=true then(fb U).bind λo=>match o with
  | .nx U2=>Qbc g fb n U2
  | .ct U2=>Qbc g fb n U2
  | .bk U2=>some (.nx U2)
  | .rt d fr=>some (.rt d fr)
  else some (.nx U)
noncomputable def Qik(g:D->D->Option D)(i:Nat)(fa:DE):DS:=λU=>match U[i]? with
 | some (some (d,_))=>(fa U).bind λr=>(g d r.d).map λd'=> .nx (U.set i (some (d',true)))
 | _=>none
section
theorem QlK:SS X [] Qi:=λH0 A0=>Qyf.mono λE σ H=>exK λU hs F o rel e q=>by
 cases e;exact q σ H F rel
theorem QmR(h1:S1 X st f)(h2:SS X sts g):SS X (st::sts) (Qc f g):=λH0 A0=>(Qps (h1 H0 A0) (h2 H0 A0)).mono λE σ H=>exK λU hs F o rel e q=>by
 refine Qh e λo1 e1 e=>?_;refine⟨U,hs,F,o1,rel,e1,?_⟩;cases o1 with
 | nx U'=>exact λσ' H' F' rel'=>⟨U',hs,F',o,rel',e,q⟩
 | bk U'=>cases e;exact q
 | ct U'=>cases e;exact q
 | rt d fr=>cases e;exact q
theorem QxG:S1 X (.Pass pos) Qi:=λH0 A0=>Qy9.mono λE σ H=>exK λU hs F o rel e q=>by
 cases e;exact q σ H F rel
theorem Qwk:S1 X (.Break pos) Qvu:=λH0 A0=>Qwc.mono λE σ H=>exK λU hs F o rel e q=>by
 cases e;exact q σ H F rel
theorem QyP:S1 X (.Continue pos) QvR:=λH0 A0=>Qqp.mono λE σ H=>exK λU hs F o rel e q=>by
 cases e;exact q σ H F rel
theorem QuF(h:SE X e fa):SE X e (QbP fa):=λH0 A0=>(h H0 A0).mono λσ H Q=>exK λU hs F r rel e q=>by
 obtain⟨r',e1,rfl⟩:=Ze.mp e;exact⟨U,hs,F,r',rel,e1,λv H' G p=>q v H' G ⟨p.same,p.rp,p.src,λz=>(by cases z),p.own⟩⟩
theorem Qlg(h:∀H0 A0,PS X st (QoP (tV X.K H0 A0 fa) (Qjo i))):S1 X st (Qt i fa):=λH0 A0=>(h H0 A0).mono λE σ H=>exK λU hs F o rel e q=>by
 refine Qh e λr e1 e=>?_;cases e;refine⟨U,hs,F,r,rel,e1,λv H' G p=>?_⟩;obtain⟨F',rel'⟩:=rel.asg (i:=i) p;exact q _ _ F' rel'
theorem QyB(h:PS X st (Qrv (tV X.K H0 A0 fa))):PS X st (tS X.K H0 A0 (Qal fa)):=h.mono λE σ H=>exK λU hs F o rel e q=>by
 refine Qh e λr e1 e=>?_;cases e;exact⟨U,hs,F,r,rel,e1,λv H' G p=>q σ H' F (rel.ext p.same)⟩
theorem Rel.ret(rel:Rel K H0 A0 hs U F σ H)(p:Qaj K U F H H' r v G):Ret K H0 A0 r.d (r.norm.fr && decide r.norm.M.Nodup) v H' G where
 same:=rel.same.trans p.same
 rp:=p.rp
 src:=λa ha=>by
  rcases p.src a ha with z | ⟨i,d,b,e,m,_⟩
  ·exact .inl (rel.same.free z)
  ·exact rel.src i d b e a m
 cnt:=λh=>by
  simp only[Zh,decide_eq_true_eq]at h;have p':=p.norm;obtain⟨h1,h2⟩:=p'.fresh rel h.1 h.2;have h3:=(p'.cnt h.1).2;rw[r.Qd4]at h3;exact⟨h1,h3,λa ha=>(h2 a ha).1⟩
theorem Qom(he:SE X e fa):S1 X (.Return (some e) pos) (QB fa):=λH0 A0=>(QsJ (he H0 A0)).mono λE σ H=>exK λU hs F o rel e q=>by
 refine Qh e λr e1 e=>?_;cases e;exact⟨U,hs,F,r,rel,e1,λv H' G p=>q v H' G (rel.ret p)⟩
theorem Qxc(hc:ST X c gc)(ha:SS X a f)(hb:SS X b g):S1 X (.If c a b pos) (sIf gc f g):=λH0 A0=>(Qw5 (hc H0 A0) (ha H0 A0) (hb H0 A0)).mono λE σ H=>exK λU hs F o rel e q=>by
 refine Qh e λc e1 e=>?_;refine⟨U,hs,F,c,rel,e1,λH1 s1=>?_⟩;cases c with
 | true=>exact Qsc ⟨U,hs,F,o,rel.ext s1,e,q⟩
 | false=>exact QrE ⟨U,hs,F,o,rel.ext s1,e,q⟩
theorem QBg(hp:PassesOwn (model X.prog X.w) X.A X.env X.xe)(hc:X.calm=true)(hi:SI X tg iter fi)(hg:SG X tg t)(hb:SS X body f)(hs:∀x,foldedSetIterable iter X.env x=pure x):
  S1 X (.For tg iter body [] pos) (Qbh fi t f):=λH0 A0=>(Qsw hp hc (hi H0 A0) (hg H0 A0) (hb H0 A0) hs).mono λE σ H=>exK λU hs F o rel e q=>by
 refine Qh e λir e1 e=>?_;refine⟨U,hs,F,ir,rel,e1,λJ H1 ts s1 wk hts ow hz=>?_⟩;have rel1:Rel X.K H0 A0 (ts++hs) (Qa7 ir.M U) F σ H1:=((rel.ext s1).weak (Qcd ir.M U)).hold λt ht=>⟨(hts t ht).1,Shr.of rel (hts t ht).2⟩;refine⟨λi m σ' H'=>m=ir.items.length-i/\i<=ir.items.length/\∃Ui Fi,Rel X.K H0 A0 (ts++hs) Ui Fi σ' H'/\Qdc t f (ir.items.drop i) Ui=some o,⟨_,rfl,ZO _,_,F,rel1,by simpa using e⟩,?_⟩;rintro i m σ' H' ⟨rfl,hi',Ui,Fi,reli,ei⟩;have held:QkS X.K H' ts:=λt ht=>(reli.held t (Zf _ ht)).1;by_cases hlt:i<ir.items.length
 ·rw[Zab hlt]at ei;unfold Qdc at ei;refine Qh ei λU1 eb ei=>?_;refine Qh ei λo1 eo ei=>?_;refine .inr ⟨wk.go i H' hlt held,λσ2 H2=>∃U2 F2,Rel X.K H0 A0 (ts++hs) U2 F2 σ2 H2/\Qdc t f (ir.items.drop (i+1)) U2=some o,λσ2 H2 ⟨U2,F2,rel2,e2⟩=>⟨_,⋯,rfl,hlt,U2,F2,rel2,e2⟩,λx H2 hy=>?_⟩;obtain⟨s2,G0,rp0,hG0⟩:=wk.yld i ir.items[i] H' x H2 (by simp[hlt]) held hy;have shr:Shr H0 A0 Ui Fi G0:=λa ha=>by
   obtain⟨t,ht,hat⟩:=hG0 a ha;exact⟨(reli.held t (Zf _ ht)).2 a hat,λj d ej hj=>(reli.own j d ej).2.2.2.2 t (Zf _ ht) a hj hat⟩
  refine⟨Ui,ts++hs,Fi,ir.items[i],G0,U1,reli.ext s2,rp0,shr,eb,λσ3 F3 rel3 _ _=>⟨U1,ts++hs,F3,o1,rel3,eo,?_⟩⟩;cases o1 with
  | nx U2=>exact λσ4 H4 F4 rel4=>⟨U2,F4,rel4,ei⟩
  | ct U2=>exact λσ4 H4 F4 rel4=>⟨U2,F4,rel4,ei⟩
  | bk U2=>cases ei;exact λσ4 H4 F4 rel4=>q σ4 H4 F4 rel4.Qpf
  | rt d fr=>cases ei;exact q
 ·have hn:i=ir.items.length:= ⋯
  subst hn;rw[ZbV]at ei;cases ei;exact .inl ⟨wk.stop H' held,q σ' H' Fi reli.Qpf⟩
theorem Qve(hp:PassesOwn (model X.prog X.w) X.A X.env X.xe)(hc:ST X c gc)(hb:SS X body f):S1 X (.While c body [] pos) (Qbc gc f n):=λH0 A0=>(QuM hp (hc H0 A0) (hb H0 A0)).mono λE σ H=>exK λU hs F o rel e q=>by
 refine⟨λm σ' H'=>∃Ui Fi,Rel X.K H0 A0 hs Ui Fi σ' H'/\Qbc gc f m Ui=some o,⟨n,U,F,rel,e⟩,?_⟩;rintro m σ' H' ⟨Ui,Fi,reli,ei⟩;cases m with
 | zero=>cases ei
 | succ m=>
  unfold Qbc at ei;refine Qh ei λb eb ei=>?_;refine⟨Ui,hs,Fi,b,reli,eb,λH1 s1=>?_⟩;cases b with
  | false=>
   rw[if_neg ZV]at ei;cases ei;exact QrE (q σ' H1 Fi (reli.ext s1))
  | true=>
   rw[if_pos rfl]at ei;refine Qh ei λo1 eo ei=>?_;refine Qsc ⟨λσ2 H2=>∃U2 F2,Rel X.K H0 A0 hs U2 F2 σ2 H2/\Qbc gc f m U2=some o,λσ2 H2 h=>⟨m,ZaN _,h⟩,Ui,hs,Fi,o1,reli.ext s1,eo,?_⟩;cases o1 with
   | nx U2=>exact λσ4 H4 F4 rel4=>⟨U2,F4,rel4,ei⟩
   | ct U2=>exact λσ4 H4 F4 rel4=>⟨U2,F4,rel4,ei⟩
   | bk U2=>cases ei;exact λσ4 H4 F4 rel4=>q σ4 H4 F4 rel4
   | rt d fr=>cases ei;exact q
theorem Rel.QAU(rel:Rel K H0 A0 hs U F σ H)(rp:Rp K H d v [])(hf:d.flat=true):
  ∃F',Rel K H0 A0 hs (U.set i (some (d,true))) F' (σ.set i (some v)) H:=by
 have:=rel.Qr0 (i:=i) rp (λa ha=>by simp at ha);rw[hf]at this;exact⟨_,this⟩
theorem QAj(ho:OpR X (inplaceOp op) r)(hg:QcD X.K g r)(h:∀te ti,PE X e te->PIp X op ti->PS X (.AugAssign (.Name x pos') op e pos) (QzQ i te ti))(he:SE X e fa):S1 X (.AugAssign (.Name x pos') op e pos) (Qik g i fa):=λH0 A0=>
 (h _ _ (he H0 A0) (λpins s σ H x y v u Q I rx ry q=>QAE ho I rx ry q)).mono λE σ H=>exK λU hs F o rel e q=>by
  unfold Qik at e;split at e
  ·rename_i d b hd;refine Qh e λr' e1 e=>?_;obtain⟨d',e2,e⟩:=Ze.mp e;subst e;obtain⟨v,h1,h2⟩:=rel.val i d b hd;refine⟨v,h1,U,hs,F,r',rel,e1,λy H1 G p=>(hg _ _ _ e2).2 H1 v y (F i) G _ (h2.same p.same) p.rp λw hw=>?_⟩;obtain⟨F',rel'⟩:=(rel.ext p.same).QAU (i:=i) (hw H1) (hg _ _ _ e2).1;exact q _ _ F' rel'
  ·cases e
end
end HS
namespace HS
open PySem PySem.Spec L2 PyProof.Rows
section
variable {K:Fgg}{H H':Hp}{p:Addr}{zs ys:List (List Key×V)}
theorem QvB{a:Addr}{vs:List V}(hp:H p=some (.dT zs))(h:SqT K H a vs):SqT K (L2.upd H p (.dT ys)) a vs:=by
 rcases h with(h | ⟨o,h⟩) | h
 ·exact .inl (.inl (by rw[QD (QeO h hp (by intro z;cases z))];exact h))
 ·exact .inl (.inr ⟨o,by rw[QD (QeO h hp (by intro z;cases z))];exact h⟩)
 ·exact .inr h
theorem QvQ{a:Addr}{vs:List V}(hp:H p=some (.dT zs))(h:Fix K H a vs):Fix K (L2.upd H p (.dT ys)) a vs:=by
 rcases h with⟨o,h⟩ | h
 ·exact .inl ⟨o,by rw[QD (QeO h hp (by intro z;cases z))];exact h⟩
 ·exact .inr h
mutual
theorem Rp.QiG(hp:H p=some (.dT zs)):∀{d:D}{v:V}{F:LAd},Rp K H d v F->p∉F->Rp K (L2.upd H p (.dT ys)) d v F
 | .exc _,_,_,h,_=>by
  simp only[Rp]at h ⊢;obtain⟨⟨a,e,C,q1,q2⟩,z⟩:=h;exact⟨⟨a,e,C,q1,by rw[QD (QeO q2 hp (by intro z;cases z))];exact q2⟩,z⟩
 | .dk _,_,_,h,hn=>by
  simp only[Rp]at h ⊢;obtain⟨a,e,eF,q⟩:=h;subst eF;exact⟨a,e,rfl,by rw[QD (λz=>hn (by rw[z];exact Zg))];exact q⟩
 | .non,_,_,h,_=>h
 | .bl _,_,_,h,_=>h
 | .int _,_,_,h,_=>h
 | .str _,_,_,h,_=>h
 | .tup ds,_,_,h,hn=>by
  simp only[Rp]at h ⊢;obtain⟨a,vs,e,q,r⟩:=h;exact⟨a,vs,e,QvB hp q,Rps.QiG hp r hn⟩
 | .lst ds,_,_,h,hn=>by
  simp only[Rp]at h ⊢;obtain⟨hz,a,vs,e,⟨G,eF,q,r⟩ | ⟨q,r⟩⟩:=h
  ·subst eF;have h1:a≠p:=λz=>hn (by rw[z];exact Zg);exact⟨hz,a,vs,e,.inl ⟨G,rfl,by rw[QD h1];exact q,Rps.QiG hp r λz=>hn (Zc _ z)⟩⟩
  ·exact⟨hz,a,vs,e,.inr ⟨QvQ hp q,Rps.QiG hp r hn⟩⟩
theorem Rps.QiG(hp:H p=some (.dT zs)):∀{ds:List D}{vs:List V}{F:LAd},Rps K H ds vs F->p∉F->Rps K (L2.upd H p (.dT ys)) ds vs F
 | [],_,_,h,_=>h
 | d::ds,_,_,h,hn=>by
  simp only[Rps]at h ⊢;obtain⟨v,ws,F1,F2,e,eF,r,q⟩:=h;subst eF;exact⟨v,ws,F1,F2,e,rfl,Rp.QiG hp r λz=>hn (Zf _ z),Rps.QiG hp q λz=>hn (Zd _ z)⟩
end
end
section
variable {K:Fgg}{H0 H:Hp}{A0:LAd}{hs:List (V×D×List Addr)}{U:En}{F:Nat->List Addr}{σ:L2.St}{x:Nat}{ks ks':List (List Int)}
theorem Rel.QzD(rel:Rel K H0 A0 hs U F σ H)(hx:U[x]? =some (some (.dk ks,true))):∃a,σ[x]? =some (some (.ref a))/\H a=some (.dT (dkC ks))/\Rel K H0 A0 hs (U.set x (some (.dk ks',true))) F σ (L2.upd H a (.dT (dkC ks'))):=by
 obtain⟨v,h1,h2⟩:=rel.val x _ _ hx;simp only[Rp]at h2;obtain⟨a,rfl,eF,hp⟩:=h2;obtain⟨o1,o2,o3,o4,o5⟩:=rel.own x _ hx;have ha:a∈F x:=by rw[eF];exact Zg
 have hlx:x<U.length:=(Zm.mp hx).1;refine⟨a,h1,hp,?_⟩;have get:∀(i:Nat) d b,(U.set x (some (.dk ks',true)))[i]? =some (some (d,b))->(i=x/\d= .dk ks'/\b=true)∨(i≠x/\U[i]? =some (some (d,b))):=λi d b e=>by
  by_cases hi:i=x
  ·subst hi;rw[Zu hlx]at e;cases e;exact .inl ⟨rfl,rfl,rfl⟩
  ·rw[Zi (Ne.symm hi)]at e;exact .inr ⟨hi,e⟩
 refine⟨by rw[ZaS];exact rel.len,λi d b e=>?_,λi d e=>?_,λi d b e c hc=>?_,λt ht=>?_,λb u e=>?_⟩
 ·rcases get i d b e with⟨rfl,rfl,rfl⟩ | ⟨hi,e⟩
  ·exact⟨_,h1,by simp only[Rp];exact⟨a,rfl,eF,Qad⟩⟩
  ·obtain⟨v,k1,k2⟩:=rel.val i d b e;exact⟨v,k1,k2.QiG hp (o4 i d b hi e a ha)⟩
 ·rcases get i d true e with⟨rfl,rfl,_⟩ | ⟨hi,e⟩
  ·refine⟨o1,o2,o3,λj d' b' hj ej=>?_,o5⟩;rcases get j d' b' ej with⟨z,_⟩ | ⟨_,ej⟩
   ·exact absurd z hj
   ·exact o4 j d' b' hj ej
  ·obtain⟨m1,m2,m3,m4,m5⟩:=rel.own i d e;refine⟨m1,m2,m3,λj d' b' hj ej=>?_,m5⟩;rcases get j d' b' ej with⟨rfl,_,_⟩ | ⟨_,ej⟩
   ·exact m4 j _ _ hj hx
   ·exact m4 j d' b' hj ej
 ·rcases get i d b e with⟨rfl,_,_⟩ | ⟨hi,e⟩
  ·exact rel.src _ _ _ hx c hc
  ·exact rel.src i d b e c hc
 ·exact⟨(rel.held t ht).1.QiG hp (o5 t ht a ha),(rel.held t ht).2⟩
 ·have hne:b≠a:=λz=>by rw[z,o3 a ha]at e;cases e
  rw[QD hne];exact rel.same b u e
theorem Qu6(k:List Int):∀ks:List (List Int),putK (dkC ks) (k.map Sum.inl) (V.bl true)=dkC (if ks.contains k then ks else ks++[k]):=λks=>by
 have h:((dkC ks).any λkv=>decide (kv.1=k.map Sum.inl))=ks.contains k:=by
  unfold dkC;rw[List.any_map,List.contains_eq_any_beq];congr 1;funext x;simp only[Function.comp];rw[Bool.eq_iff_iff,decide_eq_true_iff,beq_iff_eq];exact⟨λe=>(Qrd e).symm,λe=>by rw[e]⟩
 unfold putK;rw[h];cases hc:ks.contains k with
 | false=>simp[dkC]
 | true=>
  rw[if_pos rfl,if_pos rfl];unfold dkC;rw[ZY];refine Zr λx _=>?_;simp only[Function.comp];split<;>rfl
noncomputable def Qhz(x:Nat)(fs:DA):DS:=λU=>match U[x]? with
 | some (some (.dk ks,true))=>(fs U).bind λr=>match r.ds with
  | [.lst ds]=>(intsOf ds).bind λk=>if ks.length<sizeLine then some (.nx (U.set x (some (.dk (if ks.contains k then ks else ks++[k]),true))))else none
  | _=>none
 | _=>none
end
section
variable {X:Cx}{x:Nat}{fs:DA}{o e value:Expr}{es:List Expr}{p pos pos' cpos:Pos}
theorem Qxp(hu:X.A.units+1<cLine)(ho:PE X o (QkL x))(hg:Gl X "tuple")(hm:X.mg "tuple" =none)(ha:SA X (e::es) fs)(he:starEach (e::es) X.env=(false,eval e X.env)::starEach es X.env)
  (hpl:(backTo cpos (starEach es X.env)).any (·.1)=false) (hv:SE X value (dC (.bl true))) (hs:swapsWith value (some (.Subscript o (.Call (.Name "tuple" p) (e::es) [] cpos) pos')) pos.line X.env=pure false):
  S1 X (.Assign [.Subscript o (.Call (.Name "tuple" p) (e::es) [] cpos) pos'] value pos) (Qhz x fs):=λH0 A0=>
 (Qye hu ho (QiK Qh7 hg hm Zbn (ha H0 A0) (by decide) (by decide) he hpl) (hv H0 A0) hs).mono λE σ H=>exK λU hs F o' rel e q=>by
  unfold Qhz at e;split at e
  case h_2=>cases e
  rename_i ks hx;refine Qh e λr e1 e=>?_;refine⟨U,hs,F,⟨.bl true,true,[]⟩,rel,rfl,λv H1 G p1=>?_⟩;have rel1:=rel.ext p1.same;obtain⟨v',s1,_⟩:=rel1.val x _ _ hx;refine⟨v',s1,U,hs,F,r,rel1,e1,λvs H2 G2 p2=>?_⟩;split at e
  case h_2=>cases e
  rename_i ds hds;refine Qh e λk ek e=>?_;split at e
  case isFalse=>cases e
  rename_i hl;cases e;have rp:=p2.rp;rw[hds]at rp;obtain⟨v2,rfl,rq⟩:=rp.one;obtain⟨l,ws,L,rfl,hq,rl,zl,el⟩:=rq.lst_inv;obtain⟨rfl,_⟩:=Qk7 rl ek;refine⟨l,_,rfl,.inl ⟨QX hq,λc hc=>?_⟩⟩;have rel2:=(rel1.ext p2.same).ext (QaH (o:= .tup (k.map V.int)) hc);obtain⟨a,w1,w2,w3⟩:=rel2.QzD (ks':=if ks.contains k then ks else ks++[k]) hx;rw[s1]at w1;cases w1;have hb:=p1.rp.Qfz;subst hb;refine⟨a,_,rfl,?_,q _ _ _ w3⟩;rw[← Qu6];refine QoO.t w2 ?_ (by unfold dkC;rw[Zl];exact hl);rw[Qad,ZY];rfl
end
end HS
namespace HS
open PySem PySem.Spec L2 PyProof.Rows
noncomputable def QzW(tk tv:TE):TE:=λσ H Q=>∀p,H p=none->tk σ (L2.upd H p (.dT [])) λy H1=>tv σ H1 λw H2=>
 ∃(b:Addr) (ks:List Key),y= .ref b/\H2 p=some (.dT [])/\H2 b=some (.tup (ks.map kV))/\Q (.ref p) (L2.upd H2 p (.dT [(ks,w)]))
theorem Qvf{X:Cx}{k v:Expr}{pos:Pos}{tk tv:TE}(hu:X.A.units+1<cLine)(hk:PE X k tk)(hv:PE X v tv):PE X (.Dict [some k] [v] pos) (QzW tk tv):=by
 intro pins s σ H Q I h;refine wpAny_Dict_any rfl rfl (by simp) (by simp) ?_;have hp:H s.heap.objs.size=none:=I.hok.fresh (Zj _);have I1:=I.laid (a:=s.heap.objs.size) (o:= .dT []) (h':=s.heap.push {cls:= .type "dict",data:= .dict #[]}) (t':=s.toks) (λ_ _ q=>Zb _ q) (Zj _) (Qpl s.heap I.big);refine pairTrees_cons_walk (thn (hk pins _ σ _ _ I1 (h _ hp)) λu s1 ⟨y,H1,I2,ry,q1⟩=>thn (hv pins s1 σ H1 _ I2 q1) λr s2 ⟨w,H2,I3,rw',b,ks,ey,e,eb,q2⟩=>pairTrees_nil_walk ?_);subst ey;cases(show u=Value.ref b from ry);obtain⟨z,hd,xs,rel,dd⟩:=Qr3 I3.hok e;have hz:xs.length<=sizeLine:=by rw[← Zbi rel];exact z
 unfold storeAll;simp only[ZbB,Zcg];refine wpAny_bind (wpAny_bind (wpAny_dictSet_heap (knd:=tupleKind (Qa3 X.prog X.w)) (hsz:=hz) (Nat.lt_of_succ_lt hu) (Qov I3.hok eb) dd λh' dd' hs=>?_));obtain⟨q,es,ep,hq,h2,h3,h4,_,h5⟩:=dd';have I4:=Qmk (t':=s2.toks+(tupleKind (Qa3 X.prog X.w)).draws ks) (ob:= .dT [(ks,w)]) I3 (by rw[e];exact True.intro) hs ⟨q,hq⟩ ⟨by simp[sizeLine_eq],hd,_,(rel.put ks eb rw').keeps λc ys ec=>by
  rw[QD (QeO ec e (λz=>nomatch z))];exact ec,q,es,ep,hq,h2,h3,h4,h5⟩
 exact wpAny_pure (wpAny_pure ⟨.ref s.heap.objs.size,_,I4,rfl,q2⟩)
noncomputable def dD1(fs:DA):DE:=λU=>(fs U).bind λr=>match r.ds with
 | [.lst ds]=>(intsOf ds).map λk=>⟨.dk [k],true,[]⟩
 | _=>none
theorem QCh{X:Cx}{e value:Expr}{es:List Expr}{p pos cpos:Pos}{fs:DA}(hu:X.A.units+1<cLine)(hg:Gl X "tuple")(hm:X.mg "tuple" =none)(ha:SA X (e::es) fs)(he:starEach (e::es) X.env=(false,eval e X.env)::starEach es X.env)
  (hpl:(backTo cpos (starEach es X.env)).any (·.1)=false) (hv:SE X value (dC (.bl true))):SE X (.Dict [some (.Call (.Name "tuple" p) (e::es) [] cpos)] [value] pos) (dD1 fs):=λH0 A0=>
 (Qvf hu (QiK Qh7 hg hm Zbn (ha H0 A0) (by decide) (by decide) he hpl) (hv H0 A0)).mono λσ H Q=>exK λU hs F r' rel e q=>by
  refine Qh e λr e1 e=>?_;intro d hd;have rel1:=rel.ext (QaH (o:= .dT []) hd);refine⟨U,hs,F,r,rel1,e1,λvs H2 G2 p2=>?_⟩;split at e
  case h_2=>cases e
  rename_i ds hds;obtain⟨k,ek,rfl⟩:=Ze.mp e;have rp:=p2.rp;rw[hds]at rp;obtain⟨v2,rfl,rq⟩:=rp.one;obtain⟨l,ws,L,rfl,hq,rl,zl,el⟩:=rq.lst_inv;obtain⟨rfl,_⟩:=Qk7 rl ek;refine⟨l,_,rfl,.inl ⟨QX hq,λc hc=>?_⟩⟩;have rel2:=(rel1.ext p2.same).ext (QaH (o:= .tup (k.map V.int)) hc);refine⟨U,hs,F,⟨.bl true,true,[]⟩,rel2,rfl,λv H3 G3 p3=>?_⟩;have hb:=p3.rp.Qfz;subst hb;have s3:QM (L2.upd H d (.dT [])) H3:=(p2.same.trans (QaH hc)).trans p3.same;have e3:H3 d=some (.dT []):=s3 _ _ Qad;have ec:H3 c=some (.tup ((k.map Sum.inl).map kV)):=by
   rw[ZY];exact p3.same _ _ Qad
  refine⟨c,k.map Sum.inl,rfl,e3,ec,q (.ref d) _ [d] ⟨λb u eb=>?_,by simp only[Rp];exact⟨d,rfl,rfl,Qad⟩,λa ha=> .inl (by rw[Zw.mp ha];exact hd),λ_=>⟨λa=>?_,rfl⟩,λi hi=>by cases hi⟩⟩
  ·have hne:b≠d:=λz=>by rw[z,hd]at eb;cases eb
   rw[QD hne];exact s3 _ _ (by rw[QD hne];exact eb)
  ·rw[Zbz];split
   ·rename_i h;have h:d=a:=by simpa using h
    subst h;rw[QaU hd];omega
   ·exact ZO _
end HS
namespace HS
open PySem PySem.Spec L2
section
variable {K:Fgg}{H H':Hp}
theorem Rps.split:∀{ds:List D}{vs:List V}{F:LAd}{j:Nat}{d:D},Rps K H ds vs F->ds[j]? =some d→
  ∃F1 G F2 v,F=F1++(G++F2)/\vs[j]? =some v/\Rps K H (ds.take j) (vs.take j) F1/\Rp K H d v G/\Rps K H (ds.drop (j+1)) (vs.drop (j+1)) F2
 | [],_,_,_,_,_,e=>by simp at e
 | d::ds,_,_,0,_,h,e=>by
  simp only[Rps]at h;obtain⟨v,ws,F1,F2,rfl,rfl,r,q⟩:=h;simp at e;subst e;exact⟨[],F1,F2,v,rfl,by simp,by simp[Rps],r,by simpa using q⟩
 | d::ds,_,_,j+1,_,h,e=>by
  simp only[Rps]at h;obtain⟨v,ws,F1,F2,rfl,rfl,r,q⟩:=h;obtain⟨G1,G,G2,v',h1,h2,h3,h4,h5⟩:=Rps.split q (by simpa using e);refine⟨F1++G1,G,G2,v',by rw[h1,ZaV],by simpa using h2,?_,h4,by simpa using h5⟩;simp only[ZbG,Rps];exact⟨v,_,F1,G1,rfl,rfl,r,h3⟩
theorem Rps.join{ds:List D}{vs:List V}{F1 G F2:LAd}{j:Nat}{d:D}{v:V}(h1:Rps K H (ds.take j) (vs.take j) F1)(hd:Rp K H d v G)(h2:Rps K H (ds.drop (j+1)) (vs.drop (j+1)) F2)(hj:j<ds.length)(hv:vs[j]? =some v):
  Rps K H (ds.set j d) vs (F1++(G++F2)):=by
 have e1:ds.set j d=ds.take j++d::ds.drop (j+1):=ZaG .. |>.trans (by rw[if_pos hj]);have hjv:j<vs.length:=(Zm.mp hv).1;have hve:vs[j]=v:=(Zm.mp hv).2;have e2:vs=vs.take j++v::vs.drop (j+1):=by
  rw[← hve,← Zab hjv,Zbs]
 rw[e1,e2];refine h1.append ?_;simp only[Rps];refine⟨v,_,G,F2,rfl,rfl,hd,h2⟩
theorem Rps.QwZ{ds:List D}{vs:List V}{F1 G F2:LAd}{j:Nat}{d:D}{v:V}(h1:Rps K H (ds.take j) (vs.take j) F1)(hd:Rp K H d v G)(h2:Rps K H (ds.drop (j+1)) (vs.drop (j+1)) F2)(hj:j<ds.length)(hv:j<vs.length):
  Rps K H (ds.set j d) (vs.set j v) (F1++(G++F2)):=by
 have e1:ds.set j d=ds.take j++d::ds.drop (j+1):=ZaG .. |>.trans (by rw[if_pos hj]);have e2:vs.set j v=vs.take j++v::vs.drop (j+1):=ZaG .. |>.trans (by rw[if_pos hv]);rw[e1,e2];refine h1.append ?_;simp only[Rps];exact⟨v,_,G,F2,rfl,rfl,hd,h2⟩
noncomputable def Focus(K:Fgg)(H:Hp):List Int->D->V->List Addr->D->V->List Addr->Prop
 | [],d,v,F,dm,w,Gm=>dm=d/\w=v/\Gm=F/\Rp K H d v F
 | i::is,d,v,F,dm,w,Gm=>∃(ds:List D) (a:Addr) (vs:List V) (j:Nat) (F1 G F2:LAd) (d':D) (v':V),v= .ref a/\ixN ds.length i=some j∧
   ((d= .lst ds/\ds.length<=sizeLine/\((F=a::(F1++(G++F2))/\H a=some (.lst vs))∨(F=F1++(G++F2)/\Fix K H a vs)))∨(d= .tup ds/\F=F1++(G++F2)/\SqT K H a vs))∧
   Rps K H (ds.take j) (vs.take j) F1/\Rps K H (ds.drop (j+1)) (vs.drop (j+1)) F2/\ds[j]? =some d'/\vs[j]? =some v'/\ds.length=vs.length/\Focus K H is d' v' G dm w Gm
theorem Focus.same(s:QM H H'):∀{is:List Int}{d:D}{v:V}{F:LAd}{dm:D}{w:V}{Gm:LAd},Focus K H is d v F dm w Gm->Focus K H' is d v F dm w Gm
 | [],_,_,_,_,_,_,h=>⟨h.1,h.2.1,h.2.2.1,h.2.2.2.same s⟩
 | i::is,_,_,_,_,_,_,h=>by
  obtain⟨ds,a,vs,j,F1,G,F2,d',v',h1,h2,h3,h4,h5,h6,h7,h8,h9⟩:=h;refine⟨ds,a,vs,j,F1,G,F2,d',v',h1,h2,?_,h4.same s,h5.same s,h6,h7,h8,h9.same s⟩;rcases h3 with⟨e,z,q⟩ | ⟨e,eF,q⟩
  ·refine .inl ⟨e,z,?_⟩;rcases q with⟨eF,q⟩ | ⟨eF,q⟩
   ·exact .inl ⟨eF,s _ _ q⟩
   ·exact .inr ⟨eF,QpQ s q⟩
  ·exact .inr ⟨e,eF,Qpt s q⟩
theorem Focus.rp:∀{is:List Int}{d:D}{v:V}{F:LAd}{dm:D}{w:V}{Gm:LAd},Focus K H is d v F dm w Gm->Rp K H dm w Gm
 | [],_,_,_,_,_,_,h=>by
  obtain⟨rfl,rfl,rfl,r⟩:=h;exact r
 | i::is,_,_,_,_,_,_,h=>by
  obtain⟨ds,a,vs,j,F1,G,F2,d',v',h1,h2,h3,h4,h5,h6,h7,h8,h9⟩:=h;exact h9.rp
theorem Focus.Qux:∀{is:List Int}{d:D}{v:V}{F:LAd}{dm:D}{w:V}{Gm:LAd},Focus K H is d v F dm w Gm->Rp K H d v F
 | [],_,_,_,_,_,_,h=>h.2.2.2
 | i::is,_,_,_,_,_,_,h=>by
  obtain⟨ds,a,vs,j,F1,G,F2,d',v',rfl,h2,h3,h4,h5,h6,h7,h8,h9⟩:=h;have hjl:j<ds.length:=(Zm.mp h6).1;have hdj:ds[j]=d':=(Zm.mp h6).2;have j1:=Rps.join h4 h9.Qux h5 hjl h7;rw[show ds.set j d'=ds by rw[← hdj];exact List.set_getElem_self hjl]at j1;rcases h3 with⟨rfl,hz,⟨rfl,q⟩ | ⟨rfl,q⟩⟩ | ⟨rfl,rfl,q⟩
  ·exact Rp.QfE q j1 hz
  ·simp only[Rp];exact⟨hz,a,vs,rfl,.inr ⟨q,j1⟩⟩
  ·simp only[Rp];exact⟨a,vs,rfl,q,j1⟩
theorem Focus.one(r:Rp K H d v F)(hd:d.items=some ds)(hi:atI ds i=some d'):
  ∃a vs v' G,v= .ref a/\((d= .lst ds/\SqL K H a vs)∨(d= .tup ds/\SqT K H a vs))/\atI vs i=some v'/\Focus K H [i] d v F d' v' G:=by
 unfold atI at hi;cases hj:ixN ds.length i with
 | none=>rw[hj]at hi;cases hi
 | some j=>
  rw[hj]at hi;have hdj:ds[j]? =some d':=hi;have fin:∀(vs:List V) (L:LAd),Rps K H ds vs L->∃v' G F1 F2,L=F1++(G++F2)/\vs[j]? =some v'/\atI vs i=some v'/\Rps K H (ds.take j) (vs.take j) F1/\Rp K H d' v' G/\Rps K H (ds.drop (j+1)) (vs.drop (j+1)) F2/\ds.length=vs.length:=λvs L rl=>by
   obtain⟨F1,G,F2,v',h1,h2,h3,h4,h5⟩:=rl.split hdj;refine⟨v',G,F1,F2,h1,h2,?_,h3,h4,h5,rl.length⟩;unfold atI;rw[← rl.length,hj];exact h2
  cases d with
  | lst xs=>
   cases hd;simp only[Rp]at r;obtain⟨hz,a,vs,rfl,⟨L,rfl,q,rl⟩ | ⟨q,rl⟩⟩:=r
   ·obtain⟨v',G,F1,F2,h1,h2,h3,h4,h5,h6,h7⟩:=fin vs L rl;exact⟨a,vs,v',G,rfl,.inl ⟨rfl,SqL.of q⟩,h3,ds,a,vs,j,F1,G,F2,d',v',rfl,hj,.inl ⟨rfl,hz,.inl ⟨by rw[h1],q⟩⟩,h4,h6,hdj,h2,h7,rfl,rfl,rfl,h5⟩
   ·obtain⟨v',G,F1,F2,h1,h2,h3,h4,h5,h6,h7⟩:=fin vs _ rl;exact⟨a,vs,v',G,rfl,.inl ⟨rfl,q.sq⟩,h3,ds,a,vs,j,F1,G,F2,d',v',rfl,hj,.inl ⟨rfl,hz,.inr ⟨h1,q⟩⟩,h4,h6,hdj,h2,h7,rfl,rfl,rfl,h5⟩
  | tup xs=>
   cases hd;obtain⟨a,vs,rfl,q,rl⟩:=r.QaZ;obtain⟨v',G,F1,F2,h1,h2,h3,h4,h5,h6,h7⟩:=fin vs _ rl;exact⟨a,vs,v',G,rfl,.inr ⟨rfl,q⟩,h3,ds,a,vs,j,F1,G,F2,d',v',rfl,hj,.inr ⟨rfl,h1,q⟩,h4,h6,hdj,h2,h7,rfl,rfl,rfl,h5⟩
  | _=>cases hd
theorem Focus.snoc:∀{is:List Int}{d:D}{v:V}{F:LAd}{dm:D}{w:V}{Gm:LAd}{i:Int}{d':D}{v':V}{G:LAd},Focus K H is d v F dm w Gm->Focus K H [i] dm w Gm d' v' G->Focus K H (is++[i]) d v F d' v' G
 | [],_,_,_,_,_,_,_,_,_,_,h,g=>by
  obtain⟨rfl,rfl,rfl,r⟩:=h;exact g
 | k::is,_,_,_,_,_,_,_,_,_,_,h,g=>by
  obtain⟨ds,a,vs,j,F1,G,F2,d',v',h1,h2,h3,h4,h5,h6,h7,h8,h9⟩:=h;exact⟨ds,a,vs,j,F1,G,F2,d',v',h1,h2,h3,h4,h5,h6,h7,h8,h9.snoc g⟩
noncomputable def QcM:D->List Int->Option D
 | d,[]=>some d
 | d,i::is=>(d.items).bind λds=>(atI ds i).bind λd'=>QcM d' is
theorem Qlz:∀{is:List Int}{d:D}{i:Int}{d':D},QcM d (is++[i])=some d'->∃dm ds,QcM d is=some dm/\dm.items=some ds/\atI ds i=some d'
 | [],d,i,d',h=>by
  refine Qh h λds h1 h=>?_;refine Qh h λd'' h2 h=>?_;cases h;exact⟨d,ds,rfl,h1,h2⟩
 | k::is,d,i,d',h=>by
  refine Qh h λds h1 h=>?_;refine Qh h λd'' h2 h=>?_;obtain⟨dm,es,h3,h4,h5⟩:=Qlz h;refine⟨dm,es,?_,h4,h5⟩;simp only[QcM,h1,h2,Za,h3]
noncomputable def QbT:List Int->D->D->D
 | [],_,new=>new
 | i::is,.lst ds,new=>match ixN ds.length i with
  | some j=> .lst (ds.set j (QbT is (ds.getD j .non) new))
  | none=> .lst ds
 | i::is,.tup ds,new=>match ixN ds.length i with
  | some j=> .tup (ds.set j (QbT is (ds.getD j .non) new))
  | none=> .tup ds
 | _::_,d,_=>d
theorem Qjv:∀{ds:List D}{j:Nat}{d e:D},ds[j]? =some d->nls (ds.set j e)+d.nl=nls ds+e.nl
 | [],_,_,_,h=>by simp at h
 | x::ds,0,d,e,h=>by simp at h;subst h;simp only[List.set_cons_zero,nls];omega
 | x::ds,j+1,d,e,h=>by
  have:=Qjv (e:=e) (by simpa using h);simp only[List.set_cons_succ,nls];omega
theorem Qfg:∀(as bs:List D),nls (as++bs)=nls as+nls bs
 | [],bs=>by simp[nls]
 | a::as,bs=>by simp only[ZbT,nls,Qfg as bs];omega
theorem Focus.mut:∀{is:List Int}{d:D}{v:V}{F:LAd}{Gm:LAd},Focus K H is d v F (.lst dsm) (.ref p) Gm->F.Nodup->F.length=d.nl→
  ∃vsm Gp,H p=some (.lst vsm)/\Gm=p::Gp/\Rps K H dsm vsm Gp/\Gp.length=nls dsm/\p∈F/\(∀a∈Gp,a∈F)/\p∉Gp∧
   (Rps K (upd H p (.lst vs')) ds' vs' G'->ds'.length<=sizeLine->G'.length=nls ds'→
    ∃F',Rp K (upd H p (.lst vs')) (QbT is d (.lst ds')) v F'/\F'.length=(QbT is d (.lst ds')).nl/\∀a,F'.count a+Gp.count a=F.count a+G'.count a)
 | [],d,v,F,Gm,h,nd,hl=>by
  obtain⟨rfl,rfl,rfl,r⟩:=h;simp only[Rp]at r;obtain⟨hz,a,vs,e,h⟩:=r;cases e;rcases h with⟨L,rfl,q,rl⟩ | ⟨q,rl⟩
  ·obtain⟨n1,n2⟩:=Zat.mp nd;have hl':L.length=nls dsm:=by simp only[D.nl,ZU]at hl;omega
   refine⟨vs,L,q,rfl,rl,hl',Zg,λa ha=>Zc _ ha,n1,λr' hz' hl2=>⟨p::G',Rp.QfE Qad r' hz',?_,λa=>?_⟩⟩
   ·simp only[QbT,D.nl,ZU,hl2]
   ·rw[ZaI,ZaI];omega
  ·have:=rl.Qa6;simp only[D.nl]at hl;omega
 | i::is,d,v,F,Gm,h,nd,hl=>by
  obtain⟨ds,a,vs,j,F1,G,F2,d',v',rfl,hj,h3,h4,h5,h6,h7,h8,h9⟩:=h;have hjl:j<ds.length:=(Zm.mp h6).1;have gd:ds.getD j .non=d':=by rw[ZX,h6];rfl
  have l1:=h4.Qa6;have l2:=h5.Qa6;have l3:=h9.Qux.Qa6;have nlsplit:nls (ds.take j)+(d'.nl+nls (ds.drop (j+1)))=nls ds:=by
   have e1:ds=ds.take j++d'::ds.drop (j+1):=by
    have:ds[j]=d':=(Zm.mp h6).2;rw[← this,← Zab hjl,Zbs]
   have e2:=congrArg nls e1;rw[Qfg]at e2;simp only[nls]at e2;exact e2.symm
  have core:(F1++(G++F2)).Nodup->(F1++(G++F2)).length=nls ds->_:=λnd' hl'=>by
   simp only[Zz]at hl';have hG:G.length=d'.nl:= ⋯
   have ndG:G.Nodup:=(Zbq.mp (Zbq.mp nd').2.1).1;exact(h9.mut (vs':=vs') (ds':=ds') (G':=G') ndG hG)
  have apart:(F1++(G++F2)).Nodup->p∈G->p∉F1/\p∉F2:=λnd' hp=>by
   have n1:=Zbq.mp nd';have n2:=Zbq.mp n1.2.1;exact⟨λh=>n1.2.2 p h p (Zf _ hp) rfl,λh=>n2.2.2 p hp p h rfl⟩
  have cnt:∀(G'' Gp:LAd),(∀a,G''.count a+Gp.count a=G.count a+G'.count a)->∀a,(F1++(G''++F2)).count a+Gp.count a=(F1++(G++F2)).count a+G'.count a:=λG'' Gp hc a=>by
   have:=hc a;simp only[Zam];omega
  rcases h3 with⟨rfl,hz,⟨rfl,q⟩ | ⟨rfl,q⟩⟩ | ⟨rfl,rfl,q⟩
  ·
   obtain⟨n1,n2⟩:=Zat.mp nd;have hl':(F1++(G++F2)).length=nls ds:=by simp only[D.nl,ZU]at hl;omega
   obtain⟨vsm,Gp,e1,e2,e3,e4,e5,e6,e7,e8⟩:=core n2 hl';have ap:=apart n2 e5;have hap:a≠p:=λz=>n1 (by rw[z];exact Zd _ (Zf _ e5));refine⟨vsm,Gp,e1,e2,e3,e4,Zc _ (Zd _ (Zf _ e5)),λb hb=>Zc _ (Zd _ (Zf _ (e6 b hb))),e7,λr' hz' hl2=>?_⟩;obtain⟨G'',f1,f2,f3⟩:=e8 r' hz' hl2;have j1:=Rps.join (h4.upd e1 ap.1) f1 (h5.upd e1 ap.2) hjl h7;refine⟨a::(F1++(G''++F2)),?_,?_,λb=>?_⟩
   ·simp only[QbT,hj,gd];exact Rp.QfE (by rw[QD hap];exact q) j1 (by rw[ZaS];exact hz)
   ·have:=Qjv (e:=QbT is d' (.lst ds')) h6;simp only[QbT,hj,gd,D.nl,ZU,Zz,f2]at hl' ⊢;omega
   ·have:=cnt G'' Gp f3 b;rw[ZaI,ZaI];omega
  ·have:(F1++(G++F2)).length<=nls ds:=by simp only[Zz];omega
   simp only[D.nl]at hl;omega
  ·
   have hl':(F1++(G++F2)).length=nls ds:=by simpa only[D.nl]using hl
   obtain⟨vsm,Gp,e1,e2,e3,e4,e5,e6,e7,e8⟩:=core nd hl';have ap:=apart nd e5;refine⟨vsm,Gp,e1,e2,e3,e4,Zd _ (Zf _ e5),λb hb=>Zd _ (Zf _ (e6 b hb)),e7,λr' hz' hl2=>?_⟩;obtain⟨G'',f1,f2,f3⟩:=e8 r' hz' hl2;have j1:=Rps.join (h4.upd e1 ap.1) f1 (h5.upd e1 ap.2) hjl h7;refine⟨F1++(G''++F2),?_,?_,cnt G'' Gp f3⟩
   ·simp only[QbT,hj,gd,Rp];exact⟨a,vs,rfl,QqF e1 q,j1⟩
   ·have:=Qjv (e:=QbT is d' (.lst ds')) h6;simp only[QbT,hj,gd,D.nl,Zz,f2]at hl' ⊢;omega
end
section
theorem Rel.mut(rel:Rel K H0 A0 hs U F σ H)(p:Qaj K U F H H1 r vn Gn)(hf:r.fr=true)(nd:r.M.Nodup)(s12:QM H1 H2)(hx:U[x]? =some (some (d,true)))(hxM:x∉r.M)(hv0:σ[x]? =some (some v0))
  {dnew:D}{q:Addr}{F':LAd}{vsm vs':List V}(e1:H2 q=some (.lst vsm)) (e5:q∈F x) (f1:Rp K (upd H2 q (.lst vs')) dnew v0 F') (f2:F'.length=dnew.nl) (cF:∀a,F'.count a<=(F x).count a+Gn.count a):
  ∃F',Rel K H0 A0 hs ((kill r.M U).set x (some (dnew,true))) F' σ (upd H2 q (.lst vs')):=by
 obtain⟨ol,on,o0,oap,oh⟩:=rel.own x d hx;obtain⟨gn,gs⟩:=p.fresh rel hf nd;have rel2:=(rel.ext p.same).ext s12;have relk:=rel2.weak (QcP r.M U);have apn:∀a∈Gn,a∉F x:=λa ha hax=>by
  rcases(gs a ha).2 with z | ⟨k,d',hk,ek,hak⟩
  ·obtain⟨vs,w⟩:=rel.mem hx hax;rw[z]at w;cases w
  ·have:k≠x:=λz=>hxM (z▸hk);exact oap k d' true this ek a hax hak
 have memF:∀a∈F',a∈F x∨a∈Gn:=λa ha=>by
  have h1:=cF a;have h2:0<F'.count a:=Zaw.mpr ha;by_cases h:a∈F x
  ·exact .inl h
  ·rw[ZW.mpr h]at h1;exact .inr (Zaw.mp ⋯)
 have apart:∀(j:Nat) d' b,j≠x->(kill r.M U)[j]? =some (some (d',b))->∀a∈F',a∉F j:=λj d' b hj e a ha haj=>by
  obtain⟨b',e',_⟩:=(QcP r.M U).2 j d' b e;rcases memF a ha with h | h
  ·exact oap j d' b' hj e' a h haj
  ·rcases(gs a h).2 with z | ⟨k,d'',hk,ek,hak⟩
   ·obtain⟨vs,w⟩:=rel.mem e' haj;rw[z]at w;cases w
   ·have hjk:j≠k:=λz=>by subst z;exact Qio r.M U j d' b hk e
    exact(rel.own k d'' ek).2.2.2.1 j d' b' hjk e' a hak haj
 have apartH:∀t∈hs,∀a∈F',a∉t.2.2:=λt ht a ha hat=>by
  rcases memF a ha with h | h
  ·exact oh t ht a h hat
  ·rcases(gs a h).2 with z | ⟨k,d'',hk,ek,hak⟩
   ·obtain⟨vs,w⟩:=(rel.held t ht).1.mem a hat
    rw[z]at w;cases w
   ·exact(rel.own k d'' ek).2.2.2.2 t ht a hak hat
 have nqj:∀(j:Nat) d' b,j≠x->U[j]? =some (some (d',b))->q∉F j:=λj d' b hj e h=>oap j d' b hj e q e5 h;have nF':F'.Nodup:=Zaz.mpr λa=>by
  have h1:=cF a;have h2:=Zaz.mp on a;have h3:=Zaz.mp gn a;by_cases h:a∈Gn
  ·rw[ZW.mpr (apn a h)]at h1;omega
  ·rw[ZW.mpr h]at h1;omega
 have lt:∀{j:Nat}{z:Option (D×Bool)}{y:D×Bool},((kill r.M U).set j z)[j]? =some (some y)->j<(kill r.M U).length:=λ{j z y} e=>by
  by_cases hl:j<(kill r.M U).length
  ·exact hl
  ·rw[ZA (by simp;omega)]at e;cases e
 refine⟨λj=>if j=x then F' else F j,by simp[relk.len],λj d' b e=>?_,λj d' e=>?_,λj d' b e a ha=>?_,λt ht=>⟨(relk.held t ht).1.upd e1 λh=>oh t ht q e5 h,(relk.held t ht).2⟩,λb o hb=>?_⟩
 ·by_cases hj:j=x
  ·subst hj;have hl:=lt e;rw[Zu hl]at e;cases e;exact⟨v0,hv0,by rw[if_pos rfl];exact f1⟩
  ·rw[Zi (Ne.symm hj)]at e;obtain⟨w,h1,h2⟩:=relk.val j d' b e;obtain⟨b',e',_⟩:=(QcP r.M U).2 j d' b e;exact⟨w,h1,by rw[if_neg hj];exact h2.upd e1 (nqj j d' b' hj e')⟩
 ·by_cases hj:j=x
  ·subst hj;have hl:=lt e;rw[Zu hl]at e;cases e;rw[if_pos rfl];refine⟨f2,nF',λa ha=>?_,λk d'' b hk ek a ha=>?_,apartH⟩
   ·rcases memF a ha with h | h
    ·exact o0 a h
    ·exact(gs a h).1
   ·rw[Zi (Ne.symm hk)]at ek;rw[if_neg hk];exact apart k d'' b hk ek a ha
  ·rw[Zi (Ne.symm hj)]at e;obtain⟨h1,h2,h3,h4,h5⟩:=relk.own j d' e;rw[if_neg hj];refine⟨h1,h2,h3,λk d'' b hk ek a ha=>?_,h5⟩;by_cases hki:k=x
   ·subst hki;rw[if_pos rfl];exact λhG=>apart j d' true hj e a hG ha
   ·rw[Zi (Ne.symm hki)]at ek;rw[if_neg hki];exact h4 k d'' b hk ek a ha
 ·by_cases hj:j=x
  ·subst hj;rw[if_pos rfl]at ha;rcases memF a ha with h | h
   ·exact .inl (o0 a h)
   ·exact .inl (gs a h).1
  ·rw[Zi (Ne.symm hj)]at e;rw[if_neg hj]at ha;exact relk.src j d' b e a ha
 ·have hbq:b≠q:=λz=>by rw[z,o0 q e5]at hb;cases hb
  rw[QD hbq];exact relk.same b o hb
end
noncomputable abbrev DP:=En->Option (List Int)
noncomputable def Qa8:DP:=λ_=>some []
noncomputable def QjO(p:DP)(fb:DE):DP:=λU=>(p U).bind λis=>(fb U).bind λr=>match r.d with
 | .int i=>some (is++[i])
 | _=>none
noncomputable def tP(K:Fgg)(H0:Hp)(A0:LAd)(x:Nat)(pf:DP):TE:=λσ H Q=>∃U hs F d b is dm,Rel K H0 A0 hs U F σ H/\U[x]? =some (some (d,b))/\pf U=some is/\QcM d is=some dm∧
 ∀v0 v H' Gm,QM H H'->σ[x]? =some (some v0)->Focus K H' is d v0 (F x) dm v Gm->Q v H'
def SPa(X:Cx)(e:Expr)(x:Nat)(pf:DP):Prop:=∀H0 A0,PE X e (tP X.K H0 A0 x pf)
section
theorem Qvj(h:PE X (.Name y pos) (QkL x)):SPa X (.Name y pos) x Qa8:=λH0 A0=>h.mono λσ H Q Z=>by
 obtain⟨U,hs,F,d,b,is,dm,rel,hx,hp,hd,q⟩:=Z;cases hp;cases hd;obtain⟨v,h1,h2⟩:=rel.val x d b hx;exact⟨v,h1,q v v H (F x) (QM.refl _) h1 ⟨rfl,rfl,rfl,h2⟩⟩
theorem Qyv(ha:SPa X a x pf)(hb:SE X b fb)(hs:Qjj b):SPa X (.Subscript a b pos) x (QjO pf fb):=λH0 A0=>
 (Qn0 (Qrg.or Qlv) (ha H0 A0) (hb H0 A0) hs).mono λσ H Q Z=>by
  obtain⟨U,hs,F,d,b',is,dm,rel,hx,hp,hd,q⟩:=Z;refine Qh hp λis' e1 hp=>?_;refine Qh hp λr e2 hp=>?_;cases hr:r.d with
  | int i=>
   rw[hr]at hp;cases hp;obtain⟨dn,ds,g1,g2,g3⟩:=Qlz hd;refine⟨U,hs,F,d,b',is',dn,rel,hx,e1,g1,λv0 w H1 Gm s1 hv fo=>⟨U,hs,F,r,rel.ext s1,e2,λu H2 G p2=>?_⟩⟩;have rp:=p2.rp;rw[hr]at rp;rw[rp.int_inv];have fo2:=fo.same p2.same;obtain⟨c,vs,v',G',rfl,hc,h3,h4⟩:=Focus.one fo2.rp g2 g3;have fin:=q v0 v' H2 G' (s1.trans p2.same) hv (fo2.snoc h4);rcases hc with⟨_,hc⟩ | ⟨_,hc⟩
   ·exact .inl ⟨c,vs,i,v',rfl,rfl,hc,h3,fin⟩
   ·exact .inr ⟨c,vs,i,v',rfl,rfl,hc,h3,fin⟩
  | _=>rw[hr]at hp;cases hp
noncomputable def QcG(x:Nat)(pf:DP)(fi fa:DE):DS:=λU=>(fa U).bind λr0=>match U[x]? with
 | some (some (d,true))=>(pf U).bind λis=>(fi U).bind λri=>match ri.d,QcM d is with
  | .int k,some (.lst ds)=>(ixN ds.length k).bind λj=>if r0.norm.fr && decide r0.norm.M.Nodup && !r0.norm.M.contains x then some (.nx ((kill r0.norm.M U).set x (some (QbT is d (.lst (ds.set j r0.d)),true))))else
   if is.isEmpty && !r0.norm.M.contains x then some (.nx ((Qa7 r0.norm.M U).set x (some (.lst (ds.set j r0.d),false))))else
   none
  | _,_=>none
 | _=>none
theorem set_mk(hq:H2 q=some (.lst vsm))(rs:Rps K H2 dsm vsm Gp)(hl:Gp.length=nls dsm)(nq:q∉Gp)(nqn:q∉Gn)(hn:Rp K H2 dn vn Gn)(hnl:Gn.length=dn.nl)(hj:j<dsm.length):
  ∃G',Rps K (upd H2 q (.lst (vsm.set j vn))) (dsm.set j dn) (vsm.set j vn) G'/\G'.length=nls (dsm.set j dn)/\∀a,G'.count a<=Gp.count a+Gn.count a:=by
 obtain⟨F1,G,F2,v,e1,e2,h1,h2,h3⟩:=rs.split (j:=j) (d:=dsm[j]) (by simp[hj]);subst e1;have hjv:j<vsm.length:=by rw[← rs.length];exact hj
 have n1:q∉F1:=λh=>nq (Zf _ h);have n2:q∉F2:=λh=>nq (Zd _ (Zd _ h));refine⟨F1++(Gn++F2),Rps.QwZ (h1.upd hq n1) (hn.upd hq nqn) (h3.upd hq n2) hj hjv,?_,λa=>?_⟩
 ·have:=Qjv (ds:=dsm) (j:=j) (d:=dsm[j]) (e:=dn) (by simp[hj]);have l1:=h1.Qa6;have l2:=h2.Qa6;have l3:=h3.Qa6;have e1:nls (dsm.take j)+((dsm[j]).nl+nls (dsm.drop (j+1)))=nls dsm:=by
   have e2:=congrArg nls (Zbs j dsm);rw[Qfg,Zab hj]at e2;simpa only[nls]using e2
  simp only[Zz]at hl ⊢;omega
 ·simp only[Zam];omega
theorem Qaj.Qog(p:Qaj K U F H H1 r v G)(s:QM H1 H2):Qaj K U F H H2 r v G:=⟨p.same.trans s,p.rp.same s,p.src,p.cnt,p.own⟩
theorem QyN(hq:H2 q=some (.lst vsm))(rs:Rps K H2 dsm vsm Gp)(nq:q∉Gp)(nqn:q∉Gn)(hn:Rp K H2 dn vn Gn)(hj:j<dsm.length):
  ∃G',Rps K (upd H2 q (.lst (vsm.set j vn))) (dsm.set j dn) (vsm.set j vn) G'/\∀a∈G',a∈Gp∨a∈Gn:=by
 obtain⟨F1,G,F2,v,e1,e2,h1,h2,h3⟩:=rs.split (j:=j) (d:=dsm[j]) (by simp[hj]);subst e1;have hjv:j<vsm.length:=by rw[← rs.length];exact hj
 have n1:q∉F1:=λh=>nq (Zf _ h);have n2:q∉F2:=λh=>nq (Zd _ (Zd _ h));refine⟨F1++(Gn++F2),Rps.QwZ (h1.upd hq n1) (hn.upd hq nqn) (h3.upd hq n2) hj hjv,λa ha=>?_⟩;rcases ZH.mp ha with h | h
 ·exact .inl (Zf _ h)
 ·rcases ZH.mp h with h | h
  ·exact .inr h
  ·exact .inl (Zd _ (Zd _ h))
theorem Qj4:∀(M:List Nat) (U:En) (x:Nat),x∉M->(Qa7 M U)[x]? =U[x]?
 | [],U,x,_=>rfl
 | i::M,U,x,h=>by
  have hi:i≠x:=λe=>h (e▸Zg);unfold Qa7;rw[Qj4 M _ x λe=>h (Zc _ e)];split
  ·rw[Zi hi]
  ·rfl
theorem Rel.QC0(rel:Rel K H0 A0 hs U F σ H)(hx:U[x]? =some (some (d,true)))(sh:Shr H0 A0 U F Gn)(hv0:σ[x]? =some (some v0))
  {dnew:D}{q:Addr}{G':LAd}{vsm vs':List V}(e1:H q=some (.lst vsm)) (e5:q∈F x) (f1:Rp K (upd H q (.lst vs')) dnew v0 G') (mem:∀a∈G',a∈F x∨a∈Gn):
  ∃F',Rel K H0 A0 hs (U.set x (some (dnew,false))) F' σ (upd H q (.lst vs')):=by
 obtain⟨ol,on,o0,oap,oh⟩:=rel.own x d hx;have lt:∀{j:Nat}{z:Option (D×Bool)}{y:D×Bool},(U.set j z)[j]? =some (some y)->j<U.length:=λ{j z y} e=>by
  by_cases hl:j<U.length
  ·exact hl
  ·rw[ZA (by simp;omega)]at e;cases e
 refine⟨λj=>if j=x then G' else F j,by simp[rel.len],λj d' b e=>?_,λj d' e=>?_,λj d' b e a ha=>?_,λt ht=>⟨(rel.held t ht).1.upd e1 λh=>oh t ht q e5 h,(rel.held t ht).2⟩,λb o hb=>?_⟩
 ·by_cases hj:j=x
  ·subst hj;have hl:=lt e;rw[Zu hl]at e;cases e;exact⟨v0,hv0,by rw[if_pos rfl];exact f1⟩
  ·rw[Zi (Ne.symm hj)]at e;obtain⟨w,h1,h2⟩:=rel.val j d' b e;exact⟨w,h1,by rw[if_neg hj];exact h2.upd e1 λh=>oap j d' b hj e q e5 h⟩
 ·by_cases hj:j=x
  ·subst hj;have hl:=lt e;rw[Zu hl]at e;cases e
  ·rw[Zi (Ne.symm hj)]at e;obtain⟨h1,h2,h3,h4,h5⟩:=rel.own j d' e;rw[if_neg hj];refine⟨h1,h2,h3,λk d'' b hk ek a ha=>?_,h5⟩;by_cases hki:k=x
   ·subst hki;rw[if_pos rfl];intro hG;rcases mem a hG with h | h
    ·exact h4 k d true (Ne.symm hj) hx a ha h
    ·exact(sh a h).2 j d' e ha
   ·rw[Zi (Ne.symm hki)]at ek;rw[if_neg hki];exact h4 k d'' b hk ek a ha
 ·by_cases hj:j=x
  ·subst hj;rw[if_pos rfl]at ha;rcases mem a ha with h | h
   ·exact .inl (o0 a h)
   ·exact(sh a h).1
  ·rw[Zi (Ne.symm hj)]at e;rw[if_neg hj]at ha;exact rel.src j d' b e a ha
 ·have hbq:b≠q:=λz=>by rw[z,o0 q e5]at hb;cases hb
  rw[QD hbq];exact rel.same b o hb
theorem QAX(hv:SE X e fa)(ho:SPa X a x pf)(hi:SE X i fi)
  (h:∀te to ti,PE X e te->PE X a to->PE X i ti->PS X (.Assign [.Subscript a i pos'] e pos) (QoP te (L2.QaI to ti Qxa))):S1 X (.Assign [.Subscript a i pos'] e pos) (QcG x pf fi fa):=λH0 A0=>
 (h _ _ _ (hv H0 A0) (ho H0 A0) (hi H0 A0)).mono λE σ H=>exK λU hs F o rel e q=>by
  refine Qh e λr0 e1 e=>?_;split at e
  ·rename_i d hx;refine Qh e λis e2 e=>?_;refine Qh e λri e3 e=>?_;split at e
   ·rename_i k ds hk hp;refine Qh e λj e4 e=>?_;split at e
    ·rename_i hc;cases e;simp only[Zh,decide_eq_true_eq,ZaB]at hc;obtain⟨⟨c1,c2⟩,c3⟩:=hc;have c3:x∉r0.norm.M:=λh=>by rw[Zbt.mpr h]at c3;cases c3
     refine⟨U,hs,F,r0,rel,e1,λvn H1 Gn p=>⟨U,hs,F,d,true,is,.lst ds,rel.ext p.same,hx,e2,hp,λv0 w H2 Gm s2 hv0 fo=>⟨U,hs,F,ri,(rel.ext p.same).ext s2,e3,λu H3 Gi pi=>?_⟩⟩⟩;have p':=(p.norm.Qog s2).Qog pi.same;have fo3:=fo.same pi.same;have rpi:=pi.rp;rw[hk]at rpi;rw[rpi.int_inv];obtain⟨l,ws,L,rfl,_⟩:=fo3.rp.lst_inv;obtain⟨ol,on,_,oap,_⟩:=rel.own x d hx;have hjl:=(QgT e4).2.1;obtain⟨gn,gs⟩:=p'.fresh rel c1 c2;have rn:=p'.rp;rw[r0.Qd4]at rn;have hnl:=(p'.cnt c1).2;rw[r0.Qd4]at hnl;obtain⟨vsm,_,f1,_⟩:=fo3.mut (vs':=[]) (ds':=[]) (G':=[]) on ol;obtain⟨_,_,_,_,_,_,zl,_⟩:=fo3.rp.lst_inv;have key:∃F',Rp X.K (upd H3 l (.lst (vsm.set j vn))) (QbT is d (.lst (ds.set j r0.d))) v0 F'/\F'.length=(QbT is d (.lst (ds.set j r0.d))).nl/\l∈F x/\ds.length=vsm.length/\∀a,F'.count a<=(F x).count a+Gn.count a:=by
      have own5:∀G',_:=λG'=>fo3.mut (vs':=vsm.set j vn) (ds':=ds.set j r0.d) (G':=G') on ol;obtain⟨vs1,Gp,g1,g2,g3,g4,g5,g6,g7,_⟩:=own5 [];rw[f1]at g1;cases g1;have hq:l∉Gn:=λh=>by
       rcases(gs l h).2 with z | ⟨k',d',hk',ek,hak⟩
       ·obtain⟨vs,w⟩:=rel.mem hx g5;rw[z]at w;cases w
       ·exact oap k' d' true (λz=>c3 (z▸hk')) ek l g5 hak
      obtain⟨G',m1,m2,m3⟩:=set_mk f1 g3 g4 g7 hq rn hnl hjl;obtain⟨vs2,Gp2,k1,k2,k3,k4,k5,k6,k7,k8⟩:=own5 G';have eG:Gp2=Gp:=by rw[g2]at k2;exact(List.cons.inj k2).2.symm
      subst eG;obtain⟨F',h1,h2,h3⟩:=k8 m1 (by rw[ZaS];exact zl) m2;exact⟨F',h1,h2,g5,g3.length,λa=>by have:=h3 a;have:=m3 a;omega⟩
     obtain⟨F',k1,k2,k3,k4,k5⟩:=key;refine⟨l,vsm,k,j,rfl,rfl,f1,by rw[← k4];exact e4,?_⟩;obtain⟨F'',rel'⟩:=rel.mut p' c1 c2 (QM.refl _) hx c3 hv0 f1 k3 k1 k2 k5;exact q _ _ F'' rel'
    ·
     split at e
     ·rename_i hc;cases e;simp only[Zh,ZaB,List.isEmpty_iff]at hc;obtain⟨rfl,c3⟩:=hc;have c3:x∉r0.norm.M:=λh=>by rw[Zbt.mpr h]at c3;cases c3
      refine⟨U,hs,F,r0,rel,e1,λvn H1 Gn p=>⟨U,hs,F,d,true,[],.lst ds,rel.ext p.same,hx,e2,hp,λv0 w H2 Gm s2 hv0 fo=>⟨U,hs,F,ri,(rel.ext p.same).ext s2,e3,λu H3 Gi pi=>?_⟩⟩⟩;have p':=(p.norm.Qog s2).Qog pi.same;have fo3:=fo.same pi.same;have rpi:=pi.rp;rw[hk]at rpi;rw[rpi.int_inv];obtain⟨l,ws,L,rfl,_⟩:=fo3.rp.lst_inv;obtain⟨ol,on,_,oap,_⟩:=rel.own x d hx;have hjl:=(QgT e4).2.1;have rn:=p'.rp;rw[r0.Qd4]at rn;obtain⟨vsm,Gp,f1,g2,g3,g4,g5,g6,g7,_⟩:=fo3.mut (vs':=[]) (ds':=[]) (G':=[]) on ol;obtain⟨_,_,_,_,_,_,zl,_⟩:=fo3.rp.lst_inv;have sh:=Shr.of rel p'.src;have relD:=(rel.ext p'.same).weak (Qcd r0.norm.M U);have hxD:(Qa7 r0.norm.M U)[x]? =some (some (d,true)):=by rw[Qj4 _ _ _ c3];exact hx
      have hq:l∉Gn:=λh=>(sh l h).2 x d hxD g5;obtain⟨G',m1,m3⟩:=QyN f1 g3 g7 hq rn hjl;have e0:v0= .ref l:=(fo3.2.1).symm;subst e0;refine⟨l,vsm,k,j,rfl,rfl,f1,by rw[← g3.length];exact e4,?_⟩;obtain⟨F'',rel'⟩:=relD.QC0 (dnew:= .lst (ds.set j r0.d)) (G':=l::G') (vs':=vsm.set j vn) hxD sh hv0 f1 g5 (Rp.QfE Qad m1 (by rw[ZaS];exact zl)) λa ha=>by
       rcases Zn.mp ha with h | h
       ·exact .inl (h▸g5)
       ·rcases m3 a h with h | h
        ·exact .inl (g6 a h)
        ·exact .inr h
      exact q _ _ F'' rel'
     ·
      cases e
   ·cases e
  ·cases e
end
section
variable {K:Fgg}{H0 H H1 H2 H3:Hp}{A0:LAd}{hs:List (V×D×List Addr)}{U:En}{F:Nat->List Addr}{σ:L2.St}
theorem Rel.write(rel:Rel K H0 A0 hs U F σ H)(p:Qaj K U F H H3 r vn Gn)(hf:r.fr=true)(nd:r.M.Nodup)(hx:U[x]? =some (some (d,true)))(hxM:x∉r.M)(hv0:σ[x]? =some (some v0))
  {is:List Int}{ds:List D}{Gm:LAd}(fo:Focus K H3 is d v0 (F x) (.lst ds) w Gm):
  ∃l vsm Gp,w= .ref l/\H3 l=some (.lst vsm)/\Rps K H3 ds vsm Gp/\Gp.length=nls ds/\l∉Gp/\l∉Gn/\ds.length<=sizeLine∧
   ∀ds' vs' G',Rps K (upd H3 l (.lst vs')) ds' vs' G'->ds'.length<=sizeLine->G'.length=nls ds'->(∀a,G'.count a<=Gp.count a+Gn.count a)→
    ∃F',Rel K H0 A0 hs ((kill r.M U).set x (some (QbT is d (.lst ds'),true))) F' σ (upd H3 l (.lst vs')):=by
 obtain⟨l,ws,L,rfl,_,_,zl,_⟩:=fo.rp.lst_inv;obtain⟨ol,on,_,oap,_⟩:=rel.own x d hx;obtain⟨gn,gs⟩:=p.fresh rel hf nd;obtain⟨vsm,Gp,g1,g2,g3,g4,g5,g6,g7,_⟩:=fo.mut (vs':=[]) (ds':=[]) (G':=[]) on ol;have hq:l∉Gn:=λh=>by
  rcases(gs l h).2 with z | ⟨k',d',hk',ek,hak⟩
  ·obtain⟨vs,w⟩:=rel.mem hx g5;rw[z]at w;cases w
  ·exact oap k' d' true (λz=>hxM (z▸hk')) ek l g5 hak
 refine⟨l,vsm,Gp,rfl,g1,g3,g4,g7,hq,zl,λds' vs' G' m1 m2 m3 m4=>?_⟩;obtain⟨vs2,Gp2,k1,k2,k3,k4,k5,k6,k7,k8⟩:=fo.mut (vs':=vs') (ds':=ds') (G':=G') on ol;have eG:Gp2=Gp:=by rw[g2]at k2;exact(List.cons.inj k2).2.symm
 subst eG;obtain⟨F',h1,h2,h3⟩:=k8 m1 m2 m3;exact rel.mut p hf nd (QM.refl _) hx hxM hv0 g1 g5 h1 h2 λa=>by have:=h3 a;have:=m4 a;omega
end
section
variable {X:Cx}{a b e:Expr}{fa fb:DE}{pf:DP}{x:Nat}{pos apos:Pos}
noncomputable def Qoa(r:R)(x:Nat):Bool:=r.norm.fr && decide r.norm.M.Nodup && !r.norm.M.contains x
theorem QtD(h:Qoa r x=true):r.norm.fr=true/\r.norm.M.Nodup/\x∉r.norm.M:=by
 unfold Qoa at h;simp only[Zh,decide_eq_true_eq,ZaB]at h;exact⟨h.1.1,h.1.2,λz=>by rw[Zbt.mpr z]at h;cases h.2⟩
noncomputable def Qku(x:Nat)(pf:DP)(fa:DE):DS:=λU=>match U[x]? with
 | some (some (d,true))=>(pf U).bind λis=>(fa U).bind λr0=>match QcM d is with
  | some (.lst ds)=>if Qoa r0 x && decide (ds.length<sizeLine)then some (.nx ((kill r0.norm.M U).set x (some (QbT is d (.lst (ds++[r0.d])),true))))else none
  | _=>none
 | _=>none
theorem Qv0{H0:Hp}{A0:LAd}{E:Ends}{σ:L2.St}{H:Hp}:tS X.K H0 A0 (Qku x pf fa) E σ H->Qrv (tBM X.K "list" QqV (tP X.K H0 A0 x pf) (QrR (tV X.K H0 A0 fa) QrU)) E σ H:=exK λU hs F o rel e q=>by
 unfold Qku at e;split at e
 ·rename_i d hx;refine Qh e λis e2 e=>?_;refine Qh e λr0 e1 e=>?_;split at e
  ·rename_i ds hp;split at e
   ·rename_i hc;simp only[Zh,decide_eq_true_eq]at hc;obtain⟨c1,c2,c3⟩:=QtD hc.1;cases e;refine⟨U,hs,F,d,true,is,.lst ds,rel,hx,e2,hp,λv0 w H2 Gm s2 hv0 fo=>?_⟩;have ty:tyV X.K "list" w H2:=by
     obtain⟨l,ws,L,rfl,hl,_⟩:=fo.rp.lst_inv;exact .inl ⟨rfl,ws,QX hl⟩
    refine⟨ty,U,hs,F,r0,rel.ext s2,e1,λvn H3 Gn p=>?_⟩;have p':=p.norm;obtain⟨l,vsm,Gp,rfl,g1,g2,g3,g4,g5,g6,g7⟩:=(rel.ext s2).write p' c1 c2 hx c3 hv0 (fo.same p.same);refine⟨l,vsm,vn,rfl,rfl,g1,by rw[← g2.length];exact hc.2,?_⟩;have rn:=p'.rp;rw[r0.Qd4]at rn;have hnl:=(p'.cnt c1).2;rw[r0.Qd4]at hnl;have rw1:Rps X.K (upd H3 l (.lst (vsm++[vn]))) [r0.d] [vn] Gn:=by
     simp only[Rps];exact⟨vn,[],Gn,[],rfl,by simp,rn.upd g1 g5,rfl,rfl⟩
    obtain⟨F',rel'⟩:=g7 (ds++[r0.d]) (vsm++[vn]) (Gp++Gn) ((g2.upd g1 g4).append rw1) (by rw[Zz,Zbr];omega) (by rw[Zz,Qfg,g3,hnl];simp[nls]) (λa=>by rw[Zam];omega);exact q _ _ F' rel'
   ·cases e
  ·cases e
 ·cases e
open PyProof.Rows in
theorem Qtn:Qz4 X (QzN X.K):=by
 intro pins s σ H o i ov iv Q I ro ri h;obtain⟨p,xs,k,v,rfl,rfl,hq,ha,q⟩:=h;cases ro;obtain⟨t,rfl⟩:=ri;obtain⟨its,r,pl,hz⟩:=I.list hq;obtain⟨j,h1,h2,h3,h4,h5⟩:=Qm0 ha;obtain⟨w,ew,rw'⟩:=r.get h2;have hl:=r.length;have hn:=Qhd;by_cases h0:0<=k
 ·refine wpAny_getItem_list pl.isList h0 ⋯ (x:=w) ?_ ⟨v,H,I,rw',q⟩;have:k.toNat=j:=by
   rw[seqIndex_of h0 h5]at h1;exact Option.some.inj h1
  rw[this];simpa using ew
 ·refine wpAny_getItem_list_neg pl.isList ⋯ (by rw[Zv]<;>omega) ⋯ (x:=w) ?_ ⟨v,H,I,rw',q⟩;have hj:(k+(its.toArray.size:Int)).toNat=j:=by
   rw[seqIndex_neg ⋯ h4]at h1;rw[Zv,← hl];exact Option.some.inj h1
  rw[hj];simpa using ew
noncomputable def Qdz(g:D->D->Option D)(x:Nat)(pf:DP)(fi fa:DE):DS:=λU=>match U[x]? with
 | some (some (d,true))=>(pf U).bind λis=>(fi U).bind λri=>match ri.d,QcM d is with
  | .int k,some (.lst ds)=>(ixN ds.length k).bind λj=>(ds[j]?).bind λold=>(fa U).bind λr=>(g old r.d).map λnew=> .nx (U.set x (some (QbT is d (.lst (ds.set j new)),true)))
  | _,_=>none
 | _=>none
theorem Qyc(ho:OpR X (inplaceOp op) r)(hg:QcD X.K g r)(hv:SE X e fa)(hp:SPa X a x pf)(hi:SE X i fi)
  (ha:∀ov iv new,augStore i ov iv new=(do holding [new,ov,iv] (setItem ov iv new);release [new,ov,iv] [];pure .next)):S1 X (.AugAssign (.Subscript a i pos') op e pos) (Qdz g x pf fi fa):=λH0 A0=>
 (Qxr (hp H0 A0) (hi H0 A0) Qtn (hv H0 A0) (λpins s σ H x y v u Q I rx ry q=>QAE ho I rx ry q) set_list ha).mono λE σ H=>exK λU hs F o rel e q=>by
  unfold Qdz at e;split at e
  ·rename_i d hx;refine Qh e λis e2 e=>?_;refine Qh e λri e3 e=>?_;split at e
   ·rename_i k ds hk hp';refine Qh e λj e4 e=>?_;refine Qh e λold e5 e=>?_;refine Qh e λrv e6 e=>?_;obtain⟨new,e7,e⟩:=Ze.mp e;subst e;have hjl:=(QgT e4).2.1;refine⟨U,hs,F,d,true,is,.lst ds,rel,hx,e2,hp',λv0 w H2 Gm s2 hv0 fo=>⟨U,hs,F,ri,rel.ext s2,e3,λu H3 Gi pi=>?_⟩⟩;have fo3:=fo.same pi.same;have rpi:=pi.rp;rw[hk]at rpi;rw[rpi.int_inv];have at3:atI ds k=some old:=by unfold atI;rw[e4];exact e5
    obtain⟨l,vs,v',Go,rfl,hc,h3,h4⟩:=Focus.one fo3.rp rfl at3;have hc:SqL X.K H3 l vs:=by
     rcases hc with⟨_,hc⟩ | ⟨hc,_⟩
     ·exact hc
     ·cases hc
    refine⟨l,vs,k,v',rfl,rfl,hc,h3,U,hs,F,rv,(rel.ext s2).ext pi.same,e6,λy H4 G4 p4=>?_⟩;have fo4:=fo3.same p4.same;have ro:=h4.rp.same p4.same;refine(hg _ _ _ e7).2 H4 v' y Go G4 _ ro p4.rp λz hz=>?_;have rel4:=((rel.ext s2).ext pi.same).ext p4.same;have pz:Qaj X.K U F H4 H4 ⟨new,true,[]⟩ z []:= .flat (QM.refl _) (hz H4) (hg _ _ _ e7).1;obtain⟨l',vsm,Gp,el,g1,g2,g3,g4,g5,g6,g7⟩:=rel4.write pz rfl ZaD hx (by simp) hv0 fo4;cases el;refine⟨l,vsm,k,j,rfl,rfl,g1,by rw[← g2.length];exact e4,?_⟩;obtain⟨G',m1,m2,m3⟩:=set_mk g1 g2 g3 g4 g5 (hz H4) (QdM new (hg _ _ _ e7).1).symm hjl;obtain⟨F',rel'⟩:=g7 _ _ G' m1 (by rw[ZaS];exact g6) m2 m3;exact q _ _ F' rel'
   ·cases e
  ·cases e
end
end HS
namespace HS
open PySem PySem.Spec L2 PyProof.Rows
noncomputable def D.QwX:D->Option Int
 | .int i=>some i
 | _=>none
noncomputable def QdT:List D->Option (List Int)
 | []=>some []
 | d::ds=>(d.QwX).bind λi=>(QdT ds).map λr=>i::r
theorem Qc9:∀{ds:List D}{ns:List Int},QdT ds=some ns->ds=ns.map .int
 | [],_,h=>by cases h;rfl
 | d::ds,ns,h=>by
  unfold QdT at h;refine Qh h λi h1 h=>?_;obtain⟨r,h2,rfl⟩:=Ze.mp h;cases d with
  | int j=>cases h1;rw[Qc9 h2];rfl
  | _=>cases h1
theorem QhD:∀(ns:List Int),QdT (ns.map D.int)=some ns
 | []=>rfl
 | n::ns=>by simp[QdT,QhD ns,D.QwX]
theorem Rps.ints{K:Fgg}{H:Hp}:∀{ns:List Int}{vs:List V}{F:LAd},Rps K H (ns.map .int) vs F->vs=ns.map .int
 | [],_,_,h=>by simp only[ZaZ,Rps]at h;rw[h.1];rfl
 | n::ns,_,_,h=>by
  simp only[Zp,Rps]at h;obtain⟨v,ws,F1,F2,rfl,rfl,r,q⟩:=h;rw[r.int_inv,Rps.ints q];rfl
theorem QbY(h:QA (ns.map V.int) us):IntsAre us ns:=intsAre_of h
noncomputable def QmE:List D->Option (List Bool)
 | []=>some []
 | d::ds=>(match d with | .bl b=>some b | _=>none).bind λi=>(QmE ds).map λr=>i::r
theorem QoT:∀{ds:List D}{ns:List Bool},QmE ds=some ns->ds=ns.map .bl
 | [],_,h=>by cases h;rfl
 | d::ds,ns,h=>by
  unfold QmE at h;refine Qh h λi h1 h=>?_;obtain⟨r,h2,rfl⟩:=Ze.mp h;cases d with
  | bl j=>cases h1;rw[QoT h2];rfl
  | _=>cases h1
theorem Rps.bls{K:Fgg}{H:Hp}:∀{ns:List Bool}{vs:List V}{F:LAd},Rps K H (ns.map .bl) vs F->vs=ns.map .bl
 | [],_,_,h=>by simp only[ZaZ,Rps]at h;rw[h.1];rfl
 | n::ns,_,_,h=>by
  simp only[Zp,Rps]at h;obtain⟨v,ws,F1,F2,rfl,rfl,r,q⟩:=h;rw[Rps.bls q];simp only[Rp]at r;rw[r.1];rfl
theorem QpA:∀{ns:List Bool}{us:List Value},QA (ns.map V.bl) us->LSm.BoolsAre us ns
 | [],_,.nil=> .nil
 | n::ns,_,.cons r h=>by cases r;exact .cons n (QpA h)
section
variable {X:Cx}{a b e:Expr}{es:List Expr}{fa fb:DE}{fs:DA}{pos p2:Pos}
theorem QAu(he:PE X e te)(hk:PE X k tk):PE X (.Subscript e (.Slice none none (some k) p2) pos)
  (λσ H Q=>te σ H λx H1=>tk σ H1 λy H2=>∃a xs,x= .ref a/\y= .int (-1)/\SqL X.K H2 a xs/\∀p,H2 p=none->Q (.ref p) (upd H2 p (.lst xs.reverse))):=by
 intro pins s σ H Q I h;refine PyProof.Rows.Subscript_ (thn (he pins s σ H _ I h) λv s1=>exJ λx H1 I1 r1 q1=>?_);refine wpAny_Slice ?_;rw[evalPart_none];refine wpAny_pure (wpAny_pure ?_);rw[evalPart_some];refine thn (hk pins s1 σ H1 _ I1 q1) λvk s3=>exJ λy H3 I3 r3 q3=>?_;obtain⟨c,xs,rfl,rfl,hq,q⟩:=q3;cases r1;obtain⟨t,rfl⟩:=r3;have I4:Inv X pins σ H3 {s3 with heap:=s3.heap.push {cls:= .type "slice",data:= .fields #[.none,.none,.int (-1) t]}}:=I3.kept (t':=s3.toks) λb ob q=>Zb _ q;obtain⟨its,r,ht,hz⟩:=I4.list hq;have hlen:=r.length;refine tail_any ht.isList.typeIs slot_list_getitem.lookup ?_ (by with_unfolding_all rfl);refine wpAny_getItem_list_slice ht.isList (Heap.IsSliceOf.new ..) .none .none (.int (-1) t) (by simp) ?_ (by rw[Zv]<;>omega);rw[PySem.W.krv_pick];refine⟨.ref _,_,I4.laid (t':=s3.toks) (λb ob q=>Zb _ q) (Zj _) ?_,rfl,q _ (I4.hok.fresh (Zj _))⟩;exact⟨by rw[ZbH];exact hz,its.reverse,0,r.reverse,Zq _ rfl⟩
theorem Rps.rev{K:Fgg}{H:Hp}:∀{ds:List D}{vs:List V}{F:LAd},Rps K H ds vs F->∃G,Rps K H ds.reverse vs.reverse G/\∀a∈G,a∈F
 | [],_,_,h=>by simp only[Rps]at h;rw[h.1,h.2];exact⟨[],by simp[Rps],λ_ h=>h⟩
 | d::ds,_,_,h=>by
  simp only[Rps]at h;obtain⟨v,ws,F1,F2,rfl,rfl,r,q⟩:=h;obtain⟨G,h1,h2⟩:=Rps.rev q;refine⟨G++F1,?_,λa ha=>?_⟩
  ·rw[Zbp,Zbp];refine h1.append ?_;simp only[Rps];exact⟨v,[],F1,[],rfl,by simp,r,rfl,rfl⟩
  ·rcases ZH.mp ha with z | z
   ·exact Zd _ (h2 a z)
   ·exact Zf _ z
noncomputable def Qow(fa fk:DE):DE:=λU=>(fa U).bind λra=>(fk U).bind λrk=>match ra.d,rk.d with
 | .lst xs,.int (-1)=>some (Qat xs.reverse ra.M)
 | _,_=>none
theorem QBp{k:Expr}{fk:DE}(ha:SE X a fa)(hk:SE X k fk):SE X (.Subscript a (.Slice none none (some k) p2) pos) (Qow fa fk):=λH0 A0=>
 (QAu (ha H0 A0) (hk H0 A0)).mono λσ H Q=>exK λU hs F r' rel e q=>by
  refine Qh e λra e1 e=>?_;refine Qh e λrk e2 e=>?_;refine two rel e1 e2 λx y H1 H2 G1 G2 p1 p2=>?_;split at e
  ·rename_i xs hra hrk;cases e;have rp:=p1.rp.same p2.same;have rk':=p2.rp;rw[hra]at rp;rw[hrk]at rk';obtain⟨c,vs,L,rfl,hc,rl,zl,el⟩:=rp.lst_inv;refine⟨c,vs,rfl,rk'.int_inv,QX hc,λp hp=>?_⟩;obtain⟨G,h1,h2⟩:=rl.rev;refine q _ _ (p::G) (Qaj.Qat (p1.same.trans p2.same) hp h1 (by rw[ZbH];exact zl) (λz hz=>p1.src z ?_) p1.own);rcases el with rfl | rfl
   ·exact Zc _ (h2 z hz)
   ·exact h2 z hz
  ·cases e
noncomputable def Qse(K:Fgg)(C:List Int->Int->Prop):List V->Hp->VK->Prop:=λxs H Q=>∃(p:Addr) (ns:List Int),xs=[.ref p]/\(SqL K H p (ns.map V.int)∨SqT K H p (ns.map V.int))/\ns≠[]/\∀M,C ns M->Q (.int M) H
def QlC(ns:List Int)(M:Int):Prop:=M∈ns/\∀a∈ns,M<=a
def isMax(ns:List Int)(M:Int):Prop:=M∈ns/\∀a∈ns,a<=M
theorem Qdi(hi:IntsAre us ns):∃xs:Array (Int×Tok),us.toArray=intItems xs/\ns=xs.toList.map (·.1):=by
 obtain⟨xs,e⟩:=hi.allInts.items;exact⟨xs,e,by rw[← hi.numsOf,← nums_intItems,← e]⟩
theorem QoH(hh:A.handled=none)(hl:s.heap.IsTuple l (intItems xs))(hne:0<xs.size)
  (h:∀v h' tk,(intItems xs)[argBest (λi j=>decide (numAt xs i<numAt xs j)) (xs.size-1)]? =some v->(∀b o,s.heap.get? b=some o->h'.get? b=some o)->Q v {s with heap:=h',toks:=tk}):
  wpAny (model prog w) A (call (.builtin "min") [.ref l]) Q E s:=by
 have hlt:l<s.heap.objs.size:=by obtain⟨_,e,_⟩:=hl;exact Zo e
 refine call_min_walk (wpAny_pyIter_tuple hl ?_);refine⟨_,[_,l],[_],_,_,_,_,rfl,Walks.tuple (A:=A.in1) hh _ l (ZG hlt) (intItems xs),⟨⟨_,Zq _ rfl,rfl,rfl⟩,hl.push _⟩,λb hb=>?_,by simpa[intItems]using hne,CmpOf.ints_lt (numAt xs) (λ_ _=>intItems_at),λv h' tk hP hk=>?_⟩
 ·show b<(s.heap.push _).objs.size;rw[Zah];rcases Zn.mp hb with rfl | hb
  ·exact ZaN _
  ·rcases Zn.mp hb with rfl | hb
   ·exact Zar hlt
   ·cases hb
 ·refine h v h' tk (by simpa[intItems]using hP) λb o e=>?_;refine hk b o (λhm=>?_) (Zb _ e);rcases Zn.mp hm with e1 | hm
  ·exact absurd (e1▸Zo e) (ZP _)
  ·cases hm
theorem QsQ(hc:X.calm=true):Qbs X (.builtin "min") (Qse X.K QlC):=by
 intro pins s σ H xs us Q I r h;obtain⟨p,ns,rfl,hq,hne,q⟩:=h;obtain⟨u,rfl,rx⟩:=vals1 r;cases rx;rcases hq with hq | hq
 ·obtain⟨its,r',pl,hz⟩:=I.list hq;obtain⟨ys,e,hns⟩:=Qdi (QbY r');have hl:=pl.isList;rw[e]at hl;have hsz:0<ys.size:=by
   rcases Zbl ys.size with z | z
   ·exact absurd (by rw[hns,Zbg];exact Zan (by simpa using z)) hne
   ·exact z
  refine min_intList (I.ok.hd hc) hl hsz λv h' tk hv hk=>?_;obtain⟨t,rfl⟩:=intItems_at hv;obtain⟨h1,h2⟩:=argBest_lt (numAt ys) (ys.size-1);refine⟨.int _,H,I.kept hk,⟨t,rfl⟩,q _ ⟨?_,λa ha=>?_⟩⟩
  ·rw[hns,numAt_eq];exact getD_mem (by rw[Zl,Zaa];omega)
  ·rw[hns]at ha;obtain⟨j,hj,rfl⟩:=mem_getD ha;rw[Zl,Zaa]at hj;rw[← numAt_eq];exact h2 j ⋯
 ·obtain⟨its,r',pl,hz⟩:=I.tuple hq;obtain⟨ys,e,hns⟩:=Qdi (QbY r');have hl:=pl;rw[e]at hl;have hsz:0<ys.size:=by
   rcases Zbl ys.size with z | z
   ·exact absurd (by rw[hns,Zbg];exact Zan (by simpa using z)) hne
   ·exact z
  refine QoH (I.ok.hd hc) hl hsz λv h' tk hv hk=>?_;obtain⟨t,rfl⟩:=intItems_at hv;obtain⟨h1,h2⟩:=argBest_lt (numAt ys) (ys.size-1);refine⟨.int _,H,I.kept hk,⟨t,rfl⟩,q _ ⟨?_,λa ha=>?_⟩⟩
  ·rw[hns,numAt_eq];exact getD_mem (by rw[Zl,Zaa];omega)
  ·rw[hns]at ha;obtain⟨j,hj,rfl⟩:=mem_getD ha;rw[Zl,Zaa]at hj;rw[← numAt_eq];exact h2 j ⋯
theorem Qo7(hh:A.handled=none)(hl:s.heap.IsTuple l (intItems xs))(hne:0<xs.size)
  (h:∀v h' tk,(intItems xs)[argBest (λi j=>decide (numAt xs i>numAt xs j)) (xs.size-1)]? =some v->(∀b o,s.heap.get? b=some o->h'.get? b=some o)->Q v {s with heap:=h',toks:=tk}):
  wpAny (model prog w) A (call (.builtin "max") [.ref l]) Q E s:=by
 have hlt:l<s.heap.objs.size:=by obtain⟨_,e,_⟩:=hl;exact Zo e
 refine call_max_walk (wpAny_pyIter_tuple hl ?_);refine⟨_,[_,l],[_],_,_,_,_,rfl,Walks.tuple (A:=A.in1) hh _ l (ZG hlt) (intItems xs),⟨⟨_,Zq _ rfl,rfl,rfl⟩,hl.push _⟩,λb hb=>?_,by simpa[intItems]using hne,CmpOf.ints_gt (numAt xs) (λ_ _=>intItems_at),λv h' tk hP hk=>?_⟩
 ·show b<(s.heap.push _).objs.size;rw[Zah];rcases Zn.mp hb with rfl | hb
  ·exact ZaN _
  ·rcases Zn.mp hb with rfl | hb
   ·exact Zar hlt
   ·cases hb
 ·refine h v h' tk (by simpa[intItems]using hP) λb o e=>?_;refine hk b o (λhm=>?_) (Zb _ e);rcases Zn.mp hm with e1 | hm
  ·exact absurd (e1▸Zo e) (ZP _)
  ·cases hm
theorem Quf(hc:X.calm=true):Qbs X (.builtin "max") (Qse X.K isMax):=by
 intro pins s σ H xs us Q I r h;obtain⟨p,ns,rfl,hq,hne,q⟩:=h;obtain⟨u,rfl,rx⟩:=vals1 r;cases rx;rcases hq with hq | hq
 ·obtain⟨its,r',pl,hz⟩:=I.list hq;obtain⟨ys,e,hns⟩:=Qdi (QbY r');have hl:=pl.isList;rw[e]at hl;have hsz:0<ys.size:=by
   rcases Zbl ys.size with z | z
   ·exact absurd (by rw[hns,Zbg];exact Zan (by simpa using z)) hne
   ·exact z
  refine max_intList (I.ok.hd hc) hl hsz λv h' tk hv hk=>?_;obtain⟨t,rfl⟩:=intItems_at hv;obtain⟨h1,h2⟩:=argBest_gt (numAt ys) (ys.size-1);refine⟨.int _,H,I.kept hk,⟨t,rfl⟩,q _ ⟨?_,λa ha=>?_⟩⟩
  ·rw[hns,numAt_eq];exact getD_mem (by rw[Zl,Zaa];omega)
  ·rw[hns]at ha;obtain⟨j,hj,rfl⟩:=mem_getD ha;rw[Zl,Zaa]at hj;rw[← numAt_eq];exact h2 j ⋯
 ·obtain⟨its,r',pl,hz⟩:=I.tuple hq;obtain⟨ys,e,hns⟩:=Qdi (QbY r');have hl:=pl;rw[e]at hl;have hsz:0<ys.size:=by
   rcases Zbl ys.size with z | z
   ·exact absurd (by rw[hns,Zbg];exact Zan (by simpa using z)) hne
   ·exact z
  refine Qo7 (I.ok.hd hc) hl hsz λv h' tk hv hk=>?_;obtain⟨t,rfl⟩:=intItems_at hv;obtain⟨h1,h2⟩:=argBest_gt (numAt ys) (ys.size-1);refine⟨.int _,H,I.kept hk,⟨t,rfl⟩,q _ ⟨?_,λa ha=>?_⟩⟩
  ·rw[hns,numAt_eq];exact getD_mem (by rw[Zl,Zaa];omega)
  ·rw[hns]at ha;obtain⟨j,hj,rfl⟩:=mem_getD ha;rw[Zl,Zaa]at hj;rw[← numAt_eq];exact h2 j ⋯
theorem Qpm(hh:A.handled=none)(hl:s.heap.IsTuple l (intItems xs))
  (h:∀h' tk t',(∀b o,s.heap.get? b=some o->h'.get? b=some o)->Q (.int (preSum (numAt xs) xs.size) t') {s with heap:=h',toks:=tk}):
  wpAny (model prog w) A (call (.builtin "sum") [.ref l]) Q E s:=by
 have hlt:l<s.heap.objs.size:=by obtain⟨_,e,_⟩:=hl;exact Zo e
 refine call_sum_walkG (wpAny_pyIter_tuple hl ?_);refine⟨_,[_,l],[_],_,_,_,numAt xs,rfl,Walks.tuple (A:=A.in1) hh _ l (ZG hlt) (intItems xs),⟨⟨_,Zq _ rfl,rfl,rfl⟩,hl.push _⟩,λb hb=>?_,(λ_ _=>intItems_at),λh' tk t' hk=>?_⟩
 ·show b<(s.heap.push _).objs.size;rw[Zah];rcases Zn.mp hb with rfl | hb
  ·exact ZaN _
  ·rcases Zn.mp hb with rfl | hb
   ·exact Zar hlt
   ·cases hb
 ·have:=h h' tk t' λb o e=>by
   refine hk b o (λhm=>?_) (Zb _ e);rcases Zn.mp hm with e1 | hm
   ·exact absurd (e1▸Zo e) (ZP _)
   ·cases hm
  simpa[intItems]using this
noncomputable def QA3(K:Fgg):List V->Hp->VK->Prop:=λxs H Q=>∃(p:Addr) (ns:List Int),xs=[.ref p]/\(SqL K H p (ns.map V.int)∨SqT K H p (ns.map V.int))/\Q (.int ns.sum) H
theorem QsC(hc:X.calm=true):Qbs X (.builtin "sum") (QA3 X.K):=by
 intro pins s σ H xs us Q I r h;obtain⟨p,ns,rfl,hq,q⟩:=h;obtain⟨u,rfl,rx⟩:=vals1 r;cases rx;rcases hq with hq | hq
 ·obtain⟨its,r',pl,hz⟩:=I.list hq;obtain⟨ys,e,hns⟩:=Qdi (QbY r');have hl:=pl.isList;rw[e]at hl;refine sum_intListG (I.ok.hd hc) hl λh' tk t' hk=>?_;refine⟨.int ns.sum,H,I.kept hk,⟨t',?_⟩,q⟩;rw[preSum_eq,ZbZ (by simp),hns]
 ·obtain⟨its,r',pl,hz⟩:=I.tuple hq;obtain⟨ys,e,hns⟩:=Qdi (QbY r');have hl:=pl;rw[e]at hl;refine Qpm (I.ok.hd hc) hl λh' tk t' hk=>?_;refine⟨.int ns.sum,H,I.kept hk,⟨t',?_⟩,q⟩;rw[preSum_eq,ZbZ (by simp),hns]
theorem Qt0(hc:X.calm=true):Qbs X (.builtin "all") (λxs H Q=>∃(p:Addr) (ns:List Bool),xs=[.ref p]/\SqL X.K H p (ns.map V.bl)/\Q (.bl (ns.all id)) H):=by
 intro pins s σ H xs us Q I r h;obtain⟨p,ns,rfl,hq,q⟩:=h;obtain⟨u,rfl,rx⟩:=vals1 r;cases rx;obtain⟨its,r',pl,hz⟩:=I.list hq;have hb:=QpA r';have hl:=pl.isList;have hlt:p<s.heap.objs.size:=by obtain⟨_,e,_⟩:=hl;exact Zo e
 refine call_all_walk (wpAny_pyIter_list hl ?_)
 refine⟨s.heap.objs.size,[s.heap.objs.size,p],[s.heap.objs.size],its.toArray.size,_,_,λi=>(ns[i]?).getD true,rfl,Walks.list (A:=X.A.in1) (I.ok.hd hc) _ p (ZG hlt) its.toArray,
  ⟨⟨_,Zq _ rfl,rfl,rfl⟩,hl.push _⟩,λi v s' Q' E' hP hQ=>?_,λh' tk hk=>?_⟩
 ·obtain⟨b,e,rfl⟩:=hb.get i v (by simpa using hP);simp only[e,Option.getD_some]at hQ;exact wpAny_truthy_bool hQ
 ·have e:((List.range its.toArray.size).all λi=>(ns[i]?).getD true)=ns.all id:=by
   rw[Zv,hb.length];exact LSm.range_all ns
  rw[e];exact⟨.bl (ns.all id),H,I.kept (LSm.kept_iter hk),rfl,q⟩
noncomputable def QkQ:List Int->Option Int
 | []=>none
 | [n]=>some n
 | n::r=>(QkQ r).map λm=>if m<n then m else n
noncomputable def QkG:List Int->Option Int
 | []=>none
 | [n]=>some n
 | n::r=>(QkG r).map λm=>if n<m then m else n
theorem QjA:∀{ns:List Int}{m:Int},QkQ ns=some m->QlC ns m
 | [],_,h=>by cases h
 | [n],_,h=>by cases h;exact⟨by simp,λa ha=>by simp at ha;omega⟩
 | n::k::r,m,h=>by
  simp only[QkQ]at h;obtain⟨m',h1,rfl⟩:=Ze.mp h;obtain⟨h2,h3⟩:=QjA h1;constructor
  ·split
   ·exact Zc _ h2
   ·exact Zg
  ·intro a ha;rcases Zn.mp ha with rfl | ha
   ·split<;>omega
   ·have:=h3 a ha;split<;>omega
theorem Qjx:∀{ns:List Int}{m:Int},QkG ns=some m->isMax ns m
 | [],_,h=>by cases h
 | [n],_,h=>by cases h;exact⟨by simp,λa ha=>by simp at ha;omega⟩
 | n::k::r,m,h=>by
  simp only[QkG]at h;obtain⟨m',h1,rfl⟩:=Ze.mp h;obtain⟨h2,h3⟩:=Qjx h1;constructor
  ·split
   ·exact Zc _ h2
   ·exact Zg
  ·intro a ha;rcases Zn.mp ha with rfl | ha
   ·split<;>omega
   ·have:=h3 a ha;split<;>omega
theorem Qnw{ns:List Int}{a b:Int}(h:QlC ns a)(g:QlC ns b):a=b:=by have:=h.2 b g.1;have:=g.2 a h.1;omega
theorem QnH{ns:List Int}{a b:Int}(h:isMax ns a)(g:isMax ns b):a=b:=by have:=h.2 b g.1;have:=g.2 a h.1;omega
noncomputable def QjP:List D->Option D
 | [.lst xs]=>(QdT xs).bind λns=>(QkQ ns).map .int
 | [.tup xs]=>(QdT xs).bind λns=>(QkQ ns).map .int
 | _=>none
noncomputable def Qhq:List D->Option D
 | [.lst xs]=>(QdT xs).bind λns=>(QkG ns).map .int
 | [.tup xs]=>(QdT xs).bind λns=>(QkG ns).map .int
 | _=>none
noncomputable def Qfn:List D->Option D
 | [.lst xs]=>(QdT xs).map λns=> .int ns.sum
 | [.tup xs]=>(QdT xs).map λns=> .int ns.sum
 | _=>none
theorem Qy2{K:Fgg}:Qd0 K QjP (Qse K QlC):=λds d e=>by
 unfold QjP at e;split at e
 ·refine Qh e λns h1 e=>?_;obtain⟨m,h2,rfl⟩:=Ze.mp e;refine⟨rfl,λH vs F Q r q=>?_⟩;obtain⟨v,rfl,rp⟩:=r.one;obtain⟨l,ws,L,rfl,hl,rl,zl,el⟩:=rp.lst_inv;rw[Qc9 h1]at rl;rw[rl.ints]at hl;exact⟨l,ns,rfl,.inl (QX hl),λz=>(by rw[z]at h2;cases h2),λM hM=>by rw[Qnw hM (QjA h2)];exact q _ λ_=> .int_mk⟩
 ·refine Qh e λns h1 e=>?_;obtain⟨m,h2,rfl⟩:=Ze.mp e;refine⟨rfl,λH vs F Q r q=>?_⟩;obtain⟨v,rfl,rp⟩:=r.one;obtain⟨l,ws,rfl,hl,rl⟩:=rp.QaZ;rw[Qc9 h1]at rl;rw[rl.ints]at hl;exact⟨l,ns,rfl,.inr hl,λz=>(by rw[z]at h2;cases h2),λM hM=>by rw[Qnw hM (QjA h2)];exact q _ λ_=> .int_mk⟩
 ·cases e
theorem QyD{K:Fgg}:Qd0 K Qhq (Qse K isMax):=λds d e=>by
 unfold Qhq at e;split at e
 ·refine Qh e λns h1 e=>?_;obtain⟨m,h2,rfl⟩:=Ze.mp e;refine⟨rfl,λH vs F Q r q=>?_⟩;obtain⟨v,rfl,rp⟩:=r.one;obtain⟨l,ws,L,rfl,hl,rl,zl,el⟩:=rp.lst_inv;rw[Qc9 h1]at rl;rw[rl.ints]at hl;exact⟨l,ns,rfl,.inl (QX hl),λz=>(by rw[z]at h2;cases h2),λM hM=>by rw[QnH hM (Qjx h2)];exact q _ λ_=> .int_mk⟩
 ·refine Qh e λns h1 e=>?_;obtain⟨m,h2,rfl⟩:=Ze.mp e;refine⟨rfl,λH vs F Q r q=>?_⟩;obtain⟨v,rfl,rp⟩:=r.one;obtain⟨l,ws,rfl,hl,rl⟩:=rp.QaZ;rw[Qc9 h1]at rl;rw[rl.ints]at hl;exact⟨l,ns,rfl,.inr hl,λz=>(by rw[z]at h2;cases h2),λM hM=>by rw[QnH hM (Qjx h2)];exact q _ λ_=> .int_mk⟩
 ·cases e
theorem Qx7{K:Fgg}:Qd0 K Qfn (QA3 K):=λds d e=>by
 unfold Qfn at e;split at e
 ·obtain⟨ns,h1,rfl⟩:=Ze.mp e;refine⟨rfl,λH vs F Q r q=>?_⟩;obtain⟨v,rfl,rp⟩:=r.one;obtain⟨l,ws,L,rfl,hl,rl,zl,el⟩:=rp.lst_inv;rw[Qc9 h1]at rl;rw[rl.ints]at hl;exact⟨l,ns,rfl,.inl (QX hl),q _ λ_=> .int_mk⟩
 ·obtain⟨ns,h1,rfl⟩:=Ze.mp e;refine⟨rfl,λH vs F Q r q=>?_⟩;obtain⟨v,rfl,rp⟩:=r.one;obtain⟨l,ws,rfl,hl,rl⟩:=rp.QaZ;rw[Qc9 h1]at rl;rw[rl.ints]at hl;exact⟨l,ns,rfl,.inr hl,q _ λ_=> .int_mk⟩
 ·cases e
noncomputable def QhG:List D->Option D
 | [.lst xs]=>(QmE xs).map λns=> .bl (ns.all id)
 | _=>none
theorem Qxv{K:Fgg}:Qd0 K QhG (λxs H Q=>∃(p:Addr) (ns:List Bool),xs=[.ref p]/\SqL K H p (ns.map V.bl)/\Q (.bl (ns.all id)) H):=λds d e=>by
 unfold QhG at e;split at e
 ·obtain⟨ns,h1,rfl⟩:=Ze.mp e;refine⟨rfl,λH vs F Q r q=>?_⟩;obtain⟨v,rfl,rp⟩:=r.one;obtain⟨l,ws,L,rfl,hl,rl,zl,el⟩:=rp.lst_inv;rw[QoT h1]at rl;rw[rl.bls]at hl;exact⟨l,ns,rfl,QX hl,q _ λ_=> .QcO⟩
 ·cases e
end
section
variable {X:Cx}{a b c e tg:Expr}{es:List Expr}{fa fb fc:DE}{fs:DA}{pos p2:Pos}
theorem Rps.ofInts{K:Fgg}{H:Hp}:∀ns:List Int,Rps K H (ns.map .int) (ns.map .int) []
 | []=>by simp[Rps]
 | n::ns=>by simp only[Zp,Rps];exact⟨_,_,[],[],rfl,rfl,.int_mk,Rps.ofInts ns⟩
theorem Qhj:∀ns:List Int,QT (ns.map .int)=true
 | []=>rfl
 | n::ns=>by simp[QT,D.flat,Qhj ns]
noncomputable def Itd(hi:Int)(n:Nat):It:=⟨λi _=>i<n,λi H x H'=>H'=H/\x= .int (hi-i),λi _=>n<=i⟩
theorem Qqu{P:Program}{w:World}{K:Fgg}{tg:Expr}(it:Addr)(lo:Int)(n:Nat):Turn P w K tg (Itd lo n) [it] it (λi h=>IsRangeIter h it (lo+(i:Nat)*(-1)) ((n:Int)-(i:Nat)) (-1)) where
 mem:=by simp
 obj:=λi h st b hb=>by
  have e:b=it:=by simpa using hb
  subst e;exact⟨_,st,λv z=>by
   have z':Data.fields _=Data.cell v:=z;cases z'⟩
 keep:=λi h h' st k=>k it (by simp) _ st
 item:=by
  intro X hP hw hK hc i pins s σ H E I hf st hg;subst hP hw hK;obtain⟨f0,f1,f2,f3,f4,f5⟩:=hf it (by simp);have W:=Walks.range (prog:=X.prog) (w:=X.w) (I.ok.hd hc) it lo (-1) n;refine W.item i s _ _ hg st λv h' tk hv st' kk=>?_;obtain⟨t,rfl⟩:=hv;have I1:Inv X pins σ H {s with heap:=h',toks:=tk}:=I.turned (λb o hb e=>kk b o (by simpa using hb) e) f0 f1 f3 f4 f5;refine⟨_,rfl,Qoi st' rfl rfl (by decide) ⟨.int (lo-i),H,I1,⟨t,?_⟩,⟨rfl,rfl⟩,st',λb hb=>(hf b hb).1⟩⟩;rw[show lo+(i:Int)* -1=lo-i by omega]
 done:=by
  intro X hP hw hK hc i pins s σ H E I hf st hg;subst hP hw hK;obtain⟨f0,f1,f2,f3,f4,f5⟩:=hf it (by simp);exact wpAny_pyNext_range_end (I.ok.hd hc) st (by have:n<=i:=hg;omega) λh' eb=>⟨rfl,I.turned (t':=s.toks) (λb o hb e=>eb b o hb e) f0 f1 f3 f4 f5⟩
 self:=λ_ _ _ _ _ st h=>wpAny_pyIter_rangeiter st h
theorem QnI(lo hi:Int):Builtin.Range.rangeSize lo hi (-1)=if lo>hi then lo-hi else 0:=by
 unfold Builtin.Range.rangeSize;rw[if_neg (by decide)];split
 ·rw[show(- -1:Int)=1 by decide,Int.ediv_one];omega
 ·rfl
theorem small_down{lo hi:Int}(h1: -(2^62)<=lo)(h2:lo<2^62)(h3: -(2^62)<=hi)(h4:hi<2^62):Builtin.Range.small lo hi (-1)=true:=by
 unfold Builtin.Range.small;rw[QnI];simp only[Builtin.Range.rangeFitsLong,Zh,Zcd,decide_eq_true_eq,beq_iff_eq,show ¬((-1:Int)>0) by decide,if_false];split<;>omega
theorem QsK{pins:List (Addr×Obj)}{σ:L2.St}{H:Hp}{s:Shared}{R:It->Hp->Prop}{E:Value->Shared->Prop}{lo hi:Int}{t u v:Tok}{tk:Nat}(I:Inv X pins σ H s)(h1: -(2^62)<=lo)(h2:lo<2^62)(h3: -(2^62)<=hi)(h4:hi<2^62)
  (q:R (Itd lo (lo-hi).toNat) H):wpAny (model X.prog X.w) X.A (pyIter (.ref s.heap.objs.size)) (PIE X pins σ tg R) E {s with heap:=s.heap.push {cls:= .type "range",data:= .fields #[.int lo t,.int hi u,.int (-1) v]},toks:=tk}:=by
 refine wpAny_pyIter_range (IsRange.new ..) (small_down h1 h2 h3 h4) ?_;have I1:Inv X pins σ H {s with heap:=s.heap.push {cls:= .type "range",data:= .fields #[.int lo t,.int hi u,.int (-1) v]},toks:=tk}:=I.kept λb o e=>Zb _ e
 refine⟨(s.heap.push {cls:= .type "range",data:= .fields #[.int lo t,.int hi u,.int (-1) v]}).objs.size,[(s.heap.push {cls:= .type "range",data:= .fields #[.int lo t,.int hi u,.int (-1) v]}).objs.size],_,_,H,rfl,
  I1.kept (t':=tk) λb o e=>Zb _ e,Qqu _ lo (lo-hi).toNat,?_,λb hb=>?_,q⟩
 ·have e1:lo+((0:Nat):Int)*(-1)=lo:=by simp
  have e2:(((lo-hi).toNat:Nat):Int)-((0:Nat):Int)=Builtin.Range.rangeSize lo hi (-1):=by rw[QnI];split<;>omega
  show IsRangeIter _ _ (lo+((0:Nat):Int)*(-1)) ((((lo-hi).toNat:Nat):Int)-((0:Nat):Int)) (-1);rw[e1,e2];exact Zq _ rfl
 ·have e:b=(s.heap.push {cls:= .type "range",data:= .fields #[.int lo t,.int hi u,.int (-1) v]}).objs.size:=by simpa using hb
  subst e;exact I1.Qkp (Zj _) (I1.hok.fresh (Zj _))
noncomputable def QBE(ta:TA):TI:=λσ H R=>ta σ H λvs H1=>∃i j:Int,vs=[.int i,.int j,.int (-1)]/\(-(2^62)<=i/\i<2^62/\ -(2^62)<=j/\j<2^62)/\R (Itd i (i-j).toNat) H1
theorem Qtr(hg:Gl X "range")(hm:X.mg "range" =none)(ha:PA X [a,b,c] ta)(hs:starEach [a,b,c] X.env=(false,eval a X.env)::starEach [b,c] X.env)(hs2:(backTo pos (starEach [b,c] X.env)).any (·.1)=false):
  PI X tg (.Call (.Name "range" p) [a,b,c] [] pos) (QBE ta):=by
 intro pins s σ H R I h;refine Call_ (Qdm I hg hm boot_range (Zad (thn (ha pos pins s σ H _ I h) λus s1 ⟨vs,H1,I1,r1,q1⟩=>?_) hs hs2));obtain⟨i,j,e,⟨q1,q2,q3,q4⟩,q⟩:=q1;subst e;cases r1 with
 | cons r rr=>
  cases rr with
  | cons r' rr=>
   cases rr with
   | cons r'' rr=>
    cases rr;obtain⟨t,rfl⟩:=r;obtain⟨t',rfl⟩:=r';obtain⟨t'',rfl⟩:=r'';exact call_range_3 (by decide) (QsK I1 q1 q2 q3 q4 q) (.inl (ZbN (by decide+kernel)))
noncomputable def QmH(hi:Int)(n:Nat):List D:=(List.range n).map λ(k:Nat)=> .int (hi-(k:Int))
theorem Qu7{lo:Int}{n i:Nat}{d:D}(h:(QmH lo n)[i]? =some d):i<n/\d= .int (lo-i):=by
 unfold QmH at h;rw[Zs]at h;by_cases hi:i<n
 ·rw[ZS hi]at h;cases h;exact⟨hi,rfl⟩
 ·rw[ZA (by simp;omega)]at h;cases h
noncomputable def Qg7(fa fb fc:DE):DI:=λU=>(fa U).bind λr=>(fb U).bind λr'=>(fc U).bind λr''=>match r.d,r'.d,r''.d with
 | .int i,.int j,.int (-1)=>if i-j<=16777216/\ -(2^62)<=i/\i<2^62/\ -(2^62)<=j/\j<2^62 then some ⟨QmH i (i-j).toNat,[]⟩else none
 | _,_,_=>none
theorem QkN{lo:Int}{n:Nat}:(QmH lo n).length=n:=by simp[QmH]
theorem Qqy{K:Fgg}{lo:Int}{n:Nat}:Walk K (Itd lo n) [] (QmH lo n) where
 stop:=λH _=>by rw[QkN];exact Zj _
 go:=λi H hi _=>by rw[QkN]at hi;exact hi
 yld:=λi d H x H' e _ y=>by
  obtain⟨h1,rfl⟩:=Qu7 e;obtain⟨rfl,rfl⟩:=y;exact⟨QM.refl _,[],.int_mk,λz hz=>by simp at hz⟩
theorem QtC(hg:Gl X "range")(hm:X.mg "range" =none)(ha:SE X a fa)(hb:SE X b fb)(hc:SE X c fc)(h1:starEach [a,b,c] X.env=(false,eval a X.env)::starEach [b,c] X.env)(h2:starEach [b,c] X.env=(false,eval b X.env)::starEach [c] X.env)(h3:starEach [c] X.env=(false,eval c X.env)::starEach [] X.env):
  SI X tg (.Call (.Name "range" p) [a,b,c] [] pos) (Qg7 fa fb fc):=λH0 A0=>
 (Qtr hg hm (Qaq (ha H0 A0) (Qaq (hb H0 A0) (Qaq (hc H0 A0) QcW h3) h2) h1) h1 (by rw[h2,h3];rfl)).mono λσ H Rr=>exK λU hs F ir rel e q=>by
  refine Qh e λr e1 e=>?_;refine Qh e λr' e2 e=>?_;refine Qh e λr'' e3 e=>?_;refine⟨U,hs,F,r,rel,e1,λv H1 G pp=>⟨U,hs,F,r',rel.ext pp.same,e2,λv' H2 G' pp'=>⟨U,hs,F,r'',(rel.ext pp.same).ext pp'.same,e3,λv'' H3 G'' pp''=>?_⟩⟩⟩;split at e
  ·rename_i i j hr hr' hr'';split at e
   ·rename_i hz;cases e;have rp:=(pp.rp.same pp'.same).same pp''.same;have rp':=pp'.rp.same pp''.same;have rp'':=pp''.rp;rw[hr]at rp;rw[hr']at rp';rw[hr'']at rp'';rw[rp.int_inv,rp'.int_inv,rp''.int_inv];refine⟨i,j,rfl,hz.2,q _ H3 [] ((pp.same.trans pp'.same).trans pp''.same) Qqy (λt ht=>by simp at ht) Qbv.nil ?_⟩;rw[QkN,QmV];omega
   ·cases e
  ·cases e
theorem Qzc:MtR X "int.bit_length" (λx vs H Q=>∃i,x= .int i/\vs=[]/\Q (.int (Builtin.Int.intBits i)) H):=by
 intro pins s σ H x vs v us Q I rx rv h;obtain⟨i,rfl,rfl,q⟩:=h;obtain⟨t,rfl⟩:=rx;have hus:=rv.zero;subst hus;exact call_int_bit_length ⟨.int _,H,I.tok _,⟨_,rfl⟩,q⟩
noncomputable def Qoh(fa:DE):DE:=λU=>(fa U).bind λr=>match r.d with
 | .int i=>some ⟨.int (Builtin.Int.intBits i),true,[]⟩
 | _=>none
theorem Qym(ha:SE X a fa)(hb:attributeBase a "bit_length" X.env (eval a X.env)=eval a X.env)(hl:(apos.endLine == cpos.line)=true):SE X (.Call (.Attribute a "bit_length" apos) [] [] cpos) (Qoh fa):=λH0 A0=>
 (QAo PySem.F.plainAttrs_int PySem.F.slot_int_bit_length PySem.F.type_int_bit_length Qzc (ha H0 A0) hb hl).mono λσ H Q=>exK λU hs F r' rel e q=>by
  refine Qh e λra e1 e=>?_;refine⟨U,hs,F,ra,rel,e1,λv H1 G p1=>?_⟩;cases hd:ra.d with
  | int i=>
   rw[hd]at e;cases e;have rp:=p1.rp;rw[hd]at rp;rw[rp.int_inv];exact⟨rfl,i,rfl,rfl,q _ _ [] (.flat p1.same .int_mk)⟩
  | _=>rw[hd]at e;cases e
end
section
variable {prog:Program}{w:World}{KT':Type} [DecidableEq KT'] {knd:HeapKind prog w KT'}{A:Around}{E:Value->Shared->Prop}{s:Shared}
def QgC(h:Heap)(d:Addr)(es:Array DictEntry)(ep:Nat):Prop:=∃o,h.get? d=some o/\o.ExactDict/\o.data= .dict es ep
theorem QgC.keep{h h':Heap}{d:Addr}{es:Array DictEntry}{ep:Nat}(x:QgC h d es ep)(k:∀o,h.get? d=some o->h'.get? d=some o):QgC h' d es ep:=let ⟨o,z,r⟩:=x;⟨o,k o z,r⟩
noncomputable abbrev kiO(d:Addr)(i n ep:Nat):Obj:={cls:= .type "dict_keyiterator",data:= .fields #[.ref d,.int i 0,.int n 0,.int ep 0]}
theorem QBy{d:Addr}{es:Array DictEntry}{ep:Nat}{Q:Value->Shared->Prop}(hd:(d == sysModules)=false)(hm:QgC s.heap d es ep)(q:Q (.ref s.heap.objs.size) {s with heap:=s.heap.push (kiO d 0 es.size ep)}):
  wpAny (model prog w) A (pyIter (.ref d)) Q E s:=by
 obtain⟨o,ho,hx,hdd⟩:=hm;have ty:s.TypeIs (.ref d) "dict" :=⟨o,ho,hx.1⟩;refine wpAny_pyIter_slot ty PySem.F.slot_dict_iter (wpAny_call_entry PySem.F.slot_dict_iter ty PySem.F.entry_dict_iter ?_ (PySem.F.args_dict_iter_1 _));unfold Builtin.«dict.__iter__» Builtin.Dict.dictSlotNone Builtin.Dict.showsAll;refine wpAny_bind (wpAny_bind (wpAny_notOrdered_dict ty (wpAny_pure ?_)));refine wpAny_bind (m:=Builtin.Dict.addrOf (.ref d)) (wpAny_pure ?_);rw[if_neg (by rw[hd];decide)];refine wpAny_bind (wpAny_pure (wpAny_bind (wpAny_dictEntries ho hdd (wpAny_bind (wpAny_dictEpoch ho hdd ?_)))));exact wpAny_bind (wpAny_newObj_type (wpAny_pure ⟨_,rfl,"dict_keyiterator",_,⟨_,Zq _ rfl,rfl⟩,PySem.F.slot_dict_keyiterator_next.lookup,q⟩))
theorem QCp{I d:Addr}{i ep:Nat}{es:Array DictEntry}{en:DictEntry}{Q:Option Value->Shared->Prop}(hi:s.heap.get? I=some (kiO d i es.size ep))(hm:QgC s.heap d es ep)(he:es[i]? =some en)
  (q:∀h',h'.get? I=some (kiO d (i+1) es.size ep)->Heap.SameBut I s.heap h'->Q (some en.key) {s with heap:=h'}):wpAny (model prog w) A (pyNext (.ref I)) Q E s:=by
 have ty:s.TypeIs (.ref I) "dict_keyiterator" :=⟨_,hi,rfl⟩;obtain⟨od,hod,hx,hdd⟩:=hm;unfold pyNext;refine wpAny_bind (wpAny_attempt (wpAny_callSpecial?_slot (name:=Str.ofString "__next__") ty PySem.F.slot_dict_keyiterator_next (wpAny_call_entry PySem.F.slot_dict_keyiterator_next ty PySem.F.entry_dict_keyiterator_next ?_ (PySem.F.args_dict_keyiterator_next_1 _))));refine wpAny_bind (wpAny_pure (wpAny_bind (wpAny_bind ?_)))
 first | refine wpAny_bind (wpAny_typeNameOfWhole_keyiter ty (wpAny_pure ?_)) | refine wpAny_bind (wpAny_typeNameOf_keyiter ty (wpAny_pure ?_))
 refine wpAny_bind (wpAny_fieldsOf hi rfl ?_);simp only[show Builtin.Dict_items.ownsTuple "dict_keyiterator" =false by decide,Bool.false_eq_true,if_false];show wpAny _ _ (if(Value.ref d == Value.none)=true then _ else _) _ _ s;rw[if_neg (show ¬((Value.ref d == Value.none)=true)from ZV)];refine wpAny_bind (wpAny_pure (wpAny_bind (wpAny_dictEntries hod hdd ?_)));rw[if_neg (by simp)];refine wpAny_bind (wpAny_pure (wpAny_bind (wpAny_dictEpoch hod hdd ?_)));rw[if_neg (by simp)];refine wpAny_pure ?_;simp only[show ¬((i:Int)<0)from by omega,if_false,ZL,he];refine wpAny_bind ?_
 first | refine wpAny_bind (wpAny_typeNameOfWhole_keyiter ty (wpAny_pure ?_)) | refine wpAny_bind (wpAny_typeNameOf_keyiter ty (wpAny_pure ?_))
 refine wpAny_bind (wpAny_isOneOf_keyiter ty ?_);show wpAny _ _ (setField (.ref I) 1 (rawInt ((i:Int)+1)) >>= _) _ _ s;refine wpAny_bind (wpAny_setField_rec hi (by simp) λh1 z1 b1=>?_);have z2:h1.get? I=some (kiO d (i+1) es.size ep):=by rw[z1];simp[rawInt]
 refine wpAny_bind (wpAny_holding ?_);refine wpAny_bind (wpAny_isOneOf_keyiter (s:={s with heap:=h1}) ⟨_,z2,rfl⟩ ?_);show wpAny _ _ (pure en.key) _ _ _;exact wpAny_pure (wpAny_pure ⟨_,rfl,wpAny_pure (q _ z2 b1)⟩)
theorem QtX{I d:Addr}{ep:Nat}{es:Array DictEntry}{Q:Option Value->Shared->Prop}(hh:A.handled=none)(hi:s.heap.get? I=some (kiO d es.size es.size ep))(hm:QgC s.heap d es ep)
  (q:∀h',Heap.ExtBut I s.heap h'->Q none {s with heap:=h'}):wpAny (model prog w) A (pyNext (.ref I)) Q E s:=by
 have ty:s.TypeIs (.ref I) "dict_keyiterator" :=⟨_,hi,rfl⟩;obtain⟨od,hod,hx,hdd⟩:=hm;unfold pyNext;refine wpAny_bind (wpAny_attempt (wpAny_callSpecial?_slot (name:=Str.ofString "__next__") ty PySem.F.slot_dict_keyiterator_next (wpAny_call_entry PySem.F.slot_dict_keyiterator_next ty PySem.F.entry_dict_keyiterator_next ?_ (PySem.F.args_dict_keyiterator_next_1 _))));refine wpAny_bind (wpAny_pure (wpAny_bind (wpAny_bind ?_)))
 first | refine wpAny_bind (wpAny_typeNameOfWhole_keyiter ty (wpAny_pure ?_)) | refine wpAny_bind (wpAny_typeNameOf_keyiter ty (wpAny_pure ?_))
 refine wpAny_bind (wpAny_fieldsOf hi rfl ?_);simp only[show Builtin.Dict_items.ownsTuple "dict_keyiterator" =false by decide,Bool.false_eq_true,if_false];show wpAny _ _ (if(Value.ref d == Value.none)=true then _ else _) _ _ s;rw[if_neg (show ¬((Value.ref d == Value.none)=true)from ZV)];refine wpAny_bind (wpAny_pure (wpAny_bind (wpAny_dictEntries hod hdd ?_)));rw[if_neg (by simp)];refine wpAny_bind (wpAny_pure (wpAny_bind (wpAny_dictEpoch hod hdd ?_)));rw[if_neg (by simp)];refine wpAny_pure ?_;simp only[show ¬((es.size:Int)<0)from by omega,if_false,ZL,Array.getElem?_eq_none (Zj es.size)];refine wpAny_bind ?_
 first | refine wpAny_bind (wpAny_typeNameOfWhole_keyiter ty (wpAny_pure ?_)) | refine wpAny_bind (wpAny_typeNameOf_keyiter ty (wpAny_pure ?_))
 show wpAny _ _ (setField (.ref I) 0 .none >>= _) _ _ s;refine wpAny_bind (wpAny_setField hi rfl (by simp) ?_);show wpAny _ _ (newExc (.type "StopIteration") [] >>= _) _ _ _;refine wpAny_bind ?_;simp only[newExc,newTuple];refine wpAny_bind (wpAny_newObj_type ?_ (by size_fits));refine wpAny_bind (m:=firstArgMember _ _) (wpAny_of_eq (a:=Value.none) rfl ?_);refine wpAny_newObj_type ?_ (by size_fits);simp only[raiseNew];refine wpAny_bind (wpAny_handled ?_);rw[show A.in1.handled=none from hh];refine wpAny_bind (wpAny_pure (wpAny_throw ?_));refine wpAny_bind (wpAny_isInstance (T:= "StopIteration") (b:=true) ⟨_,Zq _ rfl,rfl⟩ isSubtype_stop ?_);exact wpAny_pure (q _ (((Heap.SameBut.update ..).extBut.push _).push _))
theorem Qyp(hh:A.handled=none){I d:Addr}{es:Array DictEntry}{ep:Nat}(na:d≠I):
  Walks prog w A I [I,d] [I] es.size (λi v=>∃e,es[i]? =some e/\v=e.key) (λi h=>h.get? I=some (kiO d i es.size ep)/\QgC h d es ep) where
 sub:=λb hb=>by simp at hb;simp[hb]
 frame:=λ_ _ _ st k=>⟨k I (by simp) _ st.1,st.2.keep λo z=>k d (by simp) o z⟩
 item:=λi s Q E hi st q=>QCp st.1 st.2 (ZaH hi) λh' z b=>q _ h' s.toks ⟨_,ZaH hi,rfl⟩ ⟨z,st.2.keep λo z=>b.extBut d o na z⟩ λc o hc z=>b.extBut c o (λy=>hc (by simp[y])) z
 done:=λs Q E st q=>QtX hh st.1 st.2 λh' b=>q h' s.toks λc o hc z=>b c o (λy=>hc (by simp[y])) z
 self:=λi s Q E st q=>wpAny_pyIter_keyiter (d:=d) (i:=i) (n:=es.size) (ep:=ep) ⟨_,st.1,rfl,rfl⟩ q
theorem QyL{a:Addr}{es:Array DictEntry}{ep:Nat}{Q:Bool->Shared->Prop}(hm:QgC s.heap a es ep)(q:Q false s):wpAny (model prog w) A (Builtin.List.listLengthHint (.ref a)) Q E s:=by
 obtain⟨o,ho,hx,_⟩:=hm;have ty:s.TypeIs (.ref a) "dict" :=⟨o,ho,hx.1⟩;unfold Builtin.List.listLengthHint;refine wpAny_bind (wpAny_specialOf ty PySem.F.slot_dict_len.lookup ?_);generalize e:("dict.__len__" :String)=x
 wp_delta
 rw[show splitId x=some ("dict","__len__")from by subst e;decide+kernel];subst e;refine wpAny_bind (wpAny_isInstance (T:= "dict") (b:=true) ty (by rw[isSubtype_type];kernel_rfl) ?_);refine wpAny_ite_split (λz=>absurd z (by decide)) (λ_=>?_);refine wpAny_ite_split (λ_=>?_) (λz=>absurd (by decide+kernel) z);exact wpAny_bind (wpAny_typeOf ty (wpAny_pure q))
theorem Qpo{h:Heap}{S:Addr}{f g:Obj->Obj}(b:Addr)(o:Obj)(hb:b≠S)(z:h.get? b=some o):((h.update S f).update S g).get? b=some o:=(ZaC _ _ (Ne.symm hb)).trans ((ZaC _ _ (Ne.symm hb)).trans z)
set_option maxHeartbeats 400000 in
theorem Qxj{a:Addr}{es:Array DictEntry}{ep:Nat}{Q:Value->Shared->Prop}(hh:A.handled=none)(hd:(a == sysModules)=false)(hm:QgC s.heap a es ep)(nb:es.size<=sizeLine)
  (q:∀h' tk acc c,(∀b o,s.heap.get? b=some o->h'.get? b=some o)->h'.get? s.heap.objs.size=some {cls:= .type "list",dict:=none,data:= .seq acc c,slots:= #[]}->ItemsOf (λi v=>∃e,es[i]? =some e/\v=e.key) acc es.size->Q (.ref s.heap.objs.size) {s with heap:=h',toks:=tk}):
  wpAny (model prog w) A (call (.type "list") [.ref a]) Q E s:=by
 have al:a<s.heap.objs.size:=let ⟨o,ho,_⟩:=hm;Zo ho;have WW:=(Qyp (prog:=prog) (w:=w) (A:=A.in1.in1) (I:=s.heap.objs.size+1) (es:=es) (ep:=ep) hh (ZG (Zar al))).toS
 have key:∀(R:Result->Shared->Prop) (h:Heap) (c:Nat),h.get? (s.heap.objs.size+1)=some (kiO a 0 es.size ep)->QgC h a es ep->(∀b o,s.heap.get? b=some o->h.get? b=some o)->h.get? s.heap.objs.size=some {cls:= .type "list",data:= .seq #[] c}→
   (∀(h':Heap) (tk c:Nat) (acc:Array Value),(∀b o,s.heap.get? b=some o->h'.get? b=some o)->h'.get? s.heap.objs.size=some {cls:= .type "list",data:= .seq acc c}->ItemsOf (λi v=>∃e,es[i]? =some e/\v=e.key) acc es.size->R (.ok (.ret .none)) {s with heap:=h',toks:=tk})→
   codeAny (model prog w) A.in1 (.builtin "list.extend.loop" ⟨[.ref s.heap.objs.size,.ref (s.heap.objs.size+1),.none],[]⟩) R {s with heap:=h}:=by
  intro R h c k1 k2 k3 k4 k5;refine codeAny_extend_loopS WW nb s.heap.objs.size (by simp[ZaQ al]) _ es.size 0 _ #[] c rfl (ZO _) ⟨k1,k2⟩ k4 (ItemsOf.nil _) λs' acc c mv g ia=>?_;rw[Moved.eq_with mv];refine k5 s'.heap s'.toks c acc (λb o z=>?_) g ia;have bl:=Zo z;exact mv.heap b o (by simp[ZG bl,ZG (Zar bl)]) (k3 b o z)
 refine callType_codes (Q₁:=λobj s₁=>obj= .ref s.heap.objs.size/\s₁={s with heap:=s.heap.push {cls:= .type "list",data:= .seq #[]}}) PySem.F.called_list (PySem.F.typeCall_list_1 _) PySem.F.entry_list_init
  (code_list_new _ ⟨rfl,rfl⟩) λobj s₁ h₁=>?_
 obtain⟨rfl,rfl⟩:=h₁;have hS:(s.heap.push {cls:= .type "list",data:= .seq #[]}).get? s.heap.objs.size=some {cls:= .type "list",data:= .seq #[]}:=Zq _ rfl;refine⟨⟨_,hS,rfl⟩,PySem.F.args_list_init_2 _ _,?_⟩;show wpAny _ _ (do let old ← Builtin.List.listItems (.ref s.heap.objs.size);Builtin.List.listUpdate (.ref s.heap.objs.size) (λ_=> #[]);letGo old.toList.reverse;Builtin.List.listExtendWith (.ref s.heap.objs.size) (.ref a) .none) _ _ _;refine wpAny_bind ?_;unfold Builtin.List.listItems;refine wpAny_bind (wpAny_seqItems hS rfl (wpAny_pure ?_));show wpAny _ _ (updateSeq s.heap.objs.size (λ_=> #[]) >>= λ_=>letGo (#[]:Array Value).toList.reverse >>= λ_=>Builtin.List.listExtendWith (.ref s.heap.objs.size) (.ref a) .none) _ _ _;refine wpAny_bind (wpAny_updateSeq hS rfl (wpAny_bind (wpAny_letGo ?_)));obtain⟨c0,hS2⟩:∃c0,((s.heap.push {cls:= .type "list",data:= .seq #[]}).update s.heap.objs.size (Obj.mapSeq (λ_=>(#[]:Array Value)))).get? s.heap.objs.size=some {cls:= .type "list",data:= .seq #[] c0}:=⟨_,ZaF (Obj.mapSeq (λ_=>(#[]:Array Value))) hS rfl⟩;have kp:∀b o,s.heap.get? b=some o->((s.heap.push {cls:= .type "list",data:= .seq #[]}).update s.heap.objs.size (Obj.mapSeq (λ_=>(#[]:Array Value)))).get? b=some o:=λb o z=>
  (ZaC _ _ (Ne.symm (ZG (Zo z)))).trans (Zb _ z)
 have sz:((s.heap.push {cls:= .type "list",data:= .seq #[]}).update s.heap.objs.size (Obj.mapSeq (λ_=>(#[]:Array Value)))).objs.size=s.heap.objs.size+1:=by rw[Heap.size_update,Zah]
 have hm2:=hm.keep (kp a);generalize (s.heap.push {cls:= .type "list",data:= .seq #[]}).update s.heap.objs.size (Obj.mapSeq (λ_=>(#[]:Array Value)))=h2 at hS2 kp sz hm2 ⊢;unfold Builtin.List.listExtendWith;have ty2:({s with heap:=h2}:Shared).TypeIs (.ref a) "dict" :=let ⟨o,ho,hx,_⟩:=hm2;⟨o,ho,hx.1⟩;refine wpAny_bind (wpAny_typeOf ty2 ?_);have h1:Builtin.List.listSameRef (.ref s.heap.objs.size) (.ref a)=false:=by simp[Builtin.List.listSameRef,ZaQ al]
 rw[if_neg (by rw[h1];decide)];refine wpAny_bind (QBy hd hm2 ?_);have hS3:=Zb (kiO a 0 es.size ep) hS2;have hI3:(h2.push (kiO a 0 es.size ep)).get? h2.objs.size=some (kiO a 0 es.size ep):=Zq _ rfl;have hm3:=hm2.keep λo z=>Zb (kiO a 0 es.size ep) z;have kp3:∀b o,s.heap.get? b=some o->(h2.push (kiO a 0 es.size ep)).get? b=some o:=λb o z=>Zb _ (kp b o z);rw[sz]at hI3 ⊢;refine wpAny_bind (wpAny_holding (QyL (s:={s with heap:=h2.push (kiO a 0 es.size ep)}) hm3 ?_));rw[if_pos (by decide)];refine wpAny_bind (wpAny_rule (wpAny_bind ?_));show wpAny _ _ (updateSeq s.heap.objs.size (·.push .none) >>= λ_=>updateSeq s.heap.objs.size (·.pop)) _ _ _;refine wpAny_bind (wpAny_updateSeq hS3 rfl ?_);have hS4:=ZaF (Obj.mapSeq (·.push Value.none)) hS3 rfl;refine wpAny_updateSeq (hz:=by seq_fits) hS4 rfl ?_;obtain⟨c1,hS5⟩:∃c1,(((h2.push (kiO a 0 es.size ep)).update s.heap.objs.size (Obj.mapSeq (·.push Value.none))).update s.heap.objs.size (Obj.mapSeq (·.pop))).get? s.heap.objs.size=some {cls:= .type "list",data:= .seq #[] c1}:=⟨_,ZaF (Obj.mapSeq (·.pop)) hS4 rfl⟩;have hI5:=Qpo (f:=Obj.mapSeq (·.push Value.none)) (g:=Obj.mapSeq (·.pop)) _ _ (Nat.succ_ne_self s.heap.objs.size) hI3;have hm5:=hm3.keep λo z=>Qpo (f:=Obj.mapSeq (·.push Value.none)) (g:=Obj.mapSeq (·.pop)) _ _ (ZG al) z;have kp5:∀b o,s.heap.get? b=some o->(((h2.push (kiO a 0 es.size ep)).update s.heap.objs.size (Obj.mapSeq (·.push Value.none))).update s.heap.objs.size (Obj.mapSeq (·.pop))).get? b=some o:=λb o z=>Qpo b o (ZG (Zo z)) (kp3 b o z);refine wpAny_pure ⟨plainId_quiet PySem.F.plain_extend_loop _,?_⟩;dsimp only;exact key _ _ c1 hI5 hm5 kp5 hS5 λh' tk c acc m1 m2 m3=>⟨rfl,q h' tk acc c m1 m2 m3⟩
end
noncomputable def Qhh(H:Hp):List (List Int)->List V->Prop
 | [],vs=>vs=[]
 | k::ks,vs=>∃b ws,vs= .ref b::ws/\H b=some (.tup (k.map V.int))/\Qhh H ks ws
theorem Qhh.rps{K:Fgg}{H:Hp}:∀{ks:List (List Int)}{vs:List V},Qhh H ks vs->Rps K H (ks.map λk=> .tup (k.map .int)) vs []
 | [],vs,h=>by simp only[Qhh]at h;subst h;simp[Rps]
 | k::ks,vs,h=>by
  obtain⟨b,ws,rfl,hb,h⟩:=h;simp only[Zp,Rps];exact⟨_,_,[],[],rfl,rfl,by simp only[Rp];exact⟨b,_,rfl,.inl (.inl hb),Rps.ofInts k⟩,h.rps⟩
theorem QqH{H:Hp}:∀{ks:List (List Int)}{xs:List (List Key×Addr×Value)},KT H (dkC ks) xs->Qhh H ks (xs.map λx=>V.ref x.2.1)
 | [],xs,h=>by cases h;rfl
 | k::ks,xs,h=>by
  cases h with
  | cons hq t=>exact⟨_,_,rfl,by have:=hq.2.1;rw[ZY]at this;exact this,QqH t⟩
theorem Qug{es:Array DictEntry}{acc:Array Value}(h:ItemsOf (λi v=>∃e,es[i]? =some e/\v=e.key) acc es.size):acc.toList=es.toList.map (·.key):=by
 refine ZaK λi=>?_;rw[Zs,Array.getElem?_toList,Array.getElem?_toList];by_cases z:i<acc.size
 ·obtain⟨e,h1,h2⟩:=h.2 i _ (ZaH z);rw[ZaH z,h1,h2];rfl
 ·rw[Array.getElem?_eq_none ⋯,Array.getElem?_eq_none (by have:=h.1;omega)];rfl
theorem Qnu:∀xs:List (List Key×Addr×Value),QA (xs.map λx=>V.ref x.2.1) (xs.map λx=>Value.ref x.2.1)
 | []=> .nil
 | _::xs=> .cons rfl (Qnu xs)
theorem Qo2{X:Cx}(hc:X.calm=true):Qbs X (.type "list") (λxs H Q=>∃p ks,xs=[.ref p]/\H p=some (.dT (dkC ks))/\∀l vs,H l=none->Qhh H ks vs->ks.length<=sizeLine->Q (.ref l) (upd H l (.lst vs))):=by
 intro pins s σ H xs us Q I r h;obtain⟨p,ks,rfl,hq,q⟩:=h;obtain⟨u,rfl,rx⟩:=vals1 r;cases rx;obtain⟨z,hd,ys,rel,ob,es,ep,h1,h2,h3,h4,_⟩:=Qr3 I.hok hq;have ek:es.toList.map (·.key)=ys.map λx=>Value.ref x.2.1:=by rw[h4,ZY];rfl
 have el:es.size=ks.length:=by
  have:=rel.length;rw[← Zaa,h4,Zl,← this];simp[dkC]
 have zk:ks.length<=sizeLine:=by simpa[dkC]using z
 refine Qxj (I.ok.hd hc) hd ⟨ob,h1,h2,h3⟩ (by rw[el];exact zk) λh' tk acc c kp e ia=>?_;have ea:acc.toList=ys.map λx=>Value.ref x.2.1:=by rw[Qug ia,ek]
 refine⟨.ref s.heap.objs.size,_,I.laid (t':=tk) kp (Zj _) (show QaQ X.prog X.w _ h' _ (.lst (ys.map λx=>V.ref x.2.1))from⟨?_,_,c,Qnu ys,by rw[← ea];exact e⟩),rfl,q _ _ (I.hok.fresh (Zj _)) (QqH rel) zk⟩;rw[Zl,← Zbi rel];simpa[dkC]using zk
section
variable {X:Cx}{e:Expr}{es:List Expr}{fs:DA}{pos:Pos}
theorem QyC{p:Pos}(hcl:X.calm=true)(hg:Gl X "list")(hm:X.mg "list" =none)(ha:SA X (e::es) fs)(he:starEach (e::es) X.env=(false,eval e X.env)::starEach es X.env)(hpl:(backTo pos (starEach es X.env)).any (·.1)=false):
  SE X (.Call (.Name "list" p) (e::es) [] pos) (dList fs):=λH0 A0=>
 (QiK (QpI.or (Qo2 hcl)) hg hm Zca (ha H0 A0) (by decide) (by decide) he hpl).mono λσ H Q=>exK λU hs F r' rel e q=>by
  refine Qh e λra e1 e=>?_;refine⟨U,hs,F,ra,rel,e1,λvs H1 G p1=>?_⟩;have rp:=p1.rp;have src:=p1.src;split at e
  ·rename_i xs hds;cases e;rw[hds]at rp;obtain⟨v,rfl,rq⟩:=rp.one;obtain⟨l,ws,L,rfl,hl,rl,zl,el⟩:=rq.lst_inv;left;refine⟨l,ws,rfl,.inl (QX hl),λc hc=>q _ _ (c::L) (Qaj.Qat p1.same hc rl zl (λz hz=>src z ?_) p1.own)⟩;rcases el with rfl | rfl
   ·exact Zc _ hz
   ·exact hz
  ·rename_i xs hds;split at e
   ·rename_i hz;cases e;rw[hds]at rp;obtain⟨v,rfl,rq⟩:=rp.one;obtain⟨l,ws,rfl,hl,rl⟩:=rq.QaZ;left;exact⟨l,ws,rfl,.inr hl,λc hc=>q _ _ (c::G) (Qaj.Qat p1.same hc rl hz src p1.own)⟩
   ·cases e
  ·rename_i ks hds;cases e;rw[hds]at rp;obtain⟨v,rfl,rq⟩:=rp.one;simp only[Rp]at rq;obtain⟨a,rfl,_,hq⟩:=rq;exact .inr ⟨a,ks,rfl,hq,λc vs hc hv hz=>q _ _ [c] (Qaj.Qat p1.same hc hv.rps (by rw[Zl];exact hz) Src.nil Qbv.nil)⟩
  ·cases e
end
end HS
namespace HS
open PySem L2
end HS
namespace HS
open PySem
section
variable {t:SetTable}
end
section
variable {mask:Nat}{owner:Array (Option Nat)}
end
end HS
namespace HS
open PySem L2 PyProof.Rows
section
variable {prog:Program}{w:World}{A:Around}{E:Value->Shared->Prop}{s:Shared}
end
section
variable {prog:Program}{w:World}{A:Around}{R:Result->Shared->Prop}{I:Addr}{fp wr:LAd}{G:Array GenState->Array GenState->Prop}{n:Nat}{P:Nat->Value->Prop}{St:Nat->Shared->Prop}
end
section
variable {prog:Program}{w:World}{A:Around}{E:Value->Shared->Prop}{s:Shared}
end
section
variable {prog:Program}{w:World}
end
section
variable {prog:Program}{w:World}{A:Around}{E:Value->Shared->Prop}{s:Shared}
end
section
variable {prog:Program}{w:World}{A:Around}{E:Value->Shared->Prop}{s:Shared}
end
section
variable {prog:Program}{w:World}{A:Around}{E:Value->Shared->Prop}{s:Shared}
end
end HS
namespace HS
open PySem PySem.Spec L2 PyProof.Rows
section
variable {X:Cx}{a:Expr}{fa:DE}{pos:Pos}
end
end HS
namespace HS
open PySem PySem.Spec PyProof.Rows L2
section
variable {X:Cx}{a b c:Expr}{fa fb fc:DE}{pos:Pos}
noncomputable def QjH(fa:DE)(i:Nat):DE:=λU=>(fa U).bind λra=>(Qq i U).bind λr=>match r.d with
 | .tup [a,b]=>if ra.d.flat=true then some ⟨.tup [ra.d,a,b],r.fr,r.M⟩else none
 | _=>none
theorem QuI{K:Fgg}{H0:Hp}{A0:LAd}{hs:List (V×D×List Addr)}{U:En}{F:Nat->List Addr}{σ:L2.St}{H:Hp}{i:Nat}{r:HS.R}(rel:Rel K H0 A0 hs U F σ H)(e:Qq i U=some r):∃v G,σ[i]? =some (some v)/\Qaj K U F H H r v G:=by
 unfold Qq at e;split at e
 ·rename_i d b q1;obtain⟨v,h1,h2⟩:=rel.val i d b q1;refine⟨v,F i,h1,?_⟩;split at e
  ·rename_i hf;cases e;have:=h2.Qci hf;rw[this]at h2 ⊢;exact .flat (QM.refl _) h2 hf
  ·split at e
   ·rename_i hb;cases e;subst hb;exact⟨QM.refl _,h2,λa ha=> .inr ⟨i,d,true,q1,ha,λ_=>by simp⟩,λ_=>⟨λa=>(by simp),(rel.own i d q1).1⟩,λj hj=>by simp at hj;subst hj;exact⟨d,q1⟩⟩
   ·rename_i hb;cases e;simp at hb;subst hb;exact⟨QM.refl _,h2,λa ha=> .inr ⟨i,d,false,q1,ha,λz=>by cases z⟩,λz=>(by cases z),Qbv.nil⟩
 ·cases e
theorem Qy6{i:Nat}{x y:Str}{p1 p2 q1 q2 s1 s2:Pos}{k1 k2 k:Nat}(hc:SE X c fa)(hx:PE X (.Name x p1) (QkL i))(hy:PE X (.Name y p2) (QkL i))(hs:∀es,starEach (c::es) X.env=(false,eval c X.env)::starEach es X.env):
  SE X (.Tuple [c,.Subscript (.Name x p1) (.Constant (.int 0) k1 q1) s1,.Subscript (.Name y p2) (.Constant (.int 1) k2 q2) s2] k pos) (QjH fa i):=λH0 A0=>
 (Qtq (Qaq (hc H0 A0) (Qaq (Qn0 Qlv hx QlQ (λ_ _=>rfl)) (Qaq (Qn0 Qlv hy QlQ (λ_ _=>rfl)) QcW rfl) rfl) (hs _))).mono λσ H Q=>exK λU hs F r' rel e q=>by
  refine Qh e λra e1 e=>?_;refine Qh e λr e2 e=>?_;split at e
  ·rename_i da db er;split at e
   ·rename_i hf;cases e;refine⟨U,hs,F,ra,rel,e1,λz H1 G p=>?_⟩;obtain⟨v,G',hv,pv⟩:=QuI (rel.ext p.same) e2;have rp:=pv.rp;rw[er]at rp;obtain⟨l,vs,rfl,hq,rps⟩:=rp.QaZ;have rps0:=rps;simp only[Rps]at rps;obtain⟨va,ws,F1,F2,rfl,rfl,ra1,vb,ws2,F3,F4,rfl,rfl,rb1,rfl,rfl⟩:=rps;have pz:=p.rp;refine⟨_,hv,l,[va,vb],0,va,rfl,rfl,hq,rfl,_,hv,l,[va,vb],1,vb,rfl,rfl,hq,rfl,?_⟩;refine⟨Qfh (show 3<=64 by decide),λc hc=>q _ _ (F1++(F3++[])) ⟨p.same.trans (QaH hc),Rp.Qii Qad ?_,?_,λh=>⟨?_,?_⟩,pv.own⟩⟩
    ·have g0:=pz.Qci hf;subst g0;have r3:Rps X.K H1 [ra.d,da,db] [z,va,vb] (F1++(F3++[])):=by
      have:=rps0;simp only[Rps]at this ⊢;exact⟨z,_,[],_,rfl,rfl,pz,this⟩
     exact r3.same (QaH hc)
    ·exact λa ha=>by
      rcases pv.src a ha with h | h
      ·exact .inl (p.same.free h)
      ·exact .inr h
    ·have:=(pv.cnt h).1;intro a;have h1:=this a;have h2:nw H1 a<=nw H a:=by
      cases q1:H1 a with
      | none=>rw[QaU q1,QaU (p.same.free q1)];exact Zj _
      | some o=>unfold nw;rw[q1];exact ZO _
     exact ZC h1 (ZaX h2 _)
    ·have:=(pv.cnt h).2;rw[er]at this;simp only[D.nl,nls,QdM _ hf]at this ⊢;omega
   ·cases e
  ·cases e
end
end HS
namespace HS
open PySem PySem.Spec L2
structure FnR where
 n:Nat
 dfl:List D
 den:Den
structure Th where
 N:List Str
 sc:List (Str×NameKind)
 Γ:List (Str×FnR)
 cs:List (Str×Int)
 tr:Stmt->Option DS:=λ_=>none
noncomputable def posOf(x:Str):List Str->Option Nat
 | []=>none
 | y::ys=>if x=y then some 0 else(posOf x ys).map (· +1)
theorem Qgf:∀{x:Str}{ys:List Str}{i:Nat},posOf x ys=some i->ys[i]? =some x
 | x,[],i,h=>by cases h
 | x,y::ys,i,h=>by
  unfold posOf at h;split at h
  ·rename_i e;cases h;subst e;rfl
  ·obtain⟨j,hj,rfl⟩:=Ze.mp h;simpa using Qgf hj
noncomputable def look{α:Type}(x:Str):List (Str×α)->Option α
 | []=>none
 | (y,a)::r=>if x=y then some a else look x r
theorem Qa2{α:Type}:∀{x:Str}{l:List (Str×α)},look x l=l.lookup x
 | x,[]=>rfl
 | x,(y,a)::r=>by
  unfold look;rw[Zy];by_cases h:x=y
  ·subst h;simp
  ·rw[if_neg h,Qa2];have:(x == y)=false:=by simpa using h
   rw[this]
noncomputable def QwW:NameKind->Bool
 | .local =>true | .cell=>true | .free=>true | _=>false
noncomputable def Qw7:NameKind->Bool
 | .local =>true | .cell=>true | _=>false
noncomputable def QCX:NameKind->Bool
 | .globalImplicit=>true | _=>false
noncomputable def isFree:NameKind->Bool
 | .free=>true | _=>false
noncomputable def odd(x:Str):Bool:=decide (x= "__debug__") || decide (x= "__classdict__") || decide (x= "__name__")
noncomputable def Th.slot(Y:Th)(x:Str):Option Nat:=if((look x Y.sc).map QwW).getD false && !odd x then posOf x Y.N else none
noncomputable def Th.Qcj(Y:Th)(x:Str):Option Nat:=if((look x Y.sc).map Qw7).getD false && !odd x then posOf x Y.N else none
noncomputable def Th.gl(Y:Th)(x:Str):Bool:=((look x Y.sc).map QCX).getD false && !odd x
def QyW(X:Cx)(x:Str)(r:FnR):Prop:=∃k f fd ps,Qcq X.prog X.w X.K X.mg X.base CX0 k f fd ps (spV X.K r.n r.den)/\Qba k X.A/\X.mg x=some (.ref f)/\PySem.W.keepIn X.K (.ref f)=true∧
 ∀m,m<=r.dfl.length->∃ds dvs,Binds X.K fd ps ds/\QA dvs ds/\∀H,Rps X.K H (r.dfl.drop (r.dfl.length-m)) dvs []
noncomputable def QpP:List Str:=["range","enumerate","zip","len","list","min","max","sum","abs","isinstance","int","bool","tuple","str","divmod","sorted","any","all","set"]
structure CtxB (X:Cx) (Y:Th):Prop where
 N:X.N=Y.N
 nd:Y.N.Nodup
 lc:∀x,look x Y.sc=some .local ->X.env.scope.names.lookup x=some .local
 ce:∀x,look x Y.sc=some .cell->X.env.scope.names.lookup x=some .cell/\X.fn x=true
 fe:∀x,look x Y.sc=some .free->X.env.scope.names.lookup x=some .cell∨X.env.scope.names.lookup x=some .free
 gl:∀x,look x Y.sc=some .globalImplicit->X.env.scope.names.lookup x=some .globalImplicit
 units:X.A.units+64<cLine
 mg:∀x∈QpP,X.mg x=none
 cs:∀x i,look x Y.cs=some i->∃t,X.mg x=some (.int i t)
structure Q7 (X:Cx) (Y:Th):Prop extends CtxB X Y where
 calm:X.calm=true
 pass:PassesOwn (model X.prog X.w) X.A X.env X.xe
 fns:∀x r,look x Y.Γ=some r->QyW X x r
 tr:∀st f,Y.tr st=some f->S1 X st f
section
theorem QqW(h:odd x=false):(x == ("__debug__" :Str))=false/\(x == ("__classdict__" :Str))=false/\x≠ "__name__" :=by
 unfold odd at h;simp only[Bool.or_eq_false_iff,decide_eq_false_iff_not]at h;exact⟨by simpa using h.1.1,by simpa using h.1.2,h.2⟩
theorem Qfv(ok:CtxB X Y)(h:Y.slot x=some i):PE X (.Name x pos) (QkL i):=by
 unfold Th.slot at h;split at h
 ·rename_i hc;simp only[Zh,ZaB]at hc;obtain⟨h1,h2,_⟩:=QqW hc.2;refine QAS (by rw[ok.N];exact Qgf h) ?_ h1 h2;cases q:look x Y.sc with
  | none=>rw[q]at hc;cases hc.1
  | some k=>
   rw[q]at hc;cases k with
   | «local» =>exact .inl (ok.lc x q)
   | cell=>exact .inr (.inl (ok.ce x q).1)
   | free=>exact .inr (ok.fe x q)
   | _=>cases hc.1
 ·cases h
theorem Qc2(ok:CtxB X Y)(h:Y.Qcj x=some i):X.N[i]? =some x/\Loc X.env.scope x/\(X.fn x=true∨X.env.scope.names.lookup x=some .local):=by
 unfold Th.Qcj at h;split at h
 ·rename_i hc;simp only[Zh,ZaB]at hc;refine⟨by rw[ok.N];exact Qgf h,?_⟩;cases q:look x Y.sc with
  | none=>rw[q]at hc;cases hc.1
  | some k=>
   rw[q]at hc;cases k with
   | «local» =>exact⟨.inl (ok.lc x q),.inr (ok.lc x q)⟩
   | cell=>exact⟨.inr (ok.ce x q).1,.inl (ok.ce x q).2⟩
   | _=>cases hc.1
 ·cases h
theorem QcK(ok:CtxB X Y)(h:Y.gl x=true):Gl X x/\(x == ("__debug__" :Str))=false/\x≠ "__name__" :=by
 unfold Th.gl at h;simp only[Zh,ZaB]at h;obtain⟨h1,h2,h3⟩:=QqW h.2;refine⟨?_,h1,h3⟩;cases q:look x Y.sc with
 | none=>rw[q]at h;cases h.1
 | some k=>
  rw[q]at h;cases k with
  | globalImplicit=>exact ok.gl x q
  | _=>cases h.1
end
noncomputable def isTup:Expr->Bool
 | .Tuple .. =>true
 | _=>false
noncomputable def Qdq:Expr->Option Str
 | .Name x _=>some x
 | _=>none
noncomputable def QkF(Y:Th):Expr->Option Tg
 | .Name x _=>(Y.Qcj x).map .nm
 | .Tuple es _ _=>((es.mapM Qdq).bind λxs=>xs.mapM Y.Qcj).map .tp
 | _=>none
noncomputable def Qsv:CmpOp->Option (D->D->Option D)
 | .Eq=>some gEq | .NotEq=>some gNe | .Lt=>some gLt | .LtE=>some gLe | .Gt=>some gGt | .GtE=>some gGe
 | .Is=>none | .IsNot=>none
 | .In=>none | .NotIn=>none
noncomputable def Qwp(x:Str):Option String:=
 if x= "int" then some "int" else if x= "bool" then some "bool" else if x= "list" then some "list" else if x= "tuple" then some "tuple" else if x= "str" then some "str" else none
noncomputable def inner(Y:Th)(scope:Scope):Th:={N:=(scope.names.filter λy=>QwW y.2).map (·.1),sc:=scope.names,Γ:=Y.Γ,cs:=Y.cs}
noncomputable def Qjs(Y:Th)(scope:Scope):List (Option Nat):=(inner Y scope).N.map λx=>if((look x scope.names).map isFree).getD false then posOf x Y.N else none
noncomputable def QlU(Y:Th)(scope:Scope)(t:Tg):Bool:=(scope.kind == .function) && decide (inner Y scope).N.Nodup &&
 (scope.names.all λy=>match y.2 with
  | .cell=>decide (look y.1 scope.names=some .cell)
  | .local =>decide (look y.1 scope.names=some .local)
  | .free=>match look y.1 Y.sc with
   | some .cell=>true
   | some .free=>true
   | _=>false
  | _=>true) &&
 t.slots.all λj=>match (Qjs Y scope)[j]? with
  | some (some _)=>false
  | _=>true
noncomputable def QlV(Y:Th)(ks:List (Option Expr))(vs:List Expr):Option (Option Expr):=match ks,vs with
 | [],[]=>some none
 | [some (.Call (.Name y _) [b] [] _)],[.Constant (.bool true) _ _]=>if y= "tuple" /\Y.gl y=true then some (some b)else none
 | _,_=>none
theorem Qui{Y:Th}{ks:List (Option Expr)}{vs:List Expr}{o:Option Expr}(h:QlV Y ks vs=some o):
  (ks=[]/\vs=[]/\o=none)∨∃p a cp j q,ks=[some (.Call (.Name "tuple" p) [a] [] cp)]/\vs=[.Constant (.bool true) j q]/\Y.gl "tuple" =true/\o=some a:=by
 unfold QlV at h;split at h
 ·cases h;exact .inl ⟨rfl,rfl,rfl⟩
 ·split at h
  ·rename_i hc;obtain⟨rfl,hg⟩:=hc;cases h;exact .inr ⟨_,_,_,_,_,rfl,rfl,hg,rfl⟩
  ·cases h
 ·cases h
noncomputable def Qif(Y:Th)(a i e:Expr):Option (Str×Expr):=match a with
 | .Name x _=>match i with
  | .Call (.Name y _) [b] [] _=>match e with
   | .Constant (.bool true) _ _=>if y= "tuple" /\Y.gl y=true then some (x,b)else none
   | _=>none
  | _=>none
 | _=>none
theorem Qsh{Y:Th}{a i e:Expr}{q:Str×Expr}(h:Qif Y a i e=some q):∃p p' cp j r,a= .Name q.1 p/\i= .Call (.Name "tuple" p') [q.2] [] cp/\e= .Constant (.bool true) j r/\Y.gl "tuple" =true:=by
 unfold Qif at h;split at h
 ·split at h
  ·split at h
   ·split at h
    ·rename_i hc;obtain⟨rfl,hg⟩:=hc;cases h;exact⟨_,_,_,_,_,rfl,rfl,rfl,hg⟩
    ·cases h
   ·cases h
  ·cases h
 ·cases h
noncomputable def Qpb(Y:Th)(es:List Expr):Option (Expr×Nat):=match es with
 | [c,.Subscript (.Name x _) (.Constant (.int u) _ _) _,.Subscript (.Name y _) (.Constant (.int v) _ _) _]=>(Y.slot x).bind λi=>(Y.slot y).bind λj=>if i=j/\u=0/\v=1 then some (c,i)else none
 | _=>none
noncomputable def QCj:List Expr->Bool
 | []=>true | [_]=>true | _=>false
noncomputable def bf1(x:Str)(fa:DE):Option DE:=
 if x= "len" then some (dBf Qbz (Qa fa Qb))else
 if x= "list" then some (dList (Qa fa Qb))else
 if x= "abs" then some (dBf Qr9 (Qa fa Qb))else
 if x= "min" then some (dBf QjP (Qa fa Qb))else
 if x= "max" then some (dBf Qhq (Qa fa Qb))else
 if x= "sum" then some (dBf Qfn (Qa fa Qb))else
 if x= "all" then some (dBf QhG (Qa fa Qb))else
 none
noncomputable def bf2(x:Str)(fa fb:DE):Option DE:=
 if x= "min" then some (dBf Qmg (Qa fa (Qa fb Qb)))else
 if x= "max" then some (dBf Ql5 (Qa fa (Qa fb Qb)))else
 none
mutual
noncomputable def Qr(n:Nat)(Y:Th)(e:Expr):Option DE:=match n with
 | 0=>none
 | n+1=>match e with
  | .Name x _=>match Y.slot x with
   | some i=>some (Qq i)
   | none=>if Y.gl x then(look x Y.cs).map λi=>dC (.int i)else none
  | .Constant (.int i) _ _=>some (dC (.int i))
  | .Constant (.bool b) _ _=>some (dC (.bl b))
  | .Constant .none _ _=>some (dC .non)
  | .Constant (.str x) _ _=>some (dC (.str x))
  | .BinOp a op b _=>(Qr n Y a).bind λfa=>(Qr n Y b).bind λfb=>match op with
   | .Add=>some (QI fa fb)
   | .Mult=>some (Qaz fa fb)
   | .Sub=>some (dOp QaI fa fb)
   | .FloorDiv=>some (dOp QbU fa fb)
   | .Mod=>some (dOp Qag fa fb)
   | .RShift=>some (dOp QpD fa fb)
   | _=>none
  | .UnaryOp .USub a _=>(Qr n Y a).map QdU
  | .UnaryOp .Not a _=>(Qr n Y a).map Qsn
  | .BoolOp .And [a] _=>Qr n Y a
  | .BoolOp .And (a::b::r) p=>(Qr n Y a).bind λfa=>(Qr n Y (.BoolOp .And (b::r) p)).map λfb=>QcF fa fb
  | .BoolOp .Or [a] _=>Qr n Y a
  | .BoolOp .Or (a::b::r) p=>(Qr n Y a).bind λfa=>(Qr n Y (.BoolOp .Or (b::r) p)).map λfb=>dOr fa fb
  | .Compare a [op] [b] _=>(Qr n Y a).bind λfa=>(Qr n Y b).bind λfb=>(Qsv op).map λg=>dOp g fa fb
  | .Tuple es _ _=>(match Qpb Y es with | some ci=>(Qr n Y ci.1).map λfa=>QjH fa ci.2 | none=>(Qbr n Y es).map QaF)
  | .List es _=>(Qbr n Y es).map QN
  | .Dict ks vs _=>match QlV Y ks vs with
   | some (some a)=>(Qr n Y a).map λfa=>dD1 (Qa fa Qb)
   | some none=>some Qn5
   | none=>none
  | .Subscript a (.Slice lo hi none _) _=>(Qr n Y a).bind λfa=>(Qlh n Y lo).bind λfl=>(Qlh n Y hi).map λfh=>Qeb fa fl fh
  | .Subscript a (.Slice none none (some k) _) _=>(Qr n Y a).bind λfa=>(Qr n Y k).map λfk=>Qow fa fk
  | .Subscript a b _=>(Qr n Y a).bind λfa=>(Qr n Y b).map λfb=>Qv fa fb
  | .Call (.Name x _) args [] _=>if Y.gl x then(match look x Y.Γ with
    | some r=>if r.n<=args.length+r.dfl.length/\args.length<=r.n then(Qbr n Y args).map λfs=>Qg r.n r.den (r.dfl.drop (r.dfl.length-(r.n-args.length))) fs else none
    | none=>Qn3 n Y x args)else none
  | .Call (.Attribute (.Name x p) m apos) [] [] cpos=>if m= "bit_length" /\(apos.endLine == cpos.line)=true then(Qr n Y (.Name x p)).map Qoh else none
  | .ListComp elt [⟨tg,iter,ifs,0⟩] scope _=>(QkF (inner Y scope) tg).bind λt=>if QlU Y scope t && QCj ifs then
    (QhF n Y tg iter).bind λfi=>(Qg4 n (inner Y scope) ifs).bind λft=>(Qr n (inner Y scope) elt).map λfe=>QQ fi t (Qjs Y scope) ft fe else none
  | _=>none
noncomputable def Qn3(n:Nat)(Y:Th)(x:Str)(args:List Expr):Option DE:=match n with
  | 0=>none
  | n+1=>match args with
    | [a]=>
         (Qr n Y a).bind λfa=>bf1 x fa
    | [a,b]=>if x= "isinstance" then(Qr n Y a).bind λfa=>match b with
        | .Name y _=>if Y.gl y then(Qwp y).map λT=>QeF T fa else none
        | _=>none
      else(Qr n Y a).bind λfa=>(Qr n Y b).bind λfb=>bf2 x fa fb
    | _=>none
noncomputable def Qbd(n:Nat)(Y:Th)(e:Expr):Option DT:=match n with
 | 0=>none
 | n+1=>match e with
  | .UnaryOp .Not a _=>(Qbd n Y a).map QbL
  | .BoolOp .And [a] _=>Qbd n Y a
  | .BoolOp .And (a::b::r) p=>(Qbd n Y a).bind λfa=>(Qbd n Y (.BoolOp .And (b::r) p)).map λfb=>QhI fa fb
  | .BoolOp .Or [a] _=>Qbd n Y a
  | .BoolOp .Or (a::b::r) p=>(Qbd n Y a).bind λfa=>(Qbd n Y (.BoolOp .Or (b::r) p)).map λfb=>bOr fa fb
  | .Compare a [op] [b] _=>(Qr n Y a).bind λfa=>(Qr n Y b).bind λfb=>(Qsv op).map λg=>QC (dOp g fa fb)
  | .BoolOp _ _ _=>none
  | .IfExp _ _ _ _=>none
  | .Compare _ _ _ _=>none
  | e=>(Qr n Y e).map QC
noncomputable def Qg4(n:Nat)(Y:Th)(es:List Expr):Option DT:=match n with
 | 0=>none
 | n+1=>match es with
  | []=>some Q8
  | [c]=>Qbd n Y c
  | _=>none
noncomputable def Qbr(n:Nat)(Y:Th)(es:List Expr):Option DA:=match n with
 | 0=>none
 | n+1=>match es with
  | []=>some Qb
  | e::es=>(Qr n Y e).bind λfa=>(Qbr n Y es).map λfs=>Qa fa fs
noncomputable def Qlh(n:Nat)(Y:Th)(e:Option Expr):Option DO:=match n with
 | 0=>none
 | n+1=>match e with
  | none=>some Qff
  | some e=>(Qr n Y e).map QcJ
noncomputable def QhF(n:Nat)(Y:Th)(tg e:Expr):Option DI:=match n with
 | 0=>none
 | n+1=>match e with
  | .Call (.Name x _) args [] _=>if Y.gl x && (look x Y.Γ).isNone then(match args with
    | [a]=>if x= "range" then(Qr n Y a).map Qcz else
     if x= "enumerate" then(if isTup tg then(Qr n Y a).map Qjh else none)else
     (Qr n Y e).map Qar
    | [a,b,c]=>
     if x= "range" then(Qr n Y a).bind λfa=>(Qr n Y b).bind λfb=>(Qr n Y c).map λfc=>Qg7 fa fb fc else
     if x= "zip" then(if isTup tg then(Qr n Y a).bind λfa=>(Qr n Y b).bind λfb=>(Qr n Y c).map λfc=>Qg6 fa fb fc else none)else
     (Qr n Y e).map Qar
    | [a,b]=>
     if x= "range" then(Qr n Y a).bind λfa=>(Qr n Y b).map λfb=>Qfr fa fb else
     if x= "zip" then(if isTup tg then(Qr n Y a).bind λfa=>(Qr n Y b).map λfb=>Qaw fa fb else none)else
     (Qr n Y e).map Qar
    | _=>(Qr n Y e).map Qar)else(Qr n Y e).map Qar
  | e=>(Qr n Y e).map Qar
end
theorem Qbp{α β γ:Type}{x:Option α}{y:α->Option β}{k:α->β->γ}{r:γ}(e:(x.bind λa=>(y a).map λb=>k a b)=some r):∃a b,x=some a/\y a=some b/\k a b=r:=by
 refine Qh e λa h1 e=>?_;obtain⟨b,h2,e⟩:=Ze.mp e;exact⟨a,b,h1,h2,e⟩
theorem bindR{α β γ:Type}{x:Option α}{y:α->Option β}{k:α->β->γ}{r:γ}{M:γ->Prop}(e:(x.bind λa=>(y a).map λb=>k a b)=some r)(g:∀a b,x=some a->y a=some b->M (k a b)):M r:=by
 obtain⟨a,b,h1,h2,rfl⟩:=Qbp e;exact g a b h1 h2
theorem QaG(h:Qr n Y e=some f)(es:List Expr)(env:Env):starEach (e::es) env=(false,eval e env)::starEach es env:=by
 cases n with
 | zero=>exact nn h
 | succ n=>cases e<;>first | rfl | (exact nn h)
theorem QqI:∀{n:Nat}{Y:Th}{es:List Expr}{f:DA},Qbr n Y es=some f->∀(pos:Pos) (env:Env),(backTo pos (starEach es env)).any (·.1)=false
 | 0,_,_,_,h,_,_=>by simp[Qbr]at h
 | n+1,_,[],_,h,_,_=>rfl
 | n+1,_,e::es,_,h,pos,env=>by
  simp only[Qbr]at h;obtain⟨fa,fs,h1,h2,_⟩:=Qbp h;rw[QaG h1];have:=QqI h2 pos env;simpa[backTo]using this
theorem QqE(h:Qr n Y b=some f):Qjj b:=by
 cases n with
 | zero=>exact nn h
 | succ n=>cases b<;>first | (intro o i;rfl) | (exact nn h)
theorem QA5(h:Qr n Y e=some f)(env:Env):∀x,foldedSetIterable e env x=pure x:=by
 cases n with
 | zero=>exact nn h
 | succ n=>cases e<;>first | (intro x;rfl) | (exact nn h)
theorem QtA(h:Qr n Y e=some f)(op:CmpOp):behindInMarks op e=false:=by
 cases n with
 | zero=>exact nn h
 | succ n=>cases e<;>first | rfl | (exact nn h)
theorem Qes{env:Env}:∀{names:List (Str×NameKind)}{x:Str},names.lookup x=some .cell→
  (names.map λ(n,k)=>if(k == NameKind.free && env.scope.kind == .function && env.kindOf n == some .cell)then(n,NameKind.cell)else(n,k)).lookup x=some .cell
 | [],_,h=>by simp at h
 | (n,k)::r,x,h=>by
  have ih:= @Qes env r x;rw[Zp];cases hx:x == n with
  | true=>
   simp only[Zy,hx]at h;cases h;dsimp only;split<;>simp[Zy,hx]
  | false=>
   simp only[Zy,hx]at h;dsimp only;split<;>(simp only[Zy,hx];exact ih h)
theorem Qph{X:Cx}{Y:Th}{scope:Scope}{t:Tg}(ok:Q7 X Y)(h:QlU Y scope t=true):Qe3 X (inner Y scope).N scope/\Qn4 X (inner Y scope).N scope (Qjs Y scope) t.slots/\∀cl C fp s3 H3,Q7 (cxc X (inner Y scope).N scope cl C fp s3 H3) (inner Y scope):=by
 unfold QlU at h;simp only[Zh,decide_eq_true_eq]at h;obtain⟨⟨⟨h1,h2⟩,h3⟩,h4⟩:=h;have hk:scope.kind= .function:=by simpa using h1
 have each:∀y∈scope.names,(y.2= .cell->scope.names.lookup y.1=some .cell)/\(y.2= .local ->scope.names.lookup y.1=some .local)/\(y.2= .free->X.env.kindOf y.1=some .cell∨X.env.kindOf y.1=some .free):=λy hy=>by
  have:=Zax.mp h3 y hy;obtain⟨y,k⟩:=y;cases k with
  | cell=>exact⟨λ_=>(by rw[← Qa2];simpa using this),λz=>(by cases z),λz=>(by cases z)⟩
  | «local» =>exact⟨λz=>(by cases z),λ_=>by rw[← Qa2];simpa using this,λz=>by cases z⟩
  | free=>
   refine⟨λz=>(by cases z),λz=>(by cases z),λ_=>?_⟩;dsimp only at this;split at this
   ·rename_i q;exact .inl (ok.ce _ q).1
   ·rename_i q;exact ok.fe _ q
   ·cases this
  | _=>exact⟨λz=>(by cases z),λz=>(by cases z),λz=>(by cases z)⟩
 have S:Qe3 X (inner Y scope).N scope:=⟨hk,λy hy=>(each y hy).1,λy hy=>(each y hy).2.1,λy hy=>(each y hy).2.2⟩;refine⟨S,⟨by unfold Qjs;simp,λj i e=>?_,λj i e hj=>?_⟩,λcl C fp s3 H3=>⟨⟨rfl,h2,λx e=>?_,λx e=>?_,λx e=>?_,λx e=>?_,ok.units,ok.mg,ok.cs⟩,ok.calm,PassesOwn.never,ok.fns,λ_ _ e=>nomatch e⟩⟩
 ·unfold Qjs at e;rw[Zs]at e;cases q:(inner Y scope).N[j]? with
  | none=>rw[q]at e;cases e
  | some x=>
   rw[q]at e;simp only[ZR,Option.some.injEq]at e;split at e
   ·rename_i hf;cases hl:look x scope.names with
    | none=>rw[hl]at hf;cases hf
    | some k=>
     rw[hl]at hf;cases k with
     | free=>
      rw[Qa2]at hl;exact⟨x,rfl,hl,by rw[ok.N];exact Qgf e,(each (x,.free) (Zae hl)).2.2 rfl⟩
     | _=>cases hf
   ·cases e
 ·have:=Zax.mp h4 j hj;rw[e]at this;cases this
 ·have e':scope.names.lookup x=some .local :=by rw[← Qa2];exact e
  exact lookup_relabel_local e'
 ·have e':scope.names.lookup x=some .cell:=by rw[← Qa2];exact e
  exact⟨Qes e',decide_eq_true e'⟩
 ·have e':scope.names.lookup x=some .free:=by rw[← Qa2];exact e
  exact QcH e'
 ·have e':scope.names.lookup x=some .globalImplicit:=by rw[← Qa2];exact e
  show(relabel scope X.env).names.lookup x=some .globalImplicit;unfold relabel
  have gen:∀{names:List (Str×NameKind)},names.lookup x=some .globalImplicit→
    (names.map λ(n,k)=>if(k == NameKind.free && X.env.scope.kind == .function && X.env.kindOf n == some .cell)then(n,NameKind.cell)else(n,k)).lookup x=some .globalImplicit:=by
   intro names
   induction names with
   | nil=>intro z;simp at z
   | cons y r ih=>
    intro z;obtain⟨n,k⟩:=y;rw[Zp];cases hx:x == n with
    | true=>
     simp only[Zy,hx]at z;cases z;simp[Zy,hx]
    | false=>
     simp only[Zy,hx]at z;dsimp only;split<;>(simp only[Zy,hx];exact ih z)
  exact gen e'
theorem Qn9(ok:Q7 X Y)(h:QkF Y tg=some t):SG X tg t:=by
 have hN:X.N.Nodup:=by rw[ok.N];exact ok.nd
 cases tg with
 | Name x pos=>
  change Option.map _ _=_ at h;refine mapR h λi hi=>?_;obtain⟨h1,h2,h3⟩:=Qc2 ok.toCtxB hi;exact QxE (Qrc hN h1 h2 h3)
 | Tuple es k pos=>
  change Option.map _ _=_ at h;refine mapR h λis hi=>?_;refine Qh hi λxs h1 h2=>?_;have key:∀(es:List Expr) (xs:List Str) (is:List Nat),es.mapM Qdq=some xs->xs.mapM Y.Qcj=some is->PGs X es (QlT is)/\(assignEach es X.env).length=is.length/\(assignEach es X.env).findIdx? (·.1)=none:=by
   intro es
   induction es with
   | nil=>
    intro xs is h1 h2;cases h1;cases h2;exact⟨QyG,rfl,rfl⟩
   | cons e es ih=>
    intro xs is h1 h2;rw[List.mapM_cons]at h1;refine Qh h1 λx hx h1=>?_;refine Qh h1 λys hy h1=>?_;cases h1;rw[List.mapM_cons]at h2;refine Qh h2 λi hi h2=>?_;refine Qh h2 λjs hj h2=>?_;cases h2;obtain⟨a1,a2,a3⟩:=ih ys js hy hj;cases e with
    | Name y p=>
     cases hx;obtain⟨g1,g2,g3⟩:=Qc2 ok.toCtxB hi;refine⟨Qvz (Qrc hN g1 g2 g3) a1 rfl,?_,?_⟩
     ·show(assignEach es X.env).length+1=_;rw[a2];rfl
     ·show List.findIdx? (·.1) ((false,assign (.Name x p) X.env)::assignEach es X.env)=none;rw[List.findIdx?_cons];simp only[a3];rfl
    | _=>cases hx
  obtain⟨a1,a2,a3⟩:=key es xs is h1 h2;exact QAs ok.calm a1 a2 a3
 | _=>exact nn h
theorem Qsb{f:Int->Int->Bool}:∀a b d,gI (λi j=>some (.bl (f i j))) a b=some d->∃k,d= .bl k:=λa b d h=>by
 obtain⟨i,j,_,_,e⟩:=QsN h;cases e;exact⟨_,rfl⟩
theorem Qs7(ok:Q7 X Y)(h:Qsv op=some g):∃r,OpR X (compareOp op) r/\QcD X.K g r/\∀a b d,g a b=some d->∃k,d= .bl k:=by
 cases op<;>cases h
 ·exact⟨_,Qz6 ok.units,QCd,λa b d h=>by unfold gEq at h;split at h<;>cases h;exact⟨_,rfl⟩⟩
 ·exact⟨_,QzX ok.units,QBS,λa b d h=>by unfold gNe at h;split at h<;>cases h;exact⟨_,rfl⟩⟩
 ·exact⟨_,QBT,QBB,Qsb⟩
 ·exact⟨_,QB5,QCm,Qsb⟩
 ·exact⟨_,QBZ,QBV,Qsb⟩
 ·exact⟨_,QCt,QBx,Qsb⟩
structure Qlj (n:Nat):Prop where
 E:∀X Y e f,Q7 X Y->Qr n Y e=some f->SE X e f
 B:∀X Y x args f p pos,Q7 X Y->Y.gl x=true->Qn3 n Y x args=some f->SE X (.Call (.Name x p) args [] pos) f
 T:∀X Y e f,Q7 X Y->Qbd n Y e=some f->ST X e f
 Ts:∀X Y e f,Q7 X Y->Qg4 n Y e=some f->QpG X e f
 A:∀X Y e f,Q7 X Y->Qbr n Y e=some f->SA X e f
 O:∀X Y e f,Q7 X Y->Qlh n Y e=some f->SO X e f
 I:∀X Y tg e f,Q7 X Y->QhF n Y tg e=some f->SI X tg e f/\∀x,foldedSetIterable e X.env x=pure x
theorem callArgs{X:Cx}{n:Nat}{Y:Th}{es:List Expr}{fs:DA}(h:Qbr n Y es=some fs){e:Expr}{es':List Expr}(he:es=e::es')(pos:Pos):starEach (e::es') X.env=(false,eval e X.env)::starEach es' X.env/\(backTo pos (starEach es' X.env)).any (·.1)=false:=by
 subst he;cases n with
 | zero=>simp[Qbr]at h
 | succ n=>
  simp only[Qbr]at h;obtain⟨fa,fs',h1,h2,_⟩:=Qbp h;exact⟨QaG h1 es' X.env,QqI h2 pos X.env⟩
theorem Qwy(h:Qpb Y es=some ci):∃(x y:Str) (p1 p2 q1 q2 s1 s2:Pos) (k1 k2:Nat),es=[ci.1,.Subscript (.Name x p1) (.Constant (.int 0) k1 q1) s1,.Subscript (.Name y p2) (.Constant (.int 1) k2 q2) s2]/\Y.slot x=some ci.2/\Y.slot y=some ci.2:=by
 unfold Qpb at h;split at h
 ·refine Qh h λi h1 k1=>?_;clear h;refine Qh k1 λj h2 k2=>?_;clear k1;split at k2
  ·rename_i e;obtain⟨rfl,rfl,rfl⟩:=e;cases k2;exact⟨_,_,_,_,_,_,_,_,_,_,rfl,h1,h2⟩
  ·cases k2
 ·cases h
theorem QBA(ih:Qlj n):∀X Y e f,Q7 X Y->Qr (n+1) Y e=some f->SE X e f:=by
  intro X Y e f ok h;cases e with
  | Name x pos=>
    (conv at h=>lhs;whnf)
    cases q:Y.slot x with
    | some i=>rw[q]at h;cases h;exact Quc (Qfv ok.toCtxB q)
    | none=>
      rw[q]at h;dsimp only at h;split at h
      · rename_i hg
        refine mapR h λi hi=>?_;obtain⟨g1,g2,g3⟩:=QcK ok.toCtxB hg;obtain⟨t,hm⟩:=ok.cs x i hi;exact QhM (v:= .int i) (Qxo g1 hm ⟨t,rfl⟩ g2) (λ_ _=> .int_mk) rfl
      · cases h
  | Constant c k pos=>
    cases c with
    | int i=>(conv at h=>lhs;whnf);cases h;exact QhM QlQ (λ_ _=> .int_mk) rfl
    | bool b=>(conv at h=>lhs;whnf);cases h;exact QhM Qn6 (λ_ _=> .QcO) rfl
    | none=>(conv at h=>lhs;whnf);cases h;exact QhM Qzw (λ_ _=> .QlG) rfl
    | str x=>(conv at h=>lhs;whnf);cases h;exact QhM QzG (λ_ _=> .str_mk) rfl
    | _=>exact nn h
  | BinOp a op b pos=>
    (conv at h=>lhs;whnf)
    refine Qh h λfa h1 h=>?_;refine Qh h λfb h2 h=>?_;have ha:=ih.E X Y a fa ok h1;have hb:=ih.E X Y b fb ok h2;cases op with
    | Add=>cases h;exact QtR ha hb
    | Mult=>cases h;exact Qzp ha hb
    | Sub=>cases h;exact Qn2 Qz7 QtP ha hb
    | FloorDiv=>cases h;exact Qn2 Qzd QBs ha hb
    | Mod=>cases h;exact Qn2 QxS QzT ha hb
    | RShift=>cases h;exact Qn2 QAa QzP ha hb
    | _=>cases h
  | UnaryOp op a pos=>
    cases op with
    | USub=>
      (conv at h=>lhs;whnf)
      refine mapR h λfa h1=>?_;exact QAk (ih.E X Y a fa ok h1)
    | Not=>
      (conv at h=>lhs;whnf)
      refine mapR h λfa h1=>?_;exact QtG (ih.E X Y a fa ok h1)
    | _=>exact nn h
  | BoolOp op es pos=>
    cases op with
    | And=>
      match es,h with
      | [],h=>exact nn h
      | [a],h=>(conv at h=>lhs;whnf);exact Qpg (ih.E X Y a f ok h)
      | a::b::r,h=>
        (conv at h=>lhs;whnf)
        refine bindR h λfa fb h1 h2=>?_;exact Qt5 (ih.E X Y a fa ok h1) (ih.E X Y _ fb ok h2)
    | Or=>
      match es,h with
      | [],h=>exact nn h
      | [a],h=>(conv at h=>lhs;whnf);exact Qpg (ih.E X Y a f ok h)
      | a::b::r,h=>
        (conv at h=>lhs;whnf)
        refine bindR h λfa fb h1 h2=>?_;exact Qxf (ih.E X Y a fa ok h1) (ih.E X Y _ fb ok h2)
  | Compare a ops bs pos=>
    match ops,bs,h with
    | [op],[b],h=>
      (conv at h=>lhs;whnf)
      refine Qh h λfa h1 h=>?_;refine bindR h λfb g h2 h3=>?_;obtain⟨r,o1,o2,_⟩:=Qs7 ok h3;exact QAf o1 o2 (ih.E X Y a fa ok h1) (ih.E X Y b fb ok h2) (QtA h2 op)
    | [],_,h=>exact nn h
    | [_],[],h=>exact nn h
    | [_],_::_::_,h=>exact nn h
    | _::_::_,_,h=>exact nn h
  | Tuple es k pos=>
    have h:(match Qpb Y es with | some ci=>(Qr n Y ci.1).map λfa=>QjH fa ci.2 | none=>(Qbr n Y es).map QaF)=some f:=h;cases q:Qpb Y es with
    | some ci=>
      rw[q]at h;refine mapR h λfa h1=>?_;obtain⟨x,y,p1,p2,q1,q2,s1,s2,k1,k2,rfl,hx,hy⟩:=Qwy q;exact Qy6 (ih.E X Y _ fa ok h1) (Qfv ok.toCtxB hx) (Qfv ok.toCtxB hy) λes=>QaG h1 es X.env
    | none=>
      rw[q]at h;refine mapR h λfs h1=>?_;exact QzH (ih.A X Y es fs ok h1)
  | List es pos=>
    (conv at h=>lhs;whnf)
    refine mapR h λfs h1=>?_;exact QtW (ih.A X Y es fs ok h1)
  | Dict ks vs pos=>
    have h:(match QlV Y ks vs with | some (some a)=>(Qr n Y a).map λfa=>dD1 (Qa fa Qb) | some none=>some Qn5 | none=>none)=some f:=h;cases q:QlV Y ks vs with
    | none=>rw[q]at h;cases h
    | some o=>
      rw[q]at h;rcases Qui q with⟨rfl,rfl,rfl⟩ | ⟨p,a,cp,j,pp,rfl,rfl,hg,rfl⟩
      · cases h;exact Qyk
      · refine mapR h λfa h1=>?_
        have st:=QaG h1 [] X.env;exact QCh (by have:=ok.units;omega) (QcK ok.toCtxB hg).1 (ok.mg "tuple" (by decide+kernel)) (QeC (ih.E X Y a fa ok h1) QgW st) st rfl (QhM Qn6 (λ_ _=> .QcO) rfl)
  | Subscript a b pos=>
    by_cases hb:∃lo hi p2,b= .Slice lo hi none p2
    · obtain⟨lo,hi,p2,rfl⟩:=hb
      (conv at h=>lhs;whnf)
      refine Qh h λfa h1 h=>?_;refine bindR h λfl fh h2 h3=>?_;exact QAz (ih.E X Y a fa ok h1) (ih.O X Y lo fl ok h2) (ih.O X Y hi fh ok h3)
    · by_cases hk:∃k p2,b= .Slice none none (some k) p2
      · obtain⟨k,p2,rfl⟩:=hk
        (conv at h=>lhs;whnf)
        refine bindR h λfa fk h1 h2=>?_;exact QBp (ih.E X Y a fa ok h1) (ih.E X Y k fk ok h2)
      · have h':((Qr n Y a).bind λfa=>(Qr n Y b).map λfb=>Qv fa fb)=some f:=by
          cases b<;>first
            | (exact h)
            | (rename_i lo hi st p2;cases lo<;>cases hi<;>cases st<;>first | (exact absurd ⟨_,_,_,rfl⟩ hb) | (exact absurd ⟨_,_,rfl⟩ hk) | (exact h))
        refine bindR h' λfa fb h1 h2=>?_;exact QAT (ih.E X Y a fa ok h1) (ih.E X Y b fb ok h2) (QqE h2)
  | Call fn args kws pos=>
    cases fn with
    | Name x p=>
     cases kws with
     | cons k ks=>exact nn h
     | nil=>
      have h:(if Y.gl x then(match look x Y.Γ with | some r=>if r.n<=args.length+r.dfl.length/\args.length<=r.n then(Qbr n Y args).map λfs=>Qg r.n r.den (r.dfl.drop (r.dfl.length-(r.n-args.length))) fs else none | none=>Qn3 n Y x args)else none)=some f:=h;split at h
      · rename_i hg
        obtain⟨g1,g2,g3⟩:=QcK ok.toCtxB hg;split at h
        · rename_i r hr
          split at h
          · rename_i hn
            refine mapR h λfs h1=>?_;obtain⟨k,fa,fd,ps,F1,F2,F3,F4,F5⟩:=ok.fns x r hr;obtain⟨ds,dvs,b1,b2,b3⟩:=F5 (r.n-args.length) ⋯;cases args with
            | nil=>
              cases n with
              | zero=>simp[Qbr]at h1
              | succ n=>
                simp only[Qbr]at h1;cases h1;exact Qvb F1 F2 g1 F3 F4 b1 b2 b3 g2
            | cons e es=>
              obtain⟨s1,s2⟩:=callArgs (X:=X) h1 rfl pos;exact Qxh F1 F2 g1 F3 F4 b1 b2 b3 (ih.A X Y _ fs ok h1) g2 s1 s2
          · cases h
        · exact ih.B X Y x args f p pos ok hg h
      · cases h
    | Attribute o m apos=>
      cases o with
      | Name x p=>
        cases args with
        | nil=>
          cases kws with
          | nil=>
            have h:(if m= "bit_length" /\(apos.endLine == pos.line)=true then(Qr n Y (.Name x p)).map Qoh else none)=some f:=h;split at h
            · rename_i hc
              refine mapR h λfa h1=>?_;obtain⟨rfl,hl⟩:=hc;exact Qym (ih.E X Y _ fa ok h1) rfl hl
            · cases h
          | cons _ _=>exact nn h
        | cons _ _=>exact nn h
      | _=>exact nn h
    | _=>exact nn h
  | ListComp elt gens scope pos=>
    match gens,h with
    | [⟨tg,iter,ifs,k⟩],h=>
      by_cases hk:k=0
      · subst hk
        (conv at h=>lhs;whnf)
        refine Qh h λt ht h=>?_;split at h
        · rename_i hc
          simp only[Zh]at hc;refine Qh h λfi h1 h=>?_;refine bindR h λft fe h2 h3=>?_;obtain⟨S,cap,inn⟩:=Qph ok hc.1;obtain⟨i1,i2⟩:=ih.I X Y tg iter fi ok h1;exact Qyu ok.calm S i1 cap (λcl C fp s3 H3=>⟨Qn9 (inn cl C fp s3 H3) ht,ih.Ts _ _ ifs ft (inn cl C fp s3 H3) h2,ih.E _ _ elt fe (inn cl C fp s3 H3) h3⟩) i2
        · cases h
      · exfalso
        cases k with
        | ofNat k=>
          cases k with
          | zero=>exact hk rfl
          | succ k=>exact nn h
        | negSucc k=>exact nn h
    | [],h=>exact nn h
    | ⟨_,_,_,.ofNat 0⟩::_::_,h=>exact nn h
    | ⟨_,_,_,.ofNat (k+1)⟩::_::_,h=>exact nn h
    | ⟨_,_,_,.negSucc k⟩::_::_,h=>exact nn h
  | _=>exact nn h
theorem QBo(ok:Q7 X Y)(g1:Gl X x)(sa:SA X [a] (Qa fa Qb))(st:starEach [a] X.env=(false,eval a X.env)::starEach [] X.env)(h:bf1 x fa=some f):SE X (.Call (.Name x p) [a] [] pos) f:=by
 unfold bf1 at h;by_cases e:x= "len"
 ·rw[if_pos e]at h;cases h;subst e;have hm:=ok.mg "len" (by decide+kernel);exact Qgo Qpc QAh g1 hm PySem.boot_len sa (by decide) (by decide) st rfl
 rw[if_neg e]at h;clear e;by_cases e:x= "list"
 ·rw[if_pos e]at h;cases h;subst e;have hm:=ok.mg "list" (by decide+kernel);exact QyC ok.calm g1 hm sa st rfl
 rw[if_neg e]at h;clear e;by_cases e:x= "abs"
 ·rw[if_pos e]at h;cases h;subst e;have hm:=ok.mg "abs" (by decide+kernel);exact Qgo Qwe QBh g1 hm PyProof.Rows.boot_abs sa (by decide) (by decide) st rfl
 rw[if_neg e]at h;clear e;by_cases e:x= "min"
 ·rw[if_pos e]at h;cases h;subst e;have hm:=ok.mg "min" (by decide+kernel);exact Qgo (QsQ ok.calm) Qy2 g1 hm PyProof.Rows.boot_min sa (by decide) (by decide) st rfl
 rw[if_neg e]at h;clear e;by_cases e:x= "max"
 ·rw[if_pos e]at h;cases h;subst e;have hm:=ok.mg "max" (by decide+kernel);exact Qgo (Quf ok.calm) QyD g1 hm PyProof.Rows.boot_max sa (by decide) (by decide) st rfl
 rw[if_neg e]at h;clear e;by_cases e:x= "sum"
 ·rw[if_pos e]at h;cases h;subst e;have hm:=ok.mg "sum" (by decide+kernel);exact Qgo (QsC ok.calm) Qx7 g1 hm PyProof.Rows.boot_sum sa (by decide) (by decide) st rfl
 rw[if_neg e]at h;clear e;by_cases e:x= "all"
 ·rw[if_pos e]at h;cases h;subst e;have hm:=ok.mg "all" (by decide+kernel);exact Qgo (Qt0 ok.calm) Qxv g1 hm PyProof.Rows.boot_all sa (by decide) (by decide) st rfl
 rw[if_neg e]at h;clear e;cases h
theorem QzF(ok:Q7 X Y)(g1:Gl X x)(sa:SA X [a,b] (Qa fa (Qa fb Qb)))(st:starEach [a,b] X.env=(false,eval a X.env)::starEach [b] X.env)(pl:(backTo pos (starEach [b] X.env)).any (·.1)=false)(h:bf2 x fa fb=some f):SE X (.Call (.Name x p) [a,b] [] pos) f:=by
 unfold bf2 at h;by_cases e:x= "min"
 ·rw[if_pos e]at h;cases h;subst e;have hm:=ok.mg "min" (by decide+kernel);exact Qgo (QsD ok.calm) Qxy g1 hm PyProof.Rows.boot_min sa (by decide) (by decide) st pl
 rw[if_neg e]at h;clear e;by_cases e:x= "max"
 ·rw[if_pos e]at h;cases h;subst e;have hm:=ok.mg "max" (by decide+kernel);exact Qgo (Qt4 ok.calm) Qx0 g1 hm PyProof.Rows.boot_max sa (by decide) (by decide) st pl
 rw[if_neg e]at h;clear e;cases h
theorem QCk(ih:Qlj n):∀X Y x args f p pos,Q7 X Y->Y.gl x=true->Qn3 (n+1) Y x args=some f->SE X (.Call (.Name x p) args [] pos) f:=by
 intro X Y x args f p pos ok hg h;obtain⟨g1,g2,g3⟩:=QcK ok.toCtxB hg
 match args,h with
 | [],h=>exact nn h
 | [a],h=>
  change((Qr n Y a).bind λfa=>bf1 x fa)=some f at h;refine Qh h λfa h1 h=>?_;have ha:=ih.E X Y a fa ok h1;have st:=QaG h1 [] X.env;exact QBo ok g1 (QeC ha QgW st) st h
 | [a,b],h=>
  change(if x= "isinstance" then(Qr n Y a).bind λfa=>(match b with | .Name y _=>if Y.gl y then(Qwp y).map λT=>QeF T fa else none | _=>none)else(Qr n Y a).bind λfa=>(Qr n Y b).bind λfb=>bf2 x fa fb)=some f at h;split at h
  ·rename_i e;refine Qh h λfa h1 h=>?_;have ha:=ih.E X Y a fa ok h1;split at h
   ·rename_i y p2;split at h
    ·rename_i hy;refine mapR h λT hT=>?_;obtain⟨y1,y2,y3⟩:=QcK ok.toCtxB hy;clear h;subst e;refine QAW g1 (ok.mg _ (by decide+kernel)) ha ?_ (QaG h1 _ X.env);unfold Qwp at hT;split at hT
     ·rename_i e;cases hT;subst e;exact QgR y1 (ok.mg _ (by decide+kernel)) PyProof.Rows.boot_int rfl
     ·split at hT
      ·rename_i e;cases hT;subst e;exact QgR y1 (ok.mg _ (by decide+kernel)) PyProof.Rows.boot_bool rfl
      ·split at hT
       ·rename_i e;cases hT;subst e;exact QgR y1 (ok.mg _ (by decide+kernel)) Zca rfl
       ·split at hT
        ·rename_i e;cases hT;subst e;exact QgR y1 (ok.mg _ (by decide+kernel)) Zbn rfl
        ·split at hT
         ·rename_i e;cases hT;subst e;exact QgR y1 (ok.mg _ (by decide+kernel)) PyProof.Rows.boot_str rfl
         ·cases hT
    ·cases h
   ·cases h
  ·refine Qh h λfa h1 h=>?_;refine Qh h λfb h2 h=>?_;have ha:=ih.E X Y a fa ok h1;have hb:=ih.E X Y b fb ok h2;have sb:SA X [b] (Qa fb Qb):=QeC hb QgW (QaG h2 [] X.env);have sa:SA X [a,b] (Qa fa (Qa fb Qb)):=QeC ha sb (QaG h1 [b] X.env);have pl:(backTo pos (starEach [b] X.env)).any (·.1)=false:=by rw[QaG h2 [] X.env];rfl
   exact QzF ok g1 sa (QaG h1 [b] X.env) pl h
 | _::_::_::_,h=>exact nn h
theorem QCa{n:Nat}(ih:Qlj n):∀X Y e f,Q7 X Y->Qbd (n+1) Y e=some f->ST X e f:=by
 intro X Y e f ok h;have dflt:(Qr n Y e).map QC=some f->(∀whole,isTrue e X.env whole=(do let v ← whole;standAt e.pos;holding [v] (truthy v)))->ST X e f:=λh he=>by
  refine mapR h λfa h1=>?_;exact QtL (ih.E X Y e fa ok h1) he
 cases e with
 | UnaryOp op a pos=>
  cases op with
  | Not=>
   change(Qbd n Y a).map QbL=some f at h;refine mapR h λfa h1=>?_;exact Qt1 (ih.T X Y a fa ok h1)
  | _=>exact dflt h λ_=>rfl
 | BoolOp op es pos=>
  cases op with
  | And=>
   match es,h with
   | [],h=>exact nn h
   | [a],h=>exact(Qyq (ih.T X Y a f ok h)).st
   | a::b::r,h=>
    change((Qbd n Y a).bind λfa=>(Qbd n Y (.BoolOp .And (b::r) pos)).map λfb=>QhI fa fb)=some f at h;refine bindR h λfa fb h1 h2=>?_;have hb:=ih.T X Y _ fb ok h2;exact(Qz0 (ih.T X Y a fa ok h1) (λH0 A0 wh pins s σ H Q I q=>by have:=hb H0 A0 pins s σ H Q I q;exact this)).st
  | Or=>
   match es,h with
   | [],h=>exact nn h
   | [a],h=>exact(Qs5 (ih.T X Y a f ok h)).st
   | a::b::r,h=>
    change((Qbd n Y a).bind λfa=>(Qbd n Y (.BoolOp .Or (b::r) pos)).map λfb=>bOr fa fb)=some f at h;refine bindR h λfa fb h1 h2=>?_;have hb:=ih.T X Y _ fb ok h2;exact(Qxe (ih.T X Y a fa ok h1) (λH0 A0 wh pins s σ H Q I q=>by have:=hb H0 A0 pins s σ H Q I q;exact this)).st
 | Compare a ops bs pos=>
  match ops,bs,h with
  | [op],[b],h=>
   change((Qr n Y a).bind λfa=>(Qr n Y b).bind λfb=>(Qsv op).map λg=>QC (dOp g fa fb))=some f at h;refine Qh h λfa h1 h=>?_;refine bindR h λfb g h2 h3=>?_;obtain⟨r,o1,o2,o3⟩:=Qs7 ok h3;exact Qz2 o1 o2 o3 (ih.E X Y a fa ok h1) (ih.E X Y b fb ok h2) (QtA h2 op)
  | [],_,h=>exact nn h
  | [_],[],h=>exact nn h
  | [_],_::_::_,h=>exact nn h
  | _::_::_,_,h=>exact nn h
 | IfExp c a b pos=>exact nn h
 | _=>exact dflt h λ_=>rfl
theorem QBP(ih:Qlj n):∀X Y tg e f,Q7 X Y->QhF (n+1) Y tg e=some f->SI X tg e f/\∀x,foldedSetIterable e X.env x=pure x:=by
 intro X Y tg e f ok h;have dflt:(Qr n Y e).map Qar=some f->SI X tg e f/\∀x,foldedSetIterable e X.env x=pure x:=λh=>by
  obtain⟨fa,h1,rfl⟩:=Ze.mp h;exact⟨QAP (ih.E X Y e fa ok h1),QA5 h1 X.env⟩
 cases e with
 | Call fn args kws pos=>
  cases fn with
  | Name x p=>
   cases kws with
   | cons k ks=>exact dflt h
   | nil=>
    change @ite _ _ _ _ _=_ at h;split at h
    ·rename_i hg;simp only[Zh]at hg;obtain⟨g1,g2,g3⟩:=QcK ok.toCtxB hg.1
     match args,h with
     | [],h=>exact dflt h
     | [a],h=>
      dsimp only at h;by_cases er:x= "range"
      ·rw[if_pos er]at h;obtain⟨fa,h1,rfl⟩:=Ze.mp h;subst er;exact⟨Qte g1 (ok.mg _ (by decide+kernel)) (ih.E X Y a fa ok h1) (QaG h1 [] X.env),λ_=>rfl⟩
      rw[if_neg er]at h;by_cases ez:x= "enumerate"
      ·rw[if_pos ez]at h;split at h
       ·rename_i ht;obtain⟨fa,h1,rfl⟩:=Ze.mp h;subst ez;cases tg with
        | Tuple es k tp=>exact⟨QyZ g1 (ok.mg _ (by decide+kernel)) (ih.E X Y a fa ok h1) (QaG h1 [] X.env),λ_=>rfl⟩
        | _=>exact nomatch (show false=true from ht)
       ·cases h
      rw[if_neg ez]at h;exact dflt h
     | [a,b],h=>
      dsimp only at h;by_cases er:x= "range"
      ·rw[if_pos er]at h;obtain⟨fa,fb,h1,h2,rfl⟩:=Qbp h;subst er;exact⟨Quz g1 (ok.mg _ (by decide+kernel)) (ih.E X Y a fa ok h1) (ih.E X Y b fb ok h2) (by rw[QaG h1 [b] X.env,QaG h2 [] X.env];rfl) (QaG h2 [] X.env),λ_=>rfl⟩
      rw[if_neg er]at h;by_cases ez:x= "zip"
      ·rw[if_pos ez]at h;split at h
       ·rename_i ht;obtain⟨fa,fb,h1,h2,rfl⟩:=Qbp h;subst ez;cases tg with
        | Tuple es k tp=>exact⟨QAQ g1 (ok.mg _ (by decide+kernel)) (ih.E X Y a fa ok h1) (ih.E X Y b fb ok h2) (by rw[QaG h1 [b] X.env,QaG h2 [] X.env];rfl) (QaG h2 [] X.env),λ_=>rfl⟩
        | _=>exact nomatch (show false=true from ht)
       ·cases h
      rw[if_neg ez]at h;exact dflt h
     | [a,b,c],h=>
      dsimp only at h;by_cases er:x= "range"
      ·rw[if_pos er]at h;refine Qh h λfa h1 h=>?_;obtain⟨fb,fc,h2,h3,rfl⟩:=Qbp h;subst er;exact⟨QtC g1 (ok.mg _ (by decide+kernel)) (ih.E X Y a fa ok h1) (ih.E X Y b fb ok h2) (ih.E X Y c fc ok h3) (QaG h1 [b,c] X.env) (QaG h2 [c] X.env) (QaG h3 [] X.env),λ_=>rfl⟩
      rw[if_neg er]at h;by_cases ez:x= "zip"
      ·rw[if_pos ez]at h;split at h
       ·rename_i ht;refine Qh h λfa h1 h=>?_;obtain⟨fb,fc,h2,h3,rfl⟩:=Qbp h;subst ez;cases tg with
        | Tuple es k tp=>exact⟨QxH g1 (ok.mg _ (by decide+kernel)) (ih.E X Y a fa ok h1) (ih.E X Y b fb ok h2) (ih.E X Y c fc ok h3) (QaG h1 [b,c] X.env) (QaG h2 [c] X.env) (QaG h3 [] X.env),λ_=>rfl⟩
        | _=>exact nomatch (show false=true from ht)
       ·cases h
      rw[if_neg ez]at h;exact dflt h
     | _::_::_::_::_,h=>exact dflt h
    ·exact dflt h
  | _=>exact dflt h
 | _=>exact dflt h
theorem QbZ:∀n,Qlj n
 | 0=>⟨λ_ _ _ _ _ h=>(nn h),λ_ _ _ _ _ _ _ _ _ h=>(nn h),λ_ _ _ _ _ h=>(nn h),λ_ _ _ _ _ h=>(nn h),λ_ _ _ _ _ h=>(nn h),λ_ _ _ _ _ h=>(nn h),λ_ _ _ _ _ _ h=>(nn h)⟩
 | n+1=>by
  have ih:=QbZ n;refine⟨QBA ih,QCk ih,QCa ih,λX Y e f ok h=>?_,λX Y e f ok h=>?_,λX Y e f ok h=>?_,QBP ih⟩
  ·match e,h with
   | [],h=>simp only[Qg4]at h;cases h;exact Qwg
   | [c],h=>simp only[Qg4]at h;exact Qwq (ih.T X Y c f ok h)
   | _::_::_,h=>simp only[Qg4]at h;cases h
  ·match e,h with
   | [],h=>simp only[Qbr]at h;cases h;exact QgW
   | e::es,h=>
    simp only[Qbr]at h;refine bindR h λfa fs h1 h2=>?_;exact QeC (ih.E X Y e fa ok h1) (ih.A X Y es fs ok h2) (QaG h1 es X.env)
  ·match e,h with
   | none,h=>simp only[Qlh]at h;cases h;exact QyV
   | some e,h=>
    simp only[Qlh]at h;refine mapR h λfa h1=>?_;exact Qyw (ih.E X Y e fa ok h1)
section
noncomputable def Qw:DS:=λ_=>none
theorem QuH:S1 X st Qw:=λH0 A0=>QvO.mono λE σ H ⟨U,hs,F,o,rel,e,q⟩=>by cases e
theorem QhH:∀{n:Nat}{U:En}{o:Out},Qbc g fb n U=some o->Qbc g fb (n+1) U=some o
 | 0,_,_,h=>by cases h
 | n+1,U,o,h=>by
  unfold Qbc at h ⊢;refine Qh h λb hb h=>?_;rw[hb];cases b with
  | false=>exact h
  | true=>
   rw[if_pos rfl]at h;refine Qh h λo1 ho h=>?_;rw[Za,if_pos rfl,ho];cases o1 with
   | nx U2=>exact QhH h
   | ct U2=>exact QhH h
   | bk U2=>exact h
   | rt d fr=>exact h
theorem Qo0(h:Qbc g fb n U=some o)(hm:n<=m):Qbc g fb m U=some o:=by
 induction hm with
 | refl=>exact h
 | step _ ih=>exact QhH ih
open Classical in
noncomputable def Qco(g:DT)(fb:DS):DS:=λU=>if h:∃n,(Qbc g fb n U).isSome=true then Qbc g fb h.choose U else none
theorem Qdf:Qco g fb U=some o↔∃n,Qbc g fb n U=some o:=by
 unfold Qco;constructor
 ·intro h;split at h
  ·exact⟨_,h⟩
  ·cases h
 ·rintro⟨n,h⟩;have hx:∃n,(Qbc g fb n U).isSome=true:=⟨n,by rw[h];rfl⟩;rw[dif_pos hx];obtain⟨o',ho'⟩:=ZaL.mp hx.choose_spec;have h1:=Qo0 h (Nat.le_max_left n hx.choose);have h2:=Qo0 ho' (Nat.le_max_right n hx.choose);rw[h1]at h2;rw[ho',← h2]
theorem Quw(hp:PassesOwn (model X.prog X.w) X.A X.env X.xe)(hc:ST X c gc)(hb:SS X body f):S1 X (.While c body [] pos) (Qco gc f):=λH0 A0 pins s σ H D I h=>by
 obtain⟨U,hs,F,o,rel,e,q⟩:=h;obtain⟨n,hn⟩:=Qdf.mp e;exact Qve (n:=n) hp hc hb H0 A0 pins s σ H D I ⟨U,hs,F,o,rel,hn,q⟩
theorem Qt2(g:DT)(fb:DS)(U:En):Qco g fb U=(g U).bind λb=>if b=true then(fb U).bind λo=>match o with
  | .nx U2=>Qco g fb U2
  | .ct U2=>Qco g fb U2
  | .bk U2=>some (.nx U2)
  | .rt d fr=>some (.rt d fr)
  else some (.nx U):=by
 apply Option.ext;intro o;rw[Qdf];constructor
 ·rintro⟨n,h⟩;cases n with
  | zero=>cases h
  | succ n=>
   unfold Qbc at h;refine Qh h λb hb h=>?_;rw[hb];cases b with
   | false=>exact h
   | true=>
    rw[if_pos rfl]at h;refine Qh h λo1 ho h=>?_;rw[Za,if_pos rfl,ho];cases o1 with
    | nx U2=>exact Qdf.mpr ⟨n,h⟩
    | ct U2=>exact Qdf.mpr ⟨n,h⟩
    | bk U2=>exact h
    | rt d fr=>exact h
 ·intro h;refine Qh h λb hb h=>?_;cases b with
  | false=>exact⟨1,by unfold Qbc;rw[hb];exact h⟩
  | true=>
   rw[if_pos rfl]at h;refine Qh h λo1 ho h=>?_;cases o1 with
   | nx U2=>
    obtain⟨n,hn⟩:=Qdf.mp h;exact⟨n+1,by unfold Qbc;rw[hb];rw[Za,if_pos rfl,ho];exact hn⟩
   | ct U2=>
    obtain⟨n,hn⟩:=Qdf.mp h;exact⟨n+1,by unfold Qbc;rw[hb];rw[Za,if_pos rfl,ho];exact hn⟩
   | bk U2=>exact⟨1,by unfold Qbc;rw[hb];rw[Za,if_pos rfl,ho];exact h⟩
   | rt d fr=>exact⟨1,by unfold Qbc;rw[hb];rw[Za,if_pos rfl,ho];exact h⟩
theorem Qy0(hN:X.N.Nodup)(hx1:X.N[i]? =some x)(hx:Loc X.env.scope x)(hf:X.fn x=true∨X.env.scope.names.lookup x=some .local)
  (hcalm:X.calm=true) (S:Qe3 X N' scope) (hi:SI X tg iter fi) (hcap:Qn4 X N' scope cap t.slots)
  (hin:∀cl C fp s3 H3,SG (cxc X N' scope cl C fp s3 H3) tg t/\QpG (cxc X N' scope cl C fp s3 H3) ifs ft/\SE (cxc X N' scope cl C fp s3 H3) elt fe) (hs:∀x,foldedSetIterable iter X.env x=pure x):
  S1 X (.Assign [.Name x pos'] (.ListComp elt [⟨tg,iter,ifs,0⟩] scope pos) spos) (Qt i (QQ fi t cap ft fe)):=
 Qlg λH0 A0=>(Qzg hN hx1 hx hf hcalm S (hi H0 A0) (λcl C fp s3 H3=>⟨(hin cl C fp s3 H3).1 _ _,(hin cl C fp s3 H3).2.1 _ _,(hin cl C fp s3 H3).2.2 _ _⟩) hs).mono λE σ H h=>Qnp hcap h
end
end HS
namespace HS
open PySem PySem.Spec L2 PyProof.Rows
section
variable {X:Cx}{a b e:Expr}{fa fb:DE}{pf:DP}{x:Nat}{pos apos:Pos}
end
noncomputable def Qjk:Expr->Bool
 | .ListComp .. =>false
 | .SetComp .. =>false
 | .DictComp .. =>false
 | _=>true
theorem Qgm(h:Qjk e=true):swapsWith e t l env=pure false:=by
 cases e<;>first | rfl | cases h
noncomputable def Qeh(n:Nat)(Y:Th)(e:Expr):Option (Nat×DP):=match n with
 | 0=>none
 | n+1=>match e with
  | .Name x _=>(Y.slot x).map λi=>(i,Qa8)
  | .Subscript a b _=>(Qeh n Y a).bind λq=>(Qr n Y b).map λfb=>(q.1,QjO q.2 fb)
  | _=>none
theorem QhO:∀(n:Nat) (X:Cx) (Y:Th) (e:Expr) (q:Nat×DP),Q7 X Y->Qeh n Y e=some q->SPa X e q.1 q.2/\attributeBase e=λ_ env w=>w
 | 0,_,_,_,_,_,h=>(nn h)
 | n+1,X,Y,e,q,ok,h=>by
  cases e with
  | Name x pos=>
   change Option.map _ _=_ at h;obtain⟨i,hi,rfl⟩:=Ze.mp h;exact⟨Qvj (Qfv ok.toCtxB hi),by funext a b c;rfl⟩
  | Subscript a b pos=>
   change Option.bind _ _=_ at h;obtain⟨q',fb,h1,h2,rfl⟩:=Qbp h;exact⟨Qyv (QhO n X Y a q' ok h1).1 ((QbZ n).E X Y b fb ok h2) (QqE h2),by funext a b c;rfl⟩
  | _=>exact nn h
noncomputable def QjQ:Expr->Bool
 | .Name .. =>true
 | .Subscript _ (.Slice ..) _=>false
 | .Subscript (.Call ..) _ _=>false
 | .Subscript .. =>true
 | _=>false
noncomputable def QoE:Operator->Option (D->D->Option D)
 | .Add=>some (gI λi j=>some (.int (i+j)))
 | .Sub=>some QaI
 | _=>none
theorem QsH(h:QoE op=some g):∃r,OpR X (inplaceOp op) r/\QcD X.K g r:=by
 cases op<;>cases h
 ·exact⟨_,QxC,QhT (λi j d e=>by cases e;rfl) λi j d e H Q q=>by cases e;exact⟨i,j,rfl,rfl,q _ λ_=> .int_mk⟩⟩
 ·exact⟨_,QxY,QtP⟩
noncomputable def QxA:Expr->Bool
 | .Slice .. =>true
 | _=>false
noncomputable def Qli(n:Nat)(Y:Th)(o:Expr)(m:Str)(args:List Expr):Option DS:=match args with
  | []=>(Qeh n Y o).bind λq=>
    none
  | [e]=>if m= "append" then
     ((Qeh n Y o).bind λq=>(Qr n Y e).map λfa=>Qku q.1 q.2 fa)
    else
    none
  | _=>none
theorem QvJ(ok:Q7 X Y)(h:Qli n Y o m args=some f)(hl:(apos.endLine == cpos.line)=true):
  S1 X (.Expr (.Call (.Attribute o m apos) args [] cpos) pos) f:=by
 have base:∀{q:Nat×DP},Qeh n Y o=some q->SPa X o q.1 q.2/\attributeBase o m X.env (eval o X.env)=eval o X.env:=λ{q} h1=>by
  obtain⟨sp,ab⟩:=QhO n X Y o _ ok h1;exact⟨sp,by rw[ab]⟩
 have app:∀{e:Expr}{f:DS},m= "append" ->((Qeh n Y o).bind λq=>(Qr n Y e).map λfa=>Qku q.1 q.2 fa)=some f->S1 X (.Expr (.Call (.Attribute o m apos) [e] [] cpos) pos) f:=λ{e f} em h=>by
  obtain⟨q,fa,h1,h2,rfl⟩:=Qbp h;obtain⟨sp,hb⟩:=base h1;subst em;have he:=(QbZ n).E X Y e fa ok h2;have st:=QaG h2 [] X.env;have sa:∀H0 A0,PA X [e] (QrR (tV X.K H0 A0 fa) QrU):=λH0 A0=>Qaq (he H0 A0) QcW st;exact λH0 A0=>(Qmt (QBI PySem.F.plainAttrs_list PySem.F.slot_list_append PySem.F.type_list_append QnR (sp H0 A0) (sa H0 A0) hb (by rw[st];rfl) hl st rfl) rfl).mono λE σ H q=>Qv0 q
 match args,h with
 | [],h=>
  unfold Qli at h;dsimp only at h;obtain⟨⟨x,pf⟩,h1,h⟩:=bind1 h;obtain⟨sp,hb⟩:=base h1;cases h
 | [e],h=>
  unfold Qli at h;dsimp only at h;by_cases em:m= "append"
  ·rw[if_pos em]at h;exact app em h
  rw[if_neg em]at h;clear em;clear app;cases h
 | _::_::_,h=>exact nn h
section
variable {K:Fgg}{H0 H H':Hp}{A0:LAd}{hs:List (V×D×List Addr)}{U:En}{F:Nat->List Addr}{σ:L2.St}{x i j:Nat}{ds es:List D}{a:Addr}{vs:List V}{v vn:V}{dn:D}
end
mutual
noncomputable def Qjq(n:Nat)(Y:Th)(st:Stmt):Option DS:=match n with
 | 0=>none
 | n+1=>match st with
  | .Pass _=>some Qi
  | .Break _=>some Qvu
  | .Continue _=>some QvR
  | .Raise _ _ _=>some Qw
  | .Return (some e) _=>(Qr n Y e).map QB
  | .Expr (.Constant (.str _) _ _) _=>some Qi
  | .Expr (.Call (.Attribute o m apos) args [] cpos) _=>if(apos.endLine == cpos.line)=true then Qli n Y o m args else none
  | .Expr (.Call (.Name x p) args [] cpos) _=>(Qr n Y (.Call (.Name x p) args [] cpos)).map Qal
  | .Assign [.Name x _] e _=>(Y.Qcj x).bind λi=>(Qr n Y e).map λfa=>Qt i (if QjQ e=true then QbP fa else fa)
  | .Assign [.Subscript a i _] e _=>match Qif Y a i e with
   | some q=>(Y.slot q.1).bind λx=>(Qr n Y q.2).map λfb=>Qhz x (Qa fb Qb)
   | none=>(Qeh n Y a).bind λq=>(Qr n Y i).bind λfi=>(Qr n Y e).map λfa=>QcG q.1 q.2 fi fa
  | .AugAssign (.Name x _) op e _=>(Y.Qcj x).bind λi=>(QoE op).bind λg=>(Qr n Y e).map λfa=>Qik g i fa
  | .AugAssign (.Subscript a i _) op e _=>(Qeh n Y a).bind λq=>(Qr n Y i).bind λfi=>(QoE op).bind λg=>(Qr n Y e).map λfa=>Qdz g q.1 q.2 fi fa
  | .If c a b _=>(Qbd n Y c).bind λg=>(QaY n Y a).bind λf1=>(QaY n Y b).map λf2=>sIf g f1 f2
  | .For tg iter body [] _=>(QkF Y tg).bind λt=>(QhF n Y tg iter).bind λfi=>(QaY n Y body).map λfb=>Qbh fi t fb
  | .While c body [] _=>(Qbd n Y c).bind λg=>(QaY n Y body).map λfb=>Qco g fb
  | .Try a b c d p=>Y.tr (.Try a b c d p)
  | _=>none
noncomputable def QaY(n:Nat)(Y:Th)(sts:List Stmt):Option DS:=match n with
  | 0=>none
  | n+1=>match sts with
    | []=>some Qi
    | st::r=>
       (Qjq n Y st).bind λf=>(QaY n Y r).map λg=>Qc f g
end
theorem Qq7(h:Qr n Y e=some f):QxA e=false:=by
 cases n with
 | zero=>exact nn h
 | succ n=>cases e<;>first | rfl | (exact nn h)
theorem QxB(h:Qr n Y (.ListComp elt gens scope pos)=some f):∃m tg iter ifs t fi ft fe,n=m+1/\gens=[⟨tg,iter,ifs,0⟩]/\QkF (inner Y scope) tg=some t/\QlU Y scope t=true∧
  QhF m Y tg iter=some fi/\Qg4 m (inner Y scope) ifs=some ft/\Qr m (inner Y scope) elt=some fe/\f=QQ fi t (Qjs Y scope) ft fe:=by
 cases n with
 | zero=>exact nn h
 | succ n=>
  match gens,h with
  | [⟨tg,iter,ifs,k⟩],h=>
   by_cases hk:k=0
   ·subst hk
    (conv at h=>lhs;whnf)
    refine Qh h λt ht h=>?_;split at h
    ·rename_i hc;simp only[Zh]at hc;refine Qh h λfi h1 h=>?_;obtain⟨ft,fe,h2,h3,rfl⟩:=Qbp h;exact⟨n,tg,iter,ifs,t,fi,ft,fe,rfl,rfl,ht,hc.1,h1,h2,h3,rfl⟩
    ·cases h
   ·exfalso;cases k with
    | ofNat k=>
     cases k with
     | zero=>exact hk rfl
     | succ k=>exact nn h
    | negSucc k=>exact nn h
  | [],h=>exact nn h
  | ⟨_,_,_,.ofNat 0⟩::_::_,h=>exact nn h
  | ⟨_,_,_,.ofNat (k+1)⟩::_::_,h=>exact nn h
  | ⟨_,_,_,.negSucc k⟩::_::_,h=>exact nn h
theorem Qyl(ok:Q7 X Y)(hx:Y.Qcj x=some i)(h:Qr n Y e=some fa):S1 X (.Assign [.Name x p] e pos) (Qt i fa):=by
 have hN:X.N.Nodup:=by rw[ok.N];exact ok.nd
 obtain⟨h1,h2,h3⟩:=Qc2 ok.toCtxB hx;by_cases hc:Qjk e=true
 ·have he:=(QbZ n).E X Y e fa ok h;exact Qlg λH0 A0=>Qi6 hN h1 h2 (he H0 A0) (Qgm hc) h3
 ·cases e with
  | ListComp elt gens scope cpos=>
   obtain⟨m,tg,iter,ifs,t,fi,ft,fe,rfl,rfl,ht,hco,g1,g2,g3,rfl⟩:=QxB h;obtain⟨S,cap,inn⟩:=Qph ok hco;obtain⟨i1,i2⟩:=(QbZ m).I X Y tg iter fi ok g1;exact Qy0 hN h1 h2 h3 ok.calm S i1 cap (λcl C fp s3 H3=>⟨Qn9 (inn cl C fp s3 H3) ht,(QbZ m).Ts _ _ ifs ft (inn cl C fp s3 H3) g2,(QbZ m).E _ _ elt fe (inn cl C fp s3 H3) g3⟩) i2
  | SetComp _ _ _ _=>cases n<;>exact nn h
  | DictComp _ _ _ _ _=>cases n<;>exact nn h
  | _=>exact absurd rfl hc
theorem QwT(ok:Q7 X Y)(hx:Y.Qcj x=some i)(h:Qr n Y e=some fa)(ha:QjQ e=true):S1 X (.Assign [.Name x p] e pos) (Qt i (QbP fa)):=by
 have hN:X.N.Nodup:=by rw[ok.N];exact ok.nd
 obtain⟨h1,h2,h3⟩:=Qc2 ok.toCtxB hx;have hc:Qjk e=true:=by cases e<;>first | rfl | cases ha
 have he:=QuF ((QbZ n).E X Y e fa ok h);exact Qlg λH0 A0=>Qi6 hN h1 h2 (he H0 A0) (Qgm hc) h3
theorem QsX:swapsWithSole [.Subscript a i p] e l env=pure false:=by
 cases e<;>rfl
structure QAD (n:Nat):Prop where
 S:∀X Y st f,Q7 X Y->Qjq n Y st=some f->S1 X st f
 Ss:∀X Y sts f,Q7 X Y->QaY n Y sts=some f->SS X sts f
theorem QA7(ih:QAD n):∀X Y st f,Q7 X Y->Qjq (n+1) Y st=some f->S1 X st f:=by
 intro X Y st f ok h;have hN:X.N.Nodup:=by rw[ok.N];exact ok.nd
 have E:=QbZ n;cases st with
 | Pass pos=>change some Qi=some f at h;cases h;exact QxG
 | Break pos=>change some Qvu=some f at h;cases h;exact Qwk
 | Continue pos=>change some QvR=some f at h;cases h;exact QyP
 | Raise a b pos=>change some Qw=some f at h;cases h;exact QuH
 | Return e pos=>
  cases e with
  | none=>exact nn h
  | some e=>
   change(Qr n Y e).map QB=some f at h;obtain⟨fa,h1,rfl⟩:=Ze.mp h;exact Qom (E.E X Y e fa ok h1)
 | Expr e pos=>
  cases e with
  | Constant c k p=>
   cases c with
   | str x=>
    change some Qi=some f at h;cases h;exact λH0 A0=>QAd.mono λE σ H ⟨U,hs,F,o,rel,e,q⟩=>by cases e;exact q σ H F rel
   | _=>exact nn h
  | Call fn args kws cpos=>
   cases fn with
   | Attribute o m apos=>
    cases kws with
    | nil=>
     change(if(apos.endLine == cpos.line)=true then Qli n Y o m args else none)=some f at h;split at h
     ·rename_i hl;exact QvJ ok h hl
     ·cases h
    | cons _ _=>exact nn h
   | Name x p=>
    cases kws with
    | nil=>
     change(Qr n Y (.Call (.Name x p) args [] cpos)).map Qal=some f at h;obtain⟨fa,h1,rfl⟩:=Ze.mp h;exact λH0 A0=>QyB (Qmt (E.E X Y _ fa ok h1 H0 A0) rfl)
    | cons _ _=>exact nn h
   | _=>exact nn h
  | _=>exact nn h
 | Assign ts e pos=>
  match ts,h with
  | [t],h=>
   cases t with
   | Name x p=>
    change((Y.Qcj x).bind λi=>(Qr n Y e).map λfa=>Qt i (if QjQ e=true then QbP fa else fa))=some f at h;obtain⟨i,fa,h1,h2,rfl⟩:=Qbp h;split
    ·rename_i ha;exact QwT ok h1 h2 ha
    ·exact Qyl ok h1 h2
   | Subscript a i p=>
    have h:(match Qif Y a i e with | some q=>(Y.slot q.1).bind λx=>(Qr n Y q.2).map λfb=>Qhz x (Qa fb Qb) | none=>(Qeh n Y a).bind λq=>(Qr n Y i).bind λfi=>(Qr n Y e).map λfa=>QcG q.1 q.2 fi fa)=some f:=h;cases qe:Qif Y a i e with
    | some q=>
     rw[qe]at h;obtain⟨p1,p2,cp,j,r,rfl,rfl,rfl,hg⟩:=Qsh qe;obtain⟨x,fb,h1,h2,rfl⟩:=Qbp h;have st:=QaG h2 [] X.env;exact Qxp (by have:=ok.units;omega) (Qfv ok.toCtxB h1) (QcK ok.toCtxB hg).1 (ok.mg "tuple" (by decide+kernel)) (QeC (E.E X Y q.2 fb ok h2) QgW st) st rfl (QhM Qn6 (λ_ _=> .QcO) rfl) rfl
    | none=>
    rw[qe]at h;change((Qeh n Y a).bind λq=>(Qr n Y i).bind λfi=>(Qr n Y e).map λfa=>QcG q.1 q.2 fi fa)=some f at h;refine Qh h λq h1 h=>?_;obtain⟨fi,fa,h2,h3,rfl⟩:=Qbp h;obtain⟨sp,_⟩:=QhO n X Y a q ok h1;have ns:=Qq7 h2;refine QAX (E.E X Y e fa ok h3) sp (E.E X Y i fi ok h2) λte to ti he ho hi=>Qzr he (QAR ho hi set_list ?_) QsX ?_ rfl
    ·intro v;cases i<;>first | rfl | (cases ns)
    ·cases e<;>rfl
   | _=>exact nn h
  | [],h=>exact nn h
  | t::_::_,h=>cases t<;>exact nn h
 | AugAssign t op e pos=>
  cases t with
  | Name x p=>
   change((Y.Qcj x).bind λi=>(QoE op).bind λg=>(Qr n Y e).map λfa=>Qik g i fa)=some f at h;refine Qh h λi h1 h=>?_;obtain⟨g,fa,h2,h3,rfl⟩:=Qbp h;obtain⟨r,o1,o2⟩:=QsH (X:=X) h2;obtain⟨g1,g2,g3⟩:=Qc2 ok.toCtxB h1;exact QAj o1 o2 (λte ti he hp=>Qzn hN g1 g2 he hp g3) (E.E X Y e fa ok h3)
  | Subscript a i p=>
   change((Qeh n Y a).bind λq=>(Qr n Y i).bind λfi=>(QoE op).bind λg=>(Qr n Y e).map λfa=>Qdz g q.1 q.2 fi fa)=some f at h;refine Qh h λq h1 h=>?_;refine Qh h λfi h2 h=>?_;obtain⟨g,fa,h3,h4,rfl⟩:=Qbp h;obtain⟨r,o1,o2⟩:=QsH (X:=X) h3;obtain⟨sp,_⟩:=QhO n X Y a q ok h1;have ns:=Qq7 h2;exact Qyc o1 o2 (E.E X Y e fa ok h4) sp (E.E X Y i fi ok h2) λov iv new=>by cases i<;>first | rfl | (cases ns)
  | _=>exact nn h
 | If c a b pos=>
  change((Qbd n Y c).bind λg=>(QaY n Y a).bind λf1=>(QaY n Y b).map λf2=>sIf g f1 f2)=some f at h;refine Qh h λg h1 h=>?_;obtain⟨f1,f2,h2,h3,rfl⟩:=Qbp h;exact Qxc (E.T X Y c g ok h1) (ih.Ss X Y a f1 ok h2) (ih.Ss X Y b f2 ok h3)
 | For tg iter body els pos=>
  cases els with
  | nil=>
   change((QkF Y tg).bind λt=>(QhF n Y tg iter).bind λfi=>(QaY n Y body).map λfb=>Qbh fi t fb)=some f at h;refine Qh h λt h1 h=>?_;obtain⟨fi,fb,h2,h3,rfl⟩:=Qbp h;obtain⟨i1,i2⟩:=E.I X Y tg iter fi ok h2;exact QBg ok.pass ok.calm i1 (Qn9 ok h1) (ih.Ss X Y body fb ok h3) i2
  | cons _ _=>exact nn h
 | While c body els pos=>
  cases els with
  | nil=>
   change((Qbd n Y c).bind λg=>(QaY n Y body).map λfb=>Qco g fb)=some f at h;obtain⟨g,fb,h1,h2,rfl⟩:=Qbp h;exact Quw ok.pass (E.T X Y c g ok h1) (ih.Ss X Y body fb ok h2)
  | cons _ _=>exact nn h
 | Try a b c d pos=>exact ok.tr _ _ h
 | _=>exact nn h
theorem Qjm:∀n,QAD n
 | 0=>⟨λ_ _ _ _ _ h=>(nn h),λ_ _ _ _ _ h=>(nn h)⟩
 | n+1=>by
  have ih:=Qjm n;refine⟨QA7 ih,λX Y sts f ok h=>?_⟩
  match sts,h with
  | [],h=>change some Qi=some f at h;cases h;exact QlK
  | st::r,h=>
   change((Qjq n Y st).bind λf=>(QaY n Y r).map λg=>Qc f g)=some f at h;obtain⟨fs,fr,h1,h2,rfl⟩:=Qbp h;exact QmR (ih.S X Y st fs ok h1) (ih.Ss X Y r fr ok h2)
noncomputable def Qav(k:Nat)(ds:List D):En:=ds.map (λd=>some (d,d.flat))++List.replicate (k-ds.length) none
noncomputable def outD:Out->Option (D×Bool)
 | .rt d fr=>some (d,fr)
 | .nx _=>some (.non,true)
 | _=>none
noncomputable def Qs(k:Nat)(f:DS):Den:=λds=>(f (Qav k ds)).bind outD
theorem Rps.parts{K:Fgg}{H:Hp}:∀{ds:List D}{vs:List V}{F:LAd},Rps K H ds vs F→
  ∃Fs:List (List Addr),(∀L∈Fs,∀a∈L,a∈F)/\∀(i:Nat) (d:D),ds[i]? =some d->∃v,vs[i]? =some v/\Rp K H d v (Fs.getD i [])
 | [],_,_,h=>⟨[],λL hL=>by simp at hL,λi d e=>by simp at e⟩
 | d::ds,_,_,h=>by
  simp only[Rps]at h;obtain⟨v,ws,F1,F2,rfl,rfl,r,q⟩:=h;obtain⟨Fs,h1,h2⟩:=Rps.parts q;refine⟨F1::Fs,λL hL a ha=>?_,λi d' e=>?_⟩
  ·rcases Zn.mp hL with rfl | hL
   ·exact Zf _ ha
   ·exact Zd _ (h1 L hL a ha)
  ·cases i with
   | zero=>simp at e;subst e;exact⟨v,by simp,by simpa using r⟩
   | succ i=>obtain⟨w,hw,hr⟩:=h2 i d' (by simpa using e);exact⟨w,by simpa using hw,by simpa using hr⟩
theorem Qkg{k:Nat}{ds:List D}{i:Nat}{d:D}{b:Bool}(h:(Qav k ds)[i]? =some (some (d,b))):ds[i]? =some d/\b=d.flat:=by
 unfold Qav at h;by_cases hi:i<ds.length
 ·rw[Zbd (by simpa using hi),Zs]at h;cases e:ds[i]? with
  | none=>rw[e]at h;cases h
  | some a=>rw[e]at h;cases h;exact⟨rfl,rfl⟩
 ·rw[ZbJ (by simpa using hi),ZbR]at h;split at h<;>cases h
theorem Qgc{K:Fgg}{H:Hp}{ds:List D}{vs:List V}{F:LAd}{N:List Str}(r:Rps K H ds vs F):∃F0,Rel K H F [] (Qav N.length ds) F0 (start N vs) H:=by
 obtain⟨Fs,h1,h2⟩:=r.parts;have hl:=r.length;have src:∀i a,a∈Fs.getD i []->a∈F:=λi a ha=>by
  by_cases hi:i<Fs.length
  ·have:Fs.getD i []∈Fs:=by rw[ZX,Zay hi];exact List.getElem_mem hi
   exact h1 _ this a ha
  ·rw[ZX,ZA ⋯]at ha;simp at ha
 refine⟨λi=>Fs.getD i [],?_,λi d b e=>?_,λi d e=>?_,λi d b e a ha=> .inr (src i a ha),λt ht=>absurd ht (by simp),QM.refl _⟩
 ·unfold Qav L2.start;simp[hl]
 ·obtain⟨e1,_⟩:=Qkg e;obtain⟨v,hv,hr⟩:=h2 i d e1;refine⟨v,?_,hr⟩;have hi:i<vs.length:=(Zm.mp hv).1;unfold L2.start;rw[Zbd (by simpa using hi),Zs,hv];rfl
 ·obtain⟨e1,e2⟩:=Qkg e;obtain⟨v,hv,hr⟩:=h2 i d e1;have z:Fs.getD i []=[]:=hr.Qci e2.symm;simp only[z];exact⟨(QdM d e2.symm).symm,ZaD,λa ha=>by simp at ha,λ_ _ _ _ _ a ha=>by simp at ha,λ_ _ a ha=>by simp at ha⟩
section
variable (P:Program) (w:World) (K:Fgg) (mg:Str->Option Value) (base:Heap)
def Known(k:Nat)(x:Str)(r:FnR):Prop:=∃f fd ps,Qcq P w K mg base CX0 k f fd ps (spV K r.n r.den)/\mg x=some (.ref f)/\PySem.W.keepIn K (.ref f)=true∧
 ∀m,m<=r.dfl.length->∃ds dvs,Binds K fd ps ds/\QA dvs ds/\∀H,Rps K H (r.dfl.drop (r.dfl.length-m)) dvs []
def QbA(k:Nat)(Γ:List (Str×FnR)):Prop:=∀x r,look x Γ=some r->Known P w K mg base k x r
structure QdY (cs:List (Str×Int)):Prop where
 bn:∀x∈QpP,mg x=none
 cs:∀x i,look x cs=some i->∃t,mg x=some (.int i t)
end
section
variable {P:Program}{w:World}{K:Fgg}{mg:Str->Option Value}{base:Heap}
theorem QbA.nil{k:Nat}:QbA P w K mg base k []:=λx r h=>by cases h
theorem Known.mono{j k:Nat}{x:Str}{r:FnR}(h:Known P w K mg base j x r)(hk:j<=k):Known P w K mg base k x r:=by
 obtain⟨f,fd,ps,h1,h2⟩:=h;exact⟨f,fd,ps,h1.mono hk,h2⟩
theorem QbA.cons{k:Nat}{Γ:List (Str×FnR)}{x:Str}{r:FnR}(t:QbA P w K mg base k Γ)(h:Known P w K mg base (k+1) x r):QbA P w K mg base (k+1) ((x,r)::Γ):=λy q e=>by
 unfold look at e;split at e
 ·rename_i z;cases e;subst z;exact h
 ·exact(t y q e).mono (ZaW _)
noncomputable def namesOf(sc:Scope):List Str:=(sc.names.filter λy=>Qw7 y.2).map (·.1)
noncomputable def Qer(st:Stmt)(Γ:List (Str×FnR))(cs:List (Str×Int)):Th:=⟨namesOf (Ql st),(Ql st).names,Γ,cs,λ_=>none⟩
theorem Qrl{CX:CXT}{xe:Value->Shared->Prop}{st:Stmt}{ps:List Str}{qual:Str}{f:Addr}{cdv:Value}{A:Around}{outer:List Env}{s:Shared}{H:Hp}{E:XK}{k:Nat}{Γ:List (Str×FnR)}{cs:List (Str×Int)}(S:QbI (namesOf (Ql st)) ps (Ql st))(M:QdY mg cs)(tab:QbA P w K mg base k Γ)
  (hr:Qba k (A.deeper (envOfC qual (Ql st) s.heap.objs.size f cdv))) (hp:PassesOwn (model P w) (A.deeper (envOfC qual (Ql st) s.heap.objs.size f cdv)) (envOfC qual (Ql st) s.heap.objs.size f cdv) xe):
  Q7 ((Qdk CX P w K mg base (namesOf (Ql st)) qual (Ql st) f cdv A outer s H E).QfY xe) (Qer st Γ cs) where
 N:=rfl
 nd:=S.nd
 lc:=λx h=>by rw[Qa2]at h;exact h
 ce:=λx h=>by rw[Qa2]at h;exact⟨h,rfl⟩
 fe:=λx h=>by rw[Qa2]at h;exact absurd rfl (S.nofree _ (Zae h))
 gl:=λx h=>by rw[Qa2]at h;exact h
 calm:=decide_eq_true hr.hd
 pass:=hp
 tr:=λ_ _ h=>by cases h
 units:=hr.units
 mg:=M.bn
 fns:=λx r h=>by
  obtain⟨f',fd,ps',h1,h2,h3,h4⟩:=tab x r h;exact⟨k,f',fd,ps',h1,hr,h2,h3,h4⟩
 cs:=M.cs
theorem Quo{st:Stmt}{ps:List Str}{qual:Str}{f:Addr}{cdv:Value}{A:Around}{outer:List Env}{s:Shared}{H:Hp}{E:XK}{k:Nat}{Γ:List (Str×FnR)}{cs:List (Str×Int)}(S:QbI (namesOf (Ql st)) ps (Ql st))(M:QdY mg cs)(tab:QbA P w K mg base k Γ)
  (hr:Qba k (A.deeper (envOfC qual (Ql st) s.heap.objs.size f cdv))):Q7 (Qdk CX0 P w K mg base (namesOf (Ql st)) qual (Ql st) f cdv A outer s H E).nox (Qer st Γ cs):=Qrl S M tab hr PassesOwn.never
theorem Qtb{x qual:Str}{st:Stmt}{f:Addr}{fd:FuncData}{ps:List Str}{k n:Nat}{Γ:List (Str×FnR)}{cs:List (Str×Int)}{g:DS}(F:Fun K x qual st f fd)(S:QbI (namesOf (Ql st)) ps (Ql st))(M:QdY mg cs)(tab:QbA P w K mg base k Γ)
  (hc:QaY n (Qer st Γ cs) (QaM st)=some g):Qcq P w K mg base CX0 (k+1) f fd ps (spV K ps.length (Qs (namesOf (Ql st)).length g)):=by
 refine F.ok S (Qnf rfl) λcdv A outer s H vs Q E hr h=>?_;obtain⟨ds,L,d,fr,rps,hl,hd,q⟩:=h;refine⟨_,(Qjm n).Ss _ _ _ g (Quo S M tab hr) hc H L,?_⟩;obtain⟨F0,rel⟩:=Qgc (N:=namesOf (Ql st)) rps;unfold Qs at hd;refine Qh hd λo ho hd=>?_;refine⟨_,[],F0,o,rel,ho,?_⟩;cases o with
 | nx U=>
  cases hd;exact λσ H' F' rel'=>q .non H' [] ⟨rel'.same,.QlG,λa ha=>by simp at ha,λ_=>⟨ZaD,rfl,λa ha=>by simp at ha⟩⟩
 | bk U=>cases hd
 | ct U=>cases hd
 | rt d' fr'=>
  cases hd;exact λv H' G r=>q v H' G r
structure Fact (K:Fgg) (x:Str) (st:Stmt):Prop where
 ex:∃f fd,Fun K x x st f fd/\PySem.W.nsIn K mainGlobals x=some (some (.ref f))
theorem fact_mk{x:Str}{st:Stmt}{f:Addr}{oc:Value}{od an:Option Addr}{osl:Array (Option Value)}{kV doc pm cdv ct:Value}(a:PySem.W.nsIn K mainGlobals x=some (some (.ref f)))(l:K.lookup f=some ⟨oc,od,.func (PySem.W.fnOf x x (Qfs st) (QaM st) (Ql st) .none kV doc pm an cdv ct),osl⟩)
  (c:PySem.W.codeIn K cdv x=true) (k:PySem.W.keepIn K (.ref f)=true):Fact K x st:=⟨f,_,QzO l c k,a⟩
theorem l0{α:Type}{P:List α->Prop}(h:P []):∀l:List α,l.length=0->P l:=λl e=>(List.length_eq_zero_iff.mp e).symm▸h
theorem lc{α:Type}{n:Nat}{P:List α->Prop}(h:∀a,∀l:List α,l.length=n->P (a::l)):∀l:List α,l.length=n+1->P l
 | a::l,e=>h a l (Nat.succ.inj e)
def Qaf(x:Str)(st:Stmt)(ps:List Str):Prop:=∀(kV doc pm:Value) (an:Option Addr) (cdv ct:Value) (us:List Value),us.length=ps.length->bindArgs (PySem.W.fnOf x x (Qfs st) (QaM st) (Ql st) .none kV doc pm an cdv ct) ⟨us,[]⟩=pure (ps.zip us)
theorem Qcb{h:Heap}{x:Str}{st:Stmt}{ps:List Str}{k n:Nat}{Γ:List (Str×FnR)}{cs:List (Str×Int)}{g:DS}(X:K.In h)(G:h.Ns mainGlobals mg)(F:Fact K x st)(S:QbI (namesOf (Ql st)) ps (Ql st))(B:Qaf x st ps)(M:QdY mg cs)(tab:QbA P w K mg base k Γ)
  (hc:QaY n (Qer st Γ cs) (QaM st)=some g):Known P w K mg base (k+1) x ⟨ps.length,[],Qs (namesOf (Ql st)).length g⟩:=by
 obtain⟨f,fd,Fn,a⟩:=F.ex;refine⟨f,fd,ps,Qtb Fn S M tab hc,ZaM X G a,Fn.kp,λm hm=>⟨[],[],Fn.binds (B ·),.nil,λH=>by simp[Rps]⟩⟩
end
end HS
namespace HS
open PySem PySem.Spec L2 PyProof.Rows
theorem Qwh{l:PySem.W.OpenLaw}{k:Nat}{q:Program}{loose:List Str}{XP:(Str->Option Value)->Heap->Prop}{YP:World->Heap->Prop}{d:DefRec}{K:Params->PySem.W.Frag}{den:Den}{x:Str}
  (hn:l.most=some 63) (hdf:d.params.defaults=[]) (hr:Qba k callerA) (hY:∀(w:World) (h:Heap),YP w h->(K w.params).In h)
  (hden:∀ns:List Int,ns.length<=63->∃fr,den [.lst (ns.map .int)]=some (.bl true,fr))
  (F:∀(w:World) (mg:Str->Option Value) (fa:Addr) (h:Heap),(K w.params).In h->h.Ns mainGlobals mg->mg d.name=some (.ref fa)→
   ∃fd:FuncData,(∀(s:Shared) (u:Value),BindsTo s fd ⟨[u],[]⟩ [(x,u)])∧
    ∀base:Heap,(K w.params).In base->base.Ns mainGlobals mg->Qcq l.prog w (K w.params) mg base CX0 k fa fd [x] (spV (K w.params) 1 den)):
  PySem.W.WalkO q loose XP YP l.row.toRowW d [] (λf vs=>PySem.call f vs):=by
 refine Att.Qqm hn hdf λw s₀ s₁ mg mb fa o pm cd doc a vs ns G Y ho hd hcd hmg hobj hints hlen hg=>?_;have KX:=hY w _ Y;obtain⟨fd,hb,hF⟩:=F w mg fa _ KX G.T.g hmg;have h63:(63:Nat)<=sizeLine:=by decide
 refine QuQ KX G.T.g G.T.b G.T.builtins G.T.nolimit hg hobj hints (ZC hlen h63) hr hF hb (λH hO hS=>?_) λH e s' z=>z;have fx:Fix (K w.params) H a (ns.map V.int):=by
  rcases hS with(h | ⟨o,h⟩) | ⟨o,its,n,hk,hc,hdn,hda,hz,rv⟩
  ·rcases hO a with z | ⟨o,xs,z⟩<;>rw[h]at z<;>cases z
  ·exact .inl ⟨o,h⟩
  ·have e:=KX a o hk;rw[hobj]at e;cases e;cases hda;exact .inr ⟨vs,_,hk,by rw[Zl];exact ZC hlen h63,by simpa using rv⟩
 obtain⟨fr,hfr⟩:=hden ns hlen;have rp:Rp (K w.params) H (.lst (ns.map .int)) (.ref a) []:=by
  simp only[Rp];refine⟨by rw[Zl];exact ZC hlen h63,a,_,rfl,.inr ⟨fx,?_⟩⟩;have gen:∀ns:List Int,Rps (K w.params) H (ns.map .int) (ns.map .int) []:=by
   intro ns
   induction ns with
   | nil=>simp[Rps]
   | cons n ns ih=>simp only[Zp,Rps];exact⟨_,_,[],[],rfl,rfl,.int_mk,ih⟩
  exact gen ns
 refine⟨[.lst (ns.map .int)],[],.bl true,fr,?_,rfl,hfr,λv H' G r=>r.rp.Qfz⟩;simp only[Rps];exact⟨_,_,[],[],rfl,rfl,rp,rfl,rfl⟩
theorem QB4{P:Program}{w:World}{K:Fgg}{mg:Str->Option Value}{h:Heap}{x y:Str}{st:Stmt}{fa:Addr}{k n:Nat}{Γ:List (Str×FnR)}{cs:List (Str×Int)}{g:DS}(X:K.In h)(G:h.Ns mainGlobals mg)(hmg:mg x=some (.ref fa))
  (F:Fact K x st) (S:QbI (namesOf (Ql st)) [y] (Ql st)) (B:Qaf x st [y]) (M:QdY mg cs) (tab:∀base:Heap,QbA P w K mg base k Γ) (hc:QaY n (Qer st Γ cs) (QaM st)=some g):
  ∃fd:FuncData,(∀(s:Shared) (u:Value),BindsTo s fd ⟨[u],[]⟩ [(y,u)])∧
    ∀base:Heap,K.In base->base.Ns mainGlobals mg->Qcq P w K mg base CX0 (k+1) fa fd [y] (spV K 1 (Qs (namesOf (Ql st)).length g)):=by
 obtain⟨f,fd,Fn,a⟩:=F.ex;have e:=hmg.symm.trans (ZaM X G a);cases e;refine⟨fd,λs u=>?_,λbase _ _=>Qtb Fn S M (tab base) hc⟩;obtain⟨oc,od,kV,doc,pm,an,cdv,ct,osl,rfl,lk,hcd⟩:=Fn.ex;exact .of_eq (B kV doc pm an cdv ct [u] rfl)
end HS
namespace HS
open PySem PySem.Spec PyProof.Rows L2
section
variable {P:Program}{w:World}{K:Fgg}{mg:Str->Option Value}{base:Heap}
end
end HS
namespace HS
open PySem L2
noncomputable def pairD(p:Int×Int):D:= .tup [.int p.1,.int p.2]
noncomputable def Qdl(p:Int×Int×Bool):D:= .tup [.int p.1,.int p.2.1,.bl p.2.2]
noncomputable def QO(ns:List Int):D:= .lst (ns.map .int)
noncomputable def Qao(ps:Lpp):D:= .lst (ps.map pairD)
noncomputable def Qj(m:Int)(R L:Lpp):D:= .tup [.int m,Qao R,Qao L]
theorem Qbl{α:Type}{f:α->D}(h:∀a,(f a).flat=true):∀l:List α,QT (l.map f)=true
 | []=>rfl
 | a::l=>by simp[QT,h a,Qbl h l]
@[simp] theorem QCZ(i:Int):(D.int i).flat=true:=rfl
@[simp] theorem QDA(i:Bool):(D.bl i).flat=true:=rfl
@[simp] theorem QDr:D.non.flat=true:=rfl
@[simp] theorem QC7(x:Str):(D.str x).flat=true:=rfl
@[simp] theorem QDt(xs:List D):(D.lst xs).flat=false:=rfl
@[simp] theorem QDy(xs:List D):(D.tup xs).flat=QT xs:=rfl
@[simp] theorem QCF:QT []=true:=rfl
@[simp] theorem QBX(d:D)(ds:List D):QT (d::ds)=(d.flat && QT ds):=rfl
@[simp] theorem QCC(p:Int×Int):(pairD p).flat=true:=rfl
@[simp] theorem QC9(p:Int×Int×Bool):(Qdl p).flat=true:=rfl
@[simp] theorem QCD(ns:List Int):(QO ns).flat=false:=rfl
@[simp] theorem QCg(ns:Lpp):(Qao ns).flat=false:=rfl
@[simp] theorem QBu(ps:Lpp):QT (ps.map pairD)=true:=Qbl (λ_=>rfl) _
@[simp] theorem QrM(ps:List (Int×Int×Bool)):QT (ps.map Qdl)=true:=Qbl (λ_=>rfl) _
@[simp] theorem Qry(ns:List Int):QT (ns.map .int)=true:=Qbl (λ_=>rfl) _
@[simp] theorem QCG(xs ys:List D):QT (xs++ys)=(QT xs && QT ys):=QcR xs ys
def Run(f:DS)(U:En)(Q:Out->Prop):Prop:=∃o,f U=some o/\Q o
noncomputable def Nx(Q:En->Prop):Out->Prop
 | .nx U=>Q U
 | _=>False
noncomputable def Rt(Q:D->Bool->Prop):Out->Prop
 | .rt d fr=>Q d fr
 | _=>False
theorem Run.mono(h:Run f U Q)(m:∀o,Q o->Q' o):Run f U Q':=let ⟨o,h1,h2⟩:=h;⟨o,h1,m o h2⟩
theorem Qu(h:Q (.nx U)):Run Qi U Q:=⟨_,rfl,h⟩
theorem run_seq(h:Run f U (Nx λU'=>Run g U' Q)):Run (Qc f g) U Q:=by
 obtain⟨o,h1,h2⟩:=h;cases o with
 | nx U'=>
  obtain⟨o',h3,h4⟩:=h2;exact⟨o',by simp[Qc,h1,h3],h4⟩
 | _=>exact False.elim h2
theorem Qy(h:Run f U λo=>match o with | .nx U'=>Run g U' Q | o=>Q o):Run (Qc f g) U Q:=by
 obtain⟨o,h1,h2⟩:=h;cases o with
 | nx U'=>
  obtain⟨o',h3,h4⟩:=h2;exact⟨o',by simp[Qc,h1,h3],h4⟩
 | bk U'=>exact⟨_,by simp[Qc,h1],h2⟩
 | ct U'=>exact⟨_,by simp[Qc,h1],h2⟩
 | rt d fr=>exact⟨_,by simp[Qc,h1],h2⟩
theorem QL(h:fa U=some r)(q:Q (.nx (asg i r U))):Run (Qt i fa) U Q:=⟨_,by simp[Qt,h],q⟩
theorem Qbo(h:fa U=some r)(q:Q (.rt r.d (r.norm.fr && decide r.norm.M.Nodup))):Run (QB fa) U Q:=⟨_,by simp[QB,h],q⟩
theorem QY(h:g U=some b)(q1:b=true->Run f1 U Q)(q2:b=false->Run f2 U Q):Run (sIf g f1 f2) U Q:=by
 cases b with
 | true=>obtain⟨o,h1,h2⟩:=q1 rfl;exact⟨o,by simp[sIf,h,h1],h2⟩
 | false=>obtain⟨o,h1,h2⟩:=q2 rfl;exact⟨o,by simp[sIf,h,h1],h2⟩
theorem QU(h:Run f (Qav k ds) (Rt λd' fr'=>d'=d/\fr'=fr)):Qs k f ds=some (d,fr):=by
 obtain⟨o,h1,h2⟩:=h;unfold Qs;cases o with
 | rt d' fr'=>obtain⟨rfl,rfl⟩:=h2;rw[h1];rfl
 | _=>exact False.elim h2
theorem Qo4{α:Type}{t:Tg}{fb:DS}{toD:α->D}{Q:Out->Prop}(I:Nat->En->Prop):∀(xs ys:List α) (U:En),I ys.length U→
  (∀i x U,(ys++xs)[i]? =some x->ys.length<=i->I i U->∃U1,QbB t (toD x) U=some U1/\Run fb U1 λo=>match o with | .nx U2=>I (i+1) U2 | .ct U2=>I (i+1) U2 | .bk U2=>Q (.nx U2) | .rt d fr=>Q (.rt d fr))→
  (∀U,I (ys++xs).length U->Q (.nx U))->Run (Qdc t fb (xs.map toD)) U Q
 | [],ys,U,h0,_,fin=>⟨_,rfl,fin U (by simpa using h0)⟩
 | x::xs,ys,U,h0,turn,fin=>by
  obtain⟨U1,h1,o,h2,h3⟩:=turn ys.length x U (by simp) (Zj _) h0;have next:∀U2,I (ys.length+1) U2->Run (Qdc t fb (xs.map toD)) U2 Q:=λU2 hi=>
   Qo4 I xs (ys++[x]) U2 (by simpa using hi) (λi y U' e hl=>turn i y U' (by simpa using e) (by simp at hl;omega)) (λU' h=>fin U' (by simpa using h))
  cases o with
  | nx U2=>obtain⟨o',e1,e2⟩:=next U2 h3;exact⟨o',by simp[Qdc,h1,h2,e1],e2⟩
  | ct U2=>obtain⟨o',e1,e2⟩:=next U2 h3;exact⟨o',by simp[Qdc,h1,h2,e1],e2⟩
  | bk U2=>exact⟨_,by simp[Qdc,h1,h2],h3⟩
  | rt d fr=>exact⟨_,by simp[Qdc,h1,h2],h3⟩
theorem Qa0{α:Type}{fi:DI}{t:Tg}{fb:DS}{toD:α->D}{U:En}{ir:IR}{Q:Out->Prop}(xs:List α)(I:Nat->En->Prop)(h:fi U=some ir)(hx:ir.items=xs.map toD)(h0:I 0 (Qa7 ir.M U))
  (turn:∀i x U,xs[i]? =some x->I i U->∃U1,QbB t (toD x) U=some U1/\Run fb U1 λo=>match o with | .nx U2=>I (i+1) U2 | .ct U2=>I (i+1) U2 | .bk U2=>Q (.nx U2) | .rt d fr=>Q (.rt d fr))
  (fin:∀U,I xs.length U->Q (.nx U)):Run (Qbh fi t fb) U Q:=by
 obtain⟨o,h1,h2⟩:=Qo4 (t:=t) (fb:=fb) (toD:=toD) (Q:=Q) I xs [] (Qa7 ir.M U) h0 (λi x U e _=>turn i x U (by simpa using e)) (λU h=>fin U (by simpa using h));exact⟨o,by simp[Qbh,h,hx,h1],h2⟩
theorem Qno{α:Type}{t:Tg}{ft:DT}{fe:DE}{Uc:En}{toD:α->D}{keep:α->Bool}{out:α->D}:∀(xs:List α) (acc:List D),
  (∀x∈xs,∃U1,QbB t (toD x) Uc=some U1/\ft U1=some (keep x)/\(keep x=true->∃r,fe U1=some r/\r.d=out x/\r.norm.fr=true))→
  (xs.map toD).foldlM (Qgp t ft fe Uc) (acc,true)=some (acc++(xs.filter keep).map out,true)
 | [],acc,_=>by simp
 | x::xs,acc,h=>by
  obtain⟨U1,h1,h2,h3⟩:=h x Zg;have ih:=λacc=>Qno xs acc (λy hy=>h y (Zc _ hy));cases hk:keep x with
  | false=>
   have e:Qgp t ft fe Uc (acc,true) (toD x)=some (acc,true):=by simp[Qgp,h1,h2,hk]
   simp[ZbU,e,ih,hk]
  | true=>
   obtain⟨r,h4,h5,h6⟩:=h3 hk;have e:Qgp t ft fe Uc (acc,true) (toD x)=some (acc++[out x],true):=by simp[Qgp,h1,h2,hk,h4,h5,h6]
   simp[ZbU,e,ih,hk]
theorem Qjy{α:Type}{fi:DI}{t:Tg}{cap:List (Option Nat)}{ft:DT}{fe:DE}{U:En}{ir:IR}{toD:α->D}{keep:α->Bool}{out:α->D}(xs:List α)(h:fi U=some ir)(hx:ir.items=xs.map toD)
  (turn:∀x∈xs,∃U1,QbB t (toD x) (Qfm cap U)=some U1/\ft U1=some (keep x)/\(keep x=true->∃r,fe U1=some r/\r.d=out x/\r.norm.fr=true)):
  QQ fi t cap ft fe U=some ⟨.lst ((xs.filter keep).map out),true,[]⟩:=by
 unfold QQ;rw[h,Za,hx,Qno xs [] turn];simp
theorem QS{α:Type}{fi:DI}{t:Tg}{cap:List (Option Nat)}{fe:DE}{U:En}{ir:IR}{toD:α->D}{out:α->D}(xs:List α)(h:fi U=some ir)(hx:ir.items=xs.map toD)
  (turn:∀x∈xs,∃U1,QbB t (toD x) (Qfm cap U)=some U1/\∃r,fe U1=some r/\r.d=out x/\r.norm.fr=true):
  QQ fi t cap Q8 fe U=some ⟨.lst (xs.map out),true,[]⟩:=by
 have:=Qjy (keep:=λ_=>true) (ft:=Q8) xs h hx (cap:=cap) (t:=t) (fe:=fe) (out:=out) λx hx=>by
  obtain⟨U1,h1,h2⟩:=turn x hx;exact⟨U1,h1,rfl,λ_=>h2⟩
 rw[this,List.filter_eq_self.mpr λ_ _=>rfl]
@[simp] theorem QCL(d:D):R.norm ⟨d,true,[]⟩=⟨d,true,[]⟩:=by unfold R.norm;split<;>rfl
@[simp] theorem Qbb(i:Nat)(d:D)(U:En):asg i ⟨d,true,[]⟩ U=U.set i (some (d,true)):=by unfold asg;simp[kill]
theorem rsa{i:Nat}{fa:DE}{g:DS}{U:En}{d:D}{Q:Out->Prop}(h:fa U=some ⟨d,true,[]⟩)(q:Run g (U.set i (some (d,true))) Q):Run (Qc (Qt i fa) g) U Q:=run_seq (QL h (by rw[Qbb];exact q))
theorem Qky{n k k1:Nat}(h:(List.range n)[k]? =some k1):k<n/\k=k1:=by
 obtain⟨h1,h2⟩:=Zm.mp h;simp at h1 h2;exact⟨h1,h2⟩
theorem Qex{i:Nat}{d:D}{fr:Bool}{M:List Nat}{U:En}(h:d.flat=true):asg i ⟨d,fr,M⟩ U=U.set i (some (d,true)):=by
 unfold asg R.norm;simp[h,kill]
theorem Qbw{i:Nat}{U:En}{d:D}{b:Bool}(h:U[i]? =some (some (d,b))):Qq i U=some (if d.flat then⟨d,true,[]⟩else if b then⟨d,true,[i]⟩else⟨d,false,[]⟩):=by
 unfold Qq;rw[h];dsimp only;split
 ·simp_all
 ·split<;>simp_all
theorem Qud{i:Nat}{U:En}{n:Int}{b:Bool}(h:U[i]? =some (some (.int n,b))):Qq i U=some (reI n):=by rw[Qbw h];rfl
@[simp] theorem Qje(d:D)(U:En):dC d U=some ⟨d,true,[]⟩:=rfl
theorem QaR{g:D->D->Option D}{fa fb:DE}{U:En}{ra rb:R}{d:D}(ha:fa U=some ra)(hb:fb U=some rb)(h:g ra.d rb.d=some d):dOp g fa fb U=some ⟨d,true,[]⟩:=by simp[dOp,ha,hb,h]
theorem Qm{fa:DE}{fs:DA}{U:En}{r:R}{rs:RA}(ha:fa U=some r)(hs:fs U=some rs):Qa fa fs U=some ⟨r.d::rs.ds,r.fr && rs.fr,r.M++rs.M⟩:=by simp[Qa,ha,hs]
@[simp] theorem QJ(U:En):Qb U=some ⟨[],true,[]⟩:=rfl
noncomputable def vf(d:D)(b:Bool)(i:Nat):R:=if d.flat then⟨d,true,[]⟩else if b then⟨d,true,[i]⟩else⟨d,false,[]⟩
@[simp] theorem QDC(d:D)(b:Bool)(i:Nat):(vf d b i).d=d:=by unfold vf;split;rfl;split<;>rfl
@[simp] theorem QwU(i j:Int)(h:0<=j):QdF i j=i % j:=by unfold QdF;rw[if_pos h]
@[simp] theorem QkW(i j:Int)(h:0<=j):QdX i j=i / j:=by unfold QdX;rw[if_pos h]
theorem Qfw{i j:Int}(h:i.natAbs<2^64):Qeq i j=true:=by unfold Qeq;simp[h]
theorem Qez{i j:Int}(h:j.natAbs<2^64):Qeq i j=true:=by unfold Qeq;simp[h]
theorem Qjp{i j:Int}(h1:Builtin.Int.intBits i<=2^20)(h2:Builtin.Int.intBits j<=2^20):Qeq i j=true:=by
 unfold Qeq;rw[decide_eq_true h1,decide_eq_true h2,Bool.and_self,Bool.or_true]
theorem Qfe:(sizeLine:Nat)=16777216:=sizeLine_eq
noncomputable def Qd(m:Nat)(f:Mt1):D:= .lst ((List.range m).map λi=> .int (f i))
noncomputable def QK(m n:Nat)(f:Mt2):D:= .lst ((List.range m).map λi=>Qd n (f i))
@[simp] theorem QDo(m:Nat)(f:Mt1):(Qd m f).flat=false:=rfl
@[simp] theorem QCP(m n:Nat)(f:Mt2):(QK m n f).flat=false:=rfl
@[simp] theorem QtK(m:Nat)(f:Mt1):QT ((List.range m).map λi=>D.int (f i))=true:=Qbl (f:=λi=>D.int (f i)) (λ_=>rfl) _
noncomputable def up(f:Mt1)(i:Nat)(v:Int):Nat->Int:=λj=>if j=i then v else f j
noncomputable def up2(f:Mt2)(i j:Nat)(v:Int):Nat->Nat->Int:=λk=>if k=i then up (f k) j v else f k
theorem Qfu{n:Nat}{i:Int}(h0:0<=i)(h:i<n):ixN n i=some i.toNat:=by
 unfold ixN;rw[if_pos ⋯,if_pos ⋯]
theorem QgY{α:Type}{xs:List α}{i:Int}(h0:0<=i)(h:i<xs.length):atI xs i=xs[i.toNat]? :=by
 unfold atI;rw[Qfu h0 h];rfl
theorem Qh8{α:Type}{m:Nat}{f:Nat->α}{i:Nat}{v:α}:((List.range m).map f).set i v=(List.range m).map λj=>if j=i then v else f j:=by
 apply ZaK;intro k;rw[List.getElem?_set];simp only[Zl,ZI,Zs];by_cases hk:k<m
 ·rw[ZS hk];by_cases e:i=k
  ·subst e;simp[hk]
  ·simp[e,Ne.symm e]
 ·rw[ZA (by simp;omega)];by_cases e:i=k
  ·subst e;simp[hk]
  ·simp[e]
theorem QmD{m:Nat}{f:Mt1}{i:Nat}{v:Int}:((List.range m).map λj=>D.int (f j)).set i (.int v)=(List.range m).map λj=>D.int (up f i v j):=by
 rw[Qh8];congr 1;funext j;unfold up;split<;>rfl
theorem QqK{m:Nat}{f:Mt1}{i:Int}(h0:0<=i)(h:i<m):atI ((List.range m).map λj=>D.int (f j)) i=some (.int (f i.toNat)):=by
 rw[QgY h0 (by simpa using h),Zs,ZS ⋯];rfl
theorem QqG{m n:Nat}{f:Mt2}{i:Int}(h0:0<=i)(h:i<m):atI ((List.range m).map λj=>Qd n (f j)) i=some (Qd n (f i.toNat)):=by
 rw[QgY h0 (by simpa using h),Zs,ZS ⋯];rfl
theorem Qwf{x m:Nat}{f:Mt1}{fi fa:DE}{U:En}{i:Int}{v:Int}{ri ra:R}{Q:Out->Prop}(hx:U[x]? =some (slT (Qd m f)))(hi:fi U=some ri)(ei:ri.d= .int i)(ha:fa U=some ra)(ea:ra.d= .int v)(h0:0<=i)(h:i<m)
  (q:Q (.nx (U.set x (slT (Qd m (up f i.toNat v)))))):Run (QcG x Qa8 fi fa) U Q:=by
 refine⟨_,?_,q⟩;have hn:ra.norm=(reI v):=by unfold R.norm;rw[ea];rfl
 unfold QcG;rw[ha,Za,hx];simp only[Qa8,Za,hi,ei,QcM,Qd,Zl,ZI,Qfu h0 h,hn,ea,QbT,QmD];simp[kill]
theorem QpC{g:D->D->Option D}{x m:Nat}{f:Mt1}{fi fa:DE}{U:En}{i w:Int}{ri ra:R}{Q:Out->Prop}(hx:U[x]? =some (slT (Qd m f)))(hi:fi U=some ri)(ei:ri.d= .int i)(ha:fa U=some ra)(h0:0<=i)(h:i<m)
  (hg:g (.int (f i.toNat)) ra.d=some (.int w)) (q:Q (.nx (U.set x (slT (Qd m (up f i.toNat w)))))):Run (Qdz g x Qa8 fi fa) U Q:=by
 refine⟨_,?_,q⟩;have hj:((List.range m).map λj=>D.int (f j))[i.toNat]? =some (.int (f i.toNat)):=by rw[Zs,ZS ⋯];rfl
 unfold Qdz;rw[hx];simp only[Qa8,Za,hi,ei,QcM,Qd,Zl,ZI,Qfu h0 h,hj,ha,hg,QbT,QmD,ZR]
theorem QpW{g:D->D->Option D}{x m n:Nat}{f:Mt2}{fp fi fa:DE}{U:En}{i j w:Int}{rp ri ra:R}{Q:Out->Prop}(hx:U[x]? =some (slT (QK m n f)))(hp:fp U=some rp)(ep:rp.d= .int i)(hi:fi U=some ri)(ei:ri.d= .int j)(ha:fa U=some ra)
  (h0:0<=i) (h:i<m) (k0:0<=j) (k:j<n) (hg:g (.int (f i.toNat j.toNat)) ra.d=some (.int w)) (q:Q (.nx (U.set x (slT (QK m n (up2 f i.toNat j.toNat w)))))):Run (Qdz g x (QjO Qa8 fp) fi fa) U Q:=by
 refine⟨_,?_,q⟩;have hj:((List.range n).map λk=>D.int (f i.toNat k))[j.toNat]? =some (.int (f i.toNat j.toNat)):=by rw[Zs,ZS ⋯];rfl
 have hd:QcM (QK m n f) [i]=some (Qd n (f i.toNat)):=by
  simp only[QcM,QK,D.items,Za,QqG h0 h]
 have hu:QbT [i] (QK m n f) (.lst (((List.range n).map λk=>D.int (f i.toNat k)).set j.toNat (.int w)))=QK m n (up2 f i.toNat j.toNat w):=by
  simp only[QbT,QK,Zl,ZI,Qfu h0 h,QmD];rw[Qh8];congr 2;funext k;unfold up2;split
  ·rename_i e;subst e;rfl
  ·rfl
 unfold Qdz;rw[hx];simp only[QjO,Qa8,Za,hp,ep,List.nil_append,hi,ei,hd,Qd,Zl,ZI,Qfu k0 k,hj,ha,hg,ZR];rw[hu]
theorem Qev{n:Nat}(h:fa U=some r)(e:r.d= .int n)(hn:n<=16777216):Qcz fa U=some ⟨(List.range n).map λ(k:Nat)=> .int (k:Int),[]⟩:=by
 unfold Qcz;rw[h,Za,e];dsimp only;rw[if_pos ⟨⋯,⋯⟩];simp[Qim]
theorem Qrr{α:Type}(x:α):∀n:Nat,(List.replicate n [x]).flatten=(List.range n).map λ_=>x
 | 0=>rfl
 | n+1=>by
  rw[Zai,Zal,Qrr x n,Zcb,Zp,ZY];rfl
theorem Qiw{n:Nat}(h:fb U=some r)(e:r.d= .int n)(hn:n<=16777216):Qaz (QN (Qa (dC (.int z)) Qb)) fb U=some (reT (Qd n (λ_=>z))):=by
 have h1:QN (Qa (dC (.int z)) Qb) U=some (reT (.lst [.int z])):=rfl;unfold Qaz;rw[h1,Za,h,Za,e];dsimp only;rw[if_pos ⟨by simp[Qfe];omega,⋯,⋯,rfl⟩];simp only[ZL,Qrr];rfl
noncomputable def QmN:DS:=(Qc (Qt 2 (QQ (Qar vv0) (.tp [1,2]) [none,none,none] Q8 (QaF (Qa vv1 (Qa vv2 Qb))))) (Qc (Qt 3 (QQ (Qar vv0) (.tp [1,2]) [none,none,none] Q8 (QaF (Qa vv2 (Qa vv1 Qb))))) (Qc (QB (QI (QI vv2 vv3) (dList (Qa vv1 Qb)))) Qi)))
theorem Qrp(ha:fa U=some ra)(ea:ra.d=Qao A)(hb:fb U=some rb)(eb:rb.d=Qao B)(hl:A.length+B.length<=16777216):QI fa fb U=some (reT (Qao (A++B))):=by
 unfold QI;rw[ha,Za,hb,Za,ea,eb];simp only[Qao,Zl,Qfe,if_pos hl,Qat];simp
theorem Qwo(h:fs U=some rs)(e:rs.ds=[Qao A])(_:True=True):dList fs U=some (reT (Qao A)):=by
 unfold dList;rw[h,Za,e];simp[Qao,Qat]
theorem QF(h:fa U=some r)(q:Q r.d (r.norm.fr && decide r.norm.M.Nodup)):Run (Qc (QB fa) g) U (Rt Q):=Qy (Qbo h q)
theorem QsA{R L:Lpp}(hl:R.length+R.length+L.length<=16777216):Qs 4 QmN [Qao R,Qao L]=slT (Qao (R++R.map Prod.swap++L)):=by
 refine QU ?_;refine run_seq (QL (QS R rfl rfl λx _=>⟨[none,slI x.1,slI x.2],rfl,⟨pairD x,true,[]⟩,rfl,rfl,rfl⟩) ?_);refine run_seq (QL (QS R rfl rfl λx _=>⟨[none,slI x.1,slI x.2],rfl,⟨pairD x.swap,true,[]⟩,rfl,rfl,rfl⟩) ?_);have e1:(R.map λx=>pairD x.swap)=(R.map Prod.swap).map pairD:=by simp[ZY,Function.comp_def]
 rw[e1];exact QF (Qrp (Qrp rfl rfl rfl rfl (by simpa using(by omega:R.length+R.length<=16777216))) rfl (Qwo rfl rfl rfl) rfl (by simpa using hl)) ⟨rfl,rfl⟩
theorem Qp(h:fs U=some r)(hd:den (r.ds++dfl)=some (d,true))(hl:r.ds.length+dfl.length=n):Qg n den dfl fs U=some ⟨d,true,[]⟩:=by
 unfold Qg;rw[h,Za,if_pos hl,hd];simp
theorem Qa1(h:fa U=some r)(e:r.d= .lst xs):Qar fa U=some ⟨xs,r.M⟩:=by
 unfold Qar;rw[h,Za,e]
noncomputable def stepT(m:Nat)(f:Mt2)(s:Int×Int):Nat->Nat->Int:=
 let f1:=if s.1<m then up2 f s.1.toNat s.1.toNat (f s.1.toNat s.1.toNat-1)else f
 if s.1<m/\s.2<m then up2 f1 s.1.toNat s.2.toNat (f1 s.1.toNat s.2.toNat+1)else f1
noncomputable def Qf(m:Nat)(S:Lpp):Nat->Nat->Int:=S.foldl (stepT m) λ_ _=>0
noncomputable def QfF(QdP:Den):DS:=(Qc (Qt 1 (QbP (Qv vv0 kk0))) (Qc (Qt 2 (QQ (Qcz vv1) (.nm 1) [none,none,some 1] Q8 (Qaz (QN (Qa kk0 Qb)) vv2))) (Qc (Qbh (Qar (Qg 2 QdP [] (Qa (Qv vv0 kk1) (Qa (Qv vv0 kk2) Qb)))) (.tp [3,4]) (Qc (sIf (QC (dOp gLt vv3 vv1)) (Qc (Qdz QaI 2 (QjO Qa8 vv3) vv3 kk1) Qi) Qi) (Qc (sIf (QhI (QC (dOp gLt vv3 vv1)) (QC (dOp gLt vv4 vv1))) (Qc (Qdz (gI λi j=>some (.int (i+j))) 2 (QjO Qa8 vv3) vv4 kk1) Qi) Qi) Qi))) (Qc (QB vv2) Qi))))
theorem Qwx{QdP:Den}{m:Nat}{R L S:Lpp}(hm:m<=16777216)(hs:QdP [Qao R,Qao L]=slT (Qao S))(hS:∀s∈S,0<=s.1/\0<=s.2):Qs 5 (QfF QdP) [Qj m R L]=slT (QK m m (Qf m S)):=by
 refine QU ?_;refine run_seq (QL rfl ?_);refine run_seq (QL (QS (List.range m) (Qev rfl rfl hm) rfl λx _=>⟨[none,slI x,slI m],rfl,_,Qiw rfl rfl hm,rfl,rfl⟩) ?_);refine run_seq (Qa0 S (λi U=>∃j1 j2,U=[slF (Qj m R L),slI m,slT (QK m m (Qf m (S.take i))),j1,j2]) (ir:=⟨S.map pairD,[]⟩) ?_ rfl ⟨none,none,rfl⟩ ?_ ?_)
 ·exact Qa1 (Qp (r:=⟨[Qao R,Qao L],false,[]⟩) rfl hs rfl) rfl
 ·rintro i s U hi ⟨j1,j2,rfl⟩;refine⟨_,rfl,?_⟩;obtain⟨s1,s2⟩:=hS s (Zaj hi);refine run_seq (Run.mono (Q:=Nx λU=>U=[slF (Qj m R L),slI m,slT (QK m m (if s.1<m then up2 (Qf m (S.take i)) s.1.toNat s.1.toNat (Qf m (S.take i) s.1.toNat s.1.toNat-1)else Qf m (S.take i))),slI s.1,slI s.2]) ?_ ?_)
  ·refine QY rfl (λh=>?_) (λh=>?_)
   ·have h:=of_decide_eq_true h;rw[if_pos h];exact run_seq (QpW rfl rfl rfl rfl rfl rfl s1 h s1 h rfl (Qu rfl))
   ·have h:=of_decide_eq_false h;rw[if_neg h];exact Qu rfl
  ·intro o ho;cases o with
   | nx U=>
    subst ho;have fin:Qf m (S.take (i+1))=stepT m (Qf m (S.take i)) s:=by
     unfold Qf;rw[List.take_add_one,hi,List.foldl_append];rfl
    refine run_seq (Run.mono (Q:=Nx λU=>U=[slF (Qj m R L),slI m,slT (QK m m (stepT m (Qf m (S.take i)) s)),slI s.1,slI s.2]) ?_ ?_)
    ·refine QY (b:=decide (s.1<m/\s.2<m)) ?_ (λh=>?_) (λh=>?_)
     ·by_cases h:s.1<(m:Int)
      ·simp[QhI,QC,dOp,Qq,gLt,gI,D.tru,h]
      ·simp[QhI,QC,dOp,Qq,gLt,gI,D.tru,h]
     ·have h:=of_decide_eq_true h;refine run_seq (QpW rfl rfl rfl rfl rfl rfl s1 h.1 s2 h.2 rfl (Qu ?_));unfold stepT;rw[if_pos h];rfl
     ·have h:=of_decide_eq_false h;refine Qu ?_;unfold stepT;rw[if_neg h];rfl
    ·intro o ho;cases o with
     | nx U=>
      subst ho;exact Qu ⟨_,_,by rw[fin]⟩
     | _=>exact False.elim ho
   | _=>exact False.elim ho
 ·rintro U ⟨j1,j2,rfl⟩;rw[ZbW];exact QF rfl ⟨rfl,rfl⟩
noncomputable def hit(i j:Nat)(s:Int×Int):Int:=(if s.1=i/\s.2=j then 1 else 0)-(if s.1=i/\i=j then 1 else 0)
theorem Qrk:up2 f a b v i j=if i=a/\j=b then v else f i j:=by
 unfold up2 up;by_cases h1:i=a
 ·by_cases h2:j=b
  ·simp[h1,h2]
  ·simp[h1,h2]
 ·simp[h1]
theorem Qt6(hi:i<m)(hj:j<m)(h1:0<=s.1)(h2:0<=s.2):stepT m f s i j=f i j+hit i j s:=by
 unfold stepT hit;have e1:(s.1=(i:Int))↔(i=s.1.toNat):= ⋯
 have e2:(s.2=(j:Int))↔(j=s.2.toNat):= ⋯
 simp only[e1,e2];by_cases c1:s.1<(m:Int)
 ·by_cases c2:s.2<(m:Int)
  ·simp only[c1,c2,and_self,if_true,Qrk];generalize s.1.toNat=a;generalize s.2.toNat=b;by_cases d1:i=a
   ·subst d1;by_cases d2:j=b
    ·subst d2;by_cases d3:i=j
     ·subst d3;simp
     ·have d4:¬j=i:=λz=>d3 z.symm;simp[d3,d4]
    ·by_cases d3:i=j
     ·subst d3;simp[d2];omega
     ·have d4:¬j=i:=λz=>d3 z.symm;simp[d2,d3,d4]
   ·simp[d1]
  ·have d2:¬(j=s.2.toNat):= ⋯
   simp only[c1,c2,and_false,if_false,if_true,Qrk,d2];generalize s.1.toNat=a;by_cases d1:i=a
   ·subst d1;by_cases d3:i=j
    ·subst d3;simp;omega
    ·have d4:¬j=i:=λz=>d3 z.symm;simp[d3,d4]
   ·simp[d1]
 ·have d1:¬(i=s.1.toNat):= ⋯
  simp[c1,d1]
theorem Qnq(hi:i<m)(hj:j<m):∀(S:Lpp) (f:Mt2),(∀s∈S,0<=s.1/\0<=s.2)->S.foldl (stepT m) f i j=f i j+(S.map (hit i j)).sum
 | [],f,_=>by simp
 | s::S,f,h=>by
  obtain⟨h1,h2⟩:=h s Zg;rw[List.foldl_cons,Qnq hi hj S _ (λt ht=>h t (Zc _ ht)),Qt6 hi hj h1 h2,Zp,ZK];omega
theorem Qbu(hi:i<m)(hj:j<m)(h:∀s∈S,0<=s.1/\0<=s.2):Qf m S i j=(S.map (hit i j)).sum:=by
 unfold Qf;rw[Qnq hi hj S _ h];simp
noncomputable def isI(i:Nat)(a:Int):Int:=if a=i then 1 else 0
noncomputable def QE(R L:Lpp)(i:Nat):Int:=(R.map λr=>isI i r.1+isI i r.2).sum+(L.map λl=>isI i l.1).sum
theorem sum_neg(S:Lpp)(i:Nat)(h:∀s∈S,s.1≠s.2):(S.map (hit i i)).sum= -(S.map λs=>isI i s.1).sum:=by
 induction S with
 | nil=>rfl
 | cons s S ih=>
  rw[Zp,ZK,ih λt ht=>h t (Zc _ ht),Zp,ZK];have hn:=h s Zg;unfold hit isI;by_cases e:s.1=(i:Int)
  ·have:¬(s.2=(i:Int)):=λz=>hn (e.trans z.symm);simp[e,this];omega
  ·simp[e]
noncomputable def Qe(R L:Lpp):List (Int×Int):=R++R.map Prod.swap++L
theorem QnC(R L:Lpp)(i:Nat):((Qe R L).map λs=>isI i s.1).sum=QE R L i:=by
 unfold Qe QE;rw[ZQ,ZQ,Zbh,Zbh];have:(R.map λr=>isI i r.1+isI i r.2).sum=(R.map λs=>isI i s.1).sum+((R.map Prod.swap).map λs=>isI i s.1).sum:=by
  induction R with
  | nil=>rfl
  | cons r R ih=>simp only[Zp,ZK,ih,Zby];omega
 omega
def Good(m:Nat)(s:Int×Int):Prop:=0<=s.1/\0<=s.2/\s.1<=m/\s.2<=m/\s.1≠s.2
theorem Qby{m:Nat}{R L:Lpp}(hR:∀s∈R,Good m s)(hL:∀s∈L,Good m s):∀s∈Qe R L,Good m s:=λs hs=>by
 unfold Qe at hs;rcases ZH.mp hs with hs | hs
 ·rcases ZH.mp hs with hs | hs
  ·exact hR s hs
  ·obtain⟨t,ht,rfl⟩:=ZT.mp hs;obtain⟨h1,h2,h3,h4,h5⟩:=hR t ht;exact⟨h2,h1,h4,h3,λz=>h5 z.symm⟩
 ·exact hL s hs
def QfV(d:Den):Prop:=∀(m:Nat) (R L:Lpp),m<=1000->R.length+R.length+L.length<=1000000->(∀s∈R,Good m s)->(∀s∈L,Good m s)->d [Qj m R L]=some (QK m m (Qf m (Qe R L)),true)
theorem QxV:QfV (Qs 5 (QfF (Qs 4 QmN))):=λm R L hm hl hR hL=>by
 refine Qwx ⋯ (QsA ⋯) λs hs=>?_;obtain⟨h1,h2,_⟩:=Qby hR hL s hs;exact⟨h1,h2⟩
noncomputable def QjU(Q0:Den):DS:=(Qc (QB (QQ (Qjh (Qg 1 Q0 [] (Qa vv0 Qb))) (.tp [1,2]) [none,none,none] Q8 (dOp QaI kk0 (Qv vv2 vv1)))) Qi)
theorem QlM{α:Type}(m:Nat)(f:Nat->D):Qfl ((List.range m).map f)=(List.range m).map λi=> .tup [.int i,f i]:=by
 apply ZaK;intro k;unfold Qfl;simp only[Zs,List.getElem?_zipIdx,Nat.zero_add];by_cases hk:k<m
 ·rw[ZS hk];rfl
 ·rw[ZA (by simp;omega)];rfl
theorem QuY{d:Den}(hd:QfV d){m:Nat}{R L:Lpp}(hm:m<=1000)(hl:R.length+R.length+L.length<=1000000)(hR:∀s∈R,Good m s)(hL:∀s∈L,Good m s):Qs 1 (QjU d) [Qj m R L]=slT (Qd m (QE R L)):=by
 refine QU ?_;refine QF (QS (toD:=λ(i:Nat)=> .tup [.int i,Qd m (Qf m (Qe R L) i)]) (out:=λ(i:Nat)=> .int (QE R L i)) (ir:=⟨Qfl ((List.range m).map λi=>Qd m (Qf m (Qe R L) i)),[]⟩) (List.range m) ?_ ?_ λi hi=>?_) ⟨rfl,rfl⟩
 ·unfold Qjh;rw[Qp (n:=1) (fs:=Qa (Qq 0) Qb) (U:=Qav 1 [Qj m R L]) (dfl:=[]) (r:=⟨[Qj m R L],false,[]⟩) rfl (hd m R L hm hl hR hL) rfl];rfl
 ·exact QlM (α:=Nat) m _
 ·have hi:=Zk.mp hi;refine⟨[none,slI i,slF (Qd m (Qf m (Qe R L) i))],rfl,reI (0-Qf m (Qe R L) i i),?_,?_,rfl⟩
  ·have e:Qv (Qq 2) (Qq 1) [none,slI (i:Int),slF (Qd m (Qf m (Qe R L) i))]=some (reI (Qf m (Qe R L) i i)):=by
    show((D.items (Qd m (Qf m (Qe R L) i))).bind λxs=>(atI xs (i:Int)).map λd=>(HS.R.norm ⟨d,false,[]⟩))=_;unfold Qd;rw[show D.items (.lst ((List.range m).map λj=>D.int (Qf m (Qe R L) i j)))=some ((List.range m).map λj=>D.int (Qf m (Qe R L) i j))from rfl,Za,QqK ⋯ ⋯];rfl
   exact QaR (rfl) e rfl
  ·have g:=Qby hR hL;rw[Qbu hi hi λs hs=>⟨(g s hs).1,(g s hs).2.1⟩,sum_neg _ i λs hs=>(g s hs).2.2.2.2,QnC];show D.int (0- -(QE R L i))=_;rw[show(0:Int)- -(QE R L i)=QE R L i by omega]
theorem Qq4(a b:Int):deq (.int a) (.int b)=decide (a=b):=by
 show PyData.eqv (.int a) (.int b)=_;unfold PyData.eqv;exact Bool.beq_eq_decide_eq a b
theorem Qa5(ha:fa U=some ra)(ea:ra.d= .int a)(hb:fb U=some rb)(eb:rb.d= .int b):dOp gEq fa fb U=some (reT (.bl (decide (a=b)))):=by
 refine QaR ha hb ?_;rw[ea,eb];show some (D.bl (deq (.int a) (.int b)))=_;rw[Qq4]
theorem QeS(ha:fa U=some ra)(ea:ra.d= .int a)(hb:fb U=some rb)(eb:rb.d= .int b):dOp gNe fa fb U=some (reT (.bl (!decide (a=b)))):=by
 refine QaR ha hb ?_;rw[ea,eb];show some (D.bl (!deq (.int a) (.int b)))=_;rw[Qq4]
theorem Qw6(ha:fa U=some (reT (.bl a)))(hb:fb U=some (reT (.bl b))):dOr fa fb U=some (reT (.bl (a || b))):=by
 unfold dOr;rw[ha];cases a<;>simp[D.tru,hb]
theorem Qd5(ha:fa U=some (reT (.bl a)))(hb:fb U=some (reT (.bl b))):QcF fa fb U=some (reT (.bl (a && b))):=by
 unfold QcF;rw[ha];cases a<;>simp[D.tru,hb]
theorem QH(ha:fa U=some r)(e:r.d= .bl b):QC fa U=some b:=by
 unfold QC;rw[ha,Za,e];rfl
theorem Qcn(h:g U=some b):QbL g U=some (!b):=by unfold QbL;rw[h];rfl
theorem Qcw(ha:g1 U=some a)(hb:g2 U=some b):bOr g1 g2 U=some (a || b):=by
 unfold bOr;rw[ha];cases a<;>simp[hb]
theorem QxW(ha:g1 U=some a)(hb:g2 U=some b):QhI g1 g2 U=some (a && b):=by
 unfold QhI;rw[ha];cases a<;>simp[hb]
theorem Qbj(ha:fa U=some ra)(ea:ra.d= .int a)(hb:fb U=some rb)(eb:rb.d= .int b)(h:Qeq a b=true):Qaz fa fb U=some (reI (a*b)):=by
 unfold Qaz;rw[ha,Za,hb,Za,ea,eb];simp[h]
theorem Qau(ha:fa U=some ra)(ea:ra.d= .int a)(hb:fb U=some rb)(eb:rb.d= .int b):QI fa fb U=some (reI (a+b)):=by
 unfold QI;rw[ha,Za,hb,Za,ea,eb]
theorem Qam(ha:fa U=some ra)(ea:ra.d= .int a)(hb:fb U=some rb)(eb:rb.d= .int b)(h:0<b):dOp Qag fa fb U=some (reI (a % b)):=by
 refine QaR ha hb ?_;rw[ea,eb];show(if b≠0 then some (D.int (QdF a b))else none)=_;rw[if_pos ⋯,QwU _ _ ⋯]
theorem Qf8(ha:fa U=some ra)(ea:ra.d= .int a)(hb:fb U=some rb)(eb:rb.d= .int b)(h:0<b)(h2:b<2^64):dOp QbU fa fb U=some (reI (a / b)):=by
 refine QaR ha hb ?_;rw[ea,eb];have:Qcg b=true:=by
  unfold Qcg;have h3:b.natAbs<2^8000:=Zt (by omega:b.natAbs<2^64) (ZE (by decide) (by decide));simp only[Zh,decide_eq_true_eq];exact⟨⋯,h3⟩
 show(if Qcg b=true then some (D.int (QdX a b))else none)=_;rw[if_pos this,QkW _ _ ⋯]
theorem Qhl(h:fa U=some r):QbP fa U=some ⟨r.d,false,r.M⟩:=by unfold QbP;rw[h];rfl
theorem Qq0{fa fb:DE}{U:En}{ra rb:R}{m:Nat}{f:Mt1}{i:Int}(ha:fa U=some ra)(ea:ra.d=Qd m f)(hb:fb U=some rb)(eb:rb.d= .int i)(h0:0<=i)(h:i<m):Qv fa fb U=some (reI (f i.toNat)):=by
 unfold Qv;rw[ha,Za,hb,Za,ea,eb];simp only[Qd,D.items,Za,QqK h0 h,ZR];rfl
theorem Qre{fa fb:DE}{U:En}{ra rb:R}{ns:List Int}{i:Int}{v:Int}(ha:fa U=some ra)(ea:ra.d= .lst (ns.map .int))(hb:fb U=some rb)(eb:rb.d= .int i)(h0:0<=i)(h:ns[i.toNat]? =some v):Qv fa fb U=some (reI v):=by
 have hl:i<ns.length:=by have:=(Zm.mp h).1;omega
 unfold Qv;rw[ha,Za,hb,Za,ea,eb];simp only[D.items,Za];rw[QgY h0 (by simpa using hl),Zs,h];rfl
theorem QtT{m n:Nat}{f:Mt1}(h:n<=m):cutD ((List.range m).map λi=>D.int (f i)) none (some (n:Int))=(List.range n).map λi=>D.int (f i):=by
 unfold cutD;simp only[Zl,ZI,HT.Qko,HT.QqS,List.drop_zero,Nat.sub_zero,Zce h];rw[← ZbO,List.take_range,Zce h]
theorem QyI{fa fb:DE}{U:En}{ra rb:R}{m n:Nat}{f:Mt1}(ha:fa U=some ra)(ea:ra.d=Qd m f)(hb:fb U=some rb)(eb:rb.d= .int n)(h:n<=m):Qeb fa Qff (QcJ fb) U=some (reT (Qd n f)):=by
 unfold Qeb Qff QcJ;rw[ha,Za,hb,ea];simp only[Za,eb,Qd,QtT h,Qat,QtK,if_true]
theorem Qcc(h:fs U=some r)(hd:den (r.ds++dfl)=some (d,fr))(hl:r.ds.length+dfl.length=n):Qg n den dfl fs U=some (if fr=true then⟨d,true,[]⟩else HS.R.norm ⟨d,false,r.M⟩):=by
 unfold Qg;rw[h,Za,if_pos hl,hd];rfl
theorem Qgh(h:d.flat=false):asg i (if fr=true then⟨d,true,[]⟩else HS.R.norm ⟨d,false,[]⟩) U=U.set i (some (d,fr)):=by
 cases fr
 ·simp[HS.R.norm,h,asg,Qa7]
 ·simp
noncomputable def QmK:DS:=(Qc (sIf (QC (dOp gLt vv1 (dBf Qbz (Qa vv0 Qb)))) (Qc (QB (Qv vv0 vv1)) Qi) Qi) (Qc (QB kk0) Qi))
def QlN(d:Den):Prop:=∀(ns:List Int) (k:Nat),d [.lst (ns.map .int),.int k]=some (.int (ns.getD k 0),true)
theorem QyO:QlN (Qs 2 QmK):=λns k=>by
 refine QU ?_;refine Qy (QY (b:=decide ((k:Int)<ns.length)) ?_ (λh=>?_) (λh=>?_))
 ·refine QH (QaR (rb:=reI ns.length) rfl ?_ rfl) rfl;show some (HS.R.mk (.int ((ns.map D.int).length:Int)) true [])=_;rw[Zl]
 ·have h:=of_decide_eq_true h;have hk:k<ns.length:= ⋯
  have e:ns[k]? =some (ns.getD k 0):=by rw[ZX,Zay hk];rfl
  exact Qy (Qbo (Qre rfl rfl rfl rfl ⋯ (by simpa using e)) ⟨rfl,rfl⟩)
 ·have h:=of_decide_eq_false h;have e:ns.getD k 0=0:=by rw[ZX,ZA ⋯];rfl
  rw[e];exact Qu (QF rfl ⟨rfl,rfl⟩)
noncomputable def QbM(t k:Int):Int:=(t+17)*(k*k+7*k+11)*69621 % 2147483647
noncomputable def QfP(m t k:Int):Int:=if QbM t k % (k+1)<k then(QbM t k % (k+1)+t) % m else m
noncomputable def Qfa(m t kind:Int)(k:Int):Int×Int×Bool:=((k+t) % m,QfP m t k,decide (kind=2) || (decide (kind=3) && decide (QbM t k / 64 % 2=1)))
noncomputable def QcI(m:Nat)(t kind:Int):List (Int×Int×Bool):=(List.range m).map λ(k:Nat)=>Qfa m t kind k
def GoodW(m:Nat)(w:Int×Int×Bool):Prop:=Good m (w.1,w.2.1)/\(w.2.2=true->w.1<m)
noncomputable def Qah(W:List (Int×Int×Bool)):D:= .lst (W.map Qdl)
@[simp] theorem QCu(W:List (Int×Int×Bool)):(Qah W).flat=false:=rfl
theorem Qtc{a x n:Int}(h1:0<x)(h2:x<n):(a+x) % n≠a % n:=λh=>by
 have h3:(a+x-a) % n=0:=Int.emod_eq_emod_iff_emod_sub_eq_zero.mp h;rw[show a+x-a=x by omega,ZbL ⋯ h2]at h3;omega
theorem Qsy{m:Nat}{t kind:Int}{k:Nat}(hk:k<m):GoodW m (Qfa m t kind k):=by
 have hm:(0:Int)<m:= ⋯
 have h1:=ZJ ((k:Int)+t) (by omega:(m:Int)≠0);have h2:=ZM ((k:Int)+t) hm;unfold Qfa QfP;split
 ·rename_i hlt;have h3:=ZJ (QbM t k) (by omega:((k:Int)+1)≠0);have h4:=ZJ (QbM t k % (k+1)+t) (by omega:(m:Int)≠0);have h5:=ZM (QbM t k % (k+1)+t) hm;refine⟨⟨h1,h4,by dsimp only;omega,by dsimp only;omega,?_⟩,λ_=>by dsimp only;omega⟩;dsimp only;have h6:=Qtc (a:=QbM t k % (k+1)+t) (x:=k-QbM t k % (k+1)) (n:=m) ⋯ ⋯;rw[show QbM t k % (k+1)+t+(k-QbM t k % (k+1))=k+t by omega]at h6;exact h6
 ·exact⟨⟨h1,by dsimp only;omega,by dsimp only;omega,by dsimp only;omega,by dsimp only;omega⟩,λ_=>by dsimp only;omega⟩
noncomputable def Qqt:DS:=(Qc (Qt 3 (QN Qb)) (Qc (Qbh (Qcz vv0) (.nm 4) (Qc (Qt 5 (dOp Qag (Qaz (Qaz (QI vv1 QC1) (QI (QI (Qaz vv4 vv4) (Qaz kk7 vv4)) QBe)) Qrq) Qjg)) (Qc (Qt 6 (QbP vv0)) (Qc (sIf (QC (dOp gLt (dOp Qag vv5 (QI vv4 kk1)) vv4)) (Qc (Qt 6 (dOp Qag (QI (dOp Qag vv5 (QI vv4 kk1)) vv1) vv0)) Qi) Qi) (Qc (Qku 3 Qa8 (QaF (Qa (dOp Qag (QI vv4 vv1) vv0) (Qa vv6 (Qa (dOr (dOp gEq vv2 kk2) (QcF (dOp gEq vv2 kk3) (dOp gEq (dOp Qag (dOp QbU vv5 QDx) kk2) kk1))) Qb))))) Qi))))) (Qc (QB vv3) Qi)))
theorem Qx1(hx:U[x]? =some (slT (.lst xs)))(ha:fa U=some r)(hf:r.d.flat=true)(hl:xs.length<16777216)(q:Q (.nx (U.set x (slT (.lst (xs++[r.d])))))):Run (Qku x Qa8 fa) U Q:=by
 refine⟨_,?_,q⟩;have hn:r.norm=⟨r.d,true,[]⟩:=by unfold HS.R.norm;rw[if_pos hf]
 unfold Qku;rw[hx];simp only[Qa8,Za,ha,QcM,Qoa,hn,QbT,kill,Qfe];simp[hl]
def Qot(d:Den):Prop:=∀(m:Nat) (t kind:Int),0<m->m<=1000->0<=t->t<2000000->d [.int m,.int t,.int kind]=some (Qah (QcI m t kind),true)
theorem Qyb:Qot (Qs 7 Qqt):=λm t kind h0 hm ht ht2=>by
 refine QU ?_;refine rsa (d:= .lst []) rfl ?_;refine run_seq (Qa0 (List.range m) (λi U=>∃j4 j5 j6,U=[slI m,slI t,slI kind,slT (.lst (((List.range i).map λ(k:Nat)=>Qfa m t kind k).map Qdl)),j4,j5,j6]) (Qev (n:=m) (r:=reI m) rfl rfl ⋯) rfl ⟨none,none,none,rfl⟩ ?_ ?_)
 ·rintro i k U hi ⟨j4,j5,j6,rfl⟩;have hk:i<m/\i=k:=by
   obtain⟨h1,h2⟩:=Zm.mp hi;simp at h1 h2;exact⟨h1,h2⟩
  obtain⟨hk,rfl⟩:=hk;refine⟨_,rfl,?_⟩;have n1:(t+17).natAbs<2^64:= ⋯
  have n2:(69621:Int).natAbs<2^64:=by decide
  refine run_seq (QL (r:=reI (QbM t i)) ?_ ?_)
  ·exact Qam (Qbj (Qbj (Qau (a:=t) (b:=17) rfl rfl rfl rfl) rfl (Qau (Qau (Qbj (a:=(i:Int)) (b:=i) rfl rfl rfl rfl (Qfw ⋯)) rfl (Qbj (a:=7) (b:=(i:Int)) rfl rfl rfl rfl (Qfw (by decide))) rfl) rfl (Qje (.int 11) _) rfl) rfl (Qfw n1)) rfl (Qje (.int 69621) _) rfl (Qez n2)) rfl (Qje (.int 2147483647) _) rfl (by decide)
  ·rw[Qbb];refine run_seq (QL (r:=reF (.int m)) rfl ?_);rw[Qex rfl];refine run_seq (f:=sIf _ _ _) (Run.mono (Q:=Nx λU=>U=[slI m,slI t,slI kind,slT (.lst (((List.range i).map λ(k:Nat)=>Qfa m t kind k).map Qdl)),slI i,slI (QbM t i),slI (QfP m t i)]) ?_ ?_)
   ·have e1:∀(U:En),U=[slI m,slI t,slI kind,slT (.lst (((List.range i).map λ(k:Nat)=>Qfa m t kind k).map Qdl)),slI i,slI (QbM t i),slI m]->dOp Qag (Qq 5) (QI (Qq 4) (dC (.int 1))) U=some (reI (QbM t i % (i+1))):=by
     rintro U rfl;exact Qam (a:=QbM t i) (b:=(i:Int)+1) rfl rfl (Qau (a:=(i:Int)) (b:=1) rfl rfl rfl rfl) rfl ⋯
    refine QY (b:=decide (QbM t i % (i+1)<i)) (QH (QaR (e1 _ rfl) rfl rfl) rfl) (λh=>?_) (λh=>?_)
    ·have h:=of_decide_eq_true h;refine run_seq (QL (Qam (a:=QbM t i % (i+1)+t) (b:=m) (Qau (a:=QbM t i % (i+1)) (b:=t) (e1 _ rfl) rfl rfl rfl) rfl rfl rfl ⋯) (Qu ?_));rw[Qbb];unfold QfP;rw[if_pos h];rfl
    ·have h:=of_decide_eq_false h;refine Qu ?_;unfold QfP;rw[if_neg h];rfl
   ·intro o ho;cases o with
    | nx U=>
     subst ho;refine run_seq (Qx1 (r:=⟨Qdl (Qfa m t kind i),true,[]⟩) rfl ?_ rfl (by simp;omega) ?_)
     ·have e:=Qw6 (Qa5 (a:=kind) (b:=2) (fa:=Qq 2) (fb:=dC (.int 2)) (U:=[slI m,slI t,slI kind,slT (.lst (((List.range i).map λ(k:Nat)=>Qfa m t kind k).map Qdl)),slI i,slI (QbM t i),slI (QfP m t i)]) rfl rfl rfl rfl)
       (Qd5 (Qa5 (fa:=Qq 2) (fb:=dC (.int 3)) rfl rfl rfl rfl) (Qa5 (fb:=dC (.int 1)) (Qam (fb:=dC (.int 2)) (Qf8 (fa:=Qq 5) (fb:=dC (.int 64)) rfl rfl rfl rfl (by decide) (by decide)) rfl rfl rfl (by decide)) rfl rfl rfl))
      have e2:dOp Qag (QI (Qq 4) (Qq 1)) (Qq 0) [slI m,slI t,slI kind,slT (.lst (((List.range i).map λ(k:Nat)=>Qfa m t kind k).map Qdl)),slI i,slI (QbM t i),slI (QfP m t i)]=some (reI ((i+t) % m)):=
       Qam (Qau rfl rfl rfl rfl) rfl rfl rfl ⋯
      unfold QaF;rw[Qm e2 (Qm rfl (Qm e (QJ _)))];rfl
     ·refine Qu ⟨slI i,slI (QbM t i),slI (QfP m t i),?_⟩;show [slT (D.int m),slT (D.int t),slT (D.int kind),slT (D.lst (((List.range i).map λ(k:Nat)=>Qfa m t kind k).map Qdl++[Qdl (Qfa m t kind i)])),_,_,_]=_;rw[ZbE,ZQ,ZQ];rfl
    | _=>exact False.elim ho
 ·rintro U ⟨j4,j5,j6,rfl⟩;rw[ZI];exact QF rfl ⟨rfl,rfl⟩
theorem QjL{x y m:Nat}{f:Mt1}{U:En}{i:Int}{b:Bool}{Q:Out->Prop}(hx:U[x]? =some (slT (Qd m f)))(hy:U[y]? =some (some (.int i,b)))(h0:0<=i)(h:i<m)
  (q:Q (.nx (U.set x (slT (Qd m (up f i.toNat (f i.toNat+1))))))):Run (QcG x Qa8 (Qq y) (QI (Qv (Qq x) (Qq y)) (dC (.int 1)))) U Q:=by
 have e1:Qq y U=some (reI i):=Qud hy;have e2:=Qbw hx;exact Qwf hx e1 rfl (Qau (Qq0 e2 (by simp) e1 rfl h0 h) rfl (Qje (.int 1) _) rfl) rfl h0 h q
theorem Run.nx(h:Run f U (Nx Q))(m:∀U,Q U->Q' U):Run f U (Nx Q'):=h.mono λo ho=>by
 cases o with
 | nx U=>exact m U ho
 | _=>exact ho.elim
theorem Qca(h:Run f U (Nx P))(k:∀U',P U'->Run g U' Q):Run (Qc f g) U Q:=run_seq (h.nx k)
noncomputable def QbS(c:Int):Int:=c*48271 % 2147483647
noncomputable def mStart(m c:Int):Int:=QbS c % (m+1)
noncomputable def QiP(m c:Int):Int:=(mStart m c+1+QbS c / 9 % m) % (m+1)
noncomputable def QeD(m kind c:Int):Int×Int×Bool:=(mStart m c,QiP m c,decide (mStart m c<m) && (decide (kind=2) || (decide (kind=3) && decide (QbS c / 72 % 3=1))))
theorem QsE{m:Nat}(hm:0<m)(kind c:Int):GoodW m (QeD m kind c):=by
 have h1:=ZJ (QbS c) (by omega:(m:Int)+1≠0);have h2:=ZM (QbS c) (by omega:(0:Int)<m+1);have h3:=ZJ (QbS c / 9) (by omega:(m:Int)≠0);have h4:=ZM (QbS c / 9) (by omega:(0:Int)<m);have h5:=ZJ (mStart m c+1+QbS c / 9 % m) (by omega:(m:Int)+1≠0);have h6:=ZM (mStart m c+1+QbS c / 9 % m) (by omega:(0:Int)<m+1);have h7:=Qtc (a:=mStart m c) (x:=1+QbS c / 9 % m) (n:=(m:Int)+1) ⋯ ⋯;rw[← Int.add_assoc,show mStart m c % ((m:Int)+1)=mStart m c from ZbL h1 h2]at h7;refine⟨⟨h1,h5,?_,?_,λz=>h7 z.symm⟩,λh=>?_⟩
 ·show mStart m c<=m;unfold mStart;omega
 ·show QiP m c<=m;unfold QiP;omega
 ·have:(QeD m kind c).2.2=(decide (mStart m c<m) && (decide (kind=2) || (decide (kind=3) && decide (QbS c / 72 % 3=1)))):=rfl;rw[this,Zh,decide_eq_true_eq]at h;exact h.1
theorem Qxm{fa fb:DE}{U:En}{ra rb:R}{A B:List (Int×Int×Bool)}(ha:fa U=some ra)(ea:ra.d=Qah A)(hb:fb U=some rb)(eb:rb.d=Qah B)(hl:A.length+B.length<=16777216):QI fa fb U=some (reT (Qah (A++B))):=by
 unfold QI;rw[ha,Za,hb,Za,ea,eb];simp only[Qah,Zl,Qfe,if_pos hl,Qat];simp
noncomputable def Qe1(w:Int×Int×Bool):Int×Int:=(if w.2.1<w.1 then w.2.1 else w.1,if w.2.1>w.1 then w.2.1 else w.1)
noncomputable def Qut(w:Int×Int×Bool):Int×Int:=(w.1,w.2.1)
noncomputable def Qdd(W:List (Int×Int×Bool)):List (Int×Int):=(W.filter λw=> !w.2.2).map Qe1
noncomputable def QdO(W:List (Int×Int×Bool)):List (Int×Int):=(W.filter λw=>w.2.2).map Qut
theorem Qly{m:Nat}{W:List (Int×Int×Bool)}(h:∀w∈W,GoodW m w):∀s∈Qdd W,Good m s/\s.1<s.2:=λs hs=>by
 obtain⟨w,hw,rfl⟩:=ZT.mp hs;obtain⟨⟨h1,h2,h3,h4,h5⟩,_⟩:=h w (ZD.mp hw).1;simp only at h1 h2 h3 h4 h5;unfold Qe1 Good;simp only;split<;>split<;>omega
theorem Ql9{m:Nat}{W:List (Int×Int×Bool)}(h:∀w∈W,GoodW m w):∀s∈QdO W,Good m s/\s.1<m:=λs hs=>by
 obtain⟨w,hw,rfl⟩:=ZT.mp hs;obtain⟨h1,h2⟩:=h w (ZD.mp hw).1;exact⟨h1,h2 (by simpa using(ZD.mp hw).2)⟩
theorem QsV(W:List (Int×Int×Bool)):(Qdd W).length<=W.length:=by unfold Qdd;rw[Zl];exact ZaT _ _
theorem Quk(W:List (Int×Int×Bool)):(QdO W).length<=W.length:=by unfold QdO;rw[Zl];exact ZaT _ _
theorem QvH{fa:DE}{U:En}{r:R}{W:List (Int×Int×Bool)}(h:fa U=some r)(e:r.d=Qah W):QQ (Qar fa) (.tp [1,2,3]) [none,none,none,none] (QbL (QC (Qq 3))) (QaF (Qa (dBf Qmg (Qa (Qq 1) (Qa (Qq 2) Qb))) (Qa (dBf Ql5 (Qa (Qq 1) (Qa (Qq 2) Qb))) Qb))) U=some (reT (Qao (Qdd W))):=by
 rw[Qjy W (Qa1 h e) rfl λw _=>⟨[none,slI w.1,slI w.2.1,slT (.bl w.2.2)],rfl,Qcn (QH rfl rfl),λ_=>⟨⟨pairD (Qe1 w),true,[]⟩,rfl,rfl,rfl⟩⟩];unfold Qao Qdd;rw[ZY];rfl
theorem Qwi{fa:DE}{U:En}{r:R}{W:List (Int×Int×Bool)}(h:fa U=some r)(e:r.d=Qah W):QQ (Qar fa) (.tp [1,2,3]) [none,none,none,none] (QC (Qq 3)) (QaF (Qa (Qq 1) (Qa (Qq 2) Qb))) U=some (reT (Qao (QdO W))):=by
 rw[Qjy W (Qa1 h e) rfl λw _=>⟨[none,slI w.1,slI w.2.1,slT (.bl w.2.2)],rfl,QH rfl rfl,λ_=>⟨⟨pairD (Qut w),true,[]⟩,rfl,rfl,rfl⟩⟩];unfold Qao QdO;rw[ZY];rfl
theorem QvG{fa:DE}{U:En}{r:R}{ns:List Int}{a b:Int}(h:fa U=some r)(e:r.d= .lst (ns.map .int)):∃cs:List Int,cs.length<=ns.length/\Qeb fa (QcJ (dC (.int a))) (QcJ (dC (.int b))) U=some (reT (.lst (cs.map .int))):=by
 refine⟨(ns.drop (HT.sIx ns.length 0 (some a))).take (HT.sIx ns.length ns.length (some b)-HT.sIx ns.length 0 (some a)),by rw[Zbv,Zba];omega,?_⟩;unfold Qeb QcJ;rw[h,Za,e];simp only[Qje,Za,cutD,Qat,Zl,← List.map_drop,← ZbO,Qry,if_true]
theorem Qpn{m:Nat}{t kind:Int}:∀w∈QcI m t kind,GoodW m w:=λw hw=>by
 obtain⟨k,hk,rfl⟩:=ZT.mp hw;exact Qsy (Zk.mp hk)
theorem QoQ(m:Nat)(t kind:Int):(QcI m t kind).length=m:=by simp[QcI]
theorem QfH:up f i v k=if k=i then v else f k:=rfl
theorem QbX{fa:DE}{U:En}{r:R}{m:Int}{R L:Lpp}(h:fa U=some r)(e:r.d=Qj m R L):
  Qv fa (dC (.int 0)) U=some (reI m)/\Qv fa (dC (.int 1)) U=some ⟨Qao R,r.fr,r.M⟩/\Qv fa (dC (.int 2)) U=some ⟨Qao L,r.fr,r.M⟩:=by
 unfold Qv;rw[h];simp only[Za,e,Qje];exact⟨rfl,rfl,rfl⟩
theorem Qv9{α:Type}{g:α->Int}{xs:List α}{i:Nat}{x:α}(h:xs[i]? =some x):((xs.take (i+1)).map g).sum=((xs.take i).map g).sum+g x:=by
 rw[List.take_add_one,h,ZQ,Zbh];simp
theorem QfK(h:fa U=some r)(e:r.d= .lst xs):dBf Qbz (Qa fa Qb) U=some (reI xs.length):=by
 unfold dBf;rw[Qm h (QJ _),Za];simp[e,Qbz]
theorem Qtm(n:Nat)(ps:Lpp):(Qao ps).sim (n+2)=true:=by
 unfold Qao;simp only[D.sim,List.all_map,Zax];intro p _;cases n<;>rfl
theorem Qs1(ha:fa U=some ra)(ea:ra.d=d)(hb:fb U=some rb)(eb:rb.d=d)(hs:d.sim 8=true):dOp gNe fa fb U=some (reT (.bl false)):=by
 refine QaR ha hb ?_;rw[ea,eb];unfold gNe;rw[hs,QpV hs];rfl
def QiI(d:Den):Prop:=∀(m:Nat) (R L:Lpp),m<=1000->R.length+R.length+L.length<=1000000->(∀s∈R,Good m s)->(∀s∈L,Good m s)->d [Qj m R L]=some (Qd m (QE R L),true)
theorem QyM(h:QfV d):QiI (Qs 1 (QjU d)):=λm R L h1 h2 h3 h4=>QuY h h1 h2 h3 h4
theorem QuA(h:0<b)(h2:b<2^200):Qcg b=true:=by
 unfold Qcg;have h3:b.natAbs<2^8000:=Zt (by omega:b.natAbs<2^200) (ZE (by decide) (by decide));simp only[Zh,decide_eq_true_eq];exact⟨⋯,h3⟩
theorem QDn(xs:List D):deq (.lst xs) (.lst [])=xs.isEmpty:=by cases xs<;>rfl
def Esc(m:Nat)(W:List (Int×Int×Bool)):Prop:=∀A:Nat->Prop,(∃p,p<m/\A p)->∃w∈W,w.1<m/\A w.1.toNat/\(w.2.1=m∨¬A w.2.1.toNat)
theorem Esc.mono{m:Nat}{W W':List (Int×Int×Bool)}(h:Esc m W)(s:∀w∈W,w∈W'):Esc m W':=λA hA=>let ⟨w,hw,r⟩:=h A hA;⟨w,s w hw,r⟩
noncomputable def Qh9:DS:=(Qc (Qt 3 (Qaz (QN (Qa kk0 Qb)) (QI vv0 kk1))) (Qc (Qbh (Qar vv1) (.tp [4,5,6]) (Qc (QcG 3 Qa8 vv4 (QI (Qv vv3 vv4) kk1)) (Qc (sIf (QbL (QC vv6)) (Qc (QcG 3 Qa8 vv5 (QI (Qv vv3 vv5) kk1)) Qi) Qi) Qi))) (Qc (Qt 7 kk1) (Qc (Qbh (Qar (Qeb vv3 Qff (QcJ vv0))) (.nm 8) (Qc (Qt 7 (Qaz vv7 vv8)) Qi)) (Qc (QB (dOp gLe vv7 vv2)) Qi)))))
def QmS(d:Den):Prop:=∀(m:Nat) (W:List (Int×Int×Bool)) (room:Int),m<=1000->W.length<=100000->(∀w∈W,GoodW m w)->∃b,d [.int m,Qah W,.int room]=some (.bl b,true)
theorem Qsm{m:Nat}(hg:∀w∈W,GoodW m w):
  Run (Qbh (Qar (Qq 1)) (.tp [4,5,6]) (Qc (QcG 3 Qa8 (Qq 4) (QI (Qv (Qq 3) (Qq 4)) (dC (.int 1)))) (Qc (sIf (QbL (QC (Qq 6))) (Qc (QcG 3 Qa8 (Qq 5) (QI (Qv (Qq 3) (Qq 5)) (dC (.int 1)))) Qi) Qi) Qi)))
   [slI m,slF (Qah W),r0,slT (Qd (m+1) λ_=>0),none,none,none,r1,r2] (Nx λU=>∃f j3 j4 j5,(∀k,0<=f k/\f k<=2*(W.length:Int))/\U=[slI m,slF (Qah W),r0,slT (Qd (m+1) f),j3,j4,j5,r1,r2]):=by
 refine Qa0 W (λi U=>∃f j3 j4 j5,(∀k,0<=f k/\f k<=2*(i:Int))/\U=[slI m,slF (Qah W),r0,slT (Qd (m+1) f),j3,j4,j5,r1,r2]) rfl rfl ⟨λ_=>0,none,none,none,λk=>⟨by simp,by simp⟩,rfl⟩ ?_ ?_
 ·rintro i w U hi ⟨f,j3,j4,j5,hf,rfl⟩;obtain⟨⟨h1,h2,h3,h4,h5⟩,h6⟩:=hg w (Zaj hi);refine⟨_,rfl,?_⟩;refine run_seq (QjL rfl rfl h1 ⋯ ?_);have hf1:∀k,0<=up f w.1.toNat (f w.1.toNat+1) k/\up f w.1.toNat (f w.1.toNat+1) k<=2*(i:Int)+1:=λk=>by
   have a:=hf k;have b:=hf w.1.toNat
   unfold up;split<;>omega
  refine run_seq (QY (Qcn (QH rfl rfl)) (λ_=>run_seq (QjL rfl rfl h2 ⋯ (Qu (Qu ⟨_,_,_,_,λk=>?_,rfl⟩)))) (λ_=>Qu (Qu ⟨_,_,_,_,λk=>?_,rfl⟩)))
  ·have a:=hf1 k;have b:=hf1 w.2.1.toNat
   unfold up at a b ⊢;split<;>omega
  ·have a:=hf1 k;omega
 ·rintro U ⟨f,j3,j4,j5,hf,rfl⟩;exact⟨f,j3,j4,j5,hf,rfl⟩
theorem QwJ:QmS (Qs 9 Qh9):=λm W room hm hl hg=>by
 have key:Run Qh9 (Qav 9 [.int m,Qah W,.int room]) (Rt λd fr=>∃b,d= .bl b/\fr=true):=by
  refine rsa (Qiw (n:=m+1) (Qau rfl rfl rfl rfl) rfl ⋯) ?_;refine Qca (Qsm hg) ?_;rintro U ⟨f,j3,j4,j5,hf,rfl⟩;refine rsa rfl ?_;refine Qca (P:=λU=>∃(z:Int) (j:Option (D×Bool)),U=[slI m,slF (Qah W),slI room,slT (Qd (m+1) f),j3,j4,j5,slI z,j]) ?_ ?_
  ·refine Qa0 (List.range m) (λi U=>∃(z:Int) (j:Option (D×Bool)),U=[slI m,slF (Qah W),slI room,slT (Qd (m+1) f),j3,j4,j5,slI z,j]) (Qa1 (QyI rfl rfl rfl rfl ⋯) rfl) rfl ⟨1,none,rfl⟩ ?_ ?_
   ·rintro i k U _ ⟨z,j,rfl⟩;have:=hf k;exact⟨_,rfl,run_seq (QL (Qbj rfl rfl rfl rfl (Qez ⋯)) (Qu ⟨z*f k,_,rfl⟩))⟩
   ·rintro U ⟨z,j,rfl⟩;exact⟨z,j,rfl⟩
  rintro U ⟨z,j,rfl⟩;exact QF (QaR rfl rfl rfl) ⟨_,rfl,rfl⟩
 obtain⟨o,h1,h2⟩:=key;cases o with
 | rt d fr=>
  obtain⟨b,rfl,rfl⟩:=h2;exact⟨b,by unfold Qs;rw[h1];rfl⟩
 | _=>exact h2.elim
noncomputable def Qo(m:Nat)(g:Mt1):Int:=((List.range m).map g).sum
theorem QP(m:Nat)(g:Mt1):Qo (m+1) g=Qo m g+g m:=by
 unfold Qo;rw[ZbE,ZQ,Zbh];simp
theorem Qx(h:∀i,i<m->f i=g i):Qo m f=Qo m g:=by
 unfold Qo;rw[Zr λi hi=>h i (Zk.mp hi)]
theorem Qae(m:Nat)(f g:Mt1):Qo m (λi=>f i+g i)=Qo m f+Qo m g:=by
 induction m with
 | zero=>rfl
 | succ m ih=>rw[QP,QP,QP,ih];omega
theorem QbK(m:Nat)(f:Mt1):Qo m (λi=> -f i)= -Qo m f:=by
 induction m with
 | zero=>rfl
 | succ m ih=>rw[QP,QP,ih];omega
theorem Q9(m:Nat):Qo m (λ_=>0)=0:=by
 induction m with
 | zero=>rfl
 | succ m ih=>rw[QP,ih];rfl
theorem QdG(m:Nat)(c:Int)(f:Mt1):Qo m (λi=>c*f i)=c*Qo m f:=by
 induction m with
 | zero=>simp[Qo]
 | succ m ih=>rw[QP,QP,ih,ZaY]
theorem Quy(m n:Nat)(f:Mt2):Qo m (λi=>Qo n λj=>f i j)=Qo n λj=>Qo m λi=>f i j:=by
 induction m with
 | zero=>show 0=Qo n λj=>0;rw[Q9]
 | succ m ih=>
  rw[QP,ih,← Qae];exact Qx λj _=>by rw[QP]
theorem Qai(hp:p<m)(v:Int)(f:Mt1):Qo m (λi=>(if i=p then v else 0)*f i)=v*f p:=by
 induction m with
 | zero=>omega
 | succ m ih=>
  rw[QP];by_cases h:p=m
  ·subst h;rw[if_pos rfl,Qx (g:=λ_=>0) λi hi=>by rw[if_neg ⋯];simp,Q9];simp
  ·rw[ih ⋯,if_neg (λz=>h z.symm)];simp
noncomputable def Qn(m:Nat)(T:Mt2)(f c:Mt1):Nat->Int:=λj=>f j+Qo m λi=>c i*T i j
theorem Qmj(h:∀i,i<m->f i=g i):Qd m f=Qd m g:=by
 unfold Qd;congr 1;refine Zr λi hi=>?_;rw[h i (Zk.mp hi)]
noncomputable def Qdu:DS:=(Qc (Qbh (Qar vv1) (.nm 2) (Qc (sIf (QC (dOp gNe (dBf Qbz (Qa vv2 Qb)) (Qv vv0 kk0))) (Qc Qw Qi) Qi) Qi)) Qi)
def Qen(d:Den):Prop:=∀(m:Nat) (R L:Lpp) (fs:List (Nat->Int)),d [Qj m R L,.lst (fs.map λf=>Qd m f)]=some (.non,true)
theorem QyE:Qen (Qs 3 Qdu):=λm R L fs=>by
 have key:Run Qdu (Qav 3 [Qj m R L,.lst (fs.map λf=>Qd m f)]) (Nx λ_=>True):=by
  refine run_seq (Qa0 fs (λ_ U=>∃j2,U=[slF (Qj m R L),slF (.lst (fs.map λf=>Qd m f)),j2]) rfl rfl ⟨none,rfl⟩ ?_ ?_)
  ·rintro i f U _ ⟨j2,rfl⟩;refine⟨_,rfl,?_⟩;refine run_seq (QY (b:=false) (QH (QeS (QfK rfl rfl) rfl (QbX rfl rfl).1 rfl) (by simp)) (λh=>by cases h) (λ_=>Qu (Qu ⟨_,rfl⟩)))
  ·rintro U ⟨j2,rfl⟩;exact Qu trivial
 obtain⟨o,h1,h2⟩:=key;unfold Qs;rw[h1];cases o with
 | nx U=>rfl
 | _=>exact h2.elim
noncomputable def QjE(Qz:Den)(Q0:Den):DS:=(Qc (Qal (Qg 2 Qz [] (Qa vv0 (Qa (QN (Qa vv1 (Qa vv2 Qb))) Qb)))) (Qc (Qt 3 (dList (Qa vv1 Qb))) (Qc (Qbh (Qaw (Qg 1 Q0 [] (Qa vv0 Qb)) vv2) (.tp [4,5]) (Qc (Qt 3 (QQ (Qaw vv3 vv4) (.tp [1,2]) [none,none,none,some 5] Q8 (QI vv1 (Qaz vv3 vv2)))) Qi)) (Qc (QB vv3) Qi))))
theorem Qcu(h:fa U=some r)(q:Q (.nx U)):Run (Qal fa) U Q:=⟨_,by simp[Qal,h],q⟩
theorem Qme(f g:Nat->D):Qf3 ((List.range m).map f) ((List.range m).map g)=(List.range m).map λi=> .tup [f i,g i]:=by
 generalize List.range m=l
 induction l with
 | nil=>rfl
 | cons n ns ih=>unfold Qf3 at ih ⊢;simp only[Zp,List.zip_cons_cons,ih]
theorem QhB(h:fs U=some rs)(e:rs.ds=[Qd m f]):dList fs U=some (reT (Qd m f)):=by
 unfold dList;rw[h,Za,e];simp[Qd,Qat]
theorem QcB(ha:fa U=some ra)(ea:ra.d= .lst ((List.range m).map f))(hb:fb U=some rb)(eb:rb.d= .lst ((List.range m).map g)):Qaw fa fb U=some ⟨(List.range m).map λi=> .tup [f i,g i],ra.M++rb.M⟩:=by
 unfold Qaw;rw[ha,Za,hb,Za,ea,eb];simp only[Qme]
theorem Qyi(i j:Nat)(s:Int×Int):(hit i j s).natAbs<=1:=by unfold hit;split<;>split<;>decide
theorem QgM(i j:Nat):∀S:List (Int×Int),((S.map (hit i j)).sum).natAbs<=S.length
 | []=>by simp
 | s::S=>by
  have:=QgM i j S;have:=Qyi i j s;rw[Zp,ZK,ZU];omega
def Qg0(d:Den):Prop:=∀(m:Nat) (R L:Lpp) (f c:Mt1),m<=1000->R.length+R.length+L.length<=1000000->(∀s∈R,Good m s)->(∀s∈L,Good m s)->d [Qj m R L,Qd m f,Qd m c]=some (Qd m (Qn m (Qf m (Qe R L)) f c),true)
theorem QvK(hn:Qen dn)(ht:QfV dt):Qg0 (Qs 6 (QjE dn dt)):=λm R L f c hm hl hR hL=>by
 have gS:=Qby hR hL;have tb:∀i j,i<m->j<m->(Qf m (Qe R L) i j).natAbs<2^64:=λi j hi hj=>by
  rw[Qbu hi hj λs hs=>⟨(gS s hs).1,(gS s hs).2.1⟩];have:=QgM i j (Qe R L);have:(Qe R L).length<=1000000:=by unfold Qe;simp;omega
  omega
 refine QU ?_;refine run_seq (Qcu (Qp rfl (hn m R L [f,c]) rfl) ?_);refine rsa (QhB rfl rfl) ?_;refine Qca (P:=λU=>∃j4 j5,U=[slF (Qj m R L),slF (Qd m f),slF (Qd m c),slT (Qd m (Qn m (Qf m (Qe R L)) f c)),j4,j5]) ?_ ?_
 ·refine Qa0 (List.range m) (λk U=>∃j4 j5,U=[slF (Qj m R L),slF (Qd m f),slF (Qd m c),slT (Qd m (λj=>f j+Qo k λi=>c i*Qf m (Qe R L) i j)),j4,j5]) (QcB (Qp rfl (ht m R L hm hl hR hL) rfl) rfl rfl rfl) rfl ⟨none,none,?_⟩ ?_ ?_
  ·show [slF (Qj m R L),slF (Qd m f),slF (Qd m c),slT (Qd m f),none,none]=_;have:Qd m f=Qd m λj=>f j+Qo 0 λi=>c i*Qf m (Qe R L) i j:=Qmj λi _=>by show f i=f i+0;omega
   rw[← this]
  ·rintro k k' U hk ⟨j4,j5,rfl⟩;obtain⟨hkm,rfl⟩:=Qky hk;refine⟨_,rfl,?_⟩;refine run_seq (QL ?_ (Qu ⟨_,_,by rw[Qbb];rfl⟩))
   have e:=QS (fi:=Qaw (Qq 3) (Qq 4)) (t:= .tp [1,2]) (cap:=[none,none,none,some 5]) (fe:=QI (Qq 1) (Qaz (Qq 3) (Qq 2))) (U:=[slF (Qj m R L),slF (Qd m f),slF (Qd m c),slT (Qd m (λj=>f j+Qo k λi=>c i*Qf m (Qe R L) i j)),slF (Qd m (Qf m (Qe R L) k)),slI (c k)])
    (List.range m) (QcB rfl rfl rfl rfl) rfl λj hj=>by
     have hj:=Zk.mp hj;exact⟨[none,slI (f j+Qo k λi=>c i*Qf m (Qe R L) i j),slI (Qf m (Qe R L) k j),slI (c k)],rfl,_,Qau rfl rfl (Qbj rfl rfl rfl rfl (Qez (tb k j hkm hj))) rfl,rfl,rfl⟩
   refine e.trans ?_;congr 2;show D.lst _=D.lst _;congr 1;refine Zr λj _=>?_;show _=D.int (f j+Qo (k+1) λi=>c i*Qf m (Qe R L) i j);rw[QP,Int.add_assoc]
  ·rintro U ⟨j4,j5,rfl⟩;rw[ZI];exact⟨j4,j5,rfl⟩
 rintro U ⟨j4,j5,rfl⟩;exact QF rfl ⟨rfl,rfl⟩
structure Q6 (m:Nat) (R L:Lpp):Prop where
 ex:∃W,Esc m W/\(∀w∈W,GoodW m w)/\W.length<=200/\R=Qdd W/\L=QdO W
theorem Q6.good{m:Nat}{R L:Lpp}(h:Q6 m R L):(∀s∈R,Good m s)/\(∀s∈L,Good m s)/\R.length<=200/\L.length<=200/\(∀s∈R,s.1<s.2)/\∀s∈L,s.1<m:=by
 obtain⟨W,_,h2,h3,rfl,rfl⟩:=h.ex;exact⟨λs hs=>(Qly h2 s hs).1,λs hs=>(Ql9 h2 s hs).1,ZC (QsV W) h3,ZC (Quk W) h3,λs hs=>(Qly h2 s hs).2,λs hs=>(Ql9 h2 s hs).2⟩
theorem Qge{α:Type}(m:Nat)(g:Nat->α->Int):∀S:List α,Qo m (λj=>(S.map (g j)).sum)=(S.map λs=>Qo m λj=>g j s).sum
 | []=>by simp[Q9]
 | s::S=>by
  simp only[Zp,ZK];rw[Qae,Qge m g S]
theorem Qmr{α:Type}(c:Int)(f:α->Int):∀S:List α,c*(S.map f).sum=(S.map λs=>c*f s).sum
 | []=>by simp
 | s::S=>by simp only[Zp,ZK,ZaY,Qmr c f S]
theorem QwB:Qd m (Qn m T f λ_=>0)=Qd m f:=Qmj λj _=>by
 unfold Qn;rw[Qx (g:=λ_=>0) λi _=>by simp,Q9];omega
theorem QmL(h:fa U=some r)(e:r.d=Qd m f):dBf Qfn (Qa fa Qb) U=some (reI (Qo m f)):=by
 unfold dBf;rw[Qm h (QJ _),Za];have:Qd m f= .lst (((List.range m).map f).map .int):=by unfold Qd;rw[ZY];rfl
 simp only[e,this,Qfn,QhD,ZR];rfl
theorem QqX(ha:fa U=some ra)(ea:ra.d=d)(hb:fb U=some rb)(eb:rb.d=d)(hs:d.sim 8=true):dOp gEq fa fb U=some (reT (.bl true)):=by
 refine QaR ha hb ?_;rw[ea,eb];unfold gEq;rw[hs,QpV hs];rfl
structure TP (m:Nat) (T:Mt2):Prop where
 neg:∀p,p<m->T p p<0
 pos:∀i j,i<m->j<m->i≠j->0<=T i j
 bnd:∀i j,i<m->j<m->(T i j).natAbs<2^64
 wt:∃w:Nat->Int,(∀j,0<=w j)/\∀i,i<m->Qo m (λj=>T i j*w j)<= -1
inductive Leg (m:Nat) (T:Mt2) (f:Mt1):(Nat->Int)->Prop where
 | nil:Leg m T f λ_=>0
 | step {c:Mt1}{p:Nat}{t:Int}:Leg m T f c->p<m->0<=t->t*(0-T p p)<=Qn m T f c p->Leg m T f (up c p (c p+t))
def Stb(m:Nat)(T:Mt2)(g:Mt1):Prop:=∀p,p<m->g p<0-T p p
theorem Qnb(hp:p<m)(j:Nat):Qn m T f (up c p (c p+v)) j=Qn m T f c j+v*T p j:=by
 unfold Qn;have e2:(λi=>up c p (c p+v) i*T i j)=λi=>c i*T i j+(if i=p then v else 0)*T i j:=by
  funext i;unfold up;by_cases h:i=p
  ·subst h;simp only[if_true];rw[Zac]
  ·simp[h]
 rw[e2,Qae,Qai hp];omega
theorem Leg.nonneg(h:Leg m T f c):∀i,0<=c i:=by
 induction h with
 | nil=>intro i;exact Zak _
 | step _ _ ht _ ih=>
  intro i;unfold up;split
  ·have:=ih ‹Nat›;rename_i p _ _ _ _ _;have:=ih p;omega
  ·exact ih i
theorem QbV(h:∀i,i<m->f i<=g i):Qo m f<=Qo m g:=by
 induction m with
 | zero=>exact Zak _
 | succ m ih=>
  rw[QP,QP];have:=ih λi hi=>h i ⋯;have:=h m ⋯;omega
theorem Leg.least(tp:TP m T)(h:Leg m T f c)(h0:∀i,i<m->0<=c' i)(hs:Stb m T (Qn m T f c')):∀i,i<m->c i<=c' i:=by
 induction h with
 | nil=>exact h0
 | @step c p t _ hp ht hle ih=>
  intro i hi;unfold up;split
  ·rename_i e;subst e;have key:Qn m T f c i+(c' i-c i)*T i i<=Qn m T f c' i:=by
    unfold Qn;have e1:Qo m (λk=>c k*T k i)+(c' i-c i)*T i i=Qo m (λk=>c k*T k i+(if k=i then c' i-c i else 0)*T k i):=by rw[Qae,Qai hi]
    have e2:Qo m (λk=>c k*T k i+(if k=i then c' i-c i else 0)*T k i)<=Qo m (λk=>c' k*T k i):=by
     refine QbV λk hk=>?_;by_cases hki:k=i
     ·subst hki;rw[if_pos rfl,← Zac];rw[show c k+(c' k-c k)=c' k by omega];exact Zak _
     ·rw[if_neg hki,ZN,Zbb];exact Zaf (ih k hk) (tp.pos k i hk hi hki)
    omega
   have h1:=hs i hi;have h2:=tp.neg i hi;by_cases hlt:c i+t<=c' i
   ·exact hlt
   ·exfalso;have h3:(c' i-c i+1)<=t:= ⋯
    have h4:(c' i-c i+1)*(0-T i i)<=t*(0-T i i):=Zaf h3 ⋯;have h5:(c' i-c i+1)*(0-T i i)=(0-T i i)-(c' i-c i)*T i i:=by rw[Zac,Zaq,Int.mul_sub,Zas];omega
    omega
  ·exact ih i hi
theorem Qri{m:Nat}{T:Mt2}{f c b:Mt1}(j:Nat):Qn m T (λi=>2*f i+b i) (λi=>2*c i) j=2*Qn m T f c j+b j:=by
 unfold Qn;have e:(λi=>2*c i*T i j)=λi=>2*(c i*T i j):=by funext i;rw[Zao]
 rw[e,QdG];show 2*f j+b j+2*_=2*(f j+_)+b j;omega
theorem QaJ(j:Nat)(h1:f j=g j)(h2:∀i,i<m->c i=d i):Qn m T f c j=Qn m T g d j:=by
 unfold Qn;rw[h1,Qx λi hi=>by rw[h2 i hi]]
theorem Leg.QzM(h:Leg m T f c)(b:Mt1)(hb:∀i,0<=b i):∃d,Leg m T (λi=>2*f i+b i) d/\∀i,d i=2*c i:=by
 induction h with
 | nil=>exact⟨_,.nil,λi=>by simp⟩
 | @step c p t _ hp ht hle ih=>
  obtain⟨d,hd,e⟩:=ih;have ed:d=λi=>2*c i:=funext e;subst ed;refine⟨_,.step (t:=2*t) hd hp ⋯ ?_,λi=>?_⟩
  ·rw[Qri];have:=hb p;have e2:2*t*(0-T p p)=2*(t*(0-T p p)):=by rw[Zao]
   omega
  ·show up (λi=>2*c i) p (2*c p+2*t) i=2*up c p (c p+t) i;unfold up;split
   ·omega
   ·rfl
theorem Leg.cast(h:Leg m T f c)(e:∀i,c i=d i):Leg m T f d:=by
 have:c=d:=funext e;rw[← this];exact h
theorem Leg.QrN(h:Leg m T f c)(e:∀i,i<m->f i=g i):Leg m T g c:=by
 induction h with
 | nil=>exact .nil
 | @step c p t _ hp ht hle ih=>exact .step ih hp ht (by rw[← QaJ p (e p hp) (λ_ _=>rfl)];exact hle)
noncomputable def wtF(m:Nat)(w g:Mt1):Int:=Qo m λj=>g j*w j
theorem QB6(hw:∀i,i<m->Qo m (λj=>T i j*w j)<= -1)(hp:p<m)(ht:0<=t):wtF m w (Qn m T f (up c p (c p+t)))<=wtF m w (Qn m T f c)-t:=by
 unfold wtF;have e:(λj=>Qn m T f (up c p (c p+t)) j*w j)=λj=>Qn m T f c j*w j+t*(T p j*w j):=by
  funext j;rw[Qnb hp,Zac,Zao]
 rw[e,Qae,QdG];have h1:t*Qo m (λj=>T p j*w j)<=t*(-1):=ZZ (hw p hp) ht;omega
theorem Qul(hw:∀j,0<=w j)(hg:∀j,j<m->0<=g j):0<=wtF m w g:=by
 have:=QbV λi hi=>ZaA (hg i hi) (hw i);rw[Q9]at this;exact this
theorem QiZ(I:Nat->En->Prop)(step:∀n U,I n U->∃b,g U=some b/\(b=false->Q (.nx U))/\(b=true->Run fb U λo=>match o with | .nx U2=>∃n',n'<n/\I n' U2 | .ct U2=>∃n',n'<n/\I n' U2 | .bk U2=>Q (.nx U2) | .rt d fr=>Q (.rt d fr))):
  ∀(n:Nat) (U:En),I n U->Run (Qco g fb) U Q:=by
 intro n
 induction n using Nat.strongRecOn with
 | _ n ih=>
  intro U h;obtain⟨b,hb,hf,ht⟩:=step n U h;unfold Run;rw[Qt2,hb,Za];cases b with
  | false=>exact⟨_,by simp,hf rfl⟩
  | true=>
   obtain⟨o,ho,hq⟩:=ht rfl;rw[if_pos rfl,ho,Za];cases o with
   | nx U2=>obtain⟨n',hn,hI⟩:=hq;exact ih n' hn U2 hI
   | ct U2=>obtain⟨n',hn,hI⟩:=hq;exact ih n' hn U2 hI
   | bk U2=>exact⟨_,rfl,hq⟩
   | rt d fr=>exact⟨_,rfl,hq⟩
theorem Qza(ha:fa U=some ra)(ea:ra.d= .int a)(hb:fb U=some rb)(eb:rb.d= .int b)(h:0<b)(h2:b<2^200):dOp QbU fa fb U=some (reI (a / b)):=by
 refine QaR ha hb ?_;rw[ea,eb];show(if Qcg b=true then some (D.int (QdX a b))else none)=_;rw[if_pos (QuA h h2),QkW _ _ ⋯]
theorem Qct{i:Nat}(ha:fa U=some ra)(ea:ra.d=Qd m f)(hb:fb U=some rb)(eb:rb.d= .int i)(h:i<m):Qv fa fb U=some (reI (f i)):=by
 have:=Qq0 ha ea hb eb ⋯ ⋯;rw[ZL]at this;exact this
noncomputable def Qnt:DS:=(Qc (Qt 3 (dList (Qa vv1 Qb))) (Qc (Qt 4 (dList (Qa vv2 Qb))) (Qc (Qt 5 (dC (.bl true))) (Qc (Qco (QC vv5) (Qc (Qt 5 (dC (.bl false))) (Qc (Qbh (Qjh vv0) (.tp [6,7]) (Qc (Qt 8 (dOp QbU (Qv vv3 vv6) (dOp QaI kk0 (Qv vv7 vv6)))) (Qc (sIf (QC (dOp gGt vv8 kk0)) (Qc (Qt 5 (dC (.bl true))) (Qc (Qdz (gI λi j=>some (.int (i+j))) 4 Qa8 vv6 vv8) (Qc (Qt 3 (QQ (Qaw vv3 vv7) (.tp [1,2]) [none,none,none,some 8] Q8 (QI vv1 (Qaz vv3 vv2)))) Qi))) Qi) Qi))) Qi))) (Qc (QB (QaF (Qa vv3 (Qa vv4 Qb)))) Qi)))))
def QiY(d:Den):Prop:=∀(m:Nat) (T:Mt2) (f k:Mt1),m<=1000->TP m T->Leg m T f k->(∀j,j<m->0<=Qn m T f k j)->∃k',d [QK m m T,Qd m (Qn m T f k),Qd m k]=some (.tup [Qd m (Qn m T f k'),Qd m k'],true)/\Leg m T f k'/\(∀j,j<m->0<=Qn m T f k' j)/\Stb m T (Qn m T f k')
theorem Qsl{h s:Int}(hs:0<s)(ht:¬0<h / s)(h0:0<=h):h<s:=by
 have:=Int.ediv_nonneg h0 (by omega:0<=s);have e:h / s=0:= ⋯
 have:=ZM h hs;have:=Zbu h s;rw[e]at this;omega
theorem Qru{h s:Int}(hs:0<s):h / s*s<=h:=Int.ediv_mul_le h ⋯
theorem Qsg:QiY (Qs 9 Qnt):=λm T f k hm tp hk hpos=>by
 obtain⟨w,hw0,hw⟩:=tp.wt;have key:Run Qnt (Qav 9 [QK m m T,Qd m (Qn m T f k),Qd m k]) (Rt λd fr=>∃k',d= .tup [Qd m (Qn m T f k'),Qd m k']/\fr=true/\Leg m T f k'/\(∀j,j<m->0<=Qn m T f k' j)/\Stb m T (Qn m T f k')):=by
  refine rsa (QhB rfl rfl) ?_;refine rsa (QhB rfl rfl) ?_;refine rsa rfl ?_;refine run_seq (Run.mono (Q:=Nx λU=>∃k' j5 j6 j7 j8,Leg m T f k'/\(∀j,j<m->0<=Qn m T f k' j)/\Stb m T (Qn m T f k')/\U=[slF (QK m m T),slF (Qd m (Qn m T f k)),slF (Qd m k),slT (Qd m (Qn m T f k')),slT (Qd m k'),j5,j6,j7,j8]) ?_ ?_)
  ·refine QiZ (λn U=>∃k' bz j6 j7 j8,Leg m T f k'/\(∀j,j<m->0<=Qn m T f k' j)/\(bz=false->Stb m T (Qn m T f k'))/\n=(wtF m w (Qn m T f k')).toNat+(if bz=true then 1 else 0)/\U=[slF (QK m m T),slF (Qd m (Qn m T f k)),slF (Qd m k),slT (Qd m (Qn m T f k')),slT (Qd m k'),slT (.bl bz),j6,j7,j8]) ?_ _ _ ⟨k,true,none,none,none,hk,hpos,λh=>by(cases h),rfl,rfl⟩;rintro n U ⟨k',bz,j6,j7,j8,hL,hP,hS,rfl,rfl⟩;refine⟨bz,QH rfl rfl,λh=>⟨k',_,_,_,_,hL,hP,hS h,rfl⟩,λhb=>?_⟩;subst hb;refine rsa rfl ?_;refine Qy (Run.mono (Q:=Nx λU=>∃k2 b2 j6 j7 j8,Leg m T f k2/\(∀j,j<m->0<=Qn m T f k2 j)/\(b2=false->Stb m T (Qn m T f k2))/\(wtF m w (Qn m T f k2)+(if b2=true then 1 else 0)<=wtF m w (Qn m T f k'))/\U=[slF (QK m m T),slF (Qd m (Qn m T f k)),slF (Qd m k),slT (Qd m (Qn m T f k2)),slT (Qd m k2),slT (.bl b2),j6,j7,j8]) ?_ ?_)
   ·refine Qa0 (List.range m) (λi U=>∃k2 b2 j6 j7 j8,Leg m T f k2/\(∀j,j<m->0<=Qn m T f k2 j)/\(b2=false->∀p,p<i->Qn m T f k2 p<0-T p p)/\(wtF m w (Qn m T f k2)+(if b2=true then 1 else 0)<=wtF m w (Qn m T f k'))/\U=[slF (QK m m T),slF (Qd m (Qn m T f k)),slF (Qd m k),slT (Qd m (Qn m T f k2)),slT (Qd m k2),slT (.bl b2),j6,j7,j8]) rfl (QlM (α:=Nat) m _) ⟨k',false,_,_,_,hL,hP,λ_ p hp=>absurd hp ⋯,by simp,rfl⟩ ?_ ?_
    ·rintro i p U hi ⟨k2,b2,j6,j7,j8,hL2,hP2,hS2,hW2,rfl⟩;have hp':i<m/\i=p:=by
      obtain⟨h1,h2⟩:=Zm.mp hi;simp at h1 h2;exact⟨h1,h2⟩
     obtain⟨him,rfl⟩:=hp';have hneg:=tp.neg i him;have hb:=tp.bnd i i him him;have h0:=hP2 i him;refine⟨_,rfl,?_⟩;refine rsa (Qza (Qct rfl rfl rfl rfl him) rfl (QaR rfl (Qct rfl rfl rfl rfl him) rfl) rfl ⋯ ⋯) ?_;generalize et:Qn m T f k2 i / (0-T i i)=t;have t0:0<=t:=by rw[← et];exact Int.ediv_nonneg h0 ⋯
     refine Qy (QY (QH rfl rfl) (λh=>?_) (λh=>?_))
     ·have h:=of_decide_eq_true h;have hle:t*(0-T i i)<=Qn m T f k2 i:=by rw[← et];exact Qru ⋯
      refine rsa rfl ?_;refine run_seq (QpC rfl rfl rfl rfl ⋯ ⋯ rfl ?_);rw[ZL];refine run_seq (QL (r:=reT (Qd m (Qn m T f (up k2 i (k2 i+t))))) ?_ (Qu (Qu ?_)))
      ·have e:=QS (fi:=Qaw (Qq 3) (Qq 7)) (t:= .tp [1,2]) (cap:=[none,none,none,some 8]) (fe:=QI (Qq 1) (Qaz (Qq 3) (Qq 2))) (U:=[slF (QK m m T),slF (Qd m (Qn m T f k)),slF (Qd m k),slT (Qd m (Qn m T f k2)),slT (Qd m (up k2 i (k2 i+t))),slT (.bl true),slI i,slF (Qd m (T i)),slI t])
        (List.range m) (QcB rfl rfl rfl rfl) rfl λj hj=>by
         have hj:=Zk.mp hj;exact⟨[none,slI (Qn m T f k2 j),slI (T i j),slI t],rfl,_,Qau rfl rfl (Qbj rfl rfl rfl rfl (Qez (tp.bnd i j him hj))) rfl,rfl,rfl⟩
       refine e.trans ?_;congr 2;show D.lst _=D.lst _;congr 1;refine Zr λj _=>?_;rw[Qnb him]
      ·rw[Qbb];have hup:=QB6 hw (f:=f) (c:=k2) him t0;refine⟨up k2 i (k2 i+t),true,_,_,_,.step hL2 him t0 hle,λj hj=>?_,λz=>(by cases z),?_,rfl⟩
       ·rw[Qnb him];by_cases hji:j=i
        ·subst hji;have:t*T j j= -(t*(0-T j j)):=by rw[Zbc,ZaP,Int.neg_neg]
         omega
        ·have:=hP2 j hj;have:=ZaA t0 (tp.pos i j him hj (λz=>hji z.symm));omega
       ·rw[if_pos rfl];have:(0:Int)<=if b2=true then 1 else 0:=by split<;>omega
        omega
     ·have h:=of_decide_eq_false h;refine Qu (Qu ⟨k2,b2,_,_,_,hL2,hP2,λhb2 p hp=>?_,hW2,rfl⟩);by_cases hpi:p=i
      ·subst hpi;exact Qsl ⋯ (by rw[et];exact h) h0
      ·exact hS2 hb2 p ⋯
    ·rintro U ⟨k2,b2,j6,j7,j8,hL2,hP2,hS2,hW2,rfl⟩;rw[ZI]at hS2;exact⟨k2,b2,_,_,_,hL2,hP2,hS2,hW2,rfl⟩
   ·intro o ho;cases o with
    | nx U=>
     obtain⟨k2,b2,j6,j7,j8,hL2,hP2,hS2,hW2,rfl⟩:=ho;refine Qu ⟨_,?_,k2,b2,_,_,_,hL2,hP2,hS2,rfl,rfl⟩;have n1:=Qul hw0 hP2;rw[if_pos rfl];cases b2<;>simp at hW2 ⊢ <;>omega
    | _=>exact ho.elim
  ·intro o ho;cases o with
   | nx U=>
    obtain⟨k',j5,j6,j7,j8,hL,hP,hS,rfl⟩:=ho;exact QF rfl ⟨k',rfl,rfl,hL,hP,hS⟩
   | _=>exact ho.elim
 obtain⟨o,h1,h2⟩:=key;cases o with
 | rt d fr=>
  obtain⟨k',rfl,rfl,h3,h4,h5⟩:=h2;exact⟨k',by unfold Qs;rw[h1];rfl,h3,h4,h5⟩
 | _=>exact h2.elim
def QpB(m:Nat)(S:Lpp):Prop:=∀A:Nat->Prop,(∃p,p<m/\A p)->∃s∈S,s.1<m/\A s.1.toNat/\(s.2=m∨¬A s.2.toNat)
theorem Qnl(h:Esc m W):QpB m (Qe (Qdd W) (QdO W)):=λA hA=>by
 obtain⟨w,hw,h1,h2,h3⟩:=h A hA;refine⟨(w.1,w.2.1),?_,h1,h2,h3⟩;unfold Qe;cases e:w.2.2 with
 | true=>exact Zd _ (ZT.mpr ⟨w,ZD.mpr ⟨hw,e⟩,rfl⟩)
 | false=>
  have hr:Qe1 w∈Qdd W:=ZT.mpr ⟨w,ZD.mpr ⟨hw,by simp[e]⟩,rfl⟩;by_cases hlt:w.2.1<w.1
  ·refine Zf _ (Zd _ (ZT.mpr ⟨Qe1 w,hr,?_⟩));unfold Qe1;rw[if_pos hlt,if_neg ⋯];rfl
  ·refine Zf _ (Zf _ ?_);have:Qe1 w=(w.1,w.2.1):=by
    unfold Qe1;rw[if_neg hlt];by_cases hgt:w.2.1>w.1
    ·rw[if_pos hgt]
    ·rw[if_neg hgt];rw[show w.2.1=w.1 by omega]
   rw[← this];exact hr
inductive Rk (m:Nat) (S:Lpp):Nat->Nat->Prop where
 | pit {s:Int×Int}{n:Nat}:s∈S->s.2=m->Rk m S (n+1) s.1.toNat
 | step {s:Int×Int}{k n:Nat}:s∈S->s.2≠m->Rk m S k s.2.toNat->k<n->Rk m S n s.1.toNat
theorem Qkz{P:Nat->Prop}(h:∃n,P n):∃n,P n/\∀k,k<n->¬P k:=by
 obtain⟨n,hn⟩:=h
 induction n using Nat.strongRecOn with
 | _ n ih=>
  by_cases h:∃k,k<n/\P k
  ·obtain⟨k,hk,h⟩:=h;exact ih k hk h
  ·exact⟨n,hn,λk hk hx=>h ⟨k,hk,hx⟩⟩
theorem QBv(he:QpB m S):∀p,p<m->∃n,Rk m S n p:=λp hp=>by
 by_cases h:∃n,Rk m S n p
 ·exact h
 ·exfalso;obtain⟨s,hs,h1,h2,h3⟩:=he (λp=>¬ ∃n,Rk m S n p) ⟨p,hp,h⟩;by_cases e:s.2=m
  ·exact h2 ⟨1,.pit hs e⟩
  ·rcases h3 with h3 | h3
   ·exact e h3
   ·have:∃n,Rk m S n s.2.toNat:=ZF λz=>h3 z;obtain⟨k,hk⟩:=this;exact h2 ⟨k+1,.step hs e hk ⋯⟩
theorem Qxz{m:Nat}{S:Lpp}(hg:∀s∈S,Good m s)(he:QpB m S):∃r:Nat->Nat,r m=0/\∀p,p<m->∃s∈S,s.1=p/\r s.2.toNat<r p:=by
 have h:∀p,∃n,(p<m->Rk m S n p/\∀k,k<n->¬Rk m S k p)/\(p=m->n=0):=λp=>by
  by_cases hp:p<m
  ·obtain⟨n,hn⟩:=Qkz (QBv he p hp);exact⟨n,λ_=>hn,λz=> ⋯⟩
  ·exact⟨0,λz=>absurd z hp,λ_=>rfl⟩
 obtain⟨r,hr⟩:=Classical.axiomOfChoice h;refine⟨r,(hr m).2 rfl,λp hp=>?_⟩;have h1:=((hr p).1 hp).1;generalize r p=n at h1;cases h1 with
 | @pit s n hs e=>
  obtain⟨g1,g2,g3,g4,g5⟩:=hg s hs;exact⟨s,hs,⋯,by rw[e,ZL,(hr m).2 rfl];omega⟩
 | @step s k n hs e hk hkn=>
  obtain⟨g1,g2,g3,g4,g5⟩:=hg s hs;refine⟨s,hs,⋯,?_⟩;have hl:s.2.toNat<m:= ⋯
  have:=((hr s.2.toNat).1 hl).2 k;have:¬k<r s.2.toNat:=λz=>this z hk;omega
theorem QoV(r:Nat->Nat):∀m:Nat,∃N,∀p,p<=m->r p<=N
 | 0=>⟨r 0,λp hp=>by rw[show p=0 by omega];exact Zj _⟩
 | m+1=>by
  obtain⟨N,hN⟩:=QoV r m;refine⟨N+r (m+1),λp hp=>?_⟩;by_cases e:p=m+1
  ·subst e;omega
  ·have:=hN p ⋯;omega
theorem Qtg(hi:i<m)(g:Good m s)(w:Mt1)(hw:w m=0):Qo m (λj=>hit i j s*w j)=if s.1=i then w s.2.toNat-w i else 0:=by
 obtain⟨g1,g2,g3,g4,g5⟩:=g;by_cases h:s.1=i
 ·rw[if_pos h];have e:Qo m (λj=>hit i j s*w j)=Qo m (λj=>(if j=s.2.toNat then 1 else 0)*w j+(if j=i then-1 else 0)*w j):=Qx λj _=>by
   have:hit i j s=(if j=s.2.toNat then 1 else 0)+(if j=i then-1 else 0):=by
    unfold hit;by_cases a:s.2=j
    ·by_cases b:i=j
     ·rw[if_pos ⟨h,a⟩,if_pos ⟨h,b⟩,if_pos ⋯,if_pos b.symm];omega
     ·rw[if_pos ⟨h,a⟩,if_neg (λz=>b z.2),if_pos ⋯,if_neg (λz=>b z.symm)];omega
    ·by_cases b:i=j
     ·rw[if_neg (λz=>a z.2),if_pos ⟨h,b⟩,if_neg ⋯,if_pos b.symm];omega
     ·rw[if_neg (λz=>a z.2),if_neg (λz=>b z.2),if_neg ⋯,if_neg (λz=>b z.symm)];omega
   rw[this,Zac]
  rw[e,Qae,Qai hi];by_cases hm:s.2.toNat<m
  ·rw[Qai hm];omega
  ·have e2:Qo m (λj=>(if j=s.2.toNat then 1 else 0)*w j)=0:=by
    rw[Qx λj hj=>by rw[if_neg ⋯,ZN],Q9]
   rw[e2,show s.2.toNat=m by omega,hw];omega
 ·rw[if_neg h];rw[Qx (g:=λ_=>0) λj hj=>by
   unfold hit;rw[if_neg (λz=>h z.1),if_neg (λz=>h z.1)];rw[Int.sub_self,ZN],Q9]
theorem Qmb{α:Type}{g:α->Int}{X:Int}:∀S:List α,(∀s∈S,g s<=X)->(S.map g).sum<=S.length*X
 | [],_=>by simp
 | a::S,h=>by
  have h1:=h a (by simp);have h2:=Qmb S λs hs=>h s (by simp[hs]);simp only[Zp,ZK,ZU,Zcf,Zac];rw[show((1:Nat):Int)*X=X by simp];omega
theorem Qlb{α:Type}{g:α->Int}{X Y:Int}:∀(S:List α),(∀s∈S,g s<=X)->(∃s∈S,g s<=Y)->(S.map g).sum<=S.length*X-X+Y
 | [],_,h=>by obtain⟨s,hs,_⟩:=h;exact absurd hs (by simp)
 | a::S,h,h2=>by
  obtain⟨s,hs,hy⟩:=h2;have hb:∀s∈S,g s<=X:=λs hs=>h s (by simp[hs]);simp only[Zp,ZK,ZU,Zcf,Zac];rw[show((1:Nat):Int)*X=X by simp];rcases Zn.mp hs with e | hs
  ·subst e;have:=Qmb S hb;omega
  ·have:=Qlb S hb ⟨s,hs,hy⟩;have:=h a (by simp);omega
theorem Qfd{α:Type}{g:α->Int}:∀S:List α,(∀s∈S,0<=g s)->0<=(S.map g).sum
 | [],_=>by simp
 | a::S,h=>by
  have h1:=h a (by simp);have h2:=Qfd S λs hs=>h s (by simp[hs]);simp only[Zp,ZK];omega
theorem QvN{m:Nat}{S:Lpp}(hg:∀s∈S,Good m s)(he:QpB m S)(hl:S.length<2^60):TP m (Qf m S):=by
 have hn:∀s∈S,0<=s.1/\0<=s.2:=λs hs=>⟨(hg s hs).1,(hg s hs).2.1⟩;have pos:∀i j,i<m->j<m->i≠j->0<=Qf m S i j:=λi j hi hj hij=>by
  rw[Qbu hi hj hn];refine Qfd S λs _=>?_;unfold hit;rw[if_neg (λz=>hij z.2) (c:=s.1=i/\i=j)];split<;>omega
 obtain⟨r,r0,hr⟩:=Qxz hg he;obtain⟨N,hN⟩:=QoV r m;have M1:1<=S.length+1:= ⋯
 have wt:∃w:Nat->Int,(∀j,0<=w j)/\∀i,i<m->Qo m (λj=>Qf m S i j*w j)<= -1:=by
  refine⟨λv=>(((S.length+1)^N:Nat):Int)-(((S.length+1)^(N-r v):Nat):Int),λj=>?_,λi hi=>?_⟩
  ·have:=ZE M1 (Nat.sub_le N (r j));show(0:Int)<=(((S.length+1)^N:Nat):Int)-(((S.length+1)^(N-r j):Nat):Int);omega
  ·generalize hw:(λv=>(((S.length+1)^N:Nat):Int)-(((S.length+1)^(N-r v):Nat):Int))=w;have hw':∀v,w v=(((S.length+1)^N:Nat):Int)-(((S.length+1)^(N-r v):Nat):Int):=λv=>by rw[← hw]
   have wm:w m=0:=by rw[hw',r0,Nat.sub_zero];omega
   have e:Qo m (λj=>Qf m S i j*w j)=(S.map λs=>if s.1=(i:Int)then w s.2.toNat-w i else 0).sum:=by
    rw[Qx (g:=λj=>(S.map λs=>hit i j s*w j).sum) λj hj=>by
     rw[Qbu hi hj hn,Zap,Qmr];congr 1;exact Zr λs _=>Zap _ _]
    rw[Qge m (λj s=>hit i j s*w j) S];congr 1;exact Zr λs hs=>Qtg hi (hg s hs) w wm
   rw[e];obtain⟨s0,hs0,e0,hlt⟩:=hr i hi;generalize hX:(((S.length+1)^(N-r i):Nat):Int)=X;have X1:1<=X:=by
    have:0<(S.length+1)^(N-r i):=Nat.pow_pos ⋯;omega
   have key:=Qlb (Y:=X-(S.length+1)*X) S (λs _=>by
    show(if s.1=i then w s.2.toNat-w i else 0)<=X;split
    ·rw[hw',hw' i,hX];have:0<=(((S.length+1)^(N-r s.2.toNat):Nat):Int):=Int.natCast_nonneg _;omega
    ·omega) ⟨s0,hs0,by
    show(if s0.1=i then w s0.2.toNat-w i else 0)<=_;rw[if_pos e0,hw',hw' i,hX];have hb:=hN i ⋯;have h1:(S.length+1)^(N-r i+1)<=(S.length+1)^(N-r s0.2.toNat):=ZE M1 ⋯;rw[Nat.pow_succ]at h1;have h2:((((S.length+1)^(N-r i)*(S.length+1):Nat)):Int)<=(((S.length+1)^(N-r s0.2.toNat):Nat):Int):=by exact_mod_cast h1
    rw[Int.natCast_mul,hX,Zap,show((S.length+1:Nat):Int)=(S.length:Int)+1 by omega]at h2;omega⟩
   have:((S.length:Int)+1)*X=S.length*X+X:=by rw[Zac,Zaq]
   omega
 refine⟨λp hp=>?_,pos,λi j hi hj=>?_,wt⟩
 ·obtain⟨w,w0,hw⟩:=wt;have h1:=hw p hp;by_cases hneg:Qf m S p p<0
  ·exact hneg
  ·exfalso;have:0<=Qo m (λj=>Qf m S p j*w j):=by
    have:=QbV (f:=λ_=>0) (g:=λj=>Qf m S p j*w j) λj hj=>by
     by_cases e:p=j
     ·subst e;exact ZaA ⋯ (w0 _)
     ·exact ZaA (pos p j hp hj e) (w0 _)
    rw[Q9]at this;exact this
   omega
 ·rw[Qbu hi hj hn];have:=QgM i j S;omega
theorem Q6.tp{m:Nat}{R L:Lpp}(h:Q6 m R L):TP m (Qf m (Qe R L)):=by
 have hg:=h.good;refine QvN (Qby hg.1 hg.2.1) ?_ ?_
 ·obtain⟨W,h1,_,_,rfl,rfl⟩:=h.ex;exact Qnl h1
 ·unfold Qe;simp only[Zz,Zl];omega
theorem Q6.neg{m:Nat}{R L:Lpp}(h:Q6 m R L){i:Nat}(hi:i<m):0-Qf m (Qe R L) i i=QE R L i:=by
 have hg:=h.good;have hs:=Qby hg.1 hg.2.1;rw[Qbu hi hi (λs z=>⟨(hs s z).1,(hs s z).2.1⟩),sum_neg _ _ (λs z=>(hs s z).2.2.2.2),QnC];omega
theorem Q6.QuD{m:Nat}{R L:Lpp}(h:Q6 m R L){i:Nat}(hi:i<m):0<QE R L i:=by
 have:=h.neg hi;have:=h.tp.neg i hi;omega
theorem Qnx(m:Nat)(f:Mt1):Qd m f= .lst (((List.range m).map f).map D.int):=by
 unfold Qd;rw[ZY];rfl
theorem QqT:∀{ns:List Int},ns≠[]->∃m,QkQ ns=some m
 | [],h=>absurd rfl h
 | [n],_=>⟨n,rfl⟩
 | n::k::r,_=>by
  obtain⟨m,hm⟩:=QqT (ns:=k::r) (by simp);exact⟨if m<n then m else n,by simp only[QkQ,hm,ZR]⟩
theorem QqM:∀{ns:List Int},ns≠[]->∃m,QkG ns=some m
 | [],h=>absurd rfl h
 | [n],_=>⟨n,rfl⟩
 | n::k::r,_=>by
  obtain⟨m,hm⟩:=QqM (ns:=k::r) (by simp);exact⟨if n<m then m else n,by simp only[QkG,hm,ZR]⟩
theorem Qs9(h:0<m)(f:Mt1):(List.range m).map f≠[]:=by
 intro z;have:=congrArg List.length z;simp at this;omega
theorem Qyo(m0:0<m)(f:Mt1):∃v,(∃i,i<m/\v=f i)/\(∀i,i<m->v<=f i)/\∀{fa:DE}{U:En}{r:R},fa U=some r->r.d=Qd m f->dBf QjP (Qa fa Qb) U=some (reI v):=by
 obtain⟨v,hv⟩:=QqT (Qs9 m0 f);obtain⟨h1,h2⟩:=QjA hv;refine⟨v,?_,λi hi=>h2 _ (ZT.mpr ⟨i,Zk.mpr hi,rfl⟩),λ{fa U r} h e=>?_⟩
 ·obtain⟨i,hi,e⟩:=ZT.mp h1;exact⟨i,Zk.mp hi,e.symm⟩
 ·unfold dBf;rw[Qm h (QJ _),Za];simp only[e,Qnx,QjP,QhD,Za,hv,ZR]
theorem QqB(m0:0<m)(f:Mt1):∃v,(∃i,i<m/\v=f i)/\(∀i,i<m->f i<=v)/\∀{fa:DE}{U:En}{r:R},fa U=some r->r.d=Qd m f->dBf Qhq (Qa fa Qb) U=some (reI v):=by
 obtain⟨v,hv⟩:=QqM (Qs9 m0 f);obtain⟨h1,h2⟩:=Qjx hv;refine⟨v,?_,λi hi=>h2 _ (ZT.mpr ⟨i,Zk.mpr hi,rfl⟩),λ{fa U r} h e=>?_⟩
 ·obtain⟨i,hi,e⟩:=ZT.mp h1;exact⟨i,Zk.mp hi,e.symm⟩
 ·unfold dBf;rw[Qm h (QJ _),Za];simp only[e,Qnx,Qhq,QhD,Za,hv,ZR]
noncomputable def Qja(Qz:Den):DS:=(Qc (Qal (Qg 2 Qz [] (Qa vv0 (Qa vv1 Qb)))) (Qc (Qbh (Qar vv1) (.nm 2) (Qc (sIf (QC (dOp gLt (dBf QjP (Qa vv2 Qb)) kk0)) (Qc Qw Qi) Qi) Qi)) Qi))
def Qml(d:Den):Prop:=∀(m:Nat) (R L:Lpp) (fs:List (Nat->Int)),0<m->(∀f∈fs,∀j,j<m->0<=f j)->d [Qj m R L,.lst (fs.map λf=>Qd m f)]=some (.non,true)
theorem Qvc(hn:Qen dn):Qml (Qs 3 (Qja dn)):=λm R L fs m0 hf=>by
 have key:Run (Qja dn) (Qav 3 [Qj m R L,.lst (fs.map λf=>Qd m f)]) (Nx λ_=>True):=by
  refine run_seq (Qcu (Qp rfl (hn m R L fs) rfl) ?_);refine run_seq (Qa0 fs (λ_ U=>∃j2,U=[slF (Qj m R L),slF (.lst (fs.map λf=>Qd m f)),j2]) rfl rfl ⟨none,rfl⟩ ?_ ?_)
  ·rintro i f U hi ⟨j2,rfl⟩;refine⟨_,rfl,?_⟩;obtain⟨v,⟨q,hq,e⟩,_,hv⟩:=Qyo m0 f;have h0:=hf f (Zaj hi) q hq;refine run_seq (QY (b:=false) (QH (QaR (hv rfl rfl) rfl rfl) ?_) (λh=>by cases h) (λ_=>Qu (Qu ⟨_,rfl⟩)));show D.bl _=_;rw[decide_eq_false ⋯]
  ·rintro U ⟨j2,rfl⟩;exact Qu trivial
 obtain⟨o,h1,h2⟩:=key;unfold Qs;rw[h1];cases o with
 | nx U=>rfl
 | _=>exact h2.elim
noncomputable def QqY(Qd9:Den)(Q0:Den)(Qgk:Den):DS:=(Qc (Qal (Qg 2 Qd9 [] (Qa vv0 (Qa (QN (Qa vv1 Qb)) Qb)))) (Qc (Qt 2 (Qg 1 Q0 [] (Qa vv0 Qb))) (Qc (Qt 3 (Qaz (QN (Qa kk0 Qb)) (Qv vv0 kk0))) (Qc (Qt 4 (Qaz (QN (Qa kk0 Qb)) (Qv vv0 kk0))) (Qc (Qt 5 (QaF (Qa vv3 (Qa vv4 Qb)))) (Qc (Qt 6 (dBf Qhq (Qa vv1 Qb))) (Qc (Qbh (Qg7 (dOp QaI (Qoh vv6) kk1) (QdU kk1) (QdU kk1)) (.nm 7) (Qc (Qt 3 (QQ (Qaw (Qv vv5 kk0) vv1) (.tp [1,2]) [none,none,none,some 7] Q8 (QI (Qaz kk2 vv1) (dOp Qag (dOp QpD vv2 vv3) kk2)))) (Qc (Qt 4 (QQ (Qar (Qv vv5 kk1)) (.nm 1) [none,none] Q8 (Qaz kk2 vv1))) (Qc (Qt 5 (Qg 3 Qgk [] (Qa vv2 (Qa vv3 (Qa vv4 Qb))))) Qi)))) (Qc (QB vv5) Qi))))))))
noncomputable def QeN(m:Nat)(T:Mt2)(f c:Mt1):D:= .tup [Qd m (Qn m T f c),Qd m c]
structure Told (m:Nat) (T:Mt2) (f c:Mt1):Prop where
 leg:Leg m T f c
 pos:∀j,j<m->0<=Qn m T f c j
 stb:Stb m T (Qn m T f c)
def Qmu(d:Den):Prop:=∀(m:Nat) (R L:Lpp) (f:Mt1),0<m->m<=1000->Q6 m R L->(∀j,j<m->0<=f j/\f j<2^200)->∃c,d [Qj m R L,Qd m f]=some (QeN m (Qf m (Qe R L)) f c,true)/\Told m (Qf m (Qe R L)) f c
theorem Quq(ha:fa U=some ra)(ea:ra.d= .int ((n:Int)-1))(hb:fb U=some rb)(eb:rb.d= .int (-1))(hc:fc U=some rc)(ec:rc.d= .int (-1))(hn:n<=16777216):Qg7 fa fb fc U=some ⟨(List.range n).map λ(k:Nat)=> .int ((n:Int)-1-k),[]⟩:=by
 unfold Qg7;rw[ha,Za,hb,Za,hc,Za,ea,eb,ec];show(if(n:Int)-1- -1<=16777216/\_ then _ else _)=_;rw[if_pos ⟨⋯,⋯,⋯,⋯,⋯⟩,show((n:Int)-1- -1).toNat=n by omega];rfl
theorem QBj{fa fb:DE}{U:En}{ra rb:R}{a:Int}{k:Nat}(ha:fa U=some ra)(ea:ra.d= .int a)(hb:fb U=some rb)(eb:rb.d= .int k):dOp QpD fa fb U=some (reI (a / 2^k)):=by
 refine QaR ha hb ?_;rw[ea,eb];show(if(0:Int)<=k then some (D.int (a / 2^(k:Int).toNat))else none)=_;rw[if_pos ⋯,ZL]
theorem Qvp(x:Int)(s:Nat):x / 2^s=2*(x / 2^(s+1))+x / 2^s % 2:=by
 have e:x / 2^(s+1)=x / 2^s / 2:=by rw[Int.pow_succ,Int.ediv_ediv_of_nonneg (Int.pow_nonneg (by decide))]
 rw[e];omega
theorem Ql4(e:∀j,j<m->f j=g j)(h:Told m T f c):Told m T g c where
 leg:=h.leg.QrN e
 pos:=λj hj=>by rw[← QaJ j (e j hj) (λ_ _=>rfl)];exact h.pos j hj
 stb:=λj hj=>by rw[← QaJ j (e j hj) (λ_ _=>rfl)];exact h.stb j hj
theorem Qj5(e:∀j,j<m->f j=g j):QeN m T f c=QeN m T g c:=by
 unfold QeN;rw[Qmj λj hj=>QaJ j (e j hj) λ_ _=>rfl]
theorem QvV(hn:Qml dn)(ht:QfV dt)(hs:QiY ds):Qmu (Qs 8 (QqY dn dt ds)):=λm R L f m0 hm hw hf=>by
 have hg:=hw.good;have tp:=hw.tp;have htoll:=ht m R L hm ⋯ hg.1 hg.2.1;generalize hT:Qf m (Qe R L)=T at tp htoll ⊢;obtain⟨top,⟨q,hq,etop⟩,hmax,evmax⟩:=QqB m0 f;have htop0:0<=top:=by rw[etop];exact(hf q hq).1
 have hB:Builtin.Int.intBits top<=200:=by
  rw[intBits_le_iff];have:top<2^200:=by rw[etop];exact(hf q hq).2
  have e2:((2^200:Nat):Int)=(2:Int)^200:=by rw[Int.natCast_pow];rfl
  generalize (2:Int)^200=z at this e2;generalize (2:Nat)^200=z' at e2 ⊢;omega
 have hlt:∀j,j<m->f j / 2^Builtin.Int.intBits top=0:=λj hj=>by
  have h1:=(intBits_le_iff (m:=Builtin.Int.intBits top)).mp (Zj _);refine Int.ediv_eq_zero_of_lt (hf j hj).1 ?_;have h2:=hmax j hj;have e2:((2^Builtin.Int.intBits top:Nat):Int)=(2:Int)^Builtin.Int.intBits top:=by rw[Int.natCast_pow];rfl
  rw[← e2];omega
 generalize hBe:Builtin.Int.intBits top=B at hB hlt;have key:Run (QqY dn dt ds) (Qav 8 [Qj m R L,Qd m f]) (Rt λd fr=>∃c,d=QeN m T f c/\fr=true/\Told m T f c):=by
  have hneed:=hn m R L [f] m0 (λg hg' j hj=>by rw[Zw.mp hg'];exact(hf j hj).1);refine run_seq (Qcu (Qp rfl hneed rfl) ?_);refine rsa (Qp rfl htoll rfl) ?_;refine rsa (Qiw rfl rfl ⋯) ?_;refine rsa (Qiw rfl rfl ⋯) ?_;refine run_seq (QL rfl ?_);refine rsa (evmax rfl rfl) ?_;refine Qca (P:=λU=>∃c j3 j4 j7,Told m T f c/\U=[slF (Qj m R L),slF (Qd m f),slT (QK m m T),j3,j4,some (QeN m T f c,true),slI top,j7]) ?_ ?_
  ·refine Qa0 (List.range B) (λi U=>∃c j3 j4 j7,Told m T (λj=>f j / 2^(B-i)) c/\U=[slF (Qj m R L),slF (Qd m f),slT (QK m m T),j3,j4,some (QeN m T (λj=>f j / 2^(B-i)) c,true),slI top,j7])
    (Quq (QaR (ra:=reI B) (by rw[← hBe];rfl) rfl rfl) rfl rfl rfl rfl rfl ⋯) rfl ⟨λ_=>0,none,none,none,?_,?_⟩ ?_ ?_
   ·refine Ql4 (λj hj=>(hlt j hj).symm) ⟨.nil,λj hj=>?_,λj hj=>?_⟩
    ·unfold Qn;rw[Qx λi _=>by rw[ZN],Q9];exact Zak _
    ·unfold Qn;rw[Qx λi _=>by rw[ZN],Q9];have:=tp.neg j hj;show(0:Int)+0<_;omega
   ·show _=[slF (Qj m R L),slF (Qd m f),slT (QK m m T),none,none,some (QeN m T (λj=>f j / 2^B) λ_=>0,true),slI top,none];rw[← Qj5 λj hj=>(hlt j hj).symm];unfold QeN;rw[QwB];rfl
   ·rintro i i' U hi ⟨c,j3,j4,j7,hc,rfl⟩;obtain⟨hiB,rfl⟩:=Qky hi;obtain⟨s,hsB⟩:∃s:Nat,B-i=s+1:=⟨B-i-1,⋯⟩;have es:(B:Int)-1-i=(s:Int):= ⋯
    have es2:B-(i+1)=s:= ⋯
    rw[hsB]at hc;rw[hsB,es2,es];generalize hF:(λj=>f j / 2^(s+1))=F at hc;have hF':∀j,F j=f j / 2^(s+1):=λj=>by rw[← hF]
    refine⟨_,rfl,?_⟩;have e2:∀j,2*F j+f j / 2^s % 2=f j / 2^s:=λj=>by rw[hF',← Qvp]
    have erow:∀j,2*Qn m T F c j+f j / 2^s % 2=Qn m T (λj=>f j / 2^s) (λi=>2*c i) j:=λj=>by
     have:=Qri (m:=m) (T:=T) (f:=F) (c:=c) (b:=λj=>f j / 2^s % 2) j;rw[← this];exact(QaJ j (e2 j).symm λ_ _=>rfl).symm
    refine run_seq (QL (r:=reT (Qd m (Qn m T (λj=>f j / 2^s) (λi=>2*c i)))) ?_ ?_)
    ·have e:=QS (fi:=Qaw (Qv (Qq 5) (dC (.int 0))) (Qq 1)) (t:= .tp [1,2]) (cap:=[none,none,none,some 7]) (fe:=QI (Qaz (dC (.int 2)) (Qq 1)) (dOp Qag (dOp QpD (Qq 2) (Qq 3)) (dC (.int 2)))) (U:=[slF (Qj m R L),slF (Qd m f),slT (QK m m T),j3,j4,some (QeN m T F c,true),slI top,slI s])
      (List.range m) (QcB rfl rfl rfl rfl) rfl λj hj=>
       ⟨[none,slI (Qn m T F c j),slI (f j),slI s],rfl,_,Qau (Qbj rfl rfl rfl rfl (Qfw (by decide))) rfl (Qam (QBj rfl rfl rfl rfl) rfl rfl rfl (by decide)) rfl,rfl,rfl⟩
     refine e.trans ?_;congr 2;show D.lst _=D.lst _;congr 1;refine Zr λj _=>?_;rw[erow]
    ·rw[Qbb];refine run_seq (QL (r:=reT (Qd m (λi=>2*c i))) ?_ ?_)
     ·exact QS (List.range m) (Qa1 rfl rfl) rfl λj hj=>⟨[none,slI (c j)],rfl,_,Qbj rfl rfl rfl rfl (Qfw (by decide)),rfl,rfl⟩
     ·rw[Qbb];obtain⟨d2,hd2,ed2⟩:=hc.leg.QzM (λj=>f j / 2^s % 2) (λj=>ZJ _ (by decide));have hleg:Leg m T (λj=>f j / 2^s) (λi=>2*c i):=(hd2.cast ed2).QrN λj _=>e2 j;have hpos:∀j,j<m->0<=Qn m T (λj=>f j / 2^s) (λi=>2*c i) j:=λj hj=>by
       rw[← erow];have:=hc.pos j hj;have:=ZJ (f j / 2^s) (by decide:(2:Int)≠0);omega
      obtain⟨k',h1,h2,h3,h4⟩:=hs m T _ _ hm tp hleg hpos;refine run_seq (QL (Qp rfl h1 rfl) (Qu ?_));rw[Qbb];exact⟨k',_,_,_,⟨h2,h3,h4⟩,rfl⟩
   ·rintro U ⟨c,j3,j4,j7,hc,rfl⟩;rw[ZI,Nat.sub_self]at *;have e:∀j,j<m->f j / 2^0=f j:=λj _=>by rw[Int.pow_zero,Int.ediv_one]
    exact⟨c,_,_,_,Ql4 e hc,by rw[Qj5 e]⟩
  ·rintro U ⟨c,j3,j4,j7,hc,rfl⟩;exact QF rfl ⟨c,rfl,rfl,hc⟩
 obtain⟨o,h1,h2⟩:=key;cases o with
 | rt d fr=>
  obtain⟨c,rfl,rfl,h3⟩:=h2;exact⟨c,by unfold Qs;rw[h1];rfl,h3⟩
 | _=>exact h2.elim
theorem QsS{x:Nat}{W:List (Int×Int×Bool)}{U:En}{b:Bool}(h:U[x]? =some (some (Qah W,b))):Qow (Qq x) (QdU (dC (.int 1))) U=some (reT (Qah W.reverse)):=by
 unfold Qow;rw[Qbw h,Za];have e:(if(Qah W).flat=true then HS.R.mk (Qah W) true []else if b=true then HS.R.mk (Qah W) true [x]else HS.R.mk (Qah W) false []).d=Qah W:=by cases b<;>rfl
 rw[e];show some (Qat (W.map Qdl).reverse _)=_;rw[← List.map_reverse];unfold Qat
 rw[if_pos (QrM _)];rfl
theorem QuW{m:Nat}{t kind:Int}:Esc m (QcI m t kind):=λA Z=>by
 obtain⟨p,hp,hA⟩:=Z;have ex:∃j:Nat,j<m/\A (((j:Int)+t) % m).toNat:=by
  have h1:=ZJ ((p:Int)-t) (by omega:(m:Int)≠0);have h2:=ZM ((p:Int)-t) (by omega:(0:Int)<m);refine⟨(((p:Int)-t) % m).toNat,⋯,?_⟩;have e:(((((p:Int)-t) % m).toNat:Int)+t) % m=p:=by
   rw[Int.toNat_of_nonneg h1,Int.emod_add_emod,Int.sub_add_cancel];exact ZbL ⋯ ⋯
  rw[e,ZL];exact hA
 obtain⟨j,⟨hj,hAj⟩,hmin⟩:=Qkz ex;have s1:=ZJ ((j:Int)+t) (by omega:(m:Int)≠0);have s2:=ZM ((j:Int)+t) (by omega:(0:Int)<m);refine⟨Qfa m t kind j,ZT.mpr ⟨j,Zk.mpr hj,rfl⟩,?_,hAj,?_⟩
 ·exact s2
 ·show QfP m t j=m∨¬A (QfP m t j).toNat
  unfold QfP;split
  ·rename_i h;have n1:=ZJ (QbM t j) (by omega:(j:Int)+1≠0);right;intro z;refine hmin (QbM t j % ((j:Int)+1)).toNat ⋯ ⟨⋯,?_⟩;rw[Int.toNat_of_nonneg n1];exact z
  ·exact .inl rfl
noncomputable def Qib(QbH:Den):DS:=(Qc (Qbh (Qar vv1) (.nm 5) (Qc (Qt 6 (dOp Qag (Qaz vv5 Qq3) Qjg)) (Qc (Qt 7 (dOp Qag vv6 (QI vv2 kk1))) (Qc (Qt 8 (dOp Qag (QI (QI vv7 kk1) (dOp Qag (dOp QbU vv6 kk9) vv2)) (QI vv2 kk1))) (Qc (Qt 9 (QaF (Qa vv7 (Qa vv8 (Qa (QcF (dOp gLt vv7 vv2) (dOr (dOp gEq vv3 kk2) (QcF (dOp gEq vv3 kk3) (dOp gEq (dOp Qag (dOp QbU vv6 QCK) kk3) kk1)))) Qb))))) (Qc (sIf (QC (Qg 3 QbH [] (Qa vv2 (Qa (QI vv0 (QN (Qa vv9 Qb))) (Qa vv4 Qb))))) (Qc (Qt 0 (QI vv0 (QN (Qa vv9 Qb)))) Qi) Qi) Qi)))))) (Qc (QB vv0) Qi))
theorem Qts{m:Nat}{kind c:Int}{s0 s1 s4 s5 s6 s7 s8:Option (D×Bool)}{g:DS}{Q:Out->Prop}(hm:0<m)
  (k:Run g [s0,s1,slI m,slI kind,s4,slI c,slI (QbS c),slI (mStart m c),slI (QiP m c),some (Qdl (QeD m kind c),true)] Q):
  Run (Qc (Qt 6 (dOp Qag (Qaz (Qq 5) (dC (.int 48271))) (dC (.int 2147483647)))) (Qc (Qt 7 (dOp Qag (Qq 6) (QI (Qq 2) (dC (.int 1))))) (Qc (Qt 8 (dOp Qag (QI (QI (Qq 7) (dC (.int 1))) (dOp Qag (dOp QbU (Qq 6) (dC (.int 9))) (Qq 2))) (QI (Qq 2) (dC (.int 1))))) (Qc (Qt 9 (QaF (Qa (Qq 7) (Qa (Qq 8) (Qa (QcF (dOp gLt (Qq 7) (Qq 2)) (dOr (dOp gEq (Qq 3) (dC (.int 2))) (QcF (dOp gEq (Qq 3) (dC (.int 3))) (dOp gEq (dOp Qag (dOp QbU (Qq 6) (dC (.int 72))) (dC (.int 3))) (dC (.int 1)))))) Qb))))) g))))
   [s0,s1,slI m,slI kind,s4,slI c,s5,s6,s7,s8] Q:=by
 refine rsa (Qam (b:=2147483647) (Qbj (a:=c) (b:=48271) rfl rfl rfl rfl (Qez (by decide))) rfl rfl rfl (by decide)) ?_;refine rsa (Qam (a:=QbS c) (b:=(m:Int)+1) rfl rfl (Qau (a:=(m:Int)) (b:=1) rfl rfl rfl rfl) rfl ⋯) ?_;refine rsa (Qam (a:=mStart m c+1+QbS c / 9 % m) (b:=(m:Int)+1) (Qau (Qau (a:=mStart m c) (b:=1) rfl rfl rfl rfl) rfl (Qam (a:=QbS c / 9) (b:=m) (Qf8 (a:=QbS c) (b:=9) rfl rfl rfl rfl (by decide) (by decide)) rfl rfl rfl ⋯) rfl) rfl (Qau (a:=(m:Int)) (b:=1) rfl rfl rfl rfl) rfl ⋯) ?_;refine run_seq (QL (r:=⟨Qdl (QeD m kind c),true,[]⟩) ?_ ?_)
 ·have e:=Qd5 (U:=[s0,s1,slI m,slI kind,s4,slI c,slI (QbS c),slI (mStart m c),slI (QiP m c),s8])
   (QaR (g:=gLt) (fa:=Qq 7) (fb:=Qq 2) (ra:=reI (mStart m c)) (rb:=reI m) rfl rfl rfl)
   (Qw6 (Qa5 (a:=kind) (b:=2) (fa:=Qq 3) (fb:=dC (.int 2)) rfl rfl rfl rfl)
    (Qd5 (Qa5 (a:=kind) (b:=3) (fa:=Qq 3) (fb:=dC (.int 3)) rfl rfl rfl rfl) (Qa5 (a:=QbS c / 72 % 3) (b:=1) (fb:=dC (.int 1)) (Qam (a:=QbS c / 72) (b:=3) (fb:=dC (.int 3)) (Qf8 (a:=QbS c) (b:=72) (fa:=Qq 6) (fb:=dC (.int 72)) rfl rfl rfl rfl (by decide) (by decide)) rfl rfl rfl (by decide)) rfl rfl rfl)))
  have t:QaF (Qa (Qq 7) (Qa (Qq 8) (Qa (QcF (dOp gLt (Qq 7) (Qq 2)) (dOr (dOp gEq (Qq 3) (dC (.int 2))) (QcF (dOp gEq (Qq 3) (dC (.int 3))) (dOp gEq (dOp Qag (dOp QbU (Qq 6) (dC (.int 72))) (dC (.int 3))) (dC (.int 1)))))) Qb))) [s0,s1,slI m,slI kind,s4,slI c,slI (QbS c),slI (mStart m c),slI (QiP m c),s8]=some ⟨Qdl (QeD m kind c),true,[]⟩:=by
   unfold QaF;rw[Qm (r:=reI (mStart m c)) rfl (Qm (r:=reI (QiP m c)) rfl (Qm e (QJ _)))];rfl
  exact t
 ·rw[Qbb];exact k
def QmM(d:Den):Prop:=∀(m:Nat) (W:List (Int×Int×Bool)) (cs:List Int) (kind room:Int),0<m->m<=1000->W.length+cs.length<=10000->(∀w∈W,GoodW m w)→
 ∃W' fr,d [Qah W,.lst (cs.map .int),.int m,.int kind,.int room]=some (Qah (W++W'),fr)/\W'.length<=cs.length/\∀w∈W',GoodW m w
theorem QwC{QbH:Den}(hf:QmS QbH):QmM (Qs 10 (Qib QbH)):=λm W cs kind room h0 hm hl hg=>by
 have key:Run (Qib QbH) (Qav 10 [Qah W,.lst (cs.map .int),.int m,.int kind,.int room]) (Rt λd fr=>∃W',d=Qah (W++W')/\W'.length<=cs.length/\∀w∈W',GoodW m w):=by
  refine run_seq (Qa0 (toD:=D.int) cs (λi U=>∃W' b j4 j5 j6 j7 j8,W'.length<=i/\(∀w∈W',GoodW m w)/\U=[some (Qah (W++W'),b),slF (.lst (cs.map .int)),slI m,slI kind,slI room,j4,j5,j6,j7,j8]) (ir:=⟨cs.map .int,[]⟩) rfl rfl ⟨[],false,none,none,none,none,none,ZO _,λw hw=>absurd hw (by simp),by rw[Zag];rfl⟩ ?_ ?_)
  ·rintro i c U hi ⟨W',b,j4,j5,j6,j7,j8,hw1,hw2,rfl⟩;have hil:i<cs.length:=(Zm.mp hi).1;have gw:=QsE h0 kind c;refine⟨_,rfl,Qts h0 ?_⟩
   have eadd:QI (Qq 0) (QN (Qa (Qq 9) Qb)) [some (Qah (W++W'),b),slF (.lst (cs.map .int)),slI m,slI kind,slI room,slI c,slI (QbS c),slI (mStart m c),slI (QiP m c),some (Qdl (QeD m kind c),true)]=some (reT (Qah (W++W'++[QeD m kind c]))):=
    Qxm (A:=W++W') (B:=[QeD m kind c]) (Qbw rfl) (by cases b<;>rfl) rfl rfl (by simp;omega)
   have gg:∀w∈W++W'++[QeD m kind c],GoodW m w:=λw hw=>by
    rcases ZH.mp hw with h | h
    ·rcases ZH.mp h with h | h
     ·exact hg w h
     ·exact hw2 w h
    ·have:w=QeD m kind c:=by simpa using h
     rw[this];exact gw
   obtain⟨bf,hbf⟩:=hf m (W++W'++[QeD m kind c]) room hm (by simp;omega) gg;refine run_seq (QY (QH (Qp (Qm (r:=reI m) rfl (Qm eadd (Qm (r:=reI room) rfl (QJ _)))) hbf rfl) rfl) (λ_=>run_seq (QL eadd (Qu ?_))) (λ_=>Qu (Qu ⟨W',b,_,_,_,_,_,⋯,hw2,rfl⟩)));rw[Qbb];refine Qu ⟨W'++[QeD m kind c],true,_,_,_,_,_,by simp;omega,λw hw=>?_,by rw[ZaV];rfl⟩;rcases ZH.mp hw with h | h
   ·exact hw2 w h
   ·have:w=QeD m kind c:=by simpa using h
    rw[this];exact gw
  ·rintro U ⟨W',b,j4,j5,j6,j7,j8,hw1,hw2,rfl⟩;exact QF (Qbw rfl) ⟨W',by cases b<;>rfl,hw1,hw2⟩
 obtain⟨o,h1,h2⟩:=key;cases o with
 | rt d fr=>
  obtain⟨W',rfl,h3,h4⟩:=h2;exact⟨W',fr,by unfold Qs;rw[h1];rfl,h3,h4⟩
 | _=>exact h2.elim
noncomputable def QcE(m:Nat)(f:Mt1):Nat->Int:=λi=>if i<m then f i else 0
noncomputable def QeA(o:Mt1)(s:Int×Int)(j:Nat):Int:=(if s.2=j then o s.1.toNat else 0)-(if s.1=j then o s.1.toNat else 0)
theorem QsB(hj:j<m)(g:Good m s)(c:Mt1):Qo m (λi=>c i*hit i j s)=QeA (QcE m c) s j:=by
 obtain⟨g1,g2,g3,g4,g5⟩:=g;have e:Qo m (λi=>c i*hit i j s)=Qo m (λi=>(if i=s.1.toNat then(if s.2=j then 1 else 0)-(if s.1=j then 1 else 0)else 0)*c i):=Qx λi _=>by
  have:hit i j s=(if i=s.1.toNat then(if s.2=j then 1 else 0)-(if s.1=j then 1 else 0)else 0):=by
   unfold hit;by_cases a:s.1=i
   ·rw[if_pos (show i=s.1.toNat by omega)];congr 1
    ·by_cases b:s.2=j
     ·rw[if_pos ⟨a,b⟩,if_pos b]
     ·rw[if_neg (λz=>b z.2),if_neg b]
    ·by_cases b:i=j
     ·rw[if_pos ⟨a,b⟩,if_pos ⋯]
     ·rw[if_neg (λz=>b z.2),if_neg ⋯]
   ·rw[if_neg (λz=>a z.1),if_neg (λz=>a z.1),if_neg ⋯];rfl
  rw[this,Zap]
 rw[e];unfold QeA QcE;by_cases hm:s.1.toNat<m
 ·rw[Qai hm,if_pos hm];by_cases a:s.2=j
  ·rw[if_pos a,if_pos a];by_cases b:s.1=j
   ·rw[if_pos b,if_pos b];omega
   ·rw[if_neg b,if_neg b];omega
  ·rw[if_neg a,if_neg a];by_cases b:s.1=j
   ·rw[if_pos b,if_pos b];omega
   ·rw[if_neg b,if_neg b];omega
 ·rw[Qx (g:=λ_=>0) λi hi=>by rw[if_neg ⋯,ZN],Q9,if_neg hm];simp
theorem Qxx{m:Nat}{R L:Lpp}(hR:∀s∈R,Good m s)(hL:∀s∈L,Good m s)(f c:Mt1){j:Nat}(hj:j<m):
  Qn m (Qf m (Qe R L)) f c j=QcE m f j+(R.map λs=>QeA (QcE m c) s j+QeA (QcE m c) s.swap j).sum+(L.map λs=>QeA (QcE m c) s j).sum:=by
 have gS:=Qby hR hL;have e:Qo m (λi=>c i*Qf m (Qe R L) i j)=((Qe R L).map λs=>QeA (QcE m c) s j).sum:=by
  rw[Qx (g:=λi=>((Qe R L).map λs=>c i*hit i j s).sum) λi hi=>by
   rw[Qbu hi hj λs hs=>⟨(gS s hs).1,(gS s hs).2.1⟩,Qmr]]
  rw[Qge m (λi s=>c i*hit i j s) (Qe R L)];congr 1;exact Zr λs hs=>QsB hj (gS s hs) c
 unfold Qn;rw[e,show QcE m f j=f j by unfold QcE;rw[if_pos hj]];unfold Qe;rw[ZQ,Zbj,ZQ,Zbj,ZY];have:∀R:List (Int×Int),(R.map λs=>QeA (QcE m c) s j+QeA (QcE m c) s.swap j).sum=(R.map λs=>QeA (QcE m c) s j).sum+(R.map ((λs=>QeA (QcE m c) s j) ∘ Prod.swap)).sum:=by
  intro R
  induction R with
  | nil=>rfl
  | cons s R ih=>simp only[Zp,ZK,ih,Function.comp];omega
 rw[this];omega
theorem Qq9{m:Nat}(h:fa U=some r)(e:r.d=Qd m f):dBf Qbz (Qa fa Qb) U=some (reI m):=by
 rw[QfK h e];simp
theorem Qe2(h:fs U=some rs)(hl:rs.ds.length<=64):QN fs U=some ⟨.lst rs.ds,rs.fr,rs.M⟩:=by
 unfold QN;rw[h,Za,if_pos hl]
theorem QqR{fa fb:DE}{U:En}{ra rb:R}{m n:Nat}{f:Mt2}{i:Int}(ha:fa U=some ra)(ea:ra.d=QK m n f)(hb:fb U=some rb)(eb:rb.d= .int i)(h0:0<=i)(h:i<m):Qv fa fb U=some ⟨Qd n (f i.toNat),ra.fr,ra.M⟩:=by
 unfold Qv;rw[ha,Za,hb,Za,ea,eb];simp only[QK,D.items,Za,QqG h0 h,ZR];rfl
noncomputable def Qrt:DS:=(Qc (QB (dOp gEq (dBf Qbz (Qa (Qv vv0 kk2) Qb)) kk0)) Qi)
def QjG(d:Den):Prop:=∀(m:Int) (R L:Lpp),d [Qj m R L]=some (.bl (decide ((L.length:Int)=0)),true)
theorem Qv6:QjG (Qs 1 Qrt):=λm R L=>by
 refine QU ?_;refine QF (Qa5 (QfK (QbX (r:=reF (Qj m R L)) rfl rfl).2.2 rfl) rfl rfl rfl) ⟨?_,rfl⟩;simp
abbrev QBz(i:Int):Prop:=Builtin.Int.intBits i<=2^20
noncomputable def Qvv:DS:=(Qc (QB (QQ (Qar vv0) (.nm 1) [none,none,some 1] Q8 (Qv vv1 vv2))) Qi)
def Qhr(d:Den):Prop:=∀(n m:Nat) (f:Mt2) (j:Nat),j<m->d [QK n m f,.int j]=some (Qd n (λi=>f i j),true)
theorem Quu:Qhr (Qs 2 Qvv):=λn m f j hj=>
 QU (QF (QS (List.range n) (Qa1 rfl rfl) rfl λi _=>⟨_,rfl,reI (f i j),Qct rfl rfl rfl rfl hj,rfl,rfl⟩) ⟨rfl,rfl⟩)
noncomputable def QvF(QeB:Den):DS:=(Qc (QB (QQ (Qcz (dBf Qbz (Qa vv0 Qb))) (.nm 1) [none,none,some 0] Q8 (Qg 2 QeB [] (Qa vv2 (Qa vv1 Qb))))) Qi)
theorem QjI{n:Nat}(h:fa U=some r)(e:r.d=QK n m f):dBf Qbz (Qa fa Qb) U=some (reI n):=by
 rw[QfK h e];simp
def Qk9(d:Den):Prop:=∀(n:Nat) (f:Mt2),n<=1000->d [QK n n f]=some (QK n n (λj i=>f i j),true)
theorem Qup(hc:Qhr dc):Qk9 (Qs 1 (QvF dc)):=λn f hn=>
 QU (QF (QS (List.range n) (Qev (QjI rfl rfl) rfl ⋯) rfl λj hj=>⟨[none,slI j,slF (QK n n f)],rfl,reT (Qd n (λi=>f i j)),Qp rfl (hc n n f j (Zk.mp hj)) rfl,rfl,rfl⟩) ⟨rfl,rfl⟩)
noncomputable def sm:Nat->(Nat->Int)->Int
 | 0,_=>0
 | n+1,f=>sm n f+f n
theorem Qce:∀{n:Nat},(∀i,i<n->f i=g i)->sm n f=sm n g
 | 0,_=>rfl
 | n+1,h=>by unfold sm;rw[Qce λi hi=>h i ⋯,h n ⋯]
theorem Qmc(x y:Int)(f g:Mt1):∀n,sm n (λi=>x*f i+y*g i)=x*sm n f+y*sm n g
 | 0=>by simp[sm]
 | n+1=>by
  unfold sm;rw[Qmc x y f g n,ZaY,ZaY];show _+(x*f n+y*g n)=_;omega
theorem Qnc:∀{n:Nat},(∀i,i<n->f i=0)->sm n f=0
 | 0,_=>rfl
 | n+1,h=>by unfold sm;rw[Qnc λi hi=>h i ⋯,h n ⋯];rfl
theorem QfW:∀{n:Nat},c<n->(∀i,i<n->i≠c->f i=0)->sm n f=f c
 | 0,hc,_=> ⋯
 | n+1,hc,h=>by
  unfold sm;by_cases e:c=n
  ·rw[Qnc λi hi=>h i ⋯ ⋯,e];omega
  ·rw[QfW (c:=c) ⋯ λi hi=>h i ⋯,h n ⋯ (Ne.symm e)];omega
theorem Ql2:∀{n:Nat},c<d->d<n->(∀i,i<n->i≠c->i≠d->f i=0)->sm n f=f c+f d
 | 0,_,hc,_=> ⋯
 | n+1,hcd,hd,h=>by
  unfold sm;by_cases e:d=n
  ·rw[QfW (c:=c) ⋯ λi hi ne=>h i ⋯ ne ⋯,e]
  ·rw[Ql2 (c:=c) (d:=d) hcd ⋯ λi hi=>h i ⋯,h n ⋯ ⋯ ⋯];omega
theorem QqO(x:Int)(f:Mt1):∀n,sm n (λi=>f i*x)=sm n f*x
 | 0=>by simp[sm]
 | n+1=>by unfold sm;rw[QqO x f n,Zac]
noncomputable def skp(j c:Nat):Nat:=if c<j then c else c+1
noncomputable def sgn(j:Nat):Int:=if j % 2=0 then 1 else-1
theorem QkA(j:Nat):sgn (j+1)= -sgn j:=by
 unfold sgn;by_cases h:j % 2=0
 ·rw[if_pos h,if_neg ⋯]
 ·rw[if_neg h,if_pos ⋯];rfl
noncomputable def det:Nat->(Nat->Nat->Int)->Int
 | 0,_=>1
 | n+1,m=>sm (n+1) λj=>sgn j*m j 0*det n λc r=>m (skp j c) (r+1)
noncomputable def cup(m:Mt2)(c:Nat)(a:Mt1):Nat->Nat->Int:=λj=>if j=c then a else m j
theorem Q5(m:Mt2)(c:Nat)(a:Mt1):cup m c a c=a:=by unfold cup;rw[if_pos rfl]
theorem QR(m:Mt2)(a:Mt1)(h:j≠c):cup m c a j=m j:=by unfold cup;rw[if_neg h]
theorem QcV(m:Mt2)(c:Nat):cup m c (m c)=m:=by
 funext j;by_cases h:j=c
 ·rw[h,Q5]
 ·rw[QR _ _ h]
theorem Qyz(m:Mt2)(c:Nat)(a b:Mt1):cup (cup m c a) c b=cup m c b:=by
 funext j;by_cases h:j=c
 ·rw[h,Q5,Q5]
 ·rw[QR _ _ h,QR _ _ h,QR _ _ h]
theorem Qc3(m:Mt2)(a b:Mt1)(h:c≠d):cup (cup m c a) d b=cup (cup m d b) c a:=by
 funext j;by_cases h1:j=c
 ·subst h1;rw[QR _ _ h,Q5,Q5]
 ·by_cases h2:j=d
  ·subst h2;rw[Q5,QR _ _ h1,Q5]
  ·rw[QR _ _ h2,QR _ _ h1,QR _ _ h1,QR _ _ h2]
theorem QeW:∀{n:Nat}{m k:Mt2},(∀j,j<n->∀r,r<n->m j r=k j r)->det n m=det n k
 | 0,_,_,_=>rfl
 | n+1,m,k,h=>by
  unfold det;refine Qce λj hj=>?_;rw[h j hj 0 ⋯,QeW (n:=n) (m:=λc r=>m (skp j c) (r+1)) (k:=λc r=>k (skp j c) (r+1)) λc hc r hr=>h _ (by unfold skp;split<;>omega) _ ⋯]
theorem Qig(m:Mt2)(c:Nat)(v:Mt1):(λc' r=>cup m c v (skp c c') (r+1))=λc' r=>m (skp c c') (r+1):=by
 funext c' r;rw[QR _ _ (by unfold skp;split<;>omega)]
theorem QhN(m:Mt2)(v:Mt1)(h:c≠j):(λc' r=>cup m c v (skp j c') (r+1))=cup (λc' r=>m (skp j c') (r+1)) (if c<j then c else c-1) (λr=>v (r+1)):=by
 funext c' r;by_cases e:c'=if c<j then c else c-1
 ·rw[e,Q5];have:skp j (if c<j then c else c-1)=c:=by
   unfold skp;by_cases q:c<j
   ·rw[if_pos q,if_pos q]
   ·rw[if_neg q,if_neg ⋯];omega
  rw[this,Q5]
 ·rw[QR _ _ e,QR];intro z;refine e ?_;unfold skp at z;by_cases q:c'<j
  ·rw[if_pos q]at z;rw[if_pos ⋯];omega
  ·rw[if_neg q]at z;rw[if_neg ⋯];omega
theorem Qm1(x y:Int)(a b:Mt1):∀(n:Nat) (m:Mt2) (c:Nat),c<n->∀(a b:Mt1),det n (cup m c λr=>x*a r+y*b r)=x*det n (cup m c a)+y*det n (cup m c b)
 | 0,_,_,h,_,_=> ⋯
 | n+1,m,c,h,a,b=>by
  unfold det;rw[← Qmc];refine Qce λj hj=>?_;by_cases e:j=c
  ·subst e;rw[Qig,Qig,Qig,Q5,Q5,Q5];generalize det n _=q;generalize sgn j=s;simp only[ZaY,Zac,Zao,ZbM]
  ·rw[QhN m _ (Ne.symm e),QhN m _ (Ne.symm e),QhN m _ (Ne.symm e),QR _ _ e,QR _ _ e,QR _ _ e,Qm1 x y a b n _ _ (by split<;>omega)];generalize det n _=q;generalize det n _=q';generalize sgn j*m j 0=s;simp only[ZaY,ZbM]
theorem Qjw(h:c<n)(a b:Mt1):det n (cup m c λr=>a r+b r)=det n (cup m c a)+det n (cup m c b):=by
 have:=Qm1 1 1 a b n m c h a b;simpa only[Zaq]using this
theorem QmX(h:c<n)(x:Int)(a:Mt1):det n (cup m c λr=>x*a r)=x*det n (cup m c a):=by
 have:=Qm1 x 0 a a n m c h a a;simpa only[ZN,Zbb]using this
theorem QjD:∀(n:Nat) (m:Mt2) (c:Nat),c+1<n->m c=m (c+1)->det n m=0
 | 0,_,_,h,_=> ⋯
 | n+1,m,c,h,e=>by
  unfold det;rw[Ql2 (c:=c) (d:=c+1) ⋯ h]
  ·have:(λc' r=>m (skp c c') (r+1))=λc' r=>m (skp (c+1) c') (r+1):=by
    funext c' r;unfold skp;by_cases q:c'<c
    ·rw[if_pos q,if_pos ⋯]
    ·rw[if_neg q];by_cases q2:c'=c
     ·rw[if_pos ⋯,q2,e]
     ·rw[if_neg ⋯]
   rw[this,QkA,e];generalize det n _=q;rw[Zau,Zau];omega
  ·intro j hj h1 h2;have:det n (λc' r=>m (skp j c') (r+1))=0:=by
    by_cases q:c<j
    ·refine QjD n _ c ⋯ ?_;funext r;show m (skp j c) (r+1)=m (skp j (c+1)) (r+1);unfold skp;rw[if_pos q,if_pos ⋯,e]
    ·refine QjD n _ (c-1) ⋯ ?_;funext r;show m (skp j (c-1)) (r+1)=m (skp j (c-1+1)) (r+1);unfold skp;rw[if_neg ⋯,if_neg ⋯,show c-1+1=c by omega,e]
   rw[this,Zas]
theorem Qkb(hc:c<n)(hd:d<n)(hcd:c≠d)(hz:∀k:Nat->Nat->Int,k c=k d->det n k=0)(a b:Mt1):det n (cup (cup m c a) d b)= -det n (cup (cup m c b) d a):=by
 have z:=hz (cup (cup m c λr=>a r+b r) d λr=>a r+b r) (by rw[Q5,QR _ _ hcd,Q5]);have za:=hz (cup (cup m c a) d a) (by rw[Q5,QR _ _ hcd,Q5]);have zb:=hz (cup (cup m c b) d b) (by rw[Q5,QR _ _ hcd,Q5]);rw[Qjw hd,Qc3 _ _ _ hcd,Qjw hc,Qc3 _ _ _ hcd,Qjw hc,Qc3 _ _ _ (Ne.symm hcd),Qc3 _ _ _ (Ne.symm hcd),Qc3 _ _ _ (Ne.symm hcd),Qc3 _ _ _ (Ne.symm hcd),za,zb]at z;omega
theorem Qmm:∀(g n:Nat) (m:Mt2) (i:Nat),i+g+1<n->m i=m (i+g+1)->det n m=0
 | 0,n,m,i,h,e=>QjD n m i h e
 | g+1,n,m,i,h,e=>by
  have:=Qkb (m:=m) (c:=i+g+1) ⋯ ⋯ ⋯ (λk hk=>QjD n k _ ⋯ hk) (m (i+g+1)) (m (i+g+1+1));rw[QcV,QcV]at this;rw[this,Qmm g n _ i ⋯]
  ·rfl
  ·rw[QR _ _ ⋯,QR _ _ ⋯,QR _ _ ⋯,Q5];exact e
theorem Qlr(hi:i<n)(hj:j<n)(hij:i≠j)(e:m i=m j):det n m=0:=by
 rcases Nat.lt_or_gt_of_ne hij with h | h
 ·exact Qmm (j-i-1) n m i ⋯ (by rw[show i+(j-i-1)+1=j by omega];exact e)
 ·exact Qmm (i-j-1) n m j ⋯ (by rw[show j+(i-j-1)+1=i by omega];exact e.symm)
theorem QoB(hc:c<n)(hd:d<n)(hcd:c≠d)(a b:Mt1):det n (cup (cup m c a) d b)= -det n (cup (cup m c b) d a):=Qkb hc hd hcd (λk hk=>Qlr hc hd hcd hk) a b
theorem Qjz(h:c<n)(x:Mt1)(E:Mt2):∀k,det n (cup m c λr=>sm k λs=>x s*E s r)=sm k λs=>x s*det n (cup m c (E s))
 | 0=>by
  have:=QmX (m:=m) h 0 λ_=>0;rw[ZN]at this;unfold sm;simpa using this
 | k+1=>by
  unfold sm;rw[Qjw h,Qjz h x E k,QmX h]
theorem QtN:∀{n:Nat}(σ:Nat->Nat),(∀j,j<n+1->σ j<n)->∃i j,i<n+1/\j<n+1/\i≠j/\σ i=σ j
 | 0,σ,h=>absurd (h 0 ⋯) ⋯
 | n+1,σ,h=>by
  by_cases q:∃i,i<n+1/\σ i=σ (n+1)
  ·obtain⟨i,hi,e⟩:=q;exact⟨i,n+1,⋯,⋯,⋯,e⟩
  ·have ne:∀i,i<n+1->σ i≠σ (n+1):=λi hi e=>q ⟨i,hi,e⟩;have hv:=h (n+1) ⋯;obtain⟨i,j,hi,hj,hij,e⟩:=QtN (n:=n) (λj=>if σ (n+1)<σ j then σ j-1 else σ j) λj hj=>by
    have:=h j ⋯;have:=ne j hj;show(if σ (n+1)<σ j then σ j-1 else σ j)<n;by_cases c:σ (n+1)<σ j
    ·rw[if_pos c];omega
    ·rw[if_neg c];omega
   refine⟨i,j,⋯,⋯,hij,?_⟩;have a:=ne i hi;have b:=ne j hj;have e:(if σ (n+1)<σ i then σ i-1 else σ i)=(if σ (n+1)<σ j then σ j-1 else σ j):=e;by_cases c:σ (n+1)<σ i
   ·rw[if_pos c]at e;by_cases d:σ (n+1)<σ j
    ·rw[if_pos d]at e;omega
    ·rw[if_neg d]at e;omega
   ·rw[if_neg c]at e;by_cases d:σ (n+1)<σ j
    ·rw[if_pos d]at e;omega
    ·rw[if_neg d]at e;omega
theorem QoU{n:Nat}{E:Mt2}{x:Mt2}:∀(k:Nat) (W:Mt2) (σ:Nat->Nat),k<=n+1->(∀j,j<n+1->σ j<n)->(∀j,j<k->W j=λr=>sm n λs=>x j s*E s r)->(∀j,k<=j->j<n+1->W j=E (σ j))->det (n+1) W=0
 | 0,W,σ,hk,hσ,_,h2=>by
  obtain⟨i,j,hi,hj,hij,e⟩:=QtN σ hσ;exact Qlr hi hj hij (by rw[h2 i ⋯ hi,h2 j ⋯ hj,e])
 | k+1,W,σ,hk,hσ,h1,h2=>by
  have:=Qjz (n:=n+1) (m:=W) (c:=k) ⋯ (x k) E n;rw[← h1 k ⋯,QcV]at this;rw[this];refine Qnc λs hs=>?_;rw[QoU k (cup W k (E s)) (λj=>if j=k then s else σ j) ⋯ (λj hj=>by show(if j=k then s else σ j)<n;by_cases e:j=k;(rw[if_pos e];exact hs);(rw[if_neg e];exact hσ j hj)) (λj hj=>by rw[QR _ _ ⋯];exact h1 j ⋯) λj h3 h4=>?_,Zas];show cup W k (E s) j=E (if j=k then s else σ j);by_cases e:j=k
  ·rw[e,Q5,if_pos rfl]
  ·rw[QR _ _ e,if_neg e];exact h2 j ⋯ h4
noncomputable def cyc(m:Mt2)(a:Mt1)(l k:Nat):Nat->Nat->Int:=λc=>if c<k then m c else if c=k then a else if c<=l then m (c-1)else m c
theorem QwH(m:Mt2)(a:Mt1)(hk:k<l)(hl:l<n):det n (cyc m a l k)= -det n (cyc m a l (k+1)):=by
 have h:=QoB (n:=n) (m:=cyc m a l k) (c:=k) (d:=k+1) ⋯ ⋯ ⋯ a (m k);have e1:cup (cup (cyc m a l k) k a) (k+1) (m k)=cyc m a l k:=by
  have q1:cyc m a l k k=a:=by unfold cyc;rw[if_neg ⋯,if_pos rfl]
  have q2:cyc m a l k (k+1)=m k:=by unfold cyc;rw[if_neg ⋯,if_neg ⋯,if_pos ⋯,Zbm]
  have:=QcV (cyc m a l k) k;rw[q1]at this;rw[this,← q2,QcV]
 have e2:cup (cup (cyc m a l k) k (m k)) (k+1) a=cyc m a l (k+1):=by
  funext c;by_cases h1:c=k+1
  ·subst h1;rw[Q5];unfold cyc;rw[if_neg ⋯,if_pos rfl]
  ·rw[QR _ _ h1];by_cases h2:c=k
   ·subst h2;rw[Q5];unfold cyc;rw[if_pos ⋯]
   ·rw[QR _ _ h2];unfold cyc;by_cases h3:c<k
    ·rw[if_pos h3,if_pos ⋯]
    ·rw[if_neg h3,if_neg h2,if_neg (show ¬c<k+1 by omega),if_neg h1]
 rw[e1,e2]at h;exact h
theorem QqU(m:Mt2)(a:Mt1)(hl:l<n):∀g k,k+g=l->det n (cyc m a l k)=sgn g*det n (cup m l a)
 | 0,k,h=>by
  have:cyc m a l k=cup m l a:=by
   funext c;unfold cyc cup;by_cases h1:c=l
   ·rw[if_neg ⋯,if_pos ⋯,if_pos h1]
   ·rw[if_neg h1];by_cases h2:c<k
    ·rw[if_pos h2]
    ·rw[if_neg h2,if_neg ⋯,if_neg ⋯]
  rw[this];unfold sgn;simp
 | g+1,k,h=>by
  rw[QwH m a ⋯ hl,QqU m a hl g (k+1) ⋯,QkA,Zau]
theorem Qzt(j:Nat):sgn j*sgn j=1:=by unfold sgn;split<;>rfl
noncomputable def bE(r s q:Nat):Int:=if q=0 then(if s=r then 1 else 0)else if s=q-1 then 1 else 0
theorem QpF(m:Mt2)(a:Mt1)(hr:r<n):det n m*a r=sm n λl=>det n (cup m l a)*m l r:=by
 have v0:∃v:Nat->Nat->Int,v=λj=>if j=0 then a else m (j-1):=⟨_,rfl⟩;obtain⟨v,hv⟩:=v0;have hv0:v 0=a:=by rw[hv];rfl
 have hvs:∀j,v (j+1)=m j:=λj=>by rw[hv];show(if j+1=0 then a else m (j+1-1))=_;rw[if_neg ⋯,Zbm]
 have z:det (n+1) (λj s=>if s=0 then v j r else v j (s-1))=0:=by
  have key:det (n+1) (λj q=>sm n λs=>v j s*bE r s q)=0:=
   QoU (n+1) _ (λ_=>r) ⋯ (λ_ _=>hr) (λj _=>rfl) (λj h1 h2=> ⋯)
  rw[← key];refine QeW λj hj s hs=>?_;by_cases e:s=0
  ·subst e;rw[if_pos rfl,QfW hr]
   ·unfold bE;rw[if_pos rfl,if_pos rfl,ZaO]
   ·intro i _ ne;unfold bE;rw[if_pos rfl,if_neg ne,Zas]
  ·rw[if_neg e,QfW (c:=s-1) ⋯]
   ·unfold bE;rw[if_neg e,if_pos rfl,ZaO]
   ·intro i _ ne;unfold bE;rw[if_neg e,if_neg ne,Zas]
 unfold det at z;have term:∀j,(sgn j*(if(0:Nat)=0 then v j r else v j (0-1))*det n λc q=>if q+1=0 then v (skp j c) r else v (skp j c) (q+1-1))=sgn j*v j r*det n λc=>v (skp j c):=λj=>by
  rw[if_pos rfl];congr 1
 have first:∀(k:Nat) (f:Mt1),sm (k+1) f=f 0+sm k λi=>f (i+1):=λk f=>by
  induction k with
  | zero=>show 0+f 0=f 0+0;omega
  | succ k ih=>show sm (k+1) f+f (k+1)=_;rw[ih];show _=f 0+(sm k (λi=>f (i+1))+f (k+1));omega
 rw[Qce λj _=>term j,first]at z;have t0:(λc=>v (skp 0 c))=m:=by funext c;unfold skp;rw[if_neg ⋯,hvs]
 have tl:∀l,l<n->sgn (l+1)*v (l+1) r*det n (λc=>v (skp (l+1) c))= -(det n (cup m l a)*m l r):=λl hl=>by
  have:(λc=>v (skp (l+1) c))=cyc m a l 0:=by
   funext c;unfold skp cyc;by_cases h0:c=0
   ·subst h0;rw[if_pos (show 0<l+1 by omega),if_neg (show ¬0<0 by omega),if_pos rfl,hv0]
   ·obtain⟨c',rfl⟩:∃c',c=c'+1:=⟨c-1,⋯⟩;rw[if_neg (show ¬c'+1<0 by omega),if_neg h0];by_cases h1:c'+1<=l
    ·rw[if_pos (show c'+1<l+1 by omega),if_pos h1,hvs,Zbm]
    ·rw[if_neg (show ¬c'+1<l+1 by omega),if_neg h1,hvs]
  rw[this,QqU m a hl l 0 ⋯,hvs,QkA];have q:=Qzt l;generalize det n (cup m l a)=d at *;generalize m l r=x at *;have: -sgn l*x*(sgn l*d)= -(sgn l*sgn l*(d*x)):=by
   rw[Zau,Zau,Zao,ZbM x,← Zao,Zap x d]
  rw[this,q,Zaq]
 rw[t0,hv0]at z;have neg:=Qmc (-1) 0 (λl=>det n (cup m l a)*m l r) (λ_=>0) n;rw[Qce (g:=λl=> -1*(det n (cup m l a)*m l r)+0*0) λl hl=>by rw[tl l hl];omega]at z;have s0:sgn 0=1:=rfl;rw[neg,s0,Zaq]at z;rw[Zap];omega
theorem QwK(m:Mt2)(u a:Mt1)(hk:k<n)(hi:i<n)(hki:k≠i):det n m*det n (cup (cup m k u) i a)=det n (cup m k u)*det n (cup m i a)-det n (cup m i u)*det n (cup m k a):=by
 have h1:det n m*det n (cup (cup m k u) i a)=det n (cup (cup m i a) k λr=>det n m*u r):=by
  rw[QmX hk,Qc3 _ _ _ hki]
 have h2:det n (cup (cup m i a) k λr=>det n m*u r)=det n (cup (cup m i a) k λr=>sm n λl=>det n (cup m l u)*m l r):=by
  refine QeW λj hj r hr=>?_;by_cases e:j=k
  ·subst e;rw[Q5,Q5];exact QpF m u hr
  ·rw[QR _ _ e,QR _ _ e]
 rw[h1,h2,Qjz hk (λl=>det n (cup m l u)) m n];have tk:det n (cup (cup m i a) k (m k))=det n (cup m i a):=by rw[Qc3 _ _ _ (Ne.symm hki),QcV]
 have ti:det n (cup (cup m i a) k (m i))= -det n (cup m k a):=by
  rw[QoB hi hk (Ne.symm hki),QcV]
 have tn:∀l,l<n->l≠k->l≠i->det n (cup (cup m i a) k (m l))=0:=λl hl h1 h2=>Qlr hk hl (Ne.symm h1) (by rw[Q5,QR _ _ h1,QR _ _ h2]);rcases Nat.lt_or_gt_of_ne hki with h | h
 ·rw[Ql2 h hi λl hl a b=>by rw[tn l hl a b,Zas],tk,ti,ZaP];omega
 ·rw[Ql2 h hk λl hl a b=>by rw[tn l hl b a,Zas],tk,ti,ZaP];omega
noncomputable def QbR(j r:Nat):Int:=if j=r then 1 else 0
theorem QkR:∀n,det n QbR=1
 | 0=>rfl
 | n+1=>by
  unfold det;rw[QfW (c:=0) ⋯ λi _ ne=>by unfold QbR;rw[if_neg ne,Zas,ZN]];have:(λc r=>QbR (skp 0 c) (r+1))=QbR:=by
   funext c r;have e:skp 0 c=c+1:=by unfold skp;rw[if_neg ⋯]
   rw[e];unfold QbR;by_cases h:c=r
   ·rw[if_pos h,if_pos ⋯]
   ·rw[if_neg h,if_neg ⋯]
  rw[this,QkR n];unfold QbR sgn;simp
theorem Qpr(a:Mt1)(hi:i<n):det n (cup QbR i a)=a i:=by
 have:=QpF QbR a hi;rw[QkR,Zaq,QfW (c:=i) hi λl _ ne=>by rw[show QbR l i=0 by unfold QbR;rw[if_neg ne],Zas]]at this;rw[this,show QbR i i=1 by unfold QbR;rw[if_pos rfl],ZaO]
structure Clr (n N k:Nat) (A m R:Mt2) (d:Int):Prop where
 le:k<=n
 det:HS.det n m=d
 nz:d≠0
 ent:∀i j,i<n->j<N->R i j=HS.det n (cup m i (A j))
 own:∀j,j<k->m j=A j
theorem Clr.start(n N:Nat)(A:Mt2):Clr n N 0 A QbR (λi j=>A j i) 1:=⟨⋯,QkR n,by decide,λi j hi _=>(Qpr (A j) hi).symm,λj hj=> ⋯⟩
theorem Clr.exact{n N k:Nat}{A m R:Mt2}{d:Int}(h:Clr n N k A m R d)(hk:k<n)(kN:k<N){i j:Nat}(hi:i<n)(hj:j<N)(ne:i≠k):R k k*R i j-R i k*R k j=d*HS.det n (cup (cup m k (A k)) i (A j)):=by
 rw[h.ent k k hk kN,h.ent i j hi hj,h.ent i k hi kN,h.ent k j hk hj,← QwK m (A k) (A j) hk hi (Ne.symm ne),h.det]
theorem Clr.step{n N k:Nat}{A m R R':Mt2}{d:Int}(h:Clr n N k A m R d)(hk:k<n)(kN:k<N)(hp:R k k≠0)(h1:∀j,j<N->R' k j=R k j)(h2:∀i j,i<n->i≠k->j<N->∀q,R k k*R i j-R i k*R k j=d*q->R' i j=q):Clr n N (k+1) A (cup m k (A k)) R' (R k k):=by
 refine⟨hk,(h.ent k k hk kN).symm,hp,λi j hi hj=>?_,λj hj=>?_⟩
 ·by_cases e:i=k
  ·subst e;rw[h1 j hj,h.ent i j hi hj,Qyz]
  ·exact h2 i j hi e hj _ (h.exact hk kN hi hj e)
 ·by_cases e:j=k
  ·subst e;rw[Q5]
  ·rw[QR _ _ e];exact h.own j ⋯
theorem Clr.tell{n N k:Nat}{A m R:Mt2}{d:Int}(h:Clr n N k A m R d){j r:Nat}(hj:j<N)(hr:r<n):d*A j r=sm n λl=>R l j*m l r:=by
 have:=QpF m (A j) hr;rw[h.det]at this;rw[this];exact Qce λl hl=>by rw[h.ent l j hl hj]
noncomputable def bnd(B:Nat):Nat->Nat
 | 0=>1
 | n+1=>(n+1)*(B*bnd B n)
theorem QtY:∀{n:Nat},(∀i,i<n->(f i).natAbs<=C)->(sm n f).natAbs<=n*C
 | 0,_=>by simp[sm]
 | n+1,h=>by
  unfold sm;have h1:=QtY (n:=n) λi hi=>h i ⋯;have h2:=h n ⋯;have:=Int.natAbs_add_le (sm n f) (f n);rw[ZbY];omega
theorem QyU(j:Nat):(sgn j).natAbs=1:=by unfold sgn;split<;>rfl
theorem QjJ:∀{n:Nat}{m:Mt2},(∀j,j<n->∀r,r<n->(m j r).natAbs<=B)->(det n m).natAbs<=bnd B n
 | 0,_,_=>by show(1:Int).natAbs<=1;decide
 | n+1,m,h=>by
  unfold det bnd;refine QtY λj hj=>?_;rw[ZbK,ZbK,QyU,Nat.one_mul];refine Nat.mul_le_mul (h j hj 0 ⋯) (QjJ λc hc r hr=>h _ ?_ _ ⋯);unfold skp;split<;>omega
theorem Qnj(hn:n<=8):bnd (2^200) n<2^2000:=by
 have h:∀k,k<9->bnd (2^200) k<2^2000:=by decide+kernel
 exact h n ⋯
def QrO(n:Nat)(m:Mt2):Prop:=∀j,j<n->∀r,r<n->(m j r).natAbs<=2^200
def QiH(n:Nat)(A:Mt2):Prop:=∀k,k<n->∀c:Nat->Int,(∀r,r<=k->sm (k+1) (λl=>c l*A l r)=0)->c k=0
structure Qdj (n N k:Nat) (A m R:Mt2) (d:Int):Prop where
 clr:Clr n N k A m R d
 unit:∀l,k<=l->l<n->m l=QbR l
 col:QrO n m
theorem QrO.put(h:QrO n m)(ha:∀r,r<n->(a r).natAbs<=2^200):QrO n (cup m i a):=λj hj r hr=>by
 by_cases e:j=i
 ·subst e;rw[Q5];exact ha r hr
 ·rw[QR _ _ e];exact h j hj r hr
theorem Qdj.start(n N:Nat)(A:Mt2):Qdj n N 0 A QbR (λi j=>A j i) 1:=⟨Clr.start n N A,λ_ _ _=>rfl,λj _ r _=>by unfold QbR;split<;>decide⟩
theorem Qdj.small{n N k:Nat}{A m R:Mt2}{d:Int}(h:Qdj n N k A m R d)(hn:n<=8)(hA:∀j,j<N->∀r,r<n->(A j r).natAbs<=2^200):d.natAbs<2^2000/\∀i j,i<n->j<N->(R i j).natAbs<2^2000:=by
 have b:=Qnj hn;refine⟨?_,λi j hi hj=>?_⟩
 ·rw[← h.clr.det];exact ZaE (QjJ h.col) b
 ·rw[h.clr.ent i j hi hj];exact ZaE (QjJ (h.col.put (hA j hj))) b
theorem QkD:∀{n:Nat},k<=n->(∀i,k<=i->i<n->f i=0)->sm n f=sm k f
 | 0,h,_=>by rw[Nat.le_zero.mp h]
 | n+1,h,z=>by
  by_cases e:k=n+1
  ·rw[e]
  ·show sm n f+f n=sm k f;rw[QkD (n:=n) ⋯ λi h1 h2=>z i h1 ⋯,z n ⋯ ⋯,Zbb]
theorem Qdj.QwV{n N k:Nat}{A m R:Mt2}{d:Int}(h:Qdj n N k A m R d)(hk:k<n)(kN:k<N)(hl:QiH n A):R k k≠0:=λz=>by
 refine h.clr.nz ?_;have:=hl k hk (λl=>if l=k then-d else R l k) λr hr=>by
  have t:=h.clr.tell kN (show r<n by omega);rw[QkD (k:=k) ⋯]at t
  ·show(sm k λl=>(if l=k then-d else R l k)*A l r)+(if k=k then-d else R k k)*A k r=0;rw[if_pos rfl,Qce (g:=λl=>R l k*m l r) λl hl=>by rw[if_neg ⋯,h.clr.own l hl],← t,Zau];omega
  ·intro l h1 h2;by_cases e:l=k
   ·rw[e,z,ZN]
   ·rw[h.unit l ⋯ h2,show QbR l r=0 by unfold QbR;rw[if_neg ⋯],Zas]
 rw[if_pos rfl]at this;omega
theorem Qdj.step{n N k:Nat}{A m R R':Mt2}{d:Int}(h:Qdj n N k A m R d)(hk:k<n)(kN:k<N)(hA:∀j,j<N->∀r,r<n->(A j r).natAbs<=2^200)(hp:R k k≠0)(h1:∀j,j<N->R' k j=R k j)(h2:∀i j,i<n->i≠k->j<N->∀q,R k k*R i j-R i k*R k j=d*q->R' i j=q):Qdj n N (k+1) A (cup m k (A k)) R' (R k k):=
 ⟨h.clr.step hk kN hp h1 h2,λl h3 h4=>by rw[QR _ _ ⋯];exact h.unit l ⋯ h4,h.col.put (hA k kN)⟩
theorem Qc5(h:i.natAbs<2^2000):QBz i:=ZC (PyProof.Rows.intBits_le h) (by decide)
theorem Qsk(hd:d≠0)(h:a=d*q):QdX a d=q:=by
 rw[Qna,h,Int.mul_fdiv_cancel_left q hd]
theorem Qdv(ha:fa U=some ra)(ea:ra.d= .int a)(hb:fb U=some rb)(eb:rb.d= .int b):dOp QaI fa fb U=some (reI (a-b)):=by
 refine QaR ha hb ?_;rw[ea,eb];rfl
theorem Qmh(ha:fa U=some ra)(ea:ra.d= .int a)(hb:fb U=some rb)(eb:rb.d= .int b)(hz:b≠0)(h2:b.natAbs<2^2000)(h:a=b*q):dOp QbU fa fb U=some (reI q):=by
 refine QaR ha hb ?_;rw[ea,eb];show(if Qcg b=true then some (D.int (QdX a b))else none)=_;have:Qcg b=true:=by
  unfold Qcg;simp only[Zh,decide_eq_true_eq];exact⟨hz,Zt h2 (ZE (by decide) (by decide))⟩
 rw[if_pos this,Qsk hz h]
noncomputable def Qqo:DS:=(Qc (QB (QQ (Qaw vv0 vv1) (.tp [1,2]) [none,none,none,some 2,some 3,some 0,some 1] Q8 (dOp QbU (dOp QaI (Qaz (Qv vv6 vv3) vv1) (Qaz (Qv vv5 vv3) vv2)) vv4))) Qi)
def QmY(d:Den):Prop:=∀(N k:Nat) (a p q:Mt1) (b:Int),k<N->b≠0->b.natAbs<2^2000->(∀j,j<N->(a j).natAbs<2^2000/\(p j).natAbs<2^2000)->(∀j,j<N->p k*a j-a k*p j=b*q j)->d [Qd N a,Qd N p,.int k,.int b]=some (Qd N q,true)
theorem QvL:QmY (Qs 4 Qqo):=λN k a p q b hk hb hb2 hs hq=>
 QU (QF (QS (List.range N) (QcB rfl rfl rfl rfl) rfl λi hi=>⟨[none,slI (a i),slI (p i),slI k,slI b,slF (Qd N a),slF (Qd N p)],rfl,reI (q i),by
  have hi':=Zk.mp hi;refine Qmh (Qdv (Qbj (Qct rfl rfl rfl rfl hk) rfl rfl rfl (Qjp (Qc5 (hs k hk).2) (Qc5 (hs i hi').1))) rfl (Qbj (Qct rfl rfl rfl rfl hk) rfl rfl rfl (Qjp (Qc5 (hs k hk).1) (Qc5 (hs i hi').2))) rfl) rfl rfl rfl hb hb2 (hq i hi'),rfl,rfl⟩) ⟨rfl,rfl⟩)
theorem Qg8:∀{l:List Nat},l.Nodup->(∀o∈l,o<m)->(l.map g).sum=Qo m λo=>if o∈l then g o else 0
 | [],_,_=>by
  rw[Qx (g:=λ_=>0) λi _=>by rw[if_neg (by simp)],Q9];rfl
 | a::l,nd,h=>by
  have nd':=Zat.mp nd;rw[Zp,ZK,Qg8 nd'.2 λo ho=>h o (by simp[ho])];have e:=Qai (m:=m) (p:=a) (h a (by simp)) 1 g;rw[show g a=1*g a by rw[Zaq],← e,← Qae];refine Qx λo _=>?_;by_cases ho:o=a
  ·subst ho;rw[if_pos rfl,if_neg nd'.1,if_pos (by simp)];omega
  ·rw[if_neg ho];by_cases hl:o∈l
   ·rw[if_pos hl,if_pos (by simp[hl])];omega
   ·rw[if_neg hl,if_neg (by simp[ho,hl])];omega
theorem QxT{m:Nat}{g:Mt1}{l k:List Nat}(hl:l.Nodup)(hk:k.Nodup)(sub:∀o∈l,o∈k)(hm:∀o∈k,o<m)(pos:∀o∈k,0<=g o):(l.map g).sum<=(k.map g).sum:=by
 rw[Qg8 hl λo ho=>hm o (sub o ho),Qg8 hk hm];refine QbV λo _=>?_;by_cases h:o∈l
 ·rw[if_pos h,if_pos (sub o h)];exact Zak _
 ·rw[if_neg h];by_cases h2:o∈k
  ·rw[if_pos h2];exact pos o h2
  ·rw[if_neg h2];exact Zak _
theorem QwA{m:Nat}{R:Lpp}(hR:∀s∈R,Good m s){i j:Nat}(hi:i<m)(hj:j<m)(hij:i≠j):Qf m (Qe R []) i j=Qf m (Qe R []) j i:=by
 have gS:=Qby (L:=[]) hR (λs hs=>absurd hs (by simp));have hn:∀s∈Qe R [],0<=s.1/\0<=s.2:=λs hs=>⟨(gS s hs).1,(gS s hs).2.1⟩;rw[Qbu hi hj hn,Qbu hj hi hn];unfold Qe;rw[Zag,ZQ,ZQ,Zbj,Zbj,ZY,ZY];have e:∀i j:Nat,i≠j->∀s:Int×Int,(hit i j ∘ Prod.swap) s=hit j i s:=λi j h s=>by
  unfold hit;simp only[Function.comp,Zby,ZbP];rw[if_neg (λz=>h z.2) (c:=s.2=i/\i=j),if_neg (λz=>h z.2.symm) (c:=s.1=j/\j=i)];congr 1;by_cases a:s.2=i
  ·by_cases b:s.1=j
   ·rw[if_pos ⟨a,b⟩,if_pos ⟨b,a⟩]
   ·rw[if_neg (λz=>b z.2),if_neg (λz=>b z.1)]
  ·rw[if_neg (λz=>a z.1),if_neg (λz=>a z.2)]
 rw[Zr λs _=>e i j hij s,Zr λs _=>e j i (λz=>hij z.symm) s];omega
noncomputable def QaX(T:Mt2)(p:Nat)(l:List Nat):Int:=((l.filter λo=>decide (o≠p)).map (T p)).sum
noncomputable def Qcy(T:Mt2)(a:Mt1)(l:List Nat):List Nat:=l.filter λp=>decide (QaX T p l<=a p)
noncomputable def QdA(T:Mt2)(a:Mt1)(l:List Nat):List Nat:=l.filter λp=> !(Qcy T a l).contains p
theorem Qwb(tp:TP m T)(sym:∀i j,i<m->j<m->i≠j->T i j=T j i)(h:Told m T f c)(nd:l.Nodup)(ne:l≠[])(hl:∀p∈l,p<m/\0<c p):Qcy T (Qn m T f c) l≠[]:=λz=>by
 have hno:∀p∈l,Qn m T f c p<QaX T p l:=λp hp=>by
  have:¬p∈Qcy T (Qn m T f c) l:=by rw[z];simp
  unfold Qcy at this;rw[ZD]at this;by_cases h2:QaX T p l<=Qn m T f c p
  ·exact absurd ⟨hp,by rw[decide_eq_true h2]⟩ this
  ·omega
 have key:=h.leg.least tp (c':=λi=>c i-(if i∈l then 1 else 0)) (λi hi=>by
  have:=h.leg.nonneg i;show 0<=c i-(if i∈l then 1 else 0);split
  ·have:=(hl i ‹_›).2;omega
  ·omega) (λj hj=>by
  have e:Qn m T f (λi=>c i-(if i∈l then 1 else 0)) j=Qn m T f c j-Qo m λi=>if i∈l then T i j else 0:=by
   unfold Qn;have e1:(λi=>(c i-(if i∈l then 1 else 0))*T i j)=λi=>c i*T i j+ -(if i∈l then T i j else 0):=by
    funext i;rw[Int.sub_mul];split<;>omega
   rw[e1,Qae,QbK];omega
  rw[e];have hs:=h.stb j hj;by_cases hjl:j∈l
  ·have hn:=hno j hjl;have e2:(Qo m λi=>if i∈l then T i j else 0)=QaX T j l+T j j:=by
    unfold QaX;rw[Qg8 (m:=m) (nd.filter _) λo ho=>(hl o (ZD.mp ho).1).1];have e3:=Qai (m:=m) (p:=j) hj 1 (λi=>T j i);rw[show T j j=1*T j j by rw[Zaq],← e3,← Qae];refine Qx λi hi=>?_;by_cases hij:i=j
    ·subst hij;rw[if_pos hjl,if_pos rfl,if_neg (by simp)];omega
    ·rw[if_neg hij];by_cases hil:i∈l
     ·rw[if_pos hil,if_pos (ZD.mpr ⟨hil,by simpa using hij⟩),sym i j hi hj hij];omega
     ·rw[if_neg hil,if_neg (λz=>hil (ZD.mp z).1)];omega
   rw[e2];omega
  ·have:0<=Qo m λi=>if i∈l then T i j else 0:=by
    have:=QbV (m:=m) (f:=λ_=>0) (g:=λi=>if i∈l then T i j else 0) λi hi=>by
     show(0:Int)<=if i∈l then T i j else 0;split
     ·refine tp.pos i j hi hj λe=>?_;subst e;exact hjl ‹_›
     ·exact Zak _
    rw[Q9]at this;exact this
   omega)
 cases l with
 | nil=>exact ne rfl
 | cons p l=>
  have:=key p (hl p (by simp)).1;have:c p<=c p-(if p∈p::l then 1 else 0):=this;rw[if_pos (by simp)]at this;omega
noncomputable def Qc4(QbC:Den):DS:=(Qc (sIf (QbL (QC (Qg 1 QbC [] (Qa vv0 Qb)))) (Qc Qw Qi) Qi) Qi)
def QmG(d:Den):Prop:=∀(m:Nat) (R:Lpp),d [Qj m R []]=some (.non,true)
theorem Qv8(hp:QjG dp):QmG (Qs 1 (Qc4 dp)):=λm R=>by
 have key:Run (Qc4 dp) (Qav 1 [Qj m R []]) (Nx λ_=>True):=by
  refine run_seq (QY (b:=false) (Qcn (b:=true) (QH (b:=true) (Qp (r:=⟨[Qj m R []],false,[]⟩) rfl (hp m R []) rfl) rfl)) (λh=>by cases h) (λ_=>Qu (Qu trivial)))
 obtain⟨o,h1,h2⟩:=key;unfold Qs;rw[h1];cases o with
 | nx U=>rfl
 | _=>exact h2.elim
noncomputable def QrZ:Option Int->D
 | none=> .non
 | some i=> .int i
@[simp] theorem QuJ(o:Option Int):(QrZ o).flat=true:=by cases o<;>rfl
noncomputable def QCM(m:Nat)(F:Nat->Option Int):D:= .lst ((List.range m).map λi=>QrZ (F i))
@[simp] theorem QDi(m:Nat)(F:Nat->Option Int):(QCM m F).flat=false:=rfl
@[simp] theorem QCE(m:Nat)(F:Nat->Option Int):QT ((List.range m).map λi=>QrZ (F i))=true:=Qbl (f:=λi=>QrZ (F i)) (λ_=>QuJ _) _
noncomputable def QZ(T:Mt2)(h:Mt1)(m:Nat):Nat->List Nat
 | 0=>List.range m
 | k+1=>QdA T h (QZ T h m k)
noncomputable def Qb1(T:Mt2)(h:Mt1)(m:Nat):Nat->Nat->Option Int
 | 0,_=>none
 | k+1,p=>if p∈Qcy T h (QZ T h m k)then some ((k:Int)+1)else Qb1 T h m k p
theorem Qd6:∀k,(QZ T h m k).Nodup
 | 0=>Zbx
 | k+1=>(Qd6 k).filter _
theorem QdE:p∈QdA T h l↔p∈l/\p∉Qcy T h l:=by
 unfold QdA;rw[ZD];simp
theorem Qc0:p∈Qcy T h l↔p∈l/\QaX T p l<=h p:=by
 unfold Qcy;rw[ZD];simp
theorem QkK(hkj:k<=j)(hp:p∈QZ T h m j):p∈QZ T h m k:=by
 induction j with
 | zero=>rw[show k=0 by omega];exact hp
 | succ j ih=>
  by_cases e:k=j+1
  ·rw[e];exact hp
  ·exact ih ⋯ (QdE.mp hp).1
theorem Qfq(hp:p∈QZ T h m k):p<m:=Zk.mp (QkK (ZO k) hp)
theorem Qga:∀k p,p<m->(Qb1 T h m k p=none↔p∈QZ T h m k)
 | 0,p,hp=>⟨λ_=>Zk.mpr hp,λ_=>rfl⟩
 | k+1,p,hp=>by
  show(if p∈Qcy T h (QZ T h m k)then some ((k:Int)+1)else Qb1 T h m k p)=none↔p∈QdA T h (QZ T h m k);rw[QdE];by_cases hr:p∈Qcy T h (QZ T h m k)
  ·rw[if_pos hr];exact⟨λz=>(by cases z),λz=>absurd hr z.2⟩
  ·rw[if_neg hr,Qga k p hp];exact⟨λz=>⟨z,hr⟩,λz=>z.1⟩
theorem Qi2:∀k p t,Qb1 T h m k p=some t->∃j:Nat,j<k/\t=(j:Int)+1/\p∈QZ T h m j/\p∉QZ T h m (j+1)/\QaX T p (QZ T h m j)<=h p
 | 0,_,_,e=>by cases e
 | k+1,p,t,e=>by
  unfold Qb1 at e;by_cases hr:p∈Qcy T h (QZ T h m k)
  ·rw[if_pos hr]at e;cases e;exact⟨k,⋯,rfl,(Qc0.mp hr).1,λz=>(QdE.mp z).2 hr,(Qc0.mp hr).2⟩
  ·rw[if_neg hr]at e;obtain⟨j,h1,h2⟩:=Qi2 k p t e;exact⟨j,⋯,h2⟩
theorem QlA(pos:∀i j,i<m->j<m->i≠j->0<=T i j)(hp:p<m)(hl:l.Nodup)(hk:k.Nodup)(hm:∀o∈k,o<m)(sub:∀o∈l,o∈k):QaX T p l<=QaX T p k:=by
 unfold QaX;refine QxT (m:=m) (hl.filter _) (hk.filter _) (λo ho=>?_) (λo ho=>hm o (ZD.mp ho).1) (λo ho=>pos p o hp (hm o (ZD.mp ho).1) λe=>?_)
 ·obtain⟨h1,h2⟩:=ZD.mp ho;exact ZD.mpr ⟨sub o h1,h2⟩
 ·have:=(ZD.mp ho).2;simp at this;exact this e.symm
theorem Qis(pos:∀i j,i<m->j<m->i≠j->0<=T i j)(hg:∀j,j<m->h j<=g j):∀k p,p∈QZ T g m k->p∈QZ T h m k
 | 0,p,hp=>hp
 | k+1,p,hp=>by
  obtain⟨h1,h2⟩:=QdE.mp hp;have h3:=Qis pos hg k p h1;refine QdE.mpr ⟨h3,λz=>h2 (Qc0.mpr ⟨h1,?_⟩)⟩;have h4:=(Qc0.mp z).2;have h5:=hg p (Qfq h1);have h6:=QlA pos (Qfq h1) (Qd6 (T:=T) (h:=g) (m:=m) k) (Qd6 (T:=T) (h:=h) (m:=m) k) (λo ho=>Qfq ho) (λo ho=>Qis pos hg k o ho);omega
theorem QtU(pos:∀i j,i<m->j<m->i≠j->0<=T i j)(hg:∀j,j<m->h j<=g j)(hp:p<m)(e:Qb1 T h m m p=some t):∃t',Qb1 T g m m p=some t'/\t'<=t:=by
 obtain⟨j,h1,h2,_,h4,_⟩:=Qi2 m p t e;have h5:p∉QZ T g m (j+1):=λz=>h4 (Qis pos hg _ _ z);cases e2:Qb1 T g m m p with
 | none=>exact absurd (QkK ⋯ ((Qga m p hp).mp e2)) h5
 | some t'=>
  obtain⟨j',g1,g2,g3,_⟩:=Qi2 m p t' e2;refine⟨t',rfl,?_⟩;by_cases hj:j+1<=j'
  ·exact absurd (QkK hj g3) h5
  ·omega
theorem QtO{fa fb:DE}{U:En}{ra rb:R}{i j:Int}{n:Nat}(ha:fa U=some ra)(ea:ra.d= .int i)(hb:fb U=some rb)(eb:rb.d= .int j)(hn:(n:Int)=j-i)(hl:n<=16777216)(h1: -(2^62)<=i)(h2:i<2^61):Qfr fa fb U=some ⟨(List.range n).map λ(k:Nat)=> .int (i+k),[]⟩:=by
 unfold Qfr;rw[ha,Za,hb,Za,ea,eb];show(if j-i<=16777216/\_ then _ else _)=_;rw[if_pos ⟨⋯,⋯,⋯,⋯,⋯⟩,show(j-i).toNat=n by omega];rfl
noncomputable def QoM(QaE:Den):DS:=(Qc (Qt 2 (QQ (Qfr vv1 (dBf Qbz (Qa vv0 Qb))) (.nm 1) [none,none,some 1,some 0] (QC (dOp gNe (Qv (Qv vv3 vv1) vv2) kk0)) vv1)) (Qc (sIf (bOr (QbL (QC vv2)) (QC (dOp gEq (Qv vv2 kk0) vv1))) (Qc (QB vv0) Qi) Qi) (Qc (Qt 3 (dList (Qa vv0 Qb))) (Qc (QcG 3 Qa8 vv1 (Qv vv0 (Qv vv2 kk0))) (Qc (QcG 3 Qa8 (Qv vv2 kk0) (Qg 1 QaE [] (Qa (Qv vv0 vv1) Qb))) (Qc (QB vv3) Qi))))))
def QmF(d:Den):Prop:=∀(n N k:Nat) (f:Mt2),k<n->n<=1000->k<N->f k k≠0->d [QK n N f,.int k]=some (QK n N f,false)
theorem QwN:QmF (Qs 4 (QoM dop)):=λn N k f hk hn kN hp=>by
 have eI:=Qjy (fi:=Qfr (Qq 1) (dBf Qbz (Qa (Qq 0) Qb))) (t:= .nm 1) (cap:=[none,none,some 1,some 0]) (ft:=QC (dOp gNe (Qv (Qv (Qq 3) (Qq 1)) (Qq 2)) (dC (.int 0)))) (fe:=Qq 1) (U:=[slF (QK n N f),slI k,none,none])
  (toD:=λ(i:Nat)=> .int ((k:Int)+i)) (keep:=λi=> !decide (f (k+i) k=0)) (out:=λ(i:Nat)=> .int ((k:Int)+i)) (List.range (n-k)) (QtO (i:=k) (j:=n) (n:=n-k) (ra:=reI k) rfl rfl (QjI (n:=n) (m:=N) (f:=f) (r:=reF (QK n N f)) rfl rfl) rfl ⋯ ⋯ ⋯ ⋯) rfl λi hi=>⟨[none,slI ((k:Int)+i),slI k,slF (QK n N f)],rfl,by
   have hi':=Zk.mp hi;refine QH (QeS (a:=f (k+i) k) (b:=0) (Qct (m:=N) (f:=f (k+i)) (i:=k) ((QqR (m:=n) (n:=N) (f:=f) (i:=(k:Int)+i) (ra:=reF (QK n N f)) (rb:=reI ((k:Int)+i)) rfl rfl rfl rfl ⋯ ⋯).trans (by rw[show((k:Int)+i).toNat=k+i by omega])) rfl (rb:=reI k) rfl rfl kN) rfl rfl rfl) rfl,λ_=>⟨(reI ((k:Int)+i)),rfl,rfl,rfl⟩⟩
 have hr:List.range (n-k)=0::(List.range (n-k-1)).map (· +1):=by
  rw[show n-k=(n-k-1)+1 by omega,Zcb];rfl
 rw[hr,List.filter_cons,if_pos (by show(!decide (f (k+0) k=0))=true;rw[Nat.add_zero,decide_eq_false hp];rfl),Zp]at eI;generalize ((((List.range (n-k-1)).map (· +1)).filter λi=> !decide (f (k+i) k=0)).map λ(i:Nat)=>D.int ((k:Int)+i))=xs at eI;refine QU ?_;refine rsa eI ?_;refine Qy (QY (b:=true) ((Qcw (a:=false) (b:=true) (Qcn (b:=true) (show QC (Qq 2) _=some true from rfl)) (QH (b:=true) (Qa5 (a:=k) (b:=k) (ra:=reI k) ?_ rfl (rb:=reI k) rfl rfl) (by simp))).trans rfl) (λ_=>?_) (λh=>by cases h))
 ·unfold Qv;show((D.items (.lst (.int ((k:Int)+(0:Nat))::xs))).bind λys=>(atI ys (0:Int)).map λd=>(HS.R.mk d true [2]).norm)=_;simp only[D.items,Za];rw[QgY (show(0:Int)<=0 by decide) (by simp)];show some (HS.R.mk (.int ((k:Int)+(0:Nat))) true [2]).norm=_;rw[show(k:Int)+(0:Nat)=k by omega];rfl
 ·exact Qy (Qbo (r:=reF (QK n N f)) rfl ⟨rfl,rfl⟩)
noncomputable def QiB(Qea:Den)(QeQ:Den):DS:=(Qc (Qt 1 (QbP vv0)) (Qc (Qt 2 kk1) (Qc (Qbh (Qcz (dBf Qbz (Qa vv0 Qb))) (.nm 3) (Qc (Qt 1 (Qg 2 Qea [] (Qa vv1 (Qa vv3 Qb)))) (Qc (Qt 4 (QbP (Qv vv1 vv3))) (Qc (sIf (QC (dOp gEq (Qv vv4 vv3) kk0)) (Qc (QB (QaF (Qa vv1 (Qa kk0 Qb)))) Qi) Qi) (Qc (Qt 1 (QQ (Qar vv1) (.nm 1) [none,none,some 3,some 2,some 4] Q8 (Qg 4 QeQ [] (Qa vv1 (Qa vv4 (Qa vv2 (Qa vv3 Qb))))))) (Qc (QcG 1 Qa8 vv3 vv4) (Qc (Qt 2 (QbP (Qv vv4 vv3))) Qi))))))) (Qc (QB (QaF (Qa vv1 (Qa vv2 Qb)))) Qi))))
theorem QkO(h:fs U=some r)(e:den (r.ds++dfl)=some (d,false))(hn:r.ds.length+dfl.length=n):Qg n den dfl fs U=some (R.norm ⟨d,false,r.M⟩):=by
 unfold Qg;rw[h,Za,if_pos hn,e];rfl
theorem Qsz{k:Nat}(hx:U[x]? =some (slT (QK n N g)))(hi:fi U=some (reI k))(ha:fa U=some (reF (Qd N p)))(hk:k<n)
  (q:Q (.nx (U.set x (slF (QK n N (λi j=>if i=k then p j else g i j)))))):Run (QcG x Qa8 fi fa) U Q:=by
 refine⟨_,?_,q⟩;unfold QcG;rw[ha,Za,hx];have hn:(HS.R.mk (Qd N p) false []).norm=(reF (Qd N p)):=by unfold R.norm Qd;rfl
 simp only[Qa8,Za,hi,QK,QcM,Zl,ZI,hn];rw[Qfu (show(0:Int)<=k by omega) ⋯];simp only[Za,ZL];have e:((List.range n).map λi=>Qd N (g i)).set k (Qd N p)=(List.range n).map λi=>Qd N (λj=>if i=k then p j else g i j):=by
  refine ZaK λi=>?_;rw[List.getElem?_set];by_cases h:k=i
  ·subst h;rw[if_pos rfl,if_pos (by simpa using hk),Zs,ZS hk];simp
  ·rw[if_neg h,Zs,Zs];by_cases h2:i<n
   ·rw[ZS h2];simp only[ZR,if_neg (Ne.symm h)]
   ·rw[ZA (by simpa using h2)];rfl
 rw[e];rfl
def Qie(d:Den):Prop:=∀(n N:Nat) (A:Mt2),n<=8->n<=N->(∀j,j<N->∀r,r<n->(A j r).natAbs<=2^200)->QiH n A->∃m R b,d [QK n N (λi j=>A j i)]=some (.tup [QK n N R,.int b],false)/\Qdj n N n A m R b
theorem Qrw(hp:QmF dp)(ht:QmY dt):Qie (Qs 5 (QiB dp dt)):=λn N A n8 hN hA hl=>by
 have key:Run (QiB dp dt) [slF (QK n N (λi j=>A j i)),none,none,none,none] λo=>match o with | .rt d fr=>fr=false/\∃m R b,d= .tup [QK n N R,.int b]/\Qdj n N n A m R b | _=>False:=by
  refine run_seq (QL (Qhl (r:=reF (QK n N (λi j=>A j i))) rfl) ?_);refine rsa (d:= .int 1) rfl ?_;refine Qy (Qa0 (toD:=λ(k:Nat)=> .int (k:Int)) (List.range n) (λk U=>∃m R b j3 j4,Qdj n N k A m R b/\U=[slF (QK n N (λi j=>A j i)),slF (QK n N R),slI b,j3,j4]) (Qev (n:=n) (QjI (n:=n) (m:=N) (f:=λi j=>A j i) (r:=reF (QK n N (λi j=>A j i))) rfl rfl) rfl ⋯) rfl ⟨_,_,_,none,none,Qdj.start n N A,rfl⟩ ?_ ?_)
  ·rintro k k' U hk ⟨m,R,b,j3,j4,C,rfl⟩;obtain⟨hkn,rfl⟩:=Qky hk;have kN:k<N:= ⋯
   have pv:=C.QwV hkn kN hl;obtain⟨sb,sR⟩:=C.small n8 hA;have ep:=hp n N k R hkn ⋯ kN pv;refine⟨[slF (QK n N (λi j=>A j i)),slF (QK n N R),slI b,slI k,j4],rfl,?_⟩;refine run_seq (QL (r:=reF (QK n N R)) ((QkO (r:=⟨[QK n N R,.int k],false,[]⟩) rfl ep rfl).trans rfl) ?_);refine run_seq (QL (r:=reF (Qd N (R k))) ((Qhl (QqR (m:=n) (n:=N) (f:=R) (i:=k) (ra:=reF (QK n N R)) (rb:=reI k) rfl rfl rfl rfl ⋯ ⋯)).trans rfl) ?_);refine Qy (QY (b:=false) (QH (Qa5 (a:=R k k) (b:=0) (Qct (m:=N) (f:=R k) (i:=k) (ra:=reF (Qd N (R k))) (rb:=reI k) rfl rfl rfl rfl kN) rfl rfl rfl) (by simp[pv])) (λh=>by cases h) (λ_=>Qu ?_));have ex:∀i j,∃q,i<n->i≠k->j<N->R k k*R i j-R i k*R k j=b*q:=λi j=>by
    by_cases h:i<n/\i≠k/\j<N
    ·exact⟨_,λh1 h2 h3=>C.clr.exact hkn kN h1 h3 h2⟩
    ·exact⟨0,λh1 h2 h3=>absurd ⟨h1,h2,h3⟩ h⟩
   have zz:∀j,R k k*R k j-R k k*R k j=b*0:=λj=>by rw[Int.sub_self,Zas]
   have eT:∀i,i<n->dt [Qd N (R i),Qd N (R k),.int k,.int b]=slT (Qd N (λj=>if i=k then 0 else(ex i j).choose)):=λi hi=>
    ht N k (R i) (R k) _ b kN C.clr.nz sb (λj hj=>⟨sR i j hi hj,sR k j hkn hj⟩) λj hj=>by
     by_cases e:i=k
     ·rw[if_pos e,e];exact zz j
     ·rw[if_neg e];exact(ex i j).choose_spec hi e hj
   refine rsa (d:=QK n N (λi j=>if i=k then 0 else(ex i j).choose)) (QS (toD:=λ(i:Nat)=>Qd N (R i)) (out:=λ(i:Nat)=>Qd N (λj=>if i=k then 0 else(ex i j).choose)) (List.range n) (Qa1 (r:=reF (QK n N R)) rfl rfl) rfl λi hi=>⟨[none,slF (Qd N (R i)),slI k,slI b,slF (Qd N (R k))],rfl,reT (Qd N (λj=>if i=k then 0 else(ex i j).choose)),Qp (r:=⟨[Qd N (R i),Qd N (R k),.int k,.int b],false,[]⟩) rfl (eT i (Zk.mp hi)) rfl,rfl,rfl⟩) ?_;refine run_seq (Qsz (n:=n) (N:=N) (k:=k) (p:=R k) (g:=λi j=>if i=k then 0 else(ex i j).choose) rfl rfl rfl hkn ?_);refine run_seq (QL (r:=reF (.int (R k k))) ((Qhl (Qct (m:=N) (f:=R k) (i:=k) (ra:=reF (Qd N (R k))) (rb:=reI k) rfl rfl rfl rfl kN)).trans rfl) (Qu ?_));rw[Qex rfl];refine⟨_,_,_,_,_,C.step (R':=λi j=>if i=k then R k j else(λi j=>if i=k then 0 else(ex i j).choose) i j) hkn kN hA pv (λj _=>by show(if k=k then R k j else _)=_;rw[if_pos rfl]) (λi j hi ne hj q hq=>?_),rfl⟩;show(if i=k then R k j else if i=k then 0 else(ex i j).choose)=q;rw[if_neg ne,if_neg ne];exact Zbe C.clr.nz (((ex i j).choose_spec hi ne hj).symm.trans hq)
  ·rintro U ⟨m,R,b,j3,j4,C,rfl⟩;rw[ZI]at C;exact QF (r:=reF (.tup [QK n N R,.int b])) rfl ⟨rfl,m,R,b,rfl,C⟩
 obtain⟨o,h1,h2⟩:=key;cases o with
 | rt d fr=>
  obtain⟨rfl,m,R,b,rfl,C⟩:=h2;exact⟨m,R,b,by show Option.bind (QiB dp dt [slF (QK n N (λi j=>A j i)),none,none,none,none]) outD=_;rw[h1];rfl,C⟩
 | _=>exact h2.elim
theorem Qjr(f:Mt1):∀n,sm n f=Qo n f
 | 0=>rfl
 | n+1=>by rw[QP,← Qjr f n];rfl
theorem Qfx(h:∀i,i<m->0<=f i):0<=Qo m f:=by
 have:=QbV h;rw[Q9]at this;exact this
theorem Qvq{m k:Nat}{T:Mt2}(tp:TP m T){c:Mt1}(h0:∀l,k<l->c l=0)(h:∀r,r<m->r<=k->0<=Qo m (λl=>c l*T l r)):∀l,l<m->c l<=0:=by
 obtain⟨w,w0,hw⟩:=tp.wt;have p0:∀l,0<=(if 0<c l then c l else 0):=λl=>by split<;>omega
 have v0:∀r,r<m->0<=Qo m (λl=>(if 0<c l then c l else 0)*T l r):=λr hr=>by
  by_cases h1:0<c r
  ·have hrk:r<=k:=by
    by_cases z:k<r
    ·rw[h0 r z]at h1;omega
    ·omega
   have e:Qo m (λl=>(if 0<c l then c l else 0)*T l r)=Qo m (λl=>((if 0<c l then c l else 0)-c l)*T l r)+Qo m (λl=>c l*T l r):=by
    rw[← Qae m (λl=>((if 0<c l then c l else 0)-c l)*T l r) (λl=>c l*T l r)];exact Qx λl _=>by rw[← Zac];congr 1;omega
   rw[e];refine Int.add_nonneg ?_ (h r hr hrk);refine Qfx λl hl=>?_;by_cases e2:l=r
   ·subst e2;rw[if_pos h1,Int.sub_self,ZN];exact Zak _
   ·refine ZaA ?_ (tp.pos l r hl hr e2);split<;>omega
  ·refine Qfx λl hl=>?_;by_cases e2:l=r
   ·subst e2;rw[if_neg h1,ZN];exact Zak _
   ·exact ZaA (p0 l) (tp.pos l r hl hr e2)
 have s1:0<=Qo m λr=>Qo m (λl=>(if 0<c l then c l else 0)*T l r)*w r:=by
  have:Qo m (λ_=>(0:Int))<=Qo m λr=>Qo m (λl=>(if 0<c l then c l else 0)*T l r)*w r:=QbV λr hr=>ZaA (v0 r hr) (w0 r);rw[Q9]at this;exact this
 have s2:(Qo m λr=>Qo m (λl=>(if 0<c l then c l else 0)*T l r)*w r)=Qo m λl=>(if 0<c l then c l else 0)*Qo m λr=>T l r*w r:=by
  have e1:(λr=>Qo m (λl=>(if 0<c l then c l else 0)*T l r)*w r)=λr=>Qo m λl=>(if 0<c l then c l else 0)*(T l r*w r):=by
   funext r;rw[Zap,← QdG];exact Qx λl _=>by rw[Zap (w r),Zao]
  rw[e1,Quy];exact Qx λl _=>by rw[QdG]
 have s3:(Qo m λl=>(if 0<c l then c l else 0)*Qo m λr=>T l r*w r)<=Qo m λl=> -(if 0<c l then c l else 0):=QbV λl hl=>by
  have:=ZZ (hw l hl) (p0 l);omega
 rw[QbK]at s3;intro l hl;have big:(if 0<c l then c l else 0)<=Qo m λl=>(if 0<c l then c l else 0):=by
  have:=Qai (m:=m) hl (if 0<c l then c l else 0) (λ_=>1);have h2:Qo m (λi=>(if i=l then(if 0<c l then c l else 0)else 0)*1)<=Qo m λl=>(if 0<c l then c l else 0):=QbV λi _=>by
   rw[ZaO];by_cases e:i=l
   ·subst e;rw[if_pos rfl];exact Zak _
   ·rw[if_neg e];exact p0 i
  omega
 by_cases z:0<c l
 ·rw[if_pos z]at big;omega
 ·omega
theorem QqD{m k:Nat}{T:Mt2}(tp:TP m T){c:Mt1}(h0:∀l,k<l->c l=0)(h:∀r,r<m->r<=k->Qo m (λl=>c l*T l r)=0):∀l,l<m->c l<=0:=Qvq tp h0 λr hr hk=>Int.le_of_eq (h r hr hk).symm
theorem QqQ{m:Nat}{T:Mt2}(tp:TP m T):QiH m λl r=>0-T l r:=λk hk c h=>by
 have ext:∀r,r<=k->Qo m (λl=>(if l<=k then c l else 0)*T l r)=0:=λr hr=>by
  have e:=h r hr;rw[← Qjr,QkD (k:=k+1) ⋯]
  ·have n:=Qmc (-1) 0 (λl=>c l*(0-T l r)) (λ_=>0) (k+1);rw[e]at n;rw[Qce (g:=λl=> -1*(c l*(0-T l r))+0*0) λl hl=>by rw[if_pos ⋯,Zbc,ZaP];omega,n];omega
  ·intro l h1 h2;rw[if_neg ⋯,ZN]
 have a:=QqD tp (λl hl=>by show(if l<=k then c l else 0)=0;rw[if_neg ⋯]) (λr _ hr=>ext r hr) k hk;have b:=QqD (k:=k) tp (λl hl=>by show(if l<=k then-c l else 0)=0;rw[if_neg ⋯]) (λr _ hr=>by
  have:=ext r hr;rw[Qx (g:=λl=> -((if l<=k then c l else 0)*T l r)) λl _=>by split<;>simp[Zau],QbK,this];rfl) k hk
 have a:(if k<=k then c k else 0)<=0:=a;have b:(if k<=k then-c k else 0)<=0:=b;rw[if_pos (Zj k)]at a b;omega
noncomputable def QrV:DS:=(Qc (QB (QQ (Qar vv0) (.nm 1) [none,none] Q8 (dOp QaI kk0 vv1))) Qi)
def Qob(d:Den):Prop:=∀(n:Nat) (a:Mt1),d [Qd n a]=some (Qd n λi=>0-a i,true)
theorem QAb:Qob (Qs 1 QrV):=λn a=>QU (QF (QS (List.range n) (Qa1 rfl rfl) rfl λi _=>⟨[none,slI (a i)],rfl,reI (0-a i),rfl,rfl,rfl⟩) ⟨rfl,rfl⟩)
noncomputable def Qqr(QaE:Den)(Q0:Den):DS:=(Qc (QB (QQ (Qar (Qg 1 Q0 [] (Qa vv0 Qb))) (.nm 1) [none,none] Q8 (Qg 1 QaE [] (Qa vv1 Qb)))) Qi)
def Qk1(d:Den):Prop:=∀(m:Nat) (R L:Lpp),m<=1000->R.length+R.length+L.length<=1000000->(∀s∈R,Good m s)->(∀s∈L,Good m s)->d [Qj m R L]=some (QK m m λi j=>0-Qf m (Qe R L) i j,true)
theorem Quj(ho:Qob dop)(ht:QfV dt):Qk1 (Qs 1 (Qqr dop dt)):=λm R L hm hl hR hL=>by
 have et:=ht m R L hm hl hR hL;generalize Qf m (Qe R L)=T at *;exact QU (QF (QS (List.range m) (Qa1 (Qp rfl et rfl) rfl) rfl λi _=>⟨[none,slF (Qd m (T i))],rfl,reT (Qd m λj=>0-T i j),Qp rfl (ho m (T i)) rfl,rfl,rfl⟩) ⟨rfl,rfl⟩)
noncomputable def Qkq:DS:=(Qc (Qt 1 kk0) (Qc (Qbh (Qar vv0) (.nm 2) (Qc (Qt 3 (QbP vv2)) (Qc (Qco (QC (dOp gNe vv3 kk0)) (Qc (Qt 4 (dOp Qag vv1 vv3)) (Qc (Qt 1 (QbP vv3)) (Qc (Qt 3 (QbP vv4)) Qi)))) Qi))) (Qc (QB (dBf Qr9 (Qa vv1 Qb))) Qi)))
theorem QwO:(t∣b/\t∣QdF a b)↔(t∣a/\t∣b):=by
 have e:QdF a b=a-b*QdX a b:=by
  rw[Qna,show QdF a b=a.fmod b from Qmz a b,Int.fmod_def]
 rw[e];constructor
 ·rintro⟨h1,h2⟩;refine⟨?_,h1⟩;have:=Int.dvd_add h2 (ZbX (c:=QdX a b) h1);rwa[Int.sub_add_cancel]at this
 ·rintro⟨h1,h2⟩;exact⟨h2,Int.dvd_sub h1 (ZbX h2)⟩
theorem Qx4(h:b≠0):(QdF a b).natAbs<b.natAbs:=by
 rw[show QdF a b=a.fmod b from Qmz a b];by_cases hb:0<b
 ·have h1:=Zcc a hb;have h2:=Int.fmod_lt_of_pos a hb;omega
 ·have hb':0< -b:= ⋯
  have h1:=Zcc (-a) hb';have h2:=Int.fmod_lt_of_pos (-a) hb';have h3:=Int.neg_fmod_neg a b;omega
def Qkr(d:Den):Prop:=∀(xs:List Int),∃g:Int,d [QO xs]=some (.int g,true)/\0<=g/\∀t,t∣g↔∀x∈xs,t∣x
theorem Qtl:Qkr (Qs 5 Qkq):=λxs=>by
 have key:Run Qkq [slF (QO xs),none,none,none,none] λo=>match o with | .rt d fr=>fr=true/\∃g,d= .int g/\0<=g/\∀t,t∣g↔∀x∈xs,t∣x | _=>False:=by
  refine rsa rfl ?_;refine Qy (Qa0 xs (λk U=>∃g j2 j3 j4,(∀t,t∣g↔∀x∈xs.take k,t∣x)/\U=[slF (QO xs),slI g,j2,j3,j4]) (Qa1 rfl rfl) rfl ⟨0,none,none,none,λt=>by simp,rfl⟩ ?_ ?_)
  ·rintro k x U hk ⟨g,j2,j3,j4,hg,rfl⟩;refine⟨[slF (QO xs),slI g,slI x,j3,j4],rfl,?_⟩;refine run_seq (QL rfl ?_);rw[Qex rfl];refine Qca (P:=λU=>∃g' j4,(∀t,t∣g'↔(t∣g/\t∣x))/\U=[slF (QO xs),slI g',slI x,slI 0,j4]) ?_ ?_
   ·refine QiZ (λn U=>∃g' r j4,n=r.natAbs/\(∀t,(t∣g'/\t∣r)↔(t∣g/\t∣x))/\U=[slF (QO xs),slI g',slI x,slI r,j4]) ?_ x.natAbs _ ⟨g,x,j4,rfl,λ_=>Iff.rfl,rfl⟩;rintro n U ⟨g',r,j4,rfl,hd,rfl⟩;refine⟨!decide (r=0),QH (QeS rfl rfl rfl rfl) rfl,λh=>?_,λh=>?_⟩
    ·have hr:r=0:=by simpa using h
     subst hr;exact⟨g',j4,λt=>by rw[← hd t];simp,rfl⟩
    ·have hr:r≠0:=by simpa using h
     refine rsa (QaR rfl rfl (by show(if r≠0 then some (D.int (QdF g' r))else none)=_;rw[if_pos hr])) ?_;refine run_seq (QL rfl ?_);rw[Qex rfl];refine run_seq (QL rfl (Qu ?_));rw[Qex rfl];exact⟨_,Qx4 hr,r,QdF g' r,_,rfl,λt=>QwO.trans (hd t),rfl⟩
   ·rintro U ⟨g',j4,hd,rfl⟩;refine Qu ⟨g',_,_,_,λt=>?_,rfl⟩;rw[hd t,hg t,List.take_succ,hk];simp only[ZH,Option.toList_some,Zw];exact⟨λ⟨a,b⟩ y hy=>hy.elim (a y) λe=>e▸b,λa=>⟨λy hy=>a y (.inl hy),a x (.inr rfl)⟩⟩
  ·rintro U ⟨g,j2,j3,j4,hg,rfl⟩;rw[ZbW]at hg;refine QF rfl ⟨rfl,_,rfl,by split<;>omega,λt=>?_⟩;rw[← hg t];split
   ·exact Int.dvd_neg
   ·exact Iff.rfl
 obtain⟨o,h1,h2⟩:=key;cases o with
 | rt d fr=>
  obtain⟨rfl,g,rfl,g0,hg⟩:=h2;exact⟨g,by show Option.bind (Qkq [slF (QO xs),none,none,none,none]) outD=_;rw[h1];rfl,g0,hg⟩
 | _=>exact h2.elim
noncomputable def Ql7(Qgj:Den):DS:=(Qc (Qt 1 (Qg 1 Qgj [] (Qa vv0 Qb))) (Qc (sIf (QC (dOp gEq (Qv vv1 kk1) kk0)) (Qc Qw Qi) Qi) (Qc (QB vv1) Qi)))
def QhK(d:Den):Prop:=∀(n N:Nat) (A:Mt2),n<=8->n<=N->(∀j,j<N->∀r,r<n->(A j r).natAbs<=2^200)->QiH n A->∃m R b,d [QK n N (λi j=>A j i)]=some (.tup [QK n N R,.int b],false)/\Qdj n N n A m R b
theorem Qqh(hc:Qie dc):QhK (Qs 2 (Ql7 dc)):=λn N A n8 hN hA hl=>by
 obtain⟨m,R,b,ec,C⟩:=hc n N A n8 hN hA hl;refine⟨m,R,b,QU ?_,C⟩;refine run_seq (QL ((QkO (r:=⟨[QK n N (λi j=>A j i)],false,[]⟩) rfl ec rfl).trans rfl) ?_);refine Qy (QY (b:=false) (QH (Qa5 rfl rfl rfl rfl) (by simp[C.clr.nz])) (λh=>by cases h) (λ_=>Qu ?_));exact QF rfl ⟨rfl,rfl⟩
noncomputable def QoA(QhQ:Den)(QcN:Den)(QeB:Den)(QhA:Den):DS:=(Qc (Qt 2 (dBf Qbz (Qa vv0 Qb))) (Qc (sIf (QC (dOp gNe (dBf Qbz (Qa vv1 Qb)) vv2)) (Qc Qw Qi) Qi) (Qc (Qt 3 (Qg 1 QcN [] (Qa (QQ (Qaw (Qg 1 QhQ [] (Qa vv0 Qb)) vv1) (.tp [1,2]) [none,none,none] Q8 (QI vv1 (QN (Qa vv2 Qb)))) Qb))) (Qc (Qt 4 (Qg 2 QeB [] (Qa (Qv vv3 kk0) (Qa vv2 Qb)))) (Qc (Qt 5 (Qg 1 QhA [] (Qa (QI vv4 (QN (Qa (Qv vv3 kk1) Qb))) Qb))) (Qc (sIf (QC (dOp gLt (Qv vv3 kk1) kk0)) (Qc (Qt 5 (dOp QaI kk0 vv5)) Qi) Qi) (Qc (QB (QaF (Qa (QQ (Qar vv4) (.nm 1) [none,none,some 5] Q8 (dOp QbU vv1 vv2)) (Qa (dOp QbU (Qv vv3 kk1) vv5) Qb)))) Qi)))))))
theorem Qk5(ha:fa U=some ra)(ea:ra.d=Qd m f)(hb:fb U=some (reI x))(hm:m<=1000):QI fa (QN (Qa fb Qb)) U=some (reT (Qd (m+1) (up f m x))):=by
 have hb:QN (Qa fb Qb) U=some (reT (.lst [.int x])):=(Qe2 (Qm hb (QJ _)) (by simp)).trans rfl;unfold QI;rw[ha,Za,hb,Za,ea];simp only[Qd,Zl,ZI,Qfe];rw[if_pos (by simp;omega)];unfold Qat
 rw[if_pos (by rw[QcR,Zh];exact⟨Qbl (λ_=>rfl) _,rfl⟩)];congr 3;rw[ZbE,ZQ];congr 1
 ·refine Zr λi hi=>?_;rw[QfH,if_neg (by have:=Zk.mp hi;omega)]
 ·show _=[D.int (up f m x m)];rw[QfH,if_pos rfl]
theorem Qvn(n:Nat)(f:Mt1):Qd n f=QO ((List.range n).map f):=by unfold Qd QO;rw[ZY];rfl
def Qkm(d:Den):Prop:=∀(n:Nat) (f:Mt2) (row:Mt1),n<=8->(∀j r,j<n->r<n->(f j r).natAbs<=2^200)->(∀r,r<n->(row r).natAbs<=2^200)->QiH n f->∃tops q,d [QK n n f,Qd n row]=some (.tup [Qd n tops,.int q],true)/\0<q/\q.natAbs<2^2000/\(∀r,r<n->q*row r=sm n λl=>tops l*f l r)/\(∀l,l<n->(tops l).natAbs<2^2000)/\(q≠1->∃l,l<n/\¬q∣tops l)
theorem Quh(ht:Qk9 dt)(hc:QhK dc)(hl:Qhr dl)(hm:Qkr dm):Qkm (Qs 6 (QoA dt dc dl dm)):=λn f row n8 hf hr hL=>by
 have hA:∀j,j<n+1->∀r,r<n->((λj r=>if j=n then row r else f j r) j r).natAbs<=2^200:=λj hj r hr'=>by
  show(if j=n then row r else f j r).natAbs<=_;split
  ·exact hr r hr'
  ·exact hf j r ⋯ hr'
 have hL':QiH n λj r=>if j=n then row r else f j r:=λk hk c h=>hL k hk c λr hr=>by
  rw[← h r hr];exact Qce λl hl=>by show c l*f l r=c l*(if l=n then row r else f l r);rw[if_neg ⋯]
 obtain⟨m,R,b,ec,C⟩:=hc n (n+1) _ n8 ⋯ hA hL';obtain⟨sb,sR⟩:=C.small n8 hA;obtain⟨g,eg,g0,hg⟩:=hm ((List.range (n+1)).map (up (λi=>R i n) n b));have gb:g∣b:=(hg g).mp ⟨1,⋯⟩ b (ZT.mpr ⟨n,Zk.mpr ⋯,by rw[QfH,if_pos rfl]⟩);have gR:∀i,i<n->g∣R i n:=λi hi=>(hg g).mp ⟨1,⋯⟩ _ (ZT.mpr ⟨i,Zk.mpr ⋯,by rw[QfH,if_neg ⋯]⟩);have bz:=C.clr.nz;have gz:g≠0:=λz=>by rw[z]at gb;obtain⟨x,hx⟩:=gb;rw[ZN]at hx;exact bz hx
 obtain⟨p,hp⟩:∃p,p=if b<0 then 0-g else g:=⟨_,rfl⟩;have pz:p≠0:=by rw[hp];split<;>omega
 have pd:∀x,g∣x->∃y,x=p*y:=λx Z=>by
  obtain⟨y,hy⟩:=Z;rw[hp];split
  ·exact⟨-y,by rw[hy,Zbc,Int.neg_mul_neg]⟩
  ·exact⟨y,hy⟩
 obtain⟨q,hq⟩:=pd b gb;have tp:∀i,∃y,i<n->R i n=p*y:=λi=>by
  by_cases h:i<n
  ·obtain⟨y,hy⟩:=pd _ (gR i h);exact⟨y,λ_=>hy⟩
  ·exact⟨0,λh'=>absurd h' h⟩
 have gle:g.natAbs<=b.natAbs:=ZaU.mpr gb |> λh=>ZbQ ⋯ h;have ple:p.natAbs<2^2000:=by rw[hp];split<;>omega
 have q0:0<q:=by
  by_cases h:b<0
  ·rw[if_pos h]at hp;refine ZF λz=>?_;have:=Int.mul_nonneg_of_nonpos_of_nonpos (a:=p) (b:=q) ⋯ ⋯;omega
  ·rw[if_neg h]at hp;refine ZF λz=>?_;have:=Int.mul_nonpos_of_nonneg_of_nonpos (a:=p) (b:=q) ⋯ ⋯;omega
 have qle:q.natAbs<2^2000:=by
  have:q∣b:=⟨p,by rw[hq,Zap]⟩;have:=ZbQ ⋯ (ZaU.mpr this);omega
 have tops_small:∀l,l<n->((tp l).choose).natAbs<2^2000:=λl hl=>by
  have h:=(tp l).choose_spec hl;have:=sR l n hl ⋯;by_cases z:(tp l).choose=0
  ·rw[z];exact ZaE (ZO _) this
  ·have d:(tp l).choose∣R l n:=⟨p,by rw[Zap];exact h⟩;have nz:R l n≠0:=by rw[h];exact Int.mul_ne_zero pz z
   have:=ZbQ ⋯ (ZaU.mpr d);omega
 have low:q≠1->∃l,l<n/\¬q∣(tp l).choose:=λq1=>ZF λhno=>by
  have all:∀l,l<n->q∣(tp l).choose:=λl hl=>ZF λz=>hno ⟨l,hl,z⟩;have bg:b∣g:=(hg b).mpr λx hx=>by
   obtain⟨i,hi,rfl⟩:=ZT.mp hx;rw[QfH];split
   ·exact⟨1,⋯⟩
   ·rename_i z;have hi':i<n:=by have:=Zk.mp hi;omega
    obtain⟨y,hy⟩:=all i hi';exact⟨y,by rw[(tp i).choose_spec hi',hy,hq,Zao]⟩
  have h1:=ZbQ ⋯ (ZaU.mpr bg);have pg:p.natAbs=g.natAbs:=by rw[hp];split<;>omega
  have h2:b.natAbs=g.natAbs*q.natAbs:=by rw[hq,ZbK,pg]
  have h3:2<=q.natAbs:= ⋯
  have h4:=Nat.mul_le_mul_left g.natAbs h3;omega
 refine⟨λi=>(tp i).choose,q,QU ?_,q0,qle,λr hr'=>?_,tops_small,low⟩
 ·refine rsa (QjI (n:=n) (m:=n) (f:=f) (r:=reF (QK n n f)) rfl rfl) ?_;refine Qy (QY (b:=false) (QH (b:=false) (r:=reT (.bl false)) ((QeS ((QfK rfl rfl).trans (by rw[Zl,ZI])) rfl rfl rfl).trans (by simp)) rfl) (λh=>by cases h) (λ_=>Qu ?_));have et:=ht n f ⋯;have eZ:QQ (Qaw (Qg 1 dt [] (Qa (Qq 0) Qb)) (Qq 1)) (.tp [1,2]) [none,none,none] Q8 (QI (Qq 1) (QN (Qa (Qq 2) Qb))) [slF (QK n n f),slF (Qd n row),slI n,none,none,none]=some (reT (QK n (n+1) (λi j=>(λj r=>if j=n then row r else f j r) j i))):=by
   refine(QS (List.range n) (QcB (Qp (r:=⟨[QK n n f],false,[]⟩) rfl et rfl) rfl rfl rfl) rfl λi hi=>⟨[none,slF (Qd n (λj=>f j i)),slI (row i)],rfl,reT (Qd (n+1) (up (λj=>f j i) n (row i))),Qk5 rfl rfl rfl ⋯,rfl,rfl⟩).trans ?_;have eT:QK n (n+1) (λi j=>(λj r=>if j=n then row r else f j r) j i)= .lst ((List.range n).map λi=>Qd (n+1) (up (λj=>f j i) n (row i))):=by
    unfold QK;refine congrArg D.lst (Zr λi _=>?_);unfold Qd;exact congrArg D.lst (Zr λj _=>by rw[QfH])
   rw[eT]
  refine run_seq (QL ((QkO (Qm eZ (QJ _)) ec rfl).trans rfl) ?_);refine rsa (Qp rfl (hl n (n+1) R n ⋯) rfl) ?_;refine rsa (Qp (Qm (Qk5 rfl rfl rfl ⋯) (QJ _)) (by show dm [Qd (n+1) (up (λi=>R i n) n b)]=_;rw[Qvn];exact eg) rfl) ?_;refine Qca (P:=λU=>U=[slF (QK n n f),slF (Qd n row),slI n,slF (.tup [QK n (n+1) R,.int b]),slT (Qd n (λi=>R i n)),slI p]) ?_ ?_
  ·refine QY (QH (QaR rfl rfl rfl) rfl) (λh=>?_) (λh=>?_)
   ·refine run_seq (QL rfl (Qu ?_));rw[Qbb,hp,if_pos (of_decide_eq_true h)];rfl
   ·refine Qu ?_;rw[hp,if_neg (of_decide_eq_false h)];rfl
  ·rintro U rfl;refine QF (r:=reT (.tup [Qd n λi=>(tp i).choose,.int q])) ?_ ⟨rfl,rfl⟩;unfold QaF;refine(congrArg (λz=>Option.bind z _) (Qm (QS (List.range n) (Qa1 rfl rfl) rfl λi hi=>⟨[none,slI (R i n),slI p],rfl,reT (.int (tp i).choose),Qmh rfl rfl rfl rfl pz ple ((tp i).choose_spec (Zk.mp hi)),rfl,rfl⟩) (Qm (Qmh rfl rfl rfl rfl pz ple hq) (QJ _)))).trans ?_;rfl
 ·have t:=C.clr.tell (j:=n) ⋯ hr';have t:b*row r=sm n λl=>R l n*m l r:=by
   have e:(if n=n then row r else f n r)=row r:=if_pos rfl;rw[← e];exact t
  rw[Qce (g:=λl=>((tp l).choose*f l r)*p) λl hl=>by
   rw[C.clr.own l hl];show R l n*(if l=n then row r else f l r)=_;rw[if_neg ⋯,Zap _ p,← Zao,← (tp l).choose_spec hl],QqO,hq]at t
  refine Zbe pz ?_;rw[← Zao,t,Zap]
theorem QoI(ha:fa U=some ra)(ea:ra.d=Qd m f)(hb:fb U=some rb)(eb:rb.d=Qd k g)(hl:m+k<=1000):QI fa fb U=some (reT (Qd (m+k) (λi=>if i<m then f i else g (i-m)))):=by
 have e:Qd (m+k) (λi=>if i<m then f i else g (i-m))= .lst (((List.range m).map λi=>D.int (f i))++((List.range k).map λi=>D.int (g i))):=by
  unfold Qd;rw[List.range_add,ZQ,ZY];congr 2
  ·refine Zr λi hi=>?_;show D.int (if i<m then f i else g (i-m))=_;rw[if_pos (Zk.mp hi)]
  ·refine Zr λi hi=>?_;show D.int (if m+i<m then f (m+i)else g (m+i-m))=_;rw[if_neg ⋯,Nat.add_sub_cancel_left]
 rw[e];unfold QI;rw[ha,Za,hb,Za,ea,eb];simp only[Qd,Zl,ZI,Qfe];rw[if_pos ⋯];unfold Qat
 rw[if_pos];rw[QcR,Zh];exact⟨Qbl (λ_=>rfl) _,Qbl (λ_=>rfl) _⟩
noncomputable def QnX(QeL:Den)(Qeg:Den):DS:=(Qc (Qt 2 (Qg 2 Qeg [] (Qa (Qg 1 QeL [] (Qa vv0 Qb)) (Qa vv1 Qb)))) (Qc (QB (QQ (Qar (Qv vv2 kk0)) (.nm 1) [none,none,some 2] Q8 (dOp QbU vv1 (Qv vv2 kk1)))) Qi))
theorem Qq2(ha:fa U=some ra)(ea:ra.d= .int a)(hb:fb U=some rb)(eb:rb.d= .int b)(h:0<b)(h2:b.natAbs<2^2000):dOp QbU fa fb U=some (reI (a / b)):=by
 refine QaR ha hb ?_;rw[ea,eb];show(if Qcg b=true then some (D.int (QdX a b))else none)=_;have:Qcg b=true:=by
  unfold Qcg;simp only[Zh,decide_eq_true_eq];exact⟨⋯,Zt h2 (ZE (by decide) (by decide))⟩
 rw[if_pos this,QkW _ _ ⋯]
theorem Qu5(h:∀i,i<m-> -C<=f i/\f i<=C): -(m*C)<=Qo m f/\Qo m f<=m*C:=by
 induction m with
 | zero=>simp[Qo]
 | succ m ih=>
  rw[QP];have h1:=ih λi hi=>h i ⋯;have h2:=h m ⋯;have e:((m+1:Nat):Int)*C=m*C+C:=by rw[Zcf,Zac];simp
  omega
theorem QtS{m:Nat}{T:Mt2}(hm:m<=8)(hT:∀i j,i<m->j<m->(T i j).natAbs<2^64){f tops:Mt1}{q:Int}(q0:0<q)(h:∀r,r<m->q*f r=sm m λl=>tops l*(0-T l r)):∀r,r<m-> -(2^67)<=Qn m T f (λl=>tops l / q) r/\Qn m T f (λl=>tops l / q) r<=2^67:=λr hr=>by
 have e:q*Qn m T f (λl=>tops l / q) r=Qo m λl=> -(tops l % q)*T l r:=by
  unfold Qn;rw[ZaY,h r hr,Qjr,← QdG,← Qae];refine Qx λl _=>?_;have:=Zbu (tops l) q;have e2:q*(tops l / q*T l r)=(q*(tops l / q))*T l r:=by rw[Zao]
  rw[e2,show q*(tops l / q)=tops l-tops l % q by omega,Zbc,ZaP,Int.sub_mul,Zau];omega
 have b:=Qu5 (f:=λl=> -(tops l % q)*T l r) (C:=q*2^64) λl hl=>by
  have h1:=ZJ (tops l) (by omega:q≠0);have h2:=ZM (tops l) q0;have h3:=hT l r hl hr;have h4:tops l % q*(T l r)<=q*2^64/\ -(q*2^64)<=tops l % q*(T l r):=by
   have a1:tops l % q*T l r<=tops l % q*2^64:=ZZ ⋯ h1;have a2:tops l % q*2^64<=q*2^64:=Zaf ⋯ (by decide);have a3:tops l % q*(-(2^64))<=tops l % q*T l r:=ZZ ⋯ h1;rw[ZaP]at a3;omega
  rw[Zau];omega
 rw[← e]at b;have hm':(m:Int)*(q*2^64)<=8*(q*2^64):=Zaf ⋯ ⋯;generalize Qn m T f (λl=>tops l / q) r=x at b ⊢;constructor
 ·refine ZF λz=>?_;have:=ZZ (show x<= -(2^67)-1 by omega) (show 0<=q by omega);rw[Int.mul_sub,ZaP,ZaO]at this;omega
 ·refine ZF λz=>?_;have:=ZZ (show(2^67+1:Int)<=x by omega) (show 0<=q by omega);rw[ZaY,ZaO]at this;omega
def Qm2(d:Den):Prop:=∀(m:Nat) (R L:Lpp) (f:Mt1),m<=8->Q6 m R L->(∀j,j<m->(f j).natAbs<=2^200)->∃c,d [Qj m R L,Qd m f]=some (Qd m c,true)/\∀r,r<m-> -(2^67)<=Qn m (Qf m (Qe R L)) f c r/\Qn m (Qf m (Qe R L)) f c r<=2^67
theorem QvE(ht:Qk1 dt)(hs:Qkm ds):Qm2 (Qs 3 (QnX dt ds)):=λm R L f m8 hw hf=>by
 have hg:=hw.good;have tp:=hw.tp;have et:=ht m R L ⋯ ⋯ hg.1 hg.2.1;generalize Qf m (Qe R L)=T at *;obtain⟨tops,q,es,q0,q1,hq,_,_⟩:=hs m (λi j=>0-T i j) f m8 (λj r hj hr=>by have:=tp.bnd j r hj hr;have:(2:Nat)^64<=2^200:=ZE (by decide) (by decide);omega) hf (QqQ tp);refine⟨λl=>tops l / q,QU ?_,QtS m8 tp.bnd q0 hq⟩;refine rsa (Qp (Qm (Qp rfl et rfl) (Qm rfl (QJ _))) es rfl) ?_;refine QF (QS (List.range m) (Qa1 rfl rfl) rfl λi _=>⟨[none,slI (tops i),slF (.tup [Qd m tops,.int q])],rfl,reI (tops i / q),Qq2 rfl rfl rfl rfl q0 q1,rfl,rfl⟩) ⟨rfl,rfl⟩
noncomputable def QlL(Qab:Den):DS:=(Qc (QB (QQ (Qar (Qg 1 Qab [] (Qa vv0 Qb))) (.nm 1) [none,none] Q8 (Qaz kk2 vv1))) Qi)
def Qic(d:Den):Prop:=∀(m:Nat) (R L:Lpp),m<=1000->R.length+R.length+L.length<=1000000->(∀s∈R,Good m s)->(∀s∈L,Good m s)->d [Qj m R L]=some (Qd m λi=>2*QE R L i,true)
theorem QrX(hs:QiI ds):Qic (Qs 1 (QlL ds)):=λm R L hm hl hR hL=>
 QU (QF (QS (List.range m) (Qa1 (Qp rfl (hs m R L hm hl hR hL) rfl) rfl) rfl λi _=>⟨[none,slI (QE R L i)],rfl,reI (2*QE R L i),Qbj rfl rfl rfl rfl (Qfw (by decide)),rfl,rfl⟩) ⟨rfl,rfl⟩)
theorem Que(hN:n<=N)(hA:∀j,j<N->∀r,r<n->(A j r).natAbs<=2^200)(hl:QiH n A):∀k,k<=n->∃m R d,Qdj n N k A m R d
 | 0,_=>⟨_,_,_,Qdj.start n N A⟩
 | k+1,hk=>by
  obtain⟨m,R,d,C⟩:=Que hN hA hl k ⋯;have pv:=C.QwV (show k<n by omega) ⋯ hl;have ex:∀i j,∃q,i<n->i≠k->j<N->R k k*R i j-R i k*R k j=d*q:=λi j=>by
   by_cases h:i<n/\i≠k/\j<N
   ·exact⟨_,λh1 h2 h3=>C.clr.exact ⋯ ⋯ h1 h3 h2⟩
   ·exact⟨0,λh1 h2 h3=>absurd ⟨h1,h2,h3⟩ h⟩
  refine⟨_,λi j=>if i=k then R k j else(ex i j).choose,_,C.step ⋯ ⋯ hA pv (λj _=>by rw[if_pos rfl]) λi j hi ne hj q hq=>?_⟩;rw[if_neg ne];exact Zbe C.clr.nz (((ex i j).choose_spec hi ne hj).symm.trans hq)
theorem QpH{n N:Nat}(n8:n<=8){A:Mt2}{g v:Mt1}(hA:∀j,j<n->∀r,r<n->(A j r).natAbs<=2^200)(hl:QiH n A)(hg:∀r,r<n->(g r).natAbs<=2^200)(h:∀r,r<n->g r=sm n λl=>v l*A l r):∀l,l<n->(v l).natAbs<2^2000:=λl hln=>by
 obtain⟨m,R,d,C⟩:=Que (Zj n) hA hl n (Zj n);have e1:det n (cup A l g)=v l*det n A:=by
  have e:det n (cup A l g)=det n (cup A l λr=>sm n λi=>v i*A i r):=by
   refine QeW λj hj r hr=>?_;by_cases q:j=l
   ·subst q;rw[Q5,Q5];exact h r hr
   ·rw[QR _ _ q,QR _ _ q]
  rw[e,Qjz hln v A n,QfW hln λi hi ne=>by rw[Qlr hln hi (Ne.symm ne) (by rw[Q5,QR _ _ ne]),Zas],QcV]
 have e2:det n A=d:=by
  rw[← C.clr.det];exact QeW λj hj r _=>by rw[C.clr.own j hj]
 have b:=ZaE (QjJ (m:=cup A l g) λj hj r hr=>by
  by_cases q:j=l
  ·subst q;rw[Q5];exact hg r hr
  ·rw[QR _ _ q];exact hA j hj r hr) (Qnj n8)
 rw[e1,e2,ZbK]at b;have dz:=C.clr.nz;have:=Nat.le_mul_of_pos_right (v l).natAbs (show 0<d.natAbs by omega);omega
noncomputable def Qch(m:Nat)(T:Mt2)(v:Mt1):Nat->Int:=λj=>2*(0-T j j)-Qn m T (λj=>2*(0-T j j)) v j
theorem Qnr(j:Nat):Qch m T v j= -Qo m λi=>v i*T i j:=by
 unfold Qch Qn;show 2*(0-T j j)-(2*(0-T j j)+_)=_;omega
def Rec(m:Nat)(T:Mt2)(v x:Mt1):Prop:=∃(y u:Mt1),(∀j,j<m->0<=y j)/\Told m T (λj=>y j+Qch m T v j) u/\∀j,j<m->x j=Qn m T (λj=>y j+Qch m T v j) u j
structure Dbl (m:Nat) (T:Mt2) (v:Mt1):Prop where
 told:Told m T (λj=>2*(0-T j j)) v
theorem Dbl.big(h:Dbl m T v)(hj:j<m):(0-T j j)+1<=Qch m T v j/\Qch m T v j<=2*(0-T j j):=by
 have h1:=h.told.stb j hj;have h2:=h.told.pos j hj;unfold Qch;omega
noncomputable def Qzh(Qz:Den)(QdB:Den)(QaL:Den)(Qb0:Den)(Qg5:Den):DS:=(Qc (Qal (Qg 2 Qz [] (Qa vv0 (Qa (QN (Qa vv1 Qb)) Qb)))) (Qc (Qt 2 (Qg 2 QdB [] (Qa vv0 (Qa vv1 Qb)))) (Qc (Qt 3 (Qg 3 QaL [] (Qa vv0 (Qa vv1 (Qa vv2 Qb))))) (Qc (Qt 4 (Qg 2 Qg5 [] (Qa vv0 (Qa (Qg 1 Qb0 [] (Qa vv0 Qb)) Qb)))) (Qc (Qt 5 (QQ (Qaw (Qg 1 Qb0 [] (Qa vv0 Qb)) (Qv vv4 kk0)) (.tp [1,2]) [none,none,none] Q8 (dOp QaI vv1 vv2))) (Qc (Qt 6 (QI (dBf Qhq (Qa (QI (QN (Qa kk0 Qb)) (QQ (Qaw vv3 vv5) (.tp [1,2]) [none,none,none] Q8 (dOp QaI kk0 (dOp QbU vv1 vv2)))) Qb)) kk1)) (Qc (Qt 7 (QQ (Qaw vv3 vv5) (.tp [1,2]) [none,none,none,some 6] Q8 (QI vv1 (Qaz vv3 vv2)))) (Qc (Qt 8 (Qg 2 Qg5 [] (Qa vv0 (Qa vv7 Qb)))) (Qc (Qt 9 (QQ (Qg6 vv2 (Qv vv4 kk1) (Qv vv8 kk1)) (.tp [1,2,3]) [none,none,none,none,some 6] Q8 (QI (dOp QaI vv1 (Qaz vv4 vv2)) vv3))) (Qc (QB (QaF (Qa (Qv vv8 kk0) (Qa vv9 Qb)))) Qi))))))))))
theorem QCq:Qgl ((List.range m).map f) ((List.range m).map g) ((List.range m).map h)=(List.range m).map λi=> .tup [f i,g i,h i]:=by
 unfold Qgl;refine ZaK λi=>?_;by_cases hi:i<m
 ·have a:∀(k:Nat->D),((List.range m).map k)[i]? =some (k i):=λk=>by rw[Zs,ZS hi];rfl
  have e1:(((List.range m).map g).zip ((List.range m).map h))[i]? =some (g i,h i):=Zav.mpr ⟨a g,a h⟩;have e2:(((List.range m).map f).zip (((List.range m).map g).zip ((List.range m).map h)))[i]? =some (f i,(g i,h i)):=Zav.mpr ⟨a f,e1⟩;rw[Zs,e2,a];rfl
 ·rw[ZA (by simp;omega),ZA (by simp;omega)]
theorem Qoq(ha:fa U=some ra)(ea:ra.d= .lst ((List.range m).map f))(hb:fb U=some rb)(eb:rb.d= .lst ((List.range m).map g))(hc:fc U=some rc)(ec:rc.d= .lst ((List.range m).map h)):Qg6 fa fb fc U=some ⟨(List.range m).map λi=> .tup [f i,g i,h i],ra.M++(rb.M++rc.M)⟩:=by
 unfold Qg6;rw[ha,Za,hb,Za,hc,Za,ea,eb,ec];show(if _ then _ else _)=_;rw[if_pos (by simp),QCq]
def Qmy(d:Den):Prop:=∀(m:Nat) (R L:Lpp) (f:Mt1),0<m->m<=8->Q6 m R L->(∀j,j<m->(f j).natAbs<=2^200)->∃k v,d [Qj m R L,Qd m f]=some (.tup [Qd m (Qn m (Qf m (Qe R L)) f k),Qd m k],true)/\Dbl m (Qf m (Qe R L)) v/\Rec m (Qf m (Qe R L)) v (Qn m (Qf m (Qe R L)) f k)/\Stb m (Qf m (Qe R L)) (Qn m (Qf m (Qe R L)) f k)/\∀j,j<m->0<=Qn m (Qf m (Qe R L)) f k j
set_option maxHeartbeats 0 in
theorem Qvw{dn dc da dd ds:Den}(hn:Qen dn)(hc:Qm2 dc)(ha:Qg0 da)(hd:Qic dd)(hs:Qmu ds):Qmy (Qs 10 (Qzh dn dc da dd ds)):=λm R L f m0 m8 hw hf=>by
 have hg:=hw.good;have tp:=hw.tp;obtain⟨c,ec,bc⟩:=hc m R L f m8 hw hf;have ea:=ha m R L f c ⋯ ⋯ hg.1 hg.2.1;have ed:=hd m R L ⋯ ⋯ hg.1 hg.2.1;have sp:∀j,j<m->QE R L j=0-Qf m (Qe R L) j j:=λj hj=>(hw.neg hj).symm;rw[show(Qd m λi=>2*QE R L i)=Qd m λi=>2*(0-Qf m (Qe R L) i i)from congrArg D.lst (Zr λi hi=>by show D.int (2*QE R L i)=D.int (2*(0-Qf m (Qe R L) i i));rw[sp i (Zk.mp hi)])]at ed;obtain⟨v,ev,hv⟩:=hs m R L (λi=>2*(0-Qf m (Qe R L) i i)) m0 ⋯ hw λj hj=>by
  have:=tp.neg j hj;have:=tp.bnd j j hj hj;have:(2:Int)^66<=2^200:=by decide
  omega
 have DD:Dbl m (Qf m (Qe R L)) v:=⟨hv⟩;have still:=hs m R L;generalize Qf m (Qe R L)=T at *;generalize hlow:Qn m T f c=low at *;have big:=λj hj=>DD.big (j:=j) hj;have hmo:∀j,j<m->2*(0-T j j)-Qn m T (λi=>2*(0-T i i)) v j=Qch m T v j:=λj hj=>rfl;generalize hmore:Qch m T v=mo at *;have vb:∀l,l<m->(v l).natAbs<2^2000:=QpH (N:=m) m8 (g:=mo) (λj hj r hr=>by have:=tp.bnd j r hj hr;have:(2:Nat)^64<=2^200:=ZE (by decide) (by decide);omega) (QqQ tp) (λr hr=>by
  have b:=big r hr;have:=tp.neg r hr;have:=tp.bnd r r hr hr;have:(2:Nat)^66<=2^200:=ZE (by decide) (by decide);omega) λr hr=>by
  rw[← hmore,Qnr,Qjr,← QbK];exact Qx λi _=>by rw[Zbc,ZaP]
 obtain⟨top,⟨i0,hi0,etop⟩,hmax,evmax⟩:=QqB (m:=1+m) ⋯ (λi=>if i<1 then 0 else 0-low (i-1) / mo (i-1));have top0:0<=top:=by have:=hmax 0 ⋯;rw[if_pos ⋯]at this;exact this
 have topj:∀j,j<m->0-low j / mo j<=top:=λj hj=>by
  have:=hmax (j+1) ⋯;rw[if_neg ⋯,Zbm]at this;exact this
 have mo0:∀j,j<m->0<mo j:=λj hj=>by have:=big j hj;have:=tp.neg j hj;omega
 have mo1:∀j,j<m->mo j<2^66:=λj hj=>by have:=big j hj;have:=tp.bnd j j hj hj;omega
 have topU:top<=2^67:=by
  rw[etop];split
  ·decide
  ·rename_i h;have hj:i0-1<m:= ⋯
   have b:=bc (i0-1) hj;have p:=mo0 (i0-1) hj;have: -(2^67)<=low (i0-1) / mo (i0-1):=by
    rw[Int.le_ediv_iff_mul_le p];have:=ZZ (show(1:Int)<=mo (i0-1) by omega) (show(0:Int)<=2^67 by decide);rw[Zau];omega
   omega
 have y0:∀j,j<m->0<=low j+top*mo j:=λj hj=>by
  have h1:=Zaf (topj j hj) (show 0<=mo j from Int.le_of_lt (mo0 j hj));have h2:=Zbu (low j) (mo j);have h3:=ZJ (low j) (by have:=mo0 j hj;omega:mo j≠0);rw[Zbc,Zau,Zap (low j / mo j)]at h1;omega
 have hi:∀j,j<m->0<=low j+(top+1)*mo j/\low j+(top+1)*mo j<2^200:=λj hj=>by
  have h1:=y0 j hj;have h2:=mo0 j hj;have h3:=mo1 j hj;have h4:=Int.mul_le_mul (show top+1<=2^67+1 by omega) (show mo j<=2^66 by omega) ⋯ (by decide);have h5:(2:Int)^67+(2^67+1)*2^66<2^200:=by decide
  have h6:=(bc j hj).2;rw[Zac,Zaq]at h4 ⊢;omega
 obtain⟨u,eu,hu⟩:=still (λj=>low j+(top+1)*mo j) m0 ⋯ hw hi;have key:∀j,Qn m T (λj=>low j+(top+1)*mo j) u j=Qn m T f (λi=>c i-(top+1)*v i+u i) j:=λj=>by
  rw[← hlow,← hmore];unfold Qn;show f j+Qo m (λi=>c i*T i j)+(top+1)*Qch m T v j+Qo m (λi=>u i*T i j)=f j+Qo m λi=>(c i-(top+1)*v i+u i)*T i j;rw[Qnr,ZaP,← QdG];have:(λi=>(c i-(top+1)*v i+u i)*T i j)=λi=>(c i*T i j+ -((top+1)*(v i*T i j)))+u i*T i j:=by
   funext i;rw[Zac,Int.sub_mul,Zao];omega
  rw[this,Qae,Qae,QbK];omega
 have row:Qd m (Qn m T (λj=>low j+(top+1)*mo j) u)=Qd m (Qn m T f (λi=>c i-(top+1)*v i+u i)):=congrArg D.lst (Zr λj _=>by rw[key j]);refine⟨λi=>c i-(top+1)*v i+u i,v,QU ?_,DD,⟨λj=>low j+top*mo j,u,y0,?_,λj _=>?_⟩,λj hj=>?_,λj hj=>?_⟩
 ·refine run_seq (Qcu (Qp rfl (hn m R L [f]) rfl) ?_);refine rsa (Qp rfl ec rfl) ?_;refine rsa (Qp rfl ea rfl) ?_;refine rsa (Qp (Qm rfl (Qm (Qp rfl ed rfl) (QJ _))) ev rfl) ?_;refine rsa (d:=Qd m mo) (QS (List.range m) (QcB (Qp rfl ed rfl) rfl rfl rfl) rfl λj hj=>⟨[none,slI (2*(0-T j j)),slI (Qn m T (λi=>2*(0-T i i)) v j)],rfl,reI (2*(0-T j j)-Qn m T (λi=>2*(0-T i i)) v j),rfl,by rw[← hmo j (Zk.mp hj)],rfl⟩) ?_;refine rsa (Qau (evmax (QoI rfl rfl (QS (List.range m) (QcB rfl rfl rfl rfl) rfl λj hj=>⟨[none,slI (low j),slI (mo j)],rfl,reI (0-low j / mo j),Qdv rfl rfl (Qq2 rfl rfl rfl rfl (mo0 j (Zk.mp hj)) (by have:=mo0 j (Zk.mp hj);have:=mo1 j (Zk.mp hj);have:(2:Nat)^66<=2^2000:=ZE (by decide) (by decide);omega)) rfl,rfl,rfl⟩) rfl ⋯) rfl) rfl rfl rfl) ?_;refine rsa (QS (List.range m) (QcB rfl rfl rfl rfl) rfl λj hj=>⟨[none,slI (low j),slI (mo j),slI (top+1)],rfl,reI (low j+(top+1)*mo j),Qau rfl rfl (Qbj rfl rfl rfl rfl (Qjp (Qc5 (by have:(2:Nat)^68<=2^2000:=ZE (by decide) (by decide);omega)) (Qc5 (by have:=mo0 j (Zk.mp hj);have:=mo1 j (Zk.mp hj);have:(2:Nat)^66<=2^2000:=ZE (by decide) (by decide);omega)))) rfl,rfl,rfl⟩) ?_;refine rsa (Qp rfl eu rfl) ?_;refine run_seq (QL (QS (List.range m) (Qoq rfl rfl rfl rfl rfl rfl) rfl λi hi=>⟨[none,slI (c i),slI (v i),slI (u i),slI (top+1)],rfl,reI (c i-(top+1)*v i+u i),Qau (Qdv rfl rfl (Qbj rfl rfl rfl rfl ?_) rfl) rfl rfl rfl,rfl,rfl⟩) ?_)
  rotate_left
  ·rw[Qbb];refine QF (r:=⟨.tup [Qd m (Qn m T (λj=>low j+(top+1)*mo j) u),Qd m λi=>c i-(top+1)*v i+u i],true,[8,9]⟩) rfl ⟨by rw[row],rfl⟩
  ·exact Qjp (Qc5 (by have:(2:Nat)^68<=2^2000:=ZE (by decide) (by decide);omega)) (Qc5 (vb i (Zk.mp hi)))
 ·refine⟨hu.leg.QrN λj hj=>?_,λj hj=>?_,λj hj=>?_⟩
  ·show _=low j+top*mo j+Qch m T v j;rw[hmore,Zac,Zaq];omega
  ·have:=hu.pos j hj;rw[QaJ (g:=λj=>low j+top*mo j+Qch m T v j) j (by show _=low j+top*mo j+Qch m T v j;rw[hmore,Zac,Zaq];omega) λi _=>rfl]at this;exact this
  ·have:=hu.stb j hj;rw[QaJ (g:=λj=>low j+top*mo j+Qch m T v j) j (by show _=low j+top*mo j+Qch m T v j;rw[hmore,Zac,Zaq];omega) λi _=>rfl]at this;exact this
 ·rw[← key j];exact QaJ j (by show _=low j+top*mo j+Qch m T v j;rw[hmore,Zac,Zaq];omega) λi _=>rfl
 ·rw[← key j];exact hu.stb j hj
 ·rw[← key j];exact hu.pos j hj
theorem QjC(j:Nat):Qn m T (Qn m T f c) d j=Qn m T f (λi=>c i+d i) j:=by
 unfold Qn;have:(λi=>(c i+d i)*T i j)=λi=>c i*T i j+d i*T i j:=by funext i;rw[Zac]
 rw[this,Qae];omega
theorem Qq8[Decidable A](hx:0<=x):∀{l:List Nat},l.Nodup->(l.map λ(o:Nat)=>if A/\x=(o:Int)then(1:Int)else 0).sum=if A/\x.toNat∈l then 1 else 0
 | [],_=>by simp
 | a::l,nd=>by
  have nd':=Zat.mp nd;rw[Zp,ZK,Qq8 hx nd'.2];by_cases hA:A
  ·by_cases h:x=a
   ·have:x.toNat=a:= ⋯
    rw[if_pos ⟨hA,h⟩,if_neg (λz=>nd'.1 (this▸z.2)),if_pos ⟨hA,by simp[this]⟩];rfl
   ·have:¬x.toNat=a:= ⋯
    rw[if_neg (λz=>h z.2)];by_cases h2:x.toNat∈l
    ·rw[if_pos ⟨hA,h2⟩,if_pos ⟨hA,by simp[h2]⟩];rfl
    ·rw[if_neg (λz=>h2 z.2),if_neg (λz=>by rcases Zn.mp z.2 with e | e;exact this e;exact h2 e)];rfl
  ·rw[if_neg (λz=>hA z.1),if_neg (λz=>hA z.1),if_neg (λz=>hA z.1)];rfl
theorem QnA{β:Type}:∀S:List β,(S.map λ_=>(0:Int)).sum=0
 | []=>rfl
 | _::S=>by rw[Zp,ZK,QnA S];rfl
theorem Qi5{α β:Type}(g:α->β->Int):∀(l:List α) (S:List β),(l.map λo=>(S.map (g o)).sum).sum=(S.map λs=>(l.map λo=>g o s).sum).sum
 | [],S=>(QnA S).symm
 | a::l,S=>by
  rw[Zp,ZK,Qi5 g l S];clear Qi5
  induction S with
  | nil=>rfl
  | cons s S ih=>simp only[Zp,ZK]at ih ⊢;omega
noncomputable def Q3(p:Nat)(l:List Nat)(s:Int×Int):Int:=if(s.1=p/\s.2.toNat∈l)∨(s.2=p/\s.1.toNat∈l)then 1 else 0
theorem Qnn{m:Nat}{R:Lpp}(hR:∀s∈R,Good m s){p:Nat}(hp:p<m){l:List Nat}(nd:l.Nodup)(hl:∀o∈l,o<m)(hpl:p∉l):(l.map (Qf m (Qe R []) p)).sum=(R.map (Q3 p l)).sum:=by
 have gS:=Qby (L:=[]) hR (λs hs=>absurd hs (by simp));have hn:∀s∈Qe R [],0<=s.1/\0<=s.2:=λs hs=>⟨(gS s hs).1,(gS s hs).2.1⟩;have e1:l.map (Qf m (Qe R []) p)=l.map λo=>((Qe R []).map (hit p o)).sum:=Zr λo ho=>Qbu hp (hl o ho) hn;rw[e1,Qi5 (λo s=>hit p o s) l (Qe R [])];have e2:(Qe R []).map (λs=>(l.map λo=>hit p o s).sum)=(Qe R []).map λs=>if s.1=(p:Int)/\s.2.toNat∈l then(1:Int)else 0:=Zr λs hs=>by
  rw[← Qq8 (hn s hs).2 nd];congr 1;refine Zr λo ho=>?_;unfold hit;rw[if_neg (λz=>hpl (z.2▸ho)) (c:=s.1=p/\p=o)];omega
 rw[e2];unfold Qe;rw[Zag,ZQ,Zbj,ZY];clear e1 e2 hn gS
 induction R with
 | nil=>rfl
 | cons s R ih=>
  have hs:=hR s (by simp);obtain⟨h1,h2,h3,h4,h5⟩:=hs;have ih:=ih λs hs=>hR s (by simp[hs]);simp only[Zp,ZK,Function.comp,Zby,ZbP]at ih ⊢;have:(if s.1=p/\s.2.toNat∈l then(1:Int)else 0)+(if s.2=p/\s.1.toNat∈l then 1 else 0)=Q3 p l s:=by
   unfold Q3;by_cases a:s.1=p/\s.2.toNat∈l
   ·rw[if_pos a,if_neg (λz=>h5 (a.1.trans z.1.symm)) (c:=s.2=p/\s.1.toNat∈l),if_pos (Or.inl a)];rfl
   ·by_cases b:s.2=p/\s.1.toNat∈l
    ·rw[if_neg a,if_pos b,if_pos (Or.inr b)];rfl
    ·rw[if_neg a,if_neg b,if_neg (λz=>z.elim a b)];rfl
  omega
theorem Qqj(p:Nat)(l:List Nat)(s:Int×Int):0<=Q3 p l s/\Q3 p l s<=1:=by unfold Q3;split<;>omega
theorem Qoo{T:Mt2}{h:Mt1}{l:List Nat}:QdA T h l=l∨(QdA T h l).length<l.length:=by
 by_cases e:(QdA T h l).length<l.length
 ·exact .inr e
 ·left;unfold QdA at e ⊢;have h1:=ZaT (λp=> !(Qcy T h l).contains p) l;rw[List.filter_eq_self];intro a ha;have h2:=List.length_filter_eq_length_iff.mp (Nat.le_antisymm (ZaT _ l) (Nat.le_of_not_lt e));exact h2 a ha
theorem Qo9{T:Mt2}{h:Mt1}{m:Nat}:∀k,QZ T h m (k+1)=QZ T h m k∨(QZ T h m (k+1)).length+(k+1)<=m
 | 0=>by
  rcases Qoo (T:=T) (h:=h) (l:=QZ T h m 0)with e | e
  ·exact .inl e
  ·right;have:(QZ T h m 0).length=m:=ZI;show(QdA T h (QZ T h m 0)).length+1<=m;omega
 | k+1=>by
  rcases Qo9 (T:=T) (h:=h) (m:=m) k with e | e
  ·left;show QdA T h (QZ T h m (k+1))=QZ T h m (k+1);rw[e];exact e
  ·rcases Qoo (T:=T) (h:=h) (l:=QZ T h m (k+1))with e2 | e2
   ·exact .inl e2
   ·right;show(QdA T h (QZ T h m (k+1))).length+(k+1+1)<=m;omega
theorem QwG{T:Mt2}{h:Mt1}{m p:Nat}(hp:p∈QZ T h m m):h p<QaX T p (QZ T h m m):=by
 have hm:0<m:=ZaE (ZO _) (Qfq hp);have key:QZ T h m (m+1)=QZ T h m m:=by
  rcases Qo9 (T:=T) (h:=h) (m:=m) m with e | e
  ·exact e
  ·omega
 have h1:p∈QdA T h (QZ T h m m):=by
  show p∈QZ T h m (m+1);rw[key];exact hp
 have h2:=(QdE.mp h1).2;by_cases h3:QaX T p (QZ T h m m)<=h p
 ·exact absurd (Qc0.mpr ⟨hp,h3⟩) h2
 ·omega
theorem Qsj{m:Nat}{s:Int×Int}(g:Good m s){p:Nat}{l:List Nat}:Q3 p (l.filter λo=>decide (o≠p)) s=Q3 p l s:=by
 obtain⟨g1,g2,g3,g4,g5⟩:=g;unfold Q3;have e1:(s.1=p/\s.2.toNat∈l.filter λo=>decide (o≠p))↔(s.1=p/\s.2.toNat∈l):=by
  rw[ZD];constructor
  ·rintro⟨a,b,_⟩;exact⟨a,b⟩
  ·rintro⟨a,b⟩;exact⟨a,b,decide_eq_true ⋯⟩
 have e2:(s.2=p/\s.1.toNat∈l.filter λo=>decide (o≠p))↔(s.2=p/\s.1.toNat∈l):=by
  rw[ZD];constructor
  ·rintro⟨a,b,_⟩;exact⟨a,b⟩
  ·rintro⟨a,b⟩;exact⟨a,b,decide_eq_true ⋯⟩
 simp only[e1,e2]
theorem Qke{m:Nat}{R:Lpp}(hR:∀s∈R,Good m s){p:Nat}(hp:p<m){l:List Nat}(nd:l.Nodup)(hl:∀o∈l,o<m):QaX (Qf m (Qe R [])) p l=(R.map (Q3 p l)).sum:=by
 unfold QaX;rw[Qnn hR hp (nd.filter _) (λo ho=>hl o (ZD.mp ho).1) (λz=>by have:=(ZD.mp z).2;simp at this),Zr λs hs=>Qsj (hR s hs)]
theorem Qma{m:Nat}{R:Lpp}(hR:∀s∈R,Good m s)(p:Nat):(R.map (Q3 p (List.range (m+1)))).sum=QE R [] p:=by
 unfold QE;rw[ZaZ,List.sum_nil,Zbb];congr 1;refine Zr λs hs=>?_;obtain⟨g1,g2,g3,g4,g5⟩:=hR s hs;unfold Q3 isI;have e1:s.2.toNat∈List.range (m+1):=Zk.mpr ⋯;have e2:s.1.toNat∈List.range (m+1):=Zk.mpr ⋯;by_cases a:s.1=p
 ·have b:¬s.2=p:= ⋯
  simp[a,b,e1,e2]
 ·by_cases b:s.2=p
  ·simp[a,b,e1,e2]
  ·simp[a,b,e1,e2]
theorem QqJ:∀bs:List Bool,QmE (bs.map D.bl)=some bs
 | []=>rfl
 | b::bs=>by
  show Option.bind (some b) (λi=>(QmE (bs.map D.bl)).map λr=>i::r)=_;rw[QqJ bs];rfl
noncomputable def QCB(F:Nat->Option Int)(t:Int)(o:Nat):Bool:=match F o with
 | none=>true
 | some u=>decide (t<=u)
noncomputable def QCr(m:Nat)(F:Nat->Option Int)(t:Int):List Nat:=(List.range m).filter (QCB F t)
noncomputable def QDF(R:Lpp)(m:Nat)(F:Nat->Option Int)(p:Nat)(t:Int):Int:=(R.map (Q3 p (QCr m F t))).sum
theorem QlR{α:Type}{g:α->Int}:∀{S:List α},(∀s∈S,0<=g s)->(∃s∈S,0<g s)->0<(S.map g).sum
 | [],_,⟨_,h,_⟩=>absurd h (by simp)
 | a::S,h0,⟨s,hs,hp⟩=>by
  rw[Zp,ZK];have h1:=h0 a (by simp);have h2:=Qfd S λs hs=>h0 s (by simp[hs]);rcases Zn.mp hs with rfl | hs
  ·omega
  ·have:=QlR (λs hs=>h0 s (by simp[hs])) ⟨s,hs,hp⟩;omega
theorem Qs8{m:Nat}{R:Lpp}(hw:Q6 m R []):QpB m (Qe R []):=by
 obtain⟨W,h1,h2,h3,h4,h5⟩:=hw.ex;have:=Qnl h1;rw[← h4,← h5]at this;exact this
theorem QxQ{m:Nat}{R:Lpp}(hw:Q6 m R [])(A:Nat->Prop)(hA:∃p,p<m/\A p):∃p,p<m/\A p/\∃s∈R,(s.1=p/\(s.2=m∨¬A s.2.toNat))∨(s.2=p/\(s.1=m∨¬A s.1.toNat)):=by
 obtain⟨s,h1,h2,h3,h4⟩:=Qs8 hw A hA;unfold Qe at h1;rw[Zag]at h1;have hg:=hw.good.1;rcases ZH.mp h1 with h | h
 ·obtain⟨g1,_⟩:=hg s h;exact⟨s.1.toNat,⋯,h3,s,h,.inl ⟨⋯,h4⟩⟩
 ·obtain⟨r,hr,rfl⟩:=ZT.mp h;obtain⟨g1,g2,_⟩:=hg r hr;simp only[Zby,ZbP]at h2 h3 h4;exact⟨r.2.toNat,⋯,h3,r,hr,.inr ⟨⋯,h4⟩⟩
theorem QhL{α:Type}{f h:α->Int}:∀{S:List α},(∀s∈S,f s<=h s)->(S.map f).sum<=(S.map h).sum
 | [],_=>by simp
 | a::S,H=>by
  have h1:=H a (by simp);have h2:=QhL (S:=S) λs hs=>H s (by simp[hs]);simp only[Zp,ZK];omega
theorem Qum{p:Nat}{l k:List Nat}{s:Int×Int}(hd:∀x∈l,x∈k):Q3 p l s<=Q3 p k s:=by
 unfold Q3;by_cases c:(s.1=p/\s.2.toNat∈l)∨(s.2=p/\s.1.toNat∈l)
 ·rw[if_pos c,if_pos (c.elim (λz=> .inl ⟨z.1,hd _ z.2⟩) λz=> .inr ⟨z.1,hd _ z.2⟩)];exact Zak _
 ·rw[if_neg c];split<;>omega
theorem QjM{m:Nat}{R:Lpp}(hR:∀s∈R,Good m s):∀i j,i<m->j<m->i≠j->Qf m (Qe R []) i j=Qf m (Qe R []) j i:=λi j hi hj hij=>QwA hR hi hj hij
theorem Qrh{m:Nat}{T:Mt2}(sym:∀i j,i<m->j<m->i≠j->T i j=T j i){l:List Nat}(nd:l.Nodup)(hl:∀o∈l,o<m){j:Nat}(hj:j<m):(Qo m λi=>(if i∈l then 1 else 0)*T i j)=QaX T j l+if j∈l then T j j else 0:=by
 unfold QaX;rw[Qg8 (m:=m) (nd.filter _) λo ho=>hl o (ZD.mp ho).1];have e3:=Qai (m:=m) (p:=j) hj (if j∈l then 1 else 0) (λi=>T j i);have e4:(if j∈l then T j j else 0)=(if j∈l then 1 else 0)*T j j:=by split<;>simp
 rw[e4,← e3,← Qae];refine Qx λi hi=>?_;by_cases hij:i=j
 ·subst hij;rw[if_pos rfl];have:¬i∈l.filter λo=>decide (o≠i):=by simp
  rw[if_neg this];omega
 ·rw[if_neg hij];by_cases hil:i∈l
  ·rw[if_pos hil,if_pos (ZD.mpr ⟨hil,by simpa using hij⟩),sym i j hi hj hij];omega
  ·rw[if_neg hil,if_neg (λz=>hil (ZD.mp z).1)];omega
theorem Qzk{m:Nat}{R:Lpp}(hR:∀s∈R,Good m s){p:Nat}(hp:p<m){l:List Nat}(nd:l.Nodup)(hl:∀o∈l,o<m){s:Int×Int}(hs:s∈R)(ho:(s.1=p/\(s.2=m∨s.2.toNat∉l))∨(s.2=p/\(s.1=m∨s.1.toNat∉l))):QaX (Qf m (Qe R [])) p l+1<=QE R [] p:=by
 rw[Qke hR hp nd hl,← Qma hR p];obtain⟨g1,g2,g3,g4,g5⟩:=hR s hs;have hm:m∉l:=λz=>by have:=hl m z;omega
 have h1:Q3 p l s=0/\Q3 p (List.range (m+1)) s=1:=by
  have e1:s.2.toNat∈List.range (m+1):=Zk.mpr ⋯;have e2:s.1.toNat∈List.range (m+1):=Zk.mpr ⋯;unfold Q3;rcases ho with⟨a,h⟩ | ⟨a,h⟩
  ·have b:¬s.2=p:= ⋯
   have x:s.2.toNat∉l:=by
    rcases h with h | h
    ·rw[h,ZL];exact hm
    ·exact h
   simp[a,b,x,e1]
  ·have b:¬s.1=p:= ⋯
   have x:s.1.toNat∉l:=by
    rcases h with h | h
    ·rw[h,ZL];exact hm
    ·exact h
   simp[a,b,x,e2]
 have le:∀r∈R,Q3 p l r<=Q3 p (List.range (m+1)) r:=λr _=>Qum λx hx=>Zk.mpr (by have:=hl x hx;omega);clear ho g5 g4 g3 g2 g1 hR
 induction R with
 | nil=>simp at hs
 | cons r R ih=>
  simp only[Zp,ZK];rcases Zn.mp hs with e | e
  ·subst e;have:=QhL (S:=R) (f:=Q3 p l) (h:=Q3 p (List.range (m+1))) λr hr=>le r (by simp[hr]);omega
  ·have h2:=ih e λr hr=>le r (by simp[hr]);have h3:=le r (by simp);omega
theorem Qr7{m:Nat}{R:Lpp}(hw:Q6 m R []){f c:Mt1}(hf:∀j,j<m->QE R [] j-1<=f j)(hc:Told m (Qf m (Qe R [])) f c):∀i,i<m->Qb1 (Qf m (Qe R [])) (Qn m (Qf m (Qe R [])) f c) m m i≠none:=by
 have hR:=hw.good.1;have tp:=hw.tp;have c0:=hc.leg.nonneg;intro i hi z;have hcold:=(Qga m i hi).mp z;have nd:=Qd6 (T:=Qf m (Qe R [])) (h:=Qn m (Qf m (Qe R [])) f c) (m:=m) m;have lt:∀o∈QZ (Qf m (Qe R [])) (Qn m (Qf m (Qe R [])) f c) m m,o<m:=λo ho=>Qfq ho;have few:∀p∈QZ (Qf m (Qe R [])) (Qn m (Qf m (Qe R [])) f c) m m,Qn m (Qf m (Qe R [])) f c p<QaX (Qf m (Qe R [])) p (QZ (Qf m (Qe R [])) (Qn m (Qf m (Qe R [])) f c) m m):=λp hp=>QwG hp;generalize QZ (Qf m (Qe R [])) (Qn m (Qf m (Qe R [])) f c) m m=C at *;by_cases hall:∀p∈C,0<c p
 ·have:=Qwb tp (QjM hR) hc nd (List.ne_nil_of_mem hcold) λp hp=>⟨lt p hp,hall p hp⟩;obtain⟨p,hp⟩:=List.exists_mem_of_ne_nil _ this;obtain⟨p1,p2⟩:=Qc0.mp hp;have:=few p p1;omega
 ·obtain⟨q,hq1,hq2⟩:∃q,q∈C/\¬0<c q:=by
   refine ZF λw=>hall λp hp=>?_;exact ZF λw2=>w ⟨p,hp,w2⟩
  obtain⟨p,h1,⟨h2,h2'⟩,s,h3,h4⟩:=QxQ hw (λx=>x∈C/\¬0<c x) ⟨q,lt q hq1,hq1,hq2⟩;have cp:c p=0:=by have:=c0 p;omega
  have sum0:∀o,o<m->o≠p->0<=c o*Qf m (Qe R []) o p:=λo ho hop=>ZaA (c0 o) (tp.pos o p ho h1 hop);have hsum:0<=Qo m λi=>c i*Qf m (Qe R []) i p:=by
   have:=QbV (m:=m) (f:=λ_=>0) (g:=λi=>c i*Qf m (Qe R []) i p) λi hi=>by
    by_cases e:i=p
    ·subst e;rw[cp,ZN];exact Zak _
    ·exact sum0 i hi e
   rw[Q9]at this;exact this
  have fp:=hf p h1;have st:=hc.stb p h1;rw[hw.neg h1]at st;have fw:=few p h2;obtain⟨g1,g2,g3,g4,g5⟩:=hR s h3;obtain⟨x,hx,hend⟩:∃x:Nat,x<=m/\((s.1=p/\s.2=x)∨(s.2=p/\s.1=x))/\(x=m∨¬(x∈C/\¬0<c x)):=by
   rcases h4 with⟨a,b⟩ | ⟨a,b⟩
   ·exact⟨s.2.toNat,⋯,.inl ⟨a,⋯⟩,b.elim (λz=> .inl ⋯) .inr⟩
   ·exact⟨s.1.toNat,⋯,.inr ⟨a,⋯⟩,b.elim (λz=> .inl ⋯) .inr⟩
  by_cases hxC:x∈C
  ·
   have hxm:=lt x hxC;have cx:1<=c x:=by
    rcases hend.2 with e | e
    ·omega
    ·have:=ZF λw:¬0<c x=>e ⟨hxC,w⟩;omega
   have hxp:x≠p:=by
    rcases hend.1 with⟨a,b⟩ | ⟨a,b⟩<;>omega
   have hT:1<=Qf m (Qe R []) x p:=by
    rw[QjM hR x p hxm h1 hxp];have:=Qnn hR h1 (l:=[x]) (by simp) (by simpa using hxm) (by simpa using hxp.symm);simp only[Zp,ZaZ,ZK,List.sum_nil,Zbb]at this;rw[this];have:0<(R.map (Q3 p [x])).sum:=QlR (λs _=>(Qqj p _ s).1) ⟨s,h3,by
     unfold Q3;rw[if_pos (by rcases hend.1 with⟨a,b⟩ | ⟨a,b⟩;exact .inl ⟨a,by simp;omega⟩;exact .inr ⟨a,by simp;omega⟩)];decide⟩
    omega
   have one:1<=Qo m λi=>c i*Qf m (Qe R []) i p:=by
    have:=QbV (m:=m) (f:=λi=>(if i=x then 1 else 0)*(1:Int)) (g:=λi=>c i*Qf m (Qe R []) i p) λi hi=>by
     by_cases e:i=x
     ·subst e;rw[if_pos rfl];have:=Int.mul_le_mul cx hT (by decide) ⋯;omega
     ·rw[if_neg e,ZN];by_cases e2:i=p
      ·subst e2;rw[cp,ZN];exact Zak _
      ·exact sum0 i hi e2
    rw[Qai hxm 1 (λ_=>1)]at this;omega
   unfold Qn at st;omega
  ·have:=Qzk hR h1 nd lt h3 (by
    rcases hend.1 with⟨a,b⟩ | ⟨a,b⟩
    ·exact .inl ⟨a,.inr (by rw[b,ZL];exact hxC)⟩
    ·exact .inr ⟨a,.inr (by rw[b,ZL];exact hxC)⟩)
   unfold Qn at fw;omega
theorem QjB{m:Nat}{s:Int×Int}(h:Good m s):Good (m+1) s:=by
 obtain⟨h1,h2,h3,h4,h5⟩:=h;exact⟨h1,h2,⋯,⋯,h5⟩
noncomputable def Qe5(c:Mt1)(s:Int×Int)(j:Nat):Int:=(if s.2=j then c s.1.toNat-c s.2.toNat else 0)+(if s.1=j then c s.2.toNat-c s.1.toNat else 0)
theorem Qy8{m:Nat}{s:Int×Int}(g:Good m s)(c:Mt1)(j:Nat):QeA (QcE (m+1) c) s j+QeA (QcE (m+1) c) s.swap j=Qe5 c s j:=by
 obtain⟨g1,g2,g3,g4,g5⟩:=g;unfold QeA QcE Qe5;simp only[Zby,ZbP];rw[if_pos (show s.1.toNat<m+1 by omega),if_pos (show s.2.toNat<m+1 by omega)];by_cases a:s.2=j
 ·have b:¬s.1=j:= ⋯
  simp only[if_pos a,if_neg b];omega
 ·by_cases b:s.1=j
  ·simp only[if_neg a,if_pos b];omega
  ·simp only[if_neg a,if_neg b];omega
theorem Qfo{m:Nat}{R:Lpp}(hR:∀s∈R,Good m s)(f c:Mt1){j:Nat}(hj:j<m+1):Qn (m+1) (Qf (m+1) (Qe R [])) f c j=f j+(R.map λs=>Qe5 c s j).sum:=by
 rw[Qxx (λs hs=>QjB (hR s hs)) (λs hs=>absurd hs (by simp)) f c hj,Zr λs hs=>Qy8 (hR s hs) c j];have:QcE (m+1) f j=f j:=by unfold QcE;rw[if_pos hj]
 rw[this];simp
theorem Qua{m:Nat}{R:Lpp}(hR:∀s∈R,Good m s)(f c:Mt1)(k:Int){j:Nat}(hj:j<m+1):Qn (m+1) (Qf (m+1) (Qe R [])) f (λi=>c i+k) j=Qn (m+1) (Qf (m+1) (Qe R [])) f c j:=by
 rw[Qfo hR f _ hj,Qfo hR f c hj];congr 2;refine Zr λs hs=>?_;unfold Qe5;dsimp only;congr 1<;>split<;>omega
theorem Qwv{m:Nat}{s:Int×Int}(g:Good m s)(c:Mt1):Qo (m+1) (λj=>Qe5 c s j)=0:=by
 obtain⟨g1,g2,g3,g4,g5⟩:=g;have e:Qo (m+1) (λj=>Qe5 c s j)=Qo (m+1) (λj=>(if j=s.2.toNat then c s.1.toNat-c s.2.toNat else 0)*1+(if j=s.1.toNat then c s.2.toNat-c s.1.toNat else 0)*1):=Qx λj _=>by
  unfold Qe5;rw[ZaO,ZaO];congr 1
  ·by_cases a:s.2=j
   ·rw[if_pos a,if_pos ⋯]
   ·rw[if_neg a,if_neg ⋯]
  ·by_cases a:s.1=j
   ·rw[if_pos a,if_pos ⋯]
   ·rw[if_neg a,if_neg ⋯]
 rw[e,Qae,Qai (p:=s.2.toNat) ⋯ _ (λ_=>1),Qai (p:=s.1.toNat) ⋯ _ (λ_=>1)];omega
theorem Qrf{m:Nat}{R:Lpp}(hR:∀s∈R,Good m s)(f c:Mt1):Qo (m+1) (Qn (m+1) (Qf (m+1) (Qe R [])) f c)=Qo (m+1) f:=by
 rw[Qx λj hj=>Qfo hR f c hj,Qae,Qge (m+1) (λj s=>Qe5 c s j) R,Zr λs hs=>Qwv (hR s hs) c];have:(R.map λ_=>(0:Int)).sum=0:=by
  clear hR
  induction R with
  | nil=>rfl
  | cons a R ih=>simp only[Zp,ZK,ih];rfl
 rw[this];omega
noncomputable def Qfi(QaO:Den):DS:=(Qc (Qal (Qg 1 QaO [] (Qa vv0 Qb))) (Qc (QB (QaF (Qa (QI (Qv vv0 kk0) kk1) (Qa (Qv vv0 kk1) (Qa (Qv vv0 kk2) Qb))))) Qi))
def Qcm(d:Den):Prop:=∀(m:Nat) (R:Lpp),d [Qj m R []]=some (Qj ((m+1:Nat):Int) R [],false)
theorem Qws{dp:Den}(hp:QmG dp):Qcm (Qs 1 (Qfi dp)):=λm R=>by
 refine QU ?_;refine run_seq (Qcu (Qp (r:=⟨[Qj m R []],false,[]⟩) rfl (hp m R) rfl) ?_);exact QF (r:=reF (Qj ((m+1:Nat):Int) R [])) rfl ⟨rfl,rfl⟩
noncomputable def Qd3(QG:Den)(QaL:Den):DS:=(Qc (QB (Qg 3 QaL [] (Qa (Qg 1 QG [] (Qa vv0 Qb)) (Qa vv1 (Qa vv2 Qb))))) Qi)
def QmJ(d:Den):Prop:=∀(m:Nat) (R:Lpp) (f c:Mt1),m<=100->R.length<=1000->(∀s∈R,Good m s)->d [Qj m R [],Qd (m+1) f,Qd (m+1) c]=some (Qd (m+1) (Qn (m+1) (Qf (m+1) (Qe R [])) f c),true)
theorem QuZ{dw da:Den}(hw:Qcm dw)(ha:Qg0 da):QmJ (Qs 3 (Qd3 dw da)):=λm R f c hm hl hR=>by
 refine QU ?_;refine QF (Qp (r:=⟨[Qj ((m+1:Nat):Int) R [],Qd (m+1) f,Qd (m+1) c],false,[]⟩) ?_ (ha (m+1) R [] f c ⋯ (by simp;omega) (λs hs=>QjB (hR s hs)) (λs hs=>absurd hs (by simp))) rfl) ⟨rfl,rfl⟩;exact Qm (Qcc (r:=⟨[Qj m R []],false,[]⟩) rfl (hw m R) rfl) (Qm (r:=reF (Qd (m+1) f)) rfl (Qm (r:=reF (Qd (m+1) c)) rfl (QJ _)))
theorem Qx2{m:Nat}{R:Lpp}(hR:∀s∈R,Good m s){i j:Nat}(hi:i<m)(hj:j<m):Qf (m+1) (Qe R []) i j=Qf m (Qe R []) i j:=by
 have g:∀s∈Qe R [],0<=s.1/\0<=s.2:=λs hs=>by
  have:=Qby hR (λs hs=>absurd hs (by simp)) s hs;exact⟨this.1,this.2.1⟩
 rw[Qbu ⋯ ⋯ g,Qbu hi hj g]
theorem QmC{m:Nat}{R:Lpp}(hR:∀s∈R,Good m s)(f c:Mt1)(c0:c m=0){j:Nat}(hj:j<m):Qn (m+1) (Qf (m+1) (Qe R [])) f c j=Qn m (Qf m (Qe R [])) f c j:=by
 unfold Qn;rw[QP,c0,ZN,Zbb];congr 1;exact Qx λi hi=>by rw[Qx2 hR hi hj]
theorem Qxu{m:Nat}{R:Lpp}(hw:Q6 m R []){p:Nat}(hp:p<m):(Qo m λi=>Qf m (Qe R []) i p)<=0:=by
 have hR:=hw.good.1;have e:=Qrh (QjM hR) (l:=List.range m) Zbx (λo ho=>Zk.mp ho) hp;have e2:(Qo m λi=>(if i∈List.range m then 1 else 0)*Qf m (Qe R []) i p)=Qo m λi=>Qf m (Qe R []) i p:=Qx λi hi=>by rw[if_pos (Zk.mpr hi),Zaq]
 rw[← e2,e,if_pos (Zk.mpr hp),Qke hR hp Zbx (λo ho=>Zk.mp ho)];have n:=hw.neg hp;have s:=Qma hR p;have l:(R.map (Q3 p (List.range m))).sum<=(R.map (Q3 p (List.range (m+1)))).sum:=QhL λs _=>Qum λx hx=>Zk.mpr (by have:=Zk.mp hx;omega);omega
theorem QAK{m:Nat}(d:Mt1)(h:∃i,i<m/\d i<0):∃p,p<m/\d p<0/\∀j,j<m->d p<=d j:=by
 induction m with
 | zero=>obtain⟨i,hi,_⟩:=h;omega
 | succ m ih=>
  by_cases q:∃i,i<m/\d i<0
  ·obtain⟨p,hp,h0,h1⟩:=ih q;by_cases z:d m<d p
   ·exact⟨m,⋯,⋯,λj hj=>by
     by_cases e:j=m
     ·subst e;exact Zak _
     ·have:=h1 j ⋯;omega⟩
   ·exact⟨p,⋯,h0,λj hj=>by
     by_cases e:j=m
     ·subst e;omega
     ·exact h1 j ⋯⟩
  ·obtain⟨i,hi,h0⟩:=h;have e:i=m:=ZF λz=>q ⟨i,⋯,h0⟩;subst e;exact⟨i,⋯,h0,λj hj=>by
    by_cases e:j=i
    ·subst e;exact Zak _
    ·have:¬d j<0:=λz=>q ⟨j,⋯,z⟩;omega⟩
theorem QhW{m:Nat}{R:Lpp}(hw:Q6 m R []){x d:Mt1}(hb:∀i,i<m->Qb1 (Qf m (Qe R [])) x m m i≠none)(hs:Stb m (Qf m (Qe R [])) (Qn m (Qf m (Qe R [])) x d)):∀i,i<m->0<=d i:=by
 have hR:=hw.good.1;have tp:=hw.tp;refine λi hi=>ZF λhn=>?_;obtain⟨p0,hp0,neg,mn⟩:=QAK (m:=m) d ⟨i,hi,⋯⟩;obtain⟨n,⟨p,hp,ep,pc⟩,least⟩:=Qkz (P:=λn=>∃p,p<m/\d p=d p0/\p∉QZ (Qf m (Qe R [])) x m n) ⟨m,p0,hp0,rfl,λz=>hb p0 hp0 ((Qga m p0 hp0).mpr z)⟩;cases n with
 | zero=>exact pc (Zk.mpr hp)
 | succ k=>
  have inC:∀q,q<m->d q=d p0->q∈QZ (Qf m (Qe R [])) x m k:=λq hq e=>ZF λz=>least k ⋯ ⟨q,hq,e,z⟩;have rd:QaX (Qf m (Qe R [])) p (QZ (Qf m (Qe R [])) x m k)<=x p:=ZF λq=>pc (QdE.mpr ⟨inC p hp ep,λz=>q (Qc0.mp z).2⟩);have ml:∀q,q∈(List.range m).filter (λq=>decide (d q=d p0))↔q<m/\d q=d p0:=λq=>by
   rw[ZD,Zk,decide_eq_true_iff]
  have nl:((List.range m).filter λq=>decide (d q=d p0)).Nodup:=Zbx.filter _;generalize (List.range m).filter (λq=>decide (d q=d p0))=l at ml nl;have am:=QlA tp.pos hp nl (Qd6 (T:=Qf m (Qe R [])) (h:=x) (m:=m) k) (λo ho=>Qfq ho) (λo ho=>inC o ((ml o).mp ho).1 ((ml o).mp ho).2);have is:=Qrh (QjM hR) nl (λo ho=>((ml o).mp ho).1) hp;rw[if_pos ((ml p).mpr ⟨hp,ep⟩)]at is;have le:(Qo m λi=>(d p0+1)*Qf m (Qe R []) i p+ -((if i∈l then 1 else 0)*Qf m (Qe R []) i p))<=Qo m λi=>d i*Qf m (Qe R []) i p:=QbV λi hi=>by
   show(d p0+1)*Qf m (Qe R []) i p+ -((if i∈l then 1 else 0)*Qf m (Qe R []) i p)<=d i*Qf m (Qe R []) i p;by_cases e:i∈l
   ·rw[if_pos e,((ml i).mp e).2,Zac];omega
   ·have ne:i≠p:=λz=>e (z▸(ml p).mpr ⟨hp,ep⟩);have dl:d p0+1<=d i:=by
     have h1:=mn i hi;have h2:¬d i=d p0:=λz=>e ((ml i).mpr ⟨hi,z⟩);omega
    have:=Zaf dl (tp.pos i p hi hp ne);rw[if_neg e,ZN];omega
  rw[Qae,QbK,QdG,is]at le;have cs:=Qxu hw hp;have cm:0<=(d p0+1)*Qo m λi=>Qf m (Qe R []) i p:=by
   have:=ZaA (show 0<= -(d p0+1) by omega) (show 0<= -(Qo m λi=>Qf m (Qe R []) i p) by omega);rw[Int.neg_mul_neg]at this;exact this
  have st:=hs p hp;have ea:Qn m (Qf m (Qe R [])) x d p=x p+Qo m λi=>d i*Qf m (Qe R []) i p:=rfl;omega
theorem QuC{m:Nat}{R:Lpp}(hw:Q6 m R []){x x' d:Mt1}(hb:∀i,i<m->Qb1 (Qf m (Qe R [])) x m m i≠none)(hb':∀i,i<m->Qb1 (Qf m (Qe R [])) x' m m i≠none)(sx:Stb m (Qf m (Qe R [])) x)(sx':Stb m (Qf m (Qe R [])) x')(e:∀j,j<m->x' j=Qn m (Qf m (Qe R [])) x d j):∀i,i<m->d i=0:=λi hi=>by
 have a:=QhW hw hb (d:=d) (λp hp=>by rw[← e p hp];exact sx' p hp) i hi;have b:=QhW hw hb' (d:=λi=> -d i) (λp hp=>by
  have:Qn m (Qf m (Qe R [])) x' (λi=> -d i) p=x p:=by
   have q:Qn m (Qf m (Qe R [])) x' (λi=> -d i) p=Qn m (Qf m (Qe R [])) (Qn m (Qf m (Qe R [])) x d) (λi=> -d i) p:=QaJ p (e p hp) λ_ _=>rfl;rw[q,QjC];unfold Qn;rw[Qx (g:=λ_=>0) λi _=>by show(d i+ -d i)*Qf m (Qe R []) i p=0;rw[Int.add_right_neg,ZN],Q9];omega
  rw[this];exact sx p hp) i hi
 omega
theorem QhX{m:Nat}{R:Lpp}(hw:Q6 m R []){x y:Mt1}(h:∀j,j<m->x j=y j)(hb:∀i,i<m->Qb1 (Qf m (Qe R [])) x m m i≠none):∀i,i<m->Qb1 (Qf m (Qe R [])) y m m i≠none:=λi hi z=>by
 cases q:Qb1 (Qf m (Qe R [])) x m m i with
 | none=>exact hb i hi q
 | some t=>
  obtain⟨t',e,_⟩:=QtU hw.tp.pos (λj hj=>Int.le_of_eq (h j hj)) hi q;rw[z]at e;cases e
theorem QsF{m:Nat}{R:Lpp}(hw:Q6 m R []){v x:Mt1}(hd:Dbl m (Qf m (Qe R [])) v)(hr:Rec m (Qf m (Qe R [])) v x):∀i,i<m->Qb1 (Qf m (Qe R [])) x m m i≠none:=by
 obtain⟨y,u,y0,hu,ex⟩:=hr;refine QhX hw (λj hj=>(ex j hj).symm) (Qr7 hw (λj hj=>?_) hu);have b:=hd.big hj;have:=y0 j hj;have:=hw.neg hj;omega
def QfS(m:Nat)(R:Lpp)(g:Mt1):Prop:=(∀j,j<m->0<=g j/\g j<QE R [] j)/\∀i,i<m->Qb1 (Qf m (Qe R [])) (λj=>QE R [] j-1-g j) m m i≠none
theorem Qyn{m:Nat}{R:Lpp}(hw:Q6 m R []){g g' d:Mt1}(d0:d m=0)(h:QfS m R g)(h':QfS m R g')(e:∀j,j<m+1->g' j=Qn (m+1) (Qf (m+1) (Qe R [])) g d j):(∀j,j<m+1->g' j=g j)/\∀i,i<m->d i=0:=by
 have hR:=hw.good.1;have z:∀i,i<m-> -d i=0:=QuC hw (d:=λi=> -d i) h.2 h'.2 (λp hp=>by have:=h.1 p hp;have:=hw.neg hp;show QE R [] p-1-g p<_;omega) (λp hp=>by have:=h'.1 p hp;have:=hw.neg hp;show QE R [] p-1-g' p<_;omega) (λj hj=>by
  show QE R [] j-1-g' j=_;rw[e j ⋯,QmC hR g d d0 hj];unfold Qn;rw[Qx (f:=λi=> -d i*Qf m (Qe R []) i j) (g:=λi=> -(d i*Qf m (Qe R []) i j)) λi _=>by rw[Zau],QbK];dsimp only;omega)
 refine⟨λj hj=>?_,λi hi=>by have:=z i hi;omega⟩;rw[e j hj];have:Qn (m+1) (Qf (m+1) (Qe R [])) g d j=Qn (m+1) (Qf (m+1) (Qe R [])) g (λ_=>0) j:=QaJ j rfl λi hi=>by
  by_cases q:i=m
  ·rw[q,d0]
  ·have:=z i ⋯;omega
 rw[this];unfold Qn;rw[Qx (g:=λ_=>0) λi _=>by rw[ZN],Q9,Zbb]
theorem QzV{fs:DA}{U:En}{r:RA}(h:fs U=some r)(hl:r.ds.length<=64):QaF fs U=some ⟨.tup r.ds,r.fr,r.M⟩:=by
 unfold QaF;rw[h];exact if_pos hl
theorem QmB{fa:DE}{U:En}{r:R}{a b:D}(h:fa U=some r)(e:r.d= .tup [a,b]):Qv fa (dC (.int 0)) U=some (HS.R.norm ⟨a,r.fr,r.M⟩)/\Qv fa (dC (.int 1)) U=some (HS.R.norm ⟨b,r.fr,r.M⟩):=by
 unfold Qv;rw[h];simp only[Za,e,Qje];exact⟨rfl,rfl⟩
theorem Qqx{m:Nat}(f g:Nat->D):Qf3 ((List.range m).map f) ((List.range (m+1)).map g)=(List.range m).map λi=> .tup [f i,g i]:=by
 unfold Qf3;rw[ZbE,ZQ];have:∀(a b c:List D),a.length=b.length->a.zip (b++c)=a.zip b:=λa b c h=>by
  have:=List.zip_append (l₁:=a) (r₁:=[]) (l₂:=b) (r₂:=c) h;simpa using this
 rw[this _ _ _ (by simp)];exact Qme f g
theorem Qv5{fa fb:DE}{U:En}{ra rb:R}{m:Nat}{f g:Nat->D}(ha:fa U=some ra)(ea:ra.d= .lst ((List.range m).map f))(hb:fb U=some rb)(eb:rb.d= .lst ((List.range (m+1)).map g)):Qaw fa fb U=some ⟨(List.range m).map λi=> .tup [f i,g i],ra.M++rb.M⟩:=by
 unfold Qaw;rw[ha,Za,hb,Za,ea,eb];show some (IR.mk (Qf3 _ _) _)=_;rw[Qqx]
noncomputable def Qho(QG:Den)(Qz:Den)(Qab:Den)(QdK:Den)(QaE:Den)(QaL:Den):DS:=(Qc (Qt 2 (Qg 1 QG [] (Qa vv0 Qb))) (Qc (Qal (Qg 2 Qz [] (Qa vv2 (Qa (QN (Qa vv1 Qb)) Qb)))) (Qc (Qt 3 (QQ (Qaw (Qg 1 Qab [] (Qa vv0 Qb)) vv1) (.tp [1,2]) [none,none,none] Q8 (dOp QaI (dOp QaI vv1 kk1) vv2))) (Qc (Qt 4 (QI (Qg 1 QaE [] (Qa (Qv (Qg 2 QdK [] (Qa vv0 (Qa vv3 Qb))) kk1) Qb)) (QN (Qa kk0 Qb)))) (Qc (QB (QaF (Qa (Qg 3 QaL [] (Qa vv2 (Qa vv1 (Qa vv4 Qb)))) (Qa vv4 Qb)))) Qi)))))
def Qhs(d:Den):Prop:=∀(m:Nat) (R:Lpp) (f:Mt1),0<m->m<=8->Q6 m R []->(∀j,j<m->(f j).natAbs<=2^190)->∃c:Nat->Int,d [Qj m R [],Qd (m+1) f]=some (.tup [Qd (m+1) (Qn (m+1) (Qf (m+1) (Qe R [])) f c),Qd (m+1) c],true)/\c m=0/\QfS m R (Qn (m+1) (Qf (m+1) (Qe R [])) f c)
theorem QAy{dw dn ds da dop dft:Den}(hw:Qcm dw)(hn:Qen dn)(hs:QiI ds)(ha:Qmy da)(ho:Qob dop)(hf:Qg0 dft):Qhs (Qs 5 (Qho dw dn ds da dop dft)):=λm R f m0 m8 hN hb=>by
 have hg:=hN.good;have hR:=hg.1;have sb:∀j,j<m->QE R [] j<=2^66:=λj hj=>by
  have h1:=hN.tp.bnd j j hj hj;have h2:=hN.neg hj;omega
 obtain⟨k,v,ea,dbl,rc,st,nn⟩:=ha m R [] (λj=>QE R [] j-1-f j) m0 m8 hN (λj hj=>by
  have h1:=sb j hj;have h2:=hN.QuD hj;have h3:=hb j hj;have h4:(2:Nat)^66<=2^190:=ZE (by decide) (by decide);have h5:(2:Nat)^190+2^190<=2^200:=by decide
  show(QE R [] j-1-f j).natAbs<=_;omega)
 have c0:(λi=>if i<m then 0-k i else(0:Int)) m=0:=if_neg (ZP m);have row:∀j,j<m->Qn (m+1) (Qf (m+1) (Qe R [])) f (λi=>if i<m then 0-k i else 0) j=QE R [] j-1-Qn m (Qf m (Qe R [])) (λj=>QE R [] j-1-f j) k j:=λj hj=>by
  rw[QmC hR f _ c0 hj];unfold Qn;rw[Qx (f:=λi=>(if i<m then 0-k i else(0:Int))*Qf m (Qe R []) i j) (g:=λi=> -(k i*Qf m (Qe R []) i j)) λi hi=>by rw[if_pos hi,Zbc,Zau],QbK];dsimp only;omega
 refine⟨λi=>if i<m then 0-k i else 0,QU ?_,c0,λj hj=>?_,?_⟩
 ·refine run_seq (QL (Qcc (r:=⟨[Qj m R []],false,[]⟩) rfl (hw m R) rfl) ?_);rw[Qgh rfl];refine run_seq (Qcu (Qp (r:=⟨[Qj ((m+1:Nat):Int) R [],.lst [Qd (m+1) f]],false,[]⟩) rfl (hn (m+1) R [] [f]) rfl) ?_);refine rsa (d:=Qd m λj=>QE R [] j-1-f j) (QS (toD:=λ(j:Nat)=> .tup [.int (QE R [] j),.int (f j)]) (out:=λ(j:Nat)=> .int (QE R [] j-1-f j)) (List.range m) (Qv5 (f:=λj=> .int (QE R [] j)) (g:=λj=> .int (f j)) (Qp (r:=⟨[Qj m R []],false,[]⟩) rfl (hs m R [] ⋯ (by simp;omega) hR hg.2.1) rfl) rfl (rb:=reF (Qd (m+1) f)) rfl rfl) rfl λj _=>⟨[none,slI (QE R [] j),slI (f j)],rfl,reI (QE R [] j-1-f j),rfl,rfl,rfl⟩) ?_;have e1:(λi=>if i<m then 0-k i else(λ_=>(0:Int)) (i-m))=λi=>if i<m then 0-k i else 0:=rfl;refine rsa (QoI (m:=m) (k:=1) (f:=λi=>0-k i) (g:=λ_=>0) (Qp (Qm (QmB (Qp (r:=⟨[Qj m R [],Qd m λj=>QE R [] j-1-f j],false,[3]⟩) rfl ea rfl) rfl).2 (QJ _)) (ho m k) rfl) rfl (rb:=reT (Qd 1 λ_=>0)) rfl rfl ⋯) ?_;rw[e1];refine QF (QzV (Qm (Qp (r:=⟨[Qj ((m+1:Nat):Int) R [],Qd (m+1) f,Qd (m+1) λi=>if i<m then 0-k i else 0],false,[4]⟩) rfl (hf (m+1) R [] f _ ⋯ (by simp;omega) (λs hs=>QjB (hR s hs)) (λs hs=>absurd hs (by simp))) rfl) (Qm (r:=⟨Qd (m+1) λi=>if i<m then 0-k i else 0,true,[4]⟩) rfl (QJ _))) (Zx rfl)) ⟨rfl,rfl⟩
 ·rw[row j hj];have h1:=nn j hj;have h2:=st j hj;have h3:=hN.neg hj;omega
 ·exact QhX hN (λj hj=>by show _=QE R [] j-1-_;rw[row j hj];omega) (QsF hN dbl rc)
noncomputable def QeJ(Q1:Den):DS:=(Qc (Qt 2 (Qg 2 Q1 [] (Qa vv0 (Qa vv1 Qb)))) (Qc (QB (QjH (dOp gGe (Qv (Qv vv2 kk0) (Qv vv0 kk0)) kk0) 2)) Qi))
def Qm3(d:Den):Prop:=∀(m:Nat) (R:Lpp) (f:Mt1),0<m->m<=8->Q6 m R []->(∀j,j<m->(f j).natAbs<=2^190)->∃c:Nat->Int,d [Qj m R [],Qd (m+1) f]=some (.tup [.bl (decide (0<=Qn (m+1) (Qf (m+1) (Qe R [])) f c m)),Qd (m+1) (Qn (m+1) (Qf (m+1) (Qe R [])) f c),Qd (m+1) c],true)/\c m=0/\QfS m R (Qn (m+1) (Qf (m+1) (Qe R [])) f c)
theorem QuR{dl:Den}(hl:Qhs dl):Qm3 (Qs 3 (QeJ dl)):=λm R f m0 m8 hw hf=>by
 obtain⟨c,ec,c0,lf⟩:=hl m R f m0 m8 hw hf;refine⟨c,?_,c0,lf⟩;generalize Qn (m+1) (Qf (m+1) (Qe R [])) f c=g at *;refine QU ?_;refine rsa (Qp (r:=⟨[Qj m R [],Qd (m+1) f],false,[]⟩) rfl ec rfl) ?_;refine QF (r:=⟨.tup [.bl (decide (0<=g m)),Qd (m+1) g,Qd (m+1) c],true,[2]⟩) ?_ ⟨rfl,rfl⟩;unfold QjH;refine(congrArg (λz=>Option.bind z _) (QaR (d:= .bl (decide (0<=g m))) (rb:=reI 0) (Qct (m:=m+1) (f:=g) (i:=m) (ra:=⟨Qd (m+1) g,true,[2]⟩) (rb:=reI m) rfl rfl rfl rfl ⋯) rfl rfl)).trans ?_;rfl
theorem Qwd{m:Nat}{R:Lpp}(hw:Q6 m R []){f c:Mt1}(f0:∀j,j<m+1->0<=f j)(z:c m=0)(h:QfS m R (Qn (m+1) (Qf (m+1) (Qe R [])) f c)):0<=Qn (m+1) (Qf (m+1) (Qe R [])) f c m:=by
 have hR:=hw.good.1;have cn:∀i,i<m->0<=c i:=QhW hw h.2 λp hp=>by
  have e:Qn m (Qf m (Qe R [])) (λj=>QE R [] j-1-Qn (m+1) (Qf (m+1) (Qe R [])) f c j) c p=QE R [] p-1-f p:=by
   have e1:=QmC hR f c z hp;have e2:Qn m (Qf m (Qe R [])) (λj=>QE R [] j-1-Qn (m+1) (Qf (m+1) (Qe R [])) f c j) c p=QE R [] p-1-Qn (m+1) (Qf (m+1) (Qe R [])) f c p+Qo m λi=>c i*Qf m (Qe R []) i p:=rfl;have e3:Qn m (Qf m (Qe R [])) f c p=f p+Qo m λi=>c i*Qf m (Qe R []) i p:=rfl;omega
  rw[e];have:=f0 p ⋯;have:=hw.neg hp;omega
 rw[Qfo hR f c (ZaN m)];have h1:=f0 m ⋯;have h2:0<=(R.map λs=>Qe5 c s m).sum:=Qfd R λs hs=>by
  obtain⟨g1,g2,g3,g4,g5⟩:=hR s hs;unfold Qe5;by_cases a:s.2=m
  ·have b:¬s.1=m:= ⋯
   rw[if_pos a,if_neg b];have e:s.2.toNat=m:= ⋯
   rw[e,z];have:=cn s.1.toNat ⋯;omega
  ·by_cases b:s.1=m
   ·rw[if_neg a,if_pos b];have e:s.1.toNat=m:= ⋯
    rw[e,z];have:=cn s.2.toNat ⋯;omega
   ·rw[if_neg a,if_neg b];decide
 omega
noncomputable abbrev Af(m:Nat)(R:Lpp)(f c:Mt1):Nat->Int:=Qn (m+1) (Qf (m+1) (Qe R [])) f c
def Low(m:Nat)(R:Lpp)(f g:Mt1):Prop:=∃c:Nat->Int,c m=0/\(∀j,j<m+1->g j=Af m R f c j)/\QfS m R g
def Eff(m:Nat)(R:Lpp)(f:Mt1):Prop:=∃c:Nat->Int,∀j,j<m+1->0<=Af m R f c j
def Qbn(m:Nat)(k:Int)(E:Mt1):Prop:=(∀j,j<m+1->0<=E j)/\Qo (m+1) E=k
noncomputable def Q4(f E:Mt1):Nat->Int:=λj=>f j-E j
def Qhx(m:Nat)(R:Lpp)(f:Mt1)(w:Int):Prop:= -1<=w/\(∀k:Int,k<=w->∀E,Qbn m k E->Eff m R (Q4 f E))/\∃E,Qbn m (w+1) E/\¬Eff m R (Q4 f E)
section
variable {m:Nat}{R:Lpp}{f g h f':Mt1}
theorem QfS.congr(hw:Q6 m R [])(e:∀j,j<m->g j=h j)(l:QfS m R g):QfS m R h:=by
 refine⟨λj hj=>by rw[← e j hj];exact l.1 j hj,QhX hw (λj hj=>?_) l.2⟩;show QE R [] j-1-g j=QE R [] j-1-h j;rw[e j hj]
theorem Low.congr(hw:Q6 m R [])(e:∀j,j<m+1->f j=f' j)(e':∀j,j<m+1->g j=h j)(l:Low m R f g):Low m R f' h:=by
 obtain⟨c,z,l1,l2⟩:=l;exact⟨c,z,λj hj=>by rw[← e' j hj,l1 j hj];exact QaJ j (e j hj) λ_ _=>rfl,l2.congr hw λj hj=>e' j ⋯⟩
theorem Low.unique(hw:Q6 m R [])(l:Low m R f g)(l':Low m R f h):∀j,j<m+1->g j=h j:=by
 obtain⟨c,z,l1,l2⟩:=l;obtain⟨c',z',l1',l2'⟩:=l';intro j hj;refine((Qyn hw (d:=λ(i:Nat)=>c' i-c i) (by show c' m-c m=0;omega) l2 l2' λj hj=>?_).1 j hj).symm;rw[l1' j hj];have e:Qn (m+1) (Qf (m+1) (Qe R [])) g (λ(i:Nat)=>c' i-c i) j=Qn (m+1) (Qf (m+1) (Qe R [])) (Af m R f c) (λ(i:Nat)=>c' i-c i) j:=QaJ j (l1 j hj) λ_ _=>rfl;rw[e,QjC];exact QaJ j rfl λi _=>by show c' i=c i+(c' i-c i);omega
theorem QyF(E c:Mt1)(j:Nat):Af m R (Q4 f E) c j=Af m R f c j-E j:=by
 show f j-E j+_=f j+_-E j;omega
theorem QBk(hR:∀s∈R,Good m s)(c:Mt1)(e:∀j,j<m+1->g j=Af m R f c j)(l:QfS m R g):Low m R f g:=
 ⟨λi=>c i+(-c m),by show c m+ -c m=0;omega,λj hj=>by rw[e j hj];exact(Qua hR f c (-c m) hj).symm,l⟩
theorem Low.moved(hw:Q6 m R [])(c:Mt1)(e:∀j,j<m+1->f' j=Af m R f c j)(l:Low m R f' g):Low m R f g:=by
 obtain⟨c',z,l1,l2⟩:=l;refine QBk hw.good.1 (λi=>c i+c' i) (λj hj=>?_) l2;rw[l1 j hj];exact(QaJ j (e j hj) λ_ _=>rfl).trans (QjC j)
theorem Low.less(hw:Q6 m R [])(E:Mt1)(l:Low m R f g)(l':Low m R (Q4 g E) h):Low m R (Q4 f E) h:=by
 obtain⟨c,z,l1,l2⟩:=l;exact l'.moved hw c λj hj=>by rw[QyF];show g j-E j=_;rw[l1 j hj]
theorem Low.eff(hw:Q6 m R [])(l:Low m R f g):Eff m R f↔0<=g m:=by
 have hR:=hw.good.1;constructor
 ·rintro⟨d,hd⟩;have l':Low m R (Af m R f d) g:=by
   refine l.moved hw (λi=> -d i) λj hj=>?_;rw[show Af m R (Af m R f d) (λi=> -d i) j=_ from QjC j];have:Af m R f (λi=>d i+ -d i) j=f j+Qo (m+1) λi=>0:=by
    show f j+_=f j+_;congr 1;exact Qx λi _=>by show(d i+ -d i)*_=0;rw[show d i+ -d i=0 by omega,ZN]
   rw[Q9]at this;show f j=Af m R f (λi=>d i+ -d i) j;omega
  obtain⟨c,z,l1,l2⟩:=l';have l3:QfS m R (Af m R (Af m R f d) c):=l2.congr hw λj hj=>l1 j ⋯;rw[l1 m ⋯];exact Qwd hw hd z l3
 ·intro h;obtain⟨c,z,l1,l2⟩:=l;refine⟨c,λj hj=>?_⟩;rw[← l1 j hj];by_cases e:j=m
  ·rw[e];exact h
  ·exact(l2.1 j ⋯).1
theorem Low.sum(hw:Q6 m R [])(l:Low m R f g):Qo (m+1) g=Qo (m+1) f:=by
 obtain⟨c,z,l1,l2⟩:=l;rw[Qx l1];exact Qrf hw.good.1 f c
theorem Low.QBd(hw:Q6 m R [])(l:Low m R f g):g m<=Qo (m+1) f:=by
 rw[← l.sum hw,QP];have:=Qfx (m:=m) (f:=g) λi hi=>by obtain⟨c,z,l1,l2⟩:=l;exact(l2.1 i hi).1
 omega
theorem Qhx.unique{w w':Int}(a:Qhx m R f w)(b:Qhx m R f w'):w=w':=by
 obtain⟨a1,a2,E,a3,a4⟩:=a;obtain⟨b1,b2,E',b3,b4⟩:=b;rcases Int.lt_trichotomy w w' with h | h | h
 ·exact absurd (b2 (w+1) ⋯ E a3) a4
 ·exact h
 ·exact absurd (a2 (w'+1) ⋯ E' b3) b4
end
noncomputable def Qa9(n:Nat)(f:Mt1):List Int:=(List.range n).map f
noncomputable def fnL(k:List Int):Nat->Int:=λi=>k.getD i 0
noncomputable def Qax(a:Nat):Nat->Int:=λj=>if j=a then 1 else 0
noncomputable def putL(ks:List (List Int))(k:List Int):List (List Int):=if ks.contains k then ks else ks++[k]
noncomputable def tupI(k:List Int):D:= .tup (k.map .int)
noncomputable def QW(b:Bool)(k:List Int):D:=if b=true then tupI k else QO k
theorem Qpa(n:Nat)(f:Mt1):(Qa9 n f).length=n:=by simp[Qa9]
theorem Qji(n:Nat)(f:Mt1):Qd n f=QO (Qa9 n f):=by unfold Qd QO Qa9;rw[ZY];rfl
theorem Qfp{n:Nat}{f:Mt1}{i:Nat}(h:i<n):fnL (Qa9 n f) i=f i:=by
 unfold fnL Qa9;rw[ZX,Zs,ZS h];rfl
theorem Qk8{n:Nat}{f g:Mt1}(h:∀j,j<n->f j=g j):Qa9 n f=Qa9 n g:=Zr λj hj=>h j (Zk.mp hj)
theorem QjN{n:Nat}{k:List Int}(h:k.length=n):Qa9 n (fnL k)=k:=by
 subst h;refine ZaK λi=>?_;unfold Qa9;rw[Zs];by_cases z:i<k.length
 ·rw[ZS z,Zay z];simp[fnL,ZX,Zay z]
 ·rw[ZA (by simp;omega),ZA ⋯];rfl
theorem Qo3{n:Nat}{k:List Int}(h:k.length=n):QO k=Qd n (fnL k):=by rw[Qji,QjN h]
theorem Ql0:∀k:List Int,intsOf (k.map .int)=some k
 | []=>rfl
 | x::k=>by
  show(intsOf (k.map .int)).map (x:: ·)=_;rw[Ql0 k];rfl
theorem QwM{ks:List (List Int)}{k y:List Int}:y∈putL ks k↔y∈ks∨y=k:=by
 unfold putL;split
 ·rename_i h;constructor
  ·exact .inl
  ·rintro(h1 | rfl)
   ·exact h1
   ·simpa using h
 ·simp
theorem Qu3(ks:List (List Int))(k:List Int):(putL ks k).length<=ks.length+1:=by
 unfold putL;split
 ·omega
 ·simp
theorem QwE{x:Nat}{ks:List (List Int)}{k:List Int}{fs:DA}{ra:RA}{U:En}{Q:Out->Prop}(hx:U[x]? =some (some (.dk ks,true)))(ha:fs U=some ra)(e:ra.ds=[QO k])(hl:ks.length<16777216)(q:Q (.nx (U.set x (some (.dk (putL ks k),true))))):Run (Qhz x fs) U Q:=by
 refine⟨_,?_,q⟩;unfold Qhz;rw[hx];show(fs U).bind _=_;rw[ha,Za,e];show(intsOf (k.map .int)).bind _=_;rw[Ql0,Za,if_pos (by rw[Qfe];exact hl)];rfl
theorem Qv1{U:En}{ks:List (List Int)}{fs:DA}{rs:RA}(h:fs U=some rs)(e:rs.ds=[.dk ks]):dList fs U=some (reT (.lst (ks.map tupI))):=by
 unfold dList;rw[h,Za,e];show some (Qat (ks.map tupI) [])=_;unfold Qat
 rw[if_pos (Qbl (f:=tupI) (λk=>show QT (k.map D.int)=true from Qhj k) ks)]
theorem Qi4{U:En}{b:Bool}{k:List Int}{fs:DA}{rs:RA}(h:fs U=some rs)(e:rs.ds=[QW b k])(hl:k.length<=16777216):dList fs U=some (reT (QO k)):=by
 unfold dList;rw[h,Za,e];cases b with
 | false=>
  show some (Qat (k.map .int) rs.M)=_;unfold Qat
  rw[if_pos (Qhj k)];rfl
 | true=>
  show(if(k.map D.int).length<=sizeLine then some (Qat (k.map .int) rs.M)else none)=_;rw[if_pos (by rw[Zl,Qfe];exact hl)];unfold Qat
  rw[if_pos (Qhj k)];rfl
theorem Qwr{U:En}{b:Bool}{k:List Int}{fa:DE}{r:R}(h:fa U=some r)(e:r.d=QW b k):dBf Qbz (Qa fa Qb) U=some (reI k.length):=by
 unfold dBf;rw[Qm h (QJ _),Za,e];cases b with
 | false=>show some (R.mk (.int ((k.map D.int).length:Nat)) true [])=_;rw[Zl]
 | true=>show some (R.mk (.int ((k.map D.int).length:Nat)) true [])=_;rw[Zl]
theorem Qu4{U:En}{b:Bool}{k:List Int}{fa fb:DE}{r rb:R}{i:Nat}(h:fa U=some r)(e:r.d=QW b k)(hb:fb U=some rb)(eb:rb.d= .int i)(hi:i<k.length):Qv fa fb U=some (reI (fnL k i)):=by
 have a:atI (k.map D.int) (i:Int)=some (.int (fnL k i)):=by
  rw[QgY ⋯ (by rw[Zl];omega)];simp[Zs,Zay hi,fnL,ZX]
 unfold Qv;rw[h,Za,hb,Za,e,eb];cases b with
 | false=>
  show(match D.items (QO k)with | some xs=>(atI xs (i:Int)).map λd=>HS.R.norm ⟨d,r.fr,r.M⟩ | _=>none)=_;simp only[QO,D.items,a];rfl
 | true=>
  show(match D.items (tupI k)with | some xs=>(atI xs (i:Int)).map λd=>HS.R.norm ⟨d,r.fr,r.M⟩ | _=>none)=_;simp only[tupI,D.items,a];rfl
section
variable {fa fb:DE}{U:En}{ra rb:R}{a b:Int}
theorem Qg2(ha:fa U=some ra)(ea:ra.d= .int a)(hb:fb U=some rb)(eb:rb.d= .int b):dOp gGt fa fb U=some (reT (.bl (decide (b<a)))):=QaR ha hb (by rw[ea,eb];rfl)
theorem QAp(ha:fa U=some ra)(ea:ra.d= .int a)(hb:fb U=some rb)(eb:rb.d= .int b):dOp gGe fa fb U=some (reT (.bl (decide (b<=a)))):=QaR ha hb (by rw[ea,eb];rfl)
theorem Qv2{g:D->D->Option D}{i:Nat}{d d':D}{bb:Bool}{Q:Out->Prop}(hx:U[i]? =some (some (d,bb)))(ha:fa U=some ra)(hg:g d ra.d=some d')(q:Q (.nx (U.set i (some (d',true))))):Run (Qik g i fa) U Q:=by
 refine⟨_,?_,q⟩;unfold Qik;rw[hx];show(fa U).bind _=_;rw[ha,Za,hg];rfl
end
theorem QxI(f:Mt1)(a:Nat):up f a (f a-1)=Q4 f (Qax a):=by
 funext j;unfold up Q4 Qax;split
 ·rename_i h;rw[h]
 ·omega
theorem Qpp{dl:Den}(hl:Qhs dl){m:Nat}{R:Lpp}{f:Mt1}(m0:0<m)(m8:m<=8)(hw:Q6 m R [])(hb:∀j,j<m->(f j).natAbs<=2^190):
  ∃g c:Nat->Int,dl [Qj m R [],Qd (m+1) f]=slT (.tup [Qd (m+1) g,Qd (m+1) c])/\Low m R f g:=by
 obtain⟨c,e,z,l⟩:=hl m R f m0 m8 hw hb;exact⟨_,c,e,c,z,λ_ _=>rfl,l⟩
noncomputable def Qlc(Q1:Den):DS:=(Qc (Qt 2 Qn5) (Qc (Qbh (Qar vv1) (.nm 3) (Qc (Qbh (Qcz (dBf Qbz (Qa vv3 Qb))) (.nm 4) (Qc (Qt 5 (dList (Qa vv3 Qb))) (Qc (Qdz QaI 5 Qa8 vv4 kk1) (Qc (Qhz 2 (Qa (Qv (Qg 2 Q1 [] (Qa vv0 (Qa vv5 Qb))) kk0) Qb)) Qi)))) Qi)) (Qc (QB (dList (Qa vv2 Qb))) Qi)))
def QjF(m:Nat)(R:Lpp)(x:List Int)(a:Nat)(y:List Int):Prop:=∃g,Low m R (Q4 (fnL x) (Qax a)) g/\y=Qa9 (m+1) g
def Qso(d:Den):Prop:=∀(m:Nat) (R:Lpp) (b:Bool) (ks:List (List Int)),0<m->m<=8->Q6 m R []->(∀x∈ks,x.length=m+1/\∀j,j<m->(fnL x j).natAbs<=2^189)->ks.length*(m+1)<16777216→
 ∃ks':List (List Int),d [Qj m R [],.lst (ks.map (QW b))]=some (.lst (ks'.map (QW true)),true)/\ks'.length<=ks.length*(m+1)/\∀y,y∈ks'↔∃x∈ks,∃a,a<m+1/\QjF m R x a y
theorem QzL{dl:Den}(hl:Qhs dl):Qso (Qs 6 (Qlc dl)):=λm R b ks m0 m8 hw hk hs=>by
 have key:Run (Qlc dl) (Qav 6 [Qj m R [],.lst (ks.map (QW b))]) (Rt λd fr=>∃ks':List (List Int),d= .lst (ks'.map tupI)/\fr=true/\ks'.length<=ks.length*(m+1)/\∀y,y∈ks'↔∃x∈ks,∃a,a<m+1/\QjF m R x a y):=by
  refine rsa (d:= .dk []) rfl ?_;refine Qca (P:=λU=>∃(ks':List (List Int)) (j3 j4 j5:Option (D×Bool)),ks'.length<=ks.length*(m+1)/\(∀y,y∈ks'↔∃p x,p<ks.length/\ks[p]? =some x/\∃a,a<m+1/\QjF m R x a y)/\U=[slF (Qj m R []),slF (.lst (ks.map (QW b))),some (.dk ks',true),j3,j4,j5]) ?_ ?_
  ·refine Qa0 (toD:=QW b) ks (λi U=>∃(ks':List (List Int)) (j3 j4 j5:Option (D×Bool)),ks'.length<=i*(m+1)/\(∀y,y∈ks'↔∃p x,p<i/\ks[p]? =some x/\∃a,a<m+1/\QjF m R x a y)/\U=[slF (Qj m R []),slF (.lst (ks.map (QW b))),some (.dk ks',true),j3,j4,j5]) (Qa1 (xs:=ks.map (QW b)) (r:=reF (.lst (ks.map (QW b)))) rfl rfl) rfl ⟨[],none,none,none,by simp,λy=>⟨λh=>by simp at h,λ⟨p,_,h,_⟩=> ⋯⟩,rfl⟩ ?_ ?_
   ·rintro i x U hi ⟨k0,j3,j4,j5,h1,h2,rfl⟩;refine⟨_,rfl,?_⟩;obtain⟨xl,xb⟩:=hk x (Zaj hi);have il:i<ks.length:=(Zm.mp hi).1;have sz:(i+1)*(m+1)<=ks.length*(m+1):=Nat.mul_le_mul_right _ il;rw[ZbY]at sz;have ex:∀{U:En}{bb:Bool},U[3]? =some (some (QW b x,bb))->∃r,Qq 3 U=some r/\r.d=QW b x:=λ{U bb} h=>⟨_,Qbw h,by split<;>(try rfl);split<;>rfl⟩;refine run_seq ?_;obtain⟨r3,e3,d3⟩:=ex (U:=[slF (Qj m R []),slF (.lst (ks.map (QW b))),some (.dk k0,true),some (QW b x,(QW b x).flat),j4,j5]) rfl;refine Qa0 (toD:=λ(a:Nat)=>D.int (a:Int)) (List.range (m+1)) (λt U=>∃(k1:List (List Int)) (j4 j5:Option (D×Bool)),k1.length<=i*(m+1)+t/\(∀y,y∈k1↔y∈k0∨∃a,a<t/\QjF m R x a y)/\U=[slF (Qj m R []),slF (.lst (ks.map (QW b))),some (.dk k1,true),some (QW b x,(QW b x).flat),j4,j5]) (ir:=⟨(List.range (m+1)).map λ(a:Nat)=>D.int (a:Int),[]⟩) ?_ rfl ⟨k0,j4,j5,h1,λy=>⟨.inl,λh=>h.elim id λ⟨a,h,_⟩=> ⋯⟩,rfl⟩ ?_ ?_
    ·exact Qev (Qwr e3 d3) (by rw[xl]) ⋯
    ·rintro t a U ht ⟨k1,j4,j5,g1,g2,rfl⟩;refine⟨_,rfl,?_⟩;have ta:a=t/\t<m+1:=by
      have:=Zm.mp ht;obtain⟨h,e⟩:=this;rw[List.getElem_range]at e;rw[ZI]at h;exact⟨e.symm,h⟩
     obtain⟨rfl,tl⟩:=ta;obtain⟨r3,e3,d3⟩:=ex (U:=[slF (Qj m R []),slF (.lst (ks.map (QW b))),some (.dk k1,true),some (QW b x,(QW b x).flat),slI (a:Int),j5]) rfl;refine rsa (Qi4 (b:=b) (k:=x) (Qm e3 (QJ _)) (by rw[d3]) (by rw[xl];omega)) ?_;rw[Qo3 xl];refine run_seq (QpC (m:=m+1) (f:=fnL x) (i:=(a:Int)) (w:=fnL x a-1) (ri:=reI a) (ra:=reI 1) rfl rfl rfl rfl ⋯ ⋯ rfl ?_);show Nx _ (.nx [slF (Qj m R []),slF (.lst (ks.map (QW b))),some (.dk k1,true),some (QW b x,(QW b x).flat),slI (a:Int),slT (Qd (m+1) (up (fnL x) (a:Int).toNat (fnL x a-1)))]);rw[ZL,QxI];obtain⟨g,c,el,lo⟩:=Qpp hl (f:=Q4 (fnL x) (Qax a)) m0 m8 hw λj hj=>by
      have:=xb j hj;have h4:(2:Nat)^189+1<=2^190:=by decide
      unfold Q4 Qax;split<;>omega
     refine run_seq (QwE (ks:=k1) (k:=Qa9 (m+1) g) rfl (Qm (QmB (Qp (r:=⟨[Qj m R [],Qd (m+1) (Q4 (fnL x) (Qax a))],false,[5]⟩) rfl el rfl) rfl).1 (QJ _)) (by rw[← Qji];rfl) ⋯ (Qu ?_));refine⟨putL k1 (Qa9 (m+1) g),_,_,ZC (Qu3 _ _) ⋯,λy=>?_,rfl⟩;rw[QwM,g2 y];constructor
     ·rintro((h | ⟨a',h,q⟩) | rfl)
      ·exact .inl h
      ·exact .inr ⟨a',⋯,q⟩
      ·exact .inr ⟨a,⋯,g,lo,rfl⟩
     ·rintro(h | ⟨a',h,q⟩)
      ·exact .inl (.inl h)
      ·by_cases z:a'=a
       ·subst z;obtain⟨g',lo',rfl⟩:=q;exact .inr (Qk8 (lo'.unique hw lo))
       ·exact .inl (.inr ⟨a',⋯,q⟩)
    ·rintro U ⟨k1,j4,j5,g1,g2,rfl⟩;rw[ZI]at g1 g2;refine Qu ⟨k1,_,_,_,by rw[ZbY];omega,λy=>?_,rfl⟩;rw[g2 y,h2 y];constructor
     ·rintro(⟨p,x',hp,q⟩ | h)
      ·exact⟨p,x',⋯,q⟩
      ·exact⟨i,x,⋯,hi,h⟩
     ·rintro⟨p,x',hp,hx',q⟩;by_cases z:p=i
      ·subst z;rw[hi]at hx';cases hx';exact .inr q
      ·exact .inl ⟨p,x',⋯,hx',q⟩
   ·rintro U ⟨k',j3,j4,j5,h⟩;exact⟨k',j3,j4,j5,h⟩
  rintro U ⟨k',j3,j4,j5,h1,h2,rfl⟩;refine QF (Qv1 (ks:=k') (rs:=⟨[.dk k'],true,[2]⟩) rfl rfl) ⟨k',rfl,?_,h1,λy=>?_⟩
  ·rw[show(HS.R.norm (reT (.lst (k'.map tupI))))=(reT (.lst (k'.map tupI))) by unfold HS.R.norm;split<;>rfl];rfl
  ·rw[h2 y];constructor
   ·rintro⟨p,x,_,hx,q⟩;exact⟨x,Zaj hx,q⟩
   ·rintro⟨x,hx,q⟩;obtain⟨p,hp⟩:=List.getElem?_of_mem hx;exact⟨p,x,(Zm.mp hp).1,hp,q⟩
 obtain⟨o,h1,h2⟩:=key;cases o with
 | rt d fr=>
  obtain⟨k',rfl,rfl,h3,h4⟩:=h2;exact⟨k',by unfold Qs;rw[h1];rfl,h3,h4⟩
 | _=>exact h2.elim
section
variable {m:Nat}{R:Lpp}{f:Mt1}
theorem Qpq{n a:Nat}(h:a<n):Qo n (Qax a)=1:=by
 have:=Qai (m:=n) (p:=a) h 1 λ_=>1;rw[show(λi=>(if i=a then(1:Int)else 0)*1)=Qax a from by funext i;unfold Qax;split<;>rfl]at this;omega
theorem Qbn.nn{k:Int}{E:Mt1}(h:Qbn m k E):0<=k:=by rw[← h.2];exact Qfx h.1
theorem Qbn.add{k:Int}{E:Mt1}(h:Qbn m k E){a:Nat}(ha:a<m+1):Qbn m (k+1) λj=>E j+Qax a j:=by
 refine⟨λj hj=>?_,by rw[Qae,h.2,Qpq ha]⟩;have:=h.1 j hj;show 0<=E j+Qax a j;unfold Qax;split<;>omega
theorem QxK{n:Nat}{E:Mt1}(h:0<Qo n E):∃a,a<n/\1<=E a:=by
 induction n with
 | zero=>rw[show Qo 0 E=0 from rfl]at h;omega
 | succ n ih=>
  rw[QP]at h;by_cases z:1<=E n
  ·exact⟨n,⋯,z⟩
  ·obtain⟨a,h1,h2⟩:=ih ⋯;exact⟨a,⋯,h2⟩
theorem Qto{n a:Nat}{E:Mt1}(h:∀j,j<n->0<=E j)(ha:a<n):E a<=Qo n E:=by
 induction n with
 | zero=>omega
 | succ n ih=>
  rw[QP];have h1:=h n ⋯;have h2:=Qfx (m:=n) (f:=E) λi hi=>h i ⋯;by_cases z:a=n
  ·subst z;omega
  ·have:=ih (λj hj=>h j ⋯) ⋯;omega
theorem Qbn.sub{k:Int}{E:Mt1}(h:Qbn m (k+1) E)(hk:0<=k):∃a,a<m+1/\Qbn m k λj=>E j-Qax a j:=by
 obtain⟨a,ha,h1⟩:=QxK (n:=m+1) (E:=E) (by rw[h.2];omega);refine⟨a,ha,λj hj=>?_,?_⟩
 ·have:=h.1 j hj;show 0<=E j-Qax a j;unfold Qax;split
  ·rename_i z;rw[z];omega
  ·omega
 ·rw[Qx (g:=λj=>E j+ -Qax a j) λj _=> ⋯,Qae,QbK,h.2,Qpq ha];omega
def Qde(m:Nat)(R:Lpp)(f:Mt1)(k:Int)(ks:List (List Int)):Prop:=∀y,y∈ks↔∃E,Qbn m k E/\∃g,Low m R (Q4 f E) g/\y=Qa9 (m+1) g
theorem Qns(f E E':Mt1):Q4 (Q4 f E) E'=Q4 f λj=>E j+E' j:=by funext j;show f j-E j-E' j=f j-(E j+E' j);omega
def Qsa(m:Nat)(R:Lpp):Prop:=∀f:Nat->Int,(∀j,j<m->(f j).natAbs<=2^190)->∃g,Low m R f g
theorem Qz9(hw:Q6 m R []){g h:Mt1}{a:Nat}:Low m R (Q4 (fnL (Qa9 (m+1) g)) (Qax a)) h->Low m R (Q4 g (Qax a)) h:=λl=>
 l.congr hw (λj hj=>by show fnL _ j-_=g j-_;rw[Qfp hj]) λ_ _=>rfl
theorem Qzx(hw:Q6 m R []){g h:Mt1}{a:Nat}:Low m R (Q4 g (Qax a)) h->Low m R (Q4 (fnL (Qa9 (m+1) g)) (Qax a)) h:=λl=>
 l.congr hw (λj hj=>by show g j-_=fnL _ j-_;rw[Qfp hj]) λ_ _=>rfl
theorem Qrm(hw:Q6 m R []){g:Mt1}(l:Low m R f g):∀j,j<m->0<=g j/\(g j).natAbs<=2^100:=λj hj=>by
 obtain⟨c,z,l1,l2⟩:=l;have h1:=l2.1 j hj;have h2:=hw.tp.bnd j j hj hj;have h3:=hw.neg hj;have h4:(2:Nat)^66<=2^100:=ZE (by decide) (by decide);omega
theorem Qde.good(hw:Q6 m R []){k:Int}{ks:List (List Int)}(F:Qde m R f k ks):∀x∈ks,x.length=m+1/\∀j,j<m->(fnL x j).natAbs<=2^189:=λx hx=>by
 obtain⟨E,_,g,l,rfl⟩:=(F x).mp hx;refine⟨Qpa _ _,λj hj=>?_⟩;rw[Qfp ⋯];exact ZC (Qrm hw l j hj).2 (ZE (by decide) (by decide))
theorem Qkv{k:Int}{E:Mt1}(hE:Qbn m k E)(hk:k<=1000)(hb:∀j,j<m->(f j).natAbs<=2^189):∀j,j<m->(Q4 f E j).natAbs<=2^190:=λj hj=>by
 have h1:=hE.1 j ⋯;have h2:=Qto (n:=m+1) (E:=E) (a:=j) hE.1 ⋯;rw[hE.2]at h2;have h3:=hb j hj;have h4:(2:Nat)^189+1000<=2^190:=by decide
 show(f j-E j).natAbs<=_;omega
theorem Qde.next(hw:Q6 m R [])(ex:Qsa m R)(hb:∀j,j<m->(f j).natAbs<=2^189){k:Int}(h0:0<=k)(hk:k<1000){ks ks':List (List Int)}(F:Qde m R f k ks)(h:∀y,y∈ks'↔∃x∈ks,∃a,a<m+1/\QjF m R x a y):Qde m R f (k+1) ks':=λy=>by
 rw[h y];constructor
 ·rintro⟨x,hx,a,ha,g',l',rfl⟩;obtain⟨E,hE,g,l,rfl⟩:=(F x).mp hx;refine⟨_,hE.add ha,g',?_,rfl⟩;have:=l.less hw (Qax a) (Qz9 hw l');rw[Qns]at this;exact this
 ·rintro⟨E,hE,g,l,rfl⟩;obtain⟨a,ha,hs⟩:=hE.sub h0;obtain⟨h,lh⟩:=ex (Q4 f λj=>E j-Qax a j) (Qkv hs ⋯ hb);refine⟨Qa9 (m+1) h,(F _).mpr ⟨_,hs,h,lh,rfl⟩,a,ha,?_⟩;obtain⟨p,lp⟩:=ex (Q4 h (Qax a)) λj hj=>by
   have h1:=Qrm hw lh j hj;have h4:(2:Nat)^100+1<=2^190:=by decide
   show(h j-Qax a j).natAbs<=_;unfold Qax;split<;>omega
  have q:=lh.less hw (Qax a) lp;rw[Qns,show(λj=>E j-Qax a j+Qax a j)=E from by funext j;omega]at q;exact⟨p,Qzx hw lp,Qk8 (l.unique hw q)⟩
theorem Qde.pos(hw:Q6 m R [])(ex:Qsa m R)(hb:∀j,j<m->(f j).natAbs<=2^189){k:Int}(hk:k<1000){ks:List (List Int)}(F:Qde m R f k ks)(h:∀x∈ks,0<=fnL x m):∀E,Qbn m k E->Eff m R (Q4 f E):=λE hE=>by
 obtain⟨g,l⟩:=ex _ (Qkv hE ⋯ hb);rw[l.eff hw];have:=h _ ((F _).mpr ⟨E,hE,g,l,rfl⟩);rw[Qfp ⋯]at this;exact this
theorem Qde.small(hw:Q6 m R [])(ex:Qsa m R)(hb:∀j,j<m->(f j).natAbs<=2^189){k:Int}(h0:0<=k)(hk:k<1000){ks:List (List Int)}(F:Qde m R f k ks)(h:∀x∈ks,0<=fnL x m):k<=Qo (m+1) f:=by
 have hE:Qbn m k λj=>if j=0 then k else 0:=by
  refine⟨λj _=>by dsimp only;split<;>omega,?_⟩;have:=Qai (m:=m+1) (p:=0) ⋯ k λ_=>1;rw[show(λi=>(if i=0 then k else 0)*1)=λj=>if j=0 then k else 0 from by funext i;omega]at this;omega
 obtain⟨g,l⟩:=ex _ (Qkv hE ⋯ hb);have h1:=h _ ((F _).mpr ⟨_,hE,g,l,rfl⟩);rw[Qfp ⋯]at h1;have h2:=l.QBd hw;rw[show Qo (m+1) (Q4 f λj=>if j=0 then k else 0)=Qo (m+1) f+ -Qo (m+1) (λj=>if j=0 then k else 0)from by rw[← QbK,← Qae];exact Qx λj _=>by show f j-(if j=0 then k else 0)=f j+ -(if j=0 then k else 0);omega,hE.2]at h2;omega
theorem Qde.zero(hw:Q6 m R []){g:Mt1}(l:Low m R f g):Qde m R f 0 [Qa9 (m+1) g]:=λy=>by
 have z:Qbn m 0 λ_=>0:=⟨λ_ _=>Zak 0,Q9 _⟩;have e:Q4 f (λ_=>0)=f:=by funext j;show f j-0=f j;omega
 rw[Zw];constructor
 ·rintro rfl;exact⟨_,z,g,by rw[e];exact l,rfl⟩
 ·rintro⟨E,hE,g',l',rfl⟩;have e0:∀j,j<m+1->E j=0:=λj hj=>by
   have h1:=hE.1 j hj;have h2:=Qto (n:=m+1) hE.1 hj;rw[hE.2]at h2;omega
  refine Qk8 (Low.unique hw (l'.congr hw (λj hj=>?_) λ_ _=>rfl) l);show f j-E j=f j;rw[e0 j hj];omega
end
theorem Qx5{α:Type}{fa:DE}{U:En}{r:R}{ks:List α}{g:α->Bool}(h:fa U=some r)(e:r.d= .lst (ks.map λi=> .bl (g i))):dBf QhG (Qa fa Qb) U=some (reT (.bl (ks.all g))):=by
 unfold dBf;rw[Qm h (QJ _),Za];have:(ks.map λi=>D.bl (g i))=((ks.map g).map D.bl):=by rw[ZY];rfl
 simp only[e,QhG,this,QqJ,ZR,List.all_map];rfl
noncomputable def Qdw(QG:Den)(Qz:Den)(Q1:Den)(Qb2:Den):DS:=(Qc (Qal (Qg 2 Qz [] (Qa (Qg 1 QG [] (Qa vv0 Qb)) (Qa (QN (Qa vv1 Qb)) Qb)))) (Qc (sIf (bOr (QC (dOp gGt (Qv vv0 kk0) kk4)) (QC (dOp gGt (dBf Qfn (Qa vv1 Qb)) kk6))) (Qc Qw Qi) Qi) (Qc (Qt 2 (QdU kk1)) (Qc (Qt 3 (QN (Qa (Qv (Qg 2 Q1 [] (Qa vv0 (Qa vv1 Qb))) kk0) Qb))) (Qc (Qco (QC (dBf QhG (Qa (QQ (Qar vv3) (.nm 1) [none,none,some 0] Q8 (dOp gGe (Qv vv1 (Qv vv2 kk0)) kk0)) Qb))) (Qc (Qik (gI λi j=>some (.int (i+j))) 2 kk1) (Qc (Qt 3 (Qg 2 Qb2 [] (Qa vv0 (Qa vv3 Qb)))) Qi))) (Qc (QB vv2) Qi))))))
def Qju(d:Den):Prop:=∀(m:Nat) (R:Lpp) (f:Mt1),0<m->m<=4->Q6 m R []->(∀j,j<m->(f j).natAbs<=2^189)->Qo (m+1) f<=6->∃w:Int,d [Qj m R [],Qd (m+1) f]=some (.int w,true)/\Qhx m R f w/\(w<=Qo (m+1) f∨w= -1)
theorem QvT(g:Mt1)(n:Nat):D.lst ([Qa9 n g].map (QW false))= .lst [Qd n g]:=by rw[Qji];rfl
theorem QAw{m k:Nat}(hm:m<=4)(hk:k<=7):(m+1)^k<=78125:=ZC (Nat.pow_le_pow_left (by omega:m+1<=5) k) (ZC (ZE (by decide) hk) (by decide))
theorem QuK{dw dn dl d1:Den}(hp:Qcm dw)(hn:Qen dn)(hl:Qhs dl)(ho:Qso d1):Qju (Qs 4 (Qdw dw dn dl d1)):=λm R f m0 m4 hw hb hs=>by
 have ex:Qsa m R:=λf hf=>let ⟨g,_,_,l⟩:=Qpp hl m0 ⋯ hw hf;⟨g,l⟩;obtain⟨g0,c0,e0,l0⟩:=Qpp hl (f:=f) m0 ⋯ hw λj hj=>ZC (hb j hj) (ZE (by decide) (by decide));have key:Run (Qdw dw dn dl d1) (Qav 4 [Qj m R [],Qd (m+1) f]) (Rt λd fr=>∃w:Int,d= .int w/\fr=true/\Qhx m R f w/\(w<=Qo (m+1) f∨w= -1)):=by
  refine run_seq (Qcu (Qp (Qm (Qcc (r:=⟨[Qj m R []],false,[]⟩) rfl (hp m R) rfl) (Qm (r:=reF (.lst [Qd (m+1) f])) rfl (QJ _))) (hn (m+1) R [] [f]) rfl) ?_);refine run_seq (QY (b:=false) ?_ (λh=>by cases h) λ_=>Qu ?_)
  ·exact Qcw (a:=false) (b:=false) (QH (Qg2 (a:=(m:Int)) (b:=4) (QbX (m:=m) (R:=R) (L:=[]) (r:=reF (Qj m R [])) rfl rfl).1 rfl rfl rfl) (by simp<;>omega)) (QH (Qg2 (a:=Qo (m+1) f) (b:=6) (QmL (r:=reF (Qd (m+1) f)) rfl rfl) rfl rfl rfl) (by simp<;>omega))
  refine rsa (d:= .int (-1)) rfl ?_;refine run_seq (QL (r:=reT (.lst [Qd (m+1) g0])) ?_ ?_)
  ·exact Qe2 (Qm (QmB (Qp (r:=⟨[Qj m R [],Qd (m+1) f],false,[]⟩) rfl e0 rfl) rfl).1 (QJ _)) (Zx rfl)
  rw[Qbb];refine Qca (P:=λU=>∃(w:Int) (j3:Option (D×Bool)),Qhx m R f w/\(w<=Qo (m+1) f∨w= -1)/\U=[slF (Qj m R []),slF (Qd (m+1) f),slI w,j3]) ?_ ?_
  ·refine QiZ (λn U=>∃(k:Nat) (b bf:Bool) (ks:List (List Int)),n+k=8/\k<=7/\Qde m R f k ks/\ks.length<=(m+1)^k/\(∀k':Int,k'<k->∀E,Qbn m k' E->Eff m R (Q4 f E))/\((k:Int)<=Qo (m+1) f+1∨k=0)/\U=[slF (Qj m R []),slF (Qd (m+1) f),slI ((k:Int)-1),some (.lst (ks.map (QW b)),bf)]) ?_ 8 _ ⟨0,false,true,[Qa9 (m+1) g0],rfl,⋯,Qde.zero hw l0,by simp,λk' hk E hE=>absurd hE.nn ⋯,.inr rfl,by rw[QvT];rfl⟩;rintro n U ⟨k,b,bf,ks,hnk,hk7,F,hlen,his,hsm,rfl⟩;have fg:=F.good hw;have ev3:∃r,Qq 3 [slF (Qj m R []),slF (Qd (m+1) f),slI ((k:Int)-1),some (.lst (ks.map (QW b)),bf)]=some r/\r.d= .lst (ks.map (QW b)):=by
    cases bf
    ·exact⟨(reF (.lst (ks.map (QW b)))),rfl,rfl⟩
    ·exact⟨⟨.lst (ks.map (QW b)),true,[3]⟩,rfl,rfl⟩
   obtain⟨r3,e3,d3⟩:=ev3;refine⟨ks.all λx=>decide (0<=fnL x m),?_,λhf=>?_,λht=>?_⟩
   ·refine QH (Qx5 (g:=λx=>decide (0<=fnL x m)) (QS (toD:=QW b) (out:=λx=> .bl (decide (0<=fnL x m))) ks (Qa1 e3 d3) rfl λx hx=>?_) rfl) rfl;refine⟨[none,some (QW b x,(QW b x).flat),slF (Qj m R [])],rfl,reT (.bl (decide (0<=fnL x m))),?_,rfl,rfl⟩;have ex:∃r,Qq 1 [none,some (QW b x,(QW b x).flat),slF (Qj m R [])]=some r/\r.d=QW b x:=⟨_,Qbw rfl,by split<;>(try rfl)<;>split<;>rfl⟩;obtain⟨r1,e1,d1⟩:=ex;exact QAp (a:=fnL x m) (b:=0) (Qu4 (b:=b) (k:=x) (i:=m) e1 d1 (QbX (m:=m) (R:=R) (L:=[]) (r:=reF (Qj m R [])) rfl rfl).1 rfl (by rw[(fg x hx).1];omega)) rfl rfl rfl
   ·refine⟨(k:Int)-1,_,⟨⋯,λk' hk'=>his k' ⋯,?_⟩,⋯,rfl⟩;obtain⟨x,hx,hneg⟩:=List.all_eq_false.mp hf;obtain⟨E,hE,g,l,rfl⟩:=(F x).mp hx;refine⟨E,by rw[show(k:Int)-1+1=k by omega];exact hE,λz=>hneg ?_⟩;rw[l.eff hw]at z;rw[Qfp ⋯];simpa using z
   ·have all0:∀x∈ks,0<=fnL x m:=λx hx=>by simpa using Zax.mp ht x hx
    have ksm:=F.small hw ex hb ⋯ ⋯ all0;have k6:k<=6:= ⋯
    have p5:=QAw (k:=k) m4 ⋯;have p6:=QAw (k:=k+1) m4 ⋯;have szl:ks.length*(m+1)<=(m+1)^(k+1):=by rw[Nat.pow_succ];exact Nat.mul_le_mul_right _ hlen
    obtain⟨ks',eo,lo,mo⟩:=ho m R b ks m0 ⋯ hw fg ⋯;refine run_seq (Qv2 (g:=gI λi j=>some (.int (i+j))) (d':= .int (k:Int)) rfl rfl ?_ ?_)
    ·show some (D.int ((k:Int)-1+1))=_;rw[show(k:Int)-1+1=k by omega]
    have e4:∃ra:RA,(Qa (Qq 0) (Qa (Qq 3) Qb)) [slF (Qj m R []),slF (Qd (m+1) f),slI (k:Int),some (.lst (ks.map (QW b)),bf)]=some ra/\ra.ds=[Qj m R [],.lst (ks.map (QW b))]:=by
     cases bf
     ·exact⟨⟨[Qj m R [],.lst (ks.map (QW b))],false,[]⟩,rfl,rfl⟩
     ·exact⟨⟨[Qj m R [],.lst (ks.map (QW b))],false,[3]⟩,rfl,rfl⟩
    obtain⟨ra,e4,d4⟩:=e4;refine rsa (Qp e4 (by rw[Zag,d4];exact eo) (by rw[d4];rfl)) ?_;refine Qu ⟨n-1,⋯,k+1,true,true,ks',⋯,⋯,?_,ZC lo szl,λk' hk' E hE=>?_,⋯,?_⟩
    ·have:=F.next hw ex hb ⋯ ⋯ mo;rw[show((k+1:Nat):Int)=(k:Int)+1 by omega];exact this
    ·by_cases z:k'<k
     ·exact his k' z E hE
     ·rw[show k'=(k:Int) by omega]at hE;exact F.pos hw ex hb ⋯ all0 E hE
    ·rw[show((k+1:Nat):Int)-1=k by omega];rfl
  rintro U ⟨w,j3,hw1,hw2,rfl⟩;exact QF (r:=reI w) rfl ⟨w,rfl,rfl,hw1,hw2⟩
 obtain⟨o,h1,h2⟩:=key;cases o with
 | rt d fr=>
  obtain⟨w,rfl,rfl,h3,h4⟩:=h2;exact⟨w,by unfold Qs;rw[h1];rfl,h3,h4⟩
 | _=>exact h2.elim
noncomputable def QfD(R:Lpp):Nat->Int:=λj=>QE R [] j-2
section
variable {m:Nat}{R:Lpp}
end
section
variable {m:Nat}{R:Lpp}
theorem Qs0{n p:Nat}(hp:p<n)(v:Int):Qo n (λj=>if j=p then v else 0)=v:=by
 have:=Qai (m:=n) hp v λ_=>1;rw[show(λi=>(if i=p then v else 0)*1)=λj=>if j=p then v else 0 from by funext i;omega]at this;omega
end
theorem Qrn{fa fb:DE}{U:En}{ra rb:R}{A B:List Int}(ha:fa U=some ra)(ea:ra.d=QO A)(hb:fb U=some rb)(eb:rb.d=QO B)(hl:A.length+B.length<=16777216):QI fa fb U=some (reT (QO (A++B))):=by
 unfold QI;rw[ha,Za,hb,Za,ea,eb];show(if(A.map D.int).length+(B.map D.int).length<=sizeLine then some (Qat (A.map D.int++B.map D.int) (ra.M++rb.M))else none)=_;rw[if_pos (by rw[Qfe];simpa using hl),← ZQ];unfold Qat
 rw[if_pos (Qhj _)];rfl
section
variable {m:Nat}{R:Lpp}{f g:Mt1}
theorem QpS{x:List Int}{n:Nat}(h:x.length=n):Qo n (fnL x)=x.sum:=by
 unfold Qo;rw[show(List.range n).map (fnL x)=x from QjN h]
end
noncomputable def Qdy(QG:Den)(Qz:Den)(Qab:Den):DS:=(Qc (Qt 2 (Qg 1 QG [] (Qa vv0 Qb))) (Qc (Qal (Qg 2 Qz [] (Qa vv2 (Qa (QN (Qa vv1 Qb)) Qb)))) (Qc (QB (QQ (Qaw (Qg 1 Qab [] (Qa vv2 Qb)) vv1) (.tp [1,2]) [none,none,none] Q8 (dOp QaI (dOp QaI vv1 kk2) vv2))) Qi)))
def QiU(d:Den):Prop:=∀(m:Nat) (R:Lpp) (f:Mt1),m<=100->R.length<=1000->(∀s∈R,Good m s)->d [Qj m R [],Qd (m+1) f]=some (Qd (m+1) (Q4 (QfD R) f),true)
theorem Qrx{dw dn ds:Den}(hw:Qcm dw)(hn:Qen dn)(hs:QiI ds):QiU (Qs 3 (Qdy dw dn ds)):=λm R f hm hl hR=>by
 refine QU ?_;refine run_seq (QL (Qcc (r:=⟨[Qj m R []],false,[]⟩) rfl (hw m R) rfl) ?_);rw[Qgh rfl];refine run_seq (Qcu (Qp (r:=⟨[Qj ((m+1:Nat):Int) R [],.lst [Qd (m+1) f]],false,[]⟩) rfl (hn (m+1) R [] [f]) rfl) ?_);refine QF (r:=reT (Qd (m+1) (Q4 (QfD R) f))) (QS (toD:=λ(j:Nat)=> .tup [.int (QE R [] j),.int (f j)]) (out:=λ(j:Nat)=> .int (QE R [] j-2-f j)) (List.range (m+1)) (QcB (m:=m+1) (f:=λj=> .int (QE R [] j)) (g:=λj=> .int (f j)) (Qp (r:=⟨[Qj ((m+1:Nat):Int) R []],false,[]⟩) rfl (hs (m+1) R [] ⋯ (by simp;omega) (λs h=>QjB (hR s h)) λs h=>by simp at h) rfl) rfl (rb:=reF (Qd (m+1) f)) rfl rfl) rfl λj _=>⟨[none,slI (QE R [] j),slI (f j)],rfl,reI (QE R [] j-2-f j),rfl,rfl,rfl⟩) ⟨rfl,rfl⟩
end HS
namespace HS
open PySem PySem.Spec L2 PyProof.Rows
theorem QvX(x:QaQ P w H h a o):∃u,h.get? a=some u:=by
 cases o with
 | lst xs=>obtain⟨_,_,_,_,e⟩:=x;exact⟨_,e⟩
 | tup xs=>obtain⟨_,_,_,ob,e,_⟩:=x;exact⟨_,e⟩
 | dK kvs=>obtain⟨_,_,_,_,o,_,_,e,_⟩:=x;exact⟨_,e⟩
 | dT kvs=>obtain⟨_,_,_,_,o,_,_,e,_⟩:=x;exact⟨_,e⟩
 | set S n=>obtain⟨o,_,_,_,e,_⟩:=x;exact⟨_,e⟩
 | ins C dx fs=>obtain⟨_,_,_,e,_⟩:=x;exact⟨_,e⟩
 | own y=>exact x
 | xd fs=>obtain⟨_,⟨_,_,_,e,_⟩,_⟩:=x;exact⟨_,e⟩
 | rng lo hi=>obtain⟨_,_,_,e⟩:=x;exact⟨_,e⟩
 | frz ob u=>obtain⟨e,_⟩:=x;exact⟨_,e⟩
 | tbl ps=>exact⟨_,show h.get? a=some _ from x⟩
 | met f y=>exact⟨_,show h.get? a=some _ from x⟩
 | ext φ=>obtain⟨_,e,_⟩:=x;exact e
section
variable {P:Program}{w:World}{H H':Hp}{h0 h h' B:Heap}{fs:LAd}
def Cov(H:Hp)(B:Heap):Prop:=∀b u,H b=some u->∃o,B.get? b=some o
theorem Qmp(hok:HOk P w H h)(hB:B.StaysIn h)(hB':B.StaysIn h')(cov:Cov H B):HOk P w H h':=λa o e=>
 (hok a o e).QgI (λc v hc q=>by
  have:∃u,H c=some u:=by
   rcases hc with rfl | hc
   ·exact⟨_,e⟩
   ·exact⟨_,hc⟩
  obtain⟨u,hu⟩:=this;obtain⟨o',ho'⟩:=cov c u hu;have:=hB _ _ ho';rw[q]at this;cases this;exact hB' _ _ ho') (λ_ q=>q) λ_ _ q=>q
theorem Qou(u:Un fs [] H H' h0 h)(hB:B.StaysIn h)(hB':B.StaysIn h')(up:h.UpToSlots h')(old:∀b o,h0.get? b=some o->b∉fs->∃o',B.get? b=some o')
  (dat:∀b o,h0.get? b=some o->b∈fs->∀vs,o.data≠ .fields vs) (frf:∀b∈fs,H b=none):Un fs [] H H' h0 h' where
 keep:=λb o e n hb hx=>by
  obtain⟨o',e1⟩:=old b o e hb;have:=hB _ _ e1;rw[u.keep b o e n hb hx]at this;cases this;exact hB' _ _ e1
 slot:=λb o e n hb hx=>by
  obtain⟨sl,e1⟩:=u.slot b o e n hb hx;obtain⟨sl',e2⟩:=up b _ e1 (dat b o e hb);exact⟨sl',e2⟩
 free:=u.free
 there:=λb o e hx=>by
  by_cases hb:b∈fs
  ·obtain⟨sl,e1⟩:=u.slot b o e (frf b hb) hb hx;obtain⟨sl',e2⟩:=up b _ e1 (dat b o e hb);exact⟨_,e2⟩
  ·obtain⟨o',e1⟩:=old b o e hb;exact⟨_,hB' _ _ e1⟩
 tups:=u.tups
 frzs:=u.frzs
 tbls:=u.tbls
end
noncomputable def CXR(P:Program)(w:World):CXT:=λouter H s E e s'=>∃ea C H' B a0,e=Value.ref ea/\s'.os=s.os/\AllBare s'.gens/\Un (frs outer) [] H H' s.heap s'.heap/\HOk P w H' s'.heap/\Heap.FlyingW B outer ea C a0 s'.heap∧
 Cov H' B/\(∀b o,s.heap.get? b=some o->b∉frs outer->∃o',B.get? b=some o')/\E C none H'
def Qhi(X:Cx)(H0:Hp)(A0:LAd)(hs:List (V×D×List Addr))(U:En)(C:Value)(ea:Addr)(s':Shared):Prop:=∃pins σ H F,Rel X.K H0 A0 hs U F σ H∧
 ((∃sg args,Inv X pins σ H sg/\Heap.MadeExcOf sg.heap s'.heap ea C args/\s'.os=sg.os/\s'.gens=sg.gens)∨
  ∃B a0,Inv X pins σ H s'/\Heap.FlyingW B X.stack ea C a0 s'.heap/\Cov H B/\(∀b o,X.s₀.heap.get? b=some o->b∉X.fs->∃o',B.get? b=some o')/\∀p∈X.pn++pins,∃o,B.get? p.1=some o)
theorem Qt8(I:Inv X pins σ H s)(hx:X.ex=[])(e:X.s₀.heap.get? b=some o)(hb:b∉X.fs):(∃o',s.heap.get? b=some o')/\b∉frs X.stack:=by
 refine⟨I.base.there b o e (by rw[hx];simp),λz=>?_⟩;rcases Zn.mp (I.Qf5 b z)with q | q
 ·have h1:=Zo e;have h2:=I.ok.above;rw[q]at h1;exact absurd (Zt h1 h2) (ZP _)
 ·exact hb q
theorem Qls{X:Cx}(ok:X.Ok){b:Addr}{o:Obj}(e:X.s₀.heap.get? b=some o)(hb:b∈X.fs):∀vs,o.data≠ .fields vs:=by
 obtain⟨_,o',e',h⟩:=ok.Qee.mem hb;rw[e]at e';cases e';exact h
theorem Qor(I:Inv X pins σ H s)(hx:X.ex=[]):∃B:Heap,B.StaysIn s.heap/\s.heap.FunFrames B X.stack/\Cov H B/\(∀b o,X.s₀.heap.get? b=some o->b∉X.fs->∃o',B.get? b=some o')/\∀p∈X.pn++pins,∃o,B.get? p.1=some o:=by
 refine⟨PySem.W.hideAll s.heap (frs X.stack),λb o e=>PySem.W.of_hideAll _ e,PySem.W.funFrames_hide I.stack λenv he a ha=>ZaR.mpr ⟨env,he,ha⟩,λb u e=>?_,λb o e hb=>?_,λp hp=>?_⟩
 ·obtain⟨o,ho⟩:=QvX (I.hok b u e);exact⟨o,Zbf _ ho λz=>by rw[I.Qm7 b z]at e;cases e⟩
 ·obtain⟨⟨o',h1⟩,h2⟩:=Qt8 I hx e hb;exact⟨o',Zbf _ h1 h2⟩
 ·obtain⟨e,_,ne,nf,_⟩:=I.pin p hp;exact⟨_,Zbf _ e λz=>(Zn.mp (I.Qf5 _ z)).elim ne nf⟩
theorem Qp1{X:Cx}{P:Program}{w:World}{E:XK}{H0:Hp}{A0:LAd}{hs:List (V×D×List Addr)}{U:En}{C:Value}{ea:Addr}{s':Shared}{env:Env}{outer:List Env}{Er:Value->Shared->Prop}
  (hp:X.prog=P) (hw:X.w=w) (hx:X.ex=[]) (hst:X.stack=env::outer) (hfs:X.outer=outer) (hen:X.env=env) (hf:env.frame=some X.env.locals) (T:Qhi X H0 A0 hs U C ea s')
  (hE:∀H,QM H0 H->E C none H):wpAny (model P w) X.A (leaving env (.ref ea)) (λ_ s''=>CXR P w outer X.H₀ X.s₀ E (.ref ea) s'') Er s':=by
 subst hp hw hfs;obtain⟨pins,σ,H,F,rel,⟨sg,args,I,hm,ho,hg⟩ | ⟨B,a0,I,fl,cov,old,_⟩⟩:=T
 ·obtain⟨B,b1,b2,cov,old,_⟩:=Qor I hx;rw[hst]at b2;have hfr:=I.ok.frames;rw[hst]at hfr;refine wpAny_leaves_madeW hfr hf b1 b2 hm λh' t fl _ _ up=>?_;have up':sg.heap.UpToSlots h':=(Heap.UpToSlots.of_keeps hm.keeps).trans up;have hb:=I.base;rw[hx]at hb;exact⟨ea,C,H,B,_,rfl,ho.trans I.os,hg▸I.bare,Qou hb b1 fl.1 up' old (λb o e hb=>Qls I.ok e hb) I.ok.frf,Qmp I.hok b1 fl.1 cov,fl,cov,old,hE H rel.same⟩
 ·have hfr:=I.ok.frames;rw[hst]at hfr fl;refine wpAny_leaves_onW hfr hf fl λh' fl' up=>?_;have hb:=I.base;rw[hx]at hb;exact⟨ea,C,H,B,_,rfl,I.os,I.bare,Qou hb fl.1 fl'.1 up old (λb o e hb=>Qls I.ok e hb) I.ok.frf,Qmp I.hok fl.1 fl'.1 cov,fl',cov,old,hE H rel.same⟩
noncomputable abbrev DX:=En->Option (Str×En)
def ClsAt(K:Fgg)(x:Str)(C:Addr):Prop:=PySem.W.nsIn K mainGlobals x=some (some (.ref C))
def cRz(X:Cx)(H0:Hp)(A0:LAd)(fx:DX)(σ:L2.St)(H:Hp):Prop:=∃U hs F x U',Rel X.K H0 A0 hs U F σ H/\fx U=some (x,U')/\∀C ea s',ClsAt X.K x C->Qhi X H0 A0 hs U' (.ref C) ea s'->X.xe (.ref ea) s'
noncomputable def tRz(X:Cx)(H0:Hp)(A0:LAd)(fx:DX):TS:=λ_ σ H=>cRz X H0 A0 fx σ H
noncomputable def eRz(X:Cx)(H0:Hp)(A0:LAd)(fx:DX):TE:=λσ H _=>cRz X H0 A0 fx σ H
def Rz(X:Cx)(st:Stmt)(fx:DX):Prop:=∀H0 A0,PS X st (tRz X H0 A0 fx)
def RzS(X:Cx)(sts:List Stmt)(fx:DX):Prop:=∀H0 A0,PSs X sts (tRz X H0 A0 fx)
def RzE(X:Cx)(e:Expr)(fx:DX):Prop:=∀H0 A0,PE X e (eRz X H0 A0 fx)
noncomputable def xNo:DX:=λ_=>none
noncomputable def Qd7(x:Str)(fs:DA):DX:=λU=>(fs U).bind λr=>if r.ds.length<=1 then some (x,U)else none
noncomputable def Qac(n:Nat)(xd:List D->Option Str)(fs:DA):DX:=λU=>(fs U).bind λr=>if r.ds.length=n then(xd r.ds).map λc=>(c,U)else none
noncomputable def xIf(g:DT)(fa fb:DX):DX:=λU=>(g U).bind λb=>if b=true then fa U else fb U
noncomputable def Qaa(f:DS)(fx fr:DX):DX:=λU=>match f U with
 | some (.nx U')=>fr U'
 | some _=>none
 | none=>fx U
noncomputable def QeP(t:Tg)(fb:DS)(fx:DX):List D->DX
 | [],_=>none
 | d::ds,U=>(QbB t d U).bind λU1=>match fb U1 with
  | some (.nx U2)=>QeP t fb fx ds U2
  | some (.ct U2)=>QeP t fb fx ds U2
  | some _=>none
  | none=>fx U1
noncomputable def QiM(fi:DI)(t:Tg)(fb:DS)(fx:DX):DX:=λU=>(fi U).bind λir=>QeP t fb fx ir.items (Qa7 ir.M U)
noncomputable def spX(K:Fgg)(n:Nat)(xd:List D->Option Str):Sp:=λvs H _ E=>∃ds L x,Rps K H ds vs L/\ds.length=n/\xd ds=some x/\∀C H',ClsAt K x C->QM H H'->E (.ref C) none H'
theorem QxN{K:Fgg}{n:Nat}{xd:List D->Option Str}{ps:List Str}(hn:ps.length=n):∀vs H Q E,spX K n xd vs H Q E->vs.length=ps.length:=λvs H Q E ⟨ds,L,x,r,hl,_⟩=>by rw[hn,← hl,r.length]
section
variable {X:Cx}{st:Stmt}{sts:List Stmt}{e:Expr}{es:List Expr}{fs:DA}{f:DS}{fx fr fy:DX}{g:DT}{pos p np cpos:Pos}{x:Str}{k n:Nat}{fa:Addr}{fd:FuncData}{ps:List Str}{xd:List D->Option Str}
theorem Qgb:Rz X st xNo:=λH0 A0 pins s σ H Dd I ⟨U,hs,F,x,U',rel,e,q⟩=>by cases e
theorem Qx9:RzS X [] xNo:=λH0 A0 pins s σ H Dd I ⟨U,hs,F,x,U',rel,e,q⟩=>by cases e
theorem Qhi.hold(h:Qhi X H0 A0 (ts++hs) U C ea s'):Qhi X H0 A0 hs U C ea s':=by
 obtain⟨pins,σ,H,F,rel,q⟩:=h;exact⟨pins,σ,H,F,rel.Qpf,q⟩
theorem QyS(Fk:Qcq X.prog X.w X.K X.mg X.base (CXR X.prog X.w) k fa fd ps (spX X.K n xd))(hr:Qba k X.A)(hg:Gl X x)(hm:X.mg x=some (.ref fa))(hk:PySem.W.keepIn X.K (.ref fa)=true)(hb:Binds X.K fd ps [])(hx:X.ex=[])(hn:ps.length=n)
  (ha:SA X (e::es) fs) (hdb:(x == ("__debug__" :Str))=false) (he:starEach (e::es) X.env=(false,eval e X.env)::starEach es X.env) (hpl:(backTo pos (starEach es X.env)).any (·.1)=false):
  RzE X (.Call (.Name x p) (e::es) [] pos) (Qac n xd fs):=λH0 A0 pins s σ H Q I Z=>by
 obtain⟨U,hs,F,c,U',rel,ex,q⟩:=Z;refine Qh ex λra e1 ex=>?_;split at ex
 ·rename_i hl;obtain⟨c',e2,e3⟩:=Ze.mp ex;cases e3;refine wpAny_Call_Name_kw (QdQ I hg hm ?_ hdb);refine Zbk (h₀:=X.base) I.ok.mod.kin hk (thn (ha H0 A0 pos pins s σ H (λvs H1=>∃G,Qss X.K U F H H1 ra vs G) I ⟨U,hs,F,ra,rel,e1,λvs H1 G p1=>⟨G,p1⟩⟩) λus s1 ⟨vs,H1,I1,rv,G,p1⟩=>⟨I1.kIn,?_⟩) he hpl;have hlen:(us++[]).length=ps.length:=by rw[Zag,← rv.length,← p1.rp.length,hl,hn]
  have hbb:=hb s1 us I1.kIn hlen;rw[Zag]at hbb;refine wpAny_call (codeAny_mono (Fk.run X.A X.stack s1 H1 ⟨us,[]⟩ us vs (λ_ _=>False) (λc' _ H'=>∃C,c'= .ref C/\ClsAt X.K c C/\QM H1 H') hr I1.Qv7 hbb rv ⟨ra.ds,G,c,p1.rp,hl,e2,λC H' hC sm=>⟨C,rfl,hC,sm⟩⟩) λr s' hq=>?_);cases r with
  | error ev=>
   obtain⟨ea,C',H',B,a0,rfl,os,bare,un,hok,fl,cov,old,C,rfl,hC,sm⟩:=hq;exact q C ea s' hC ⟨pins,σ,H',F,(rel.ext p1.same).ext sm,.inr ⟨B,a0,I1.Qxb os un hok bare (λb z=>absurd z (by simp)),fl,cov,λb o eb hbf=>by
    obtain⟨⟨o',h1⟩,h2⟩:=Qt8 I1 hx eb hbf;exact old b o' h1 h2,λp hp=>by
    obtain⟨e,_,ne,nf,_⟩:=I1.pin p hp;exact old _ _ e λz=>(Zn.mp (I1.Qf5 _ z)).elim ne nf⟩⟩
  | ok fl=>
   cases fl with
   | ret u=>obtain⟨v,H',_,_,_,_,_,z⟩:=hq;exact z.elim
   | next=>exact False.elim hq
   | brk=>exact False.elim hq
   | cont=>exact False.elim hq
 ·cases ex
theorem Qze(h:RzE X e fx)(hs:swapsWith e none pos.line X.env=pure false):Rz X (.Expr e pos) fx:=λH0 A0=>Qmt (h H0 A0) hs
theorem QA0(h:RzE X e fx):Rz X (.Return (some e) pos) fx:=λH0 A0=>QsJ (h H0 A0)
theorem Qzi{i:Nat}(hN:X.N.Nodup)(h1:X.N[i]? =some x)(h2:Loc X.env.scope x)(h3:X.fn x=true∨X.env.scope.names.lookup x=some .local)(h:RzE X e fx)(hs:swapsWith e (some (.Name x p)) pos.line X.env=pure false):Rz X (.Assign [.Name x p] e pos) fx:=λH0 A0=>Qi6 hN h1 h2 (h H0 A0) hs h3
theorem QBQ(hc:ST X c g)(ha:RzS X a fx)(hb:RzS X b fy):Rz X (.If c a b pos) (xIf g fx fy):=λH0 A0=>(Qw5 (hc H0 A0) (ha H0 A0) (hb H0 A0)).mono λDd σ H Z=>by
 obtain⟨U,hs,F,x,U',rel,e,q⟩:=Z;refine Qh e λc e1 e=>?_;refine⟨U,hs,F,c,rel,e1,λH1 s1=>?_⟩;cases c with
 | true=>exact Qsc ⟨U,hs,F,x,U',rel.ext s1,e,q⟩
 | false=>exact QrE ⟨U,hs,F,x,U',rel.ext s1,e,q⟩
theorem QCv{t u:TS}(h1:PS X st t)(h2:PS X st u):PS X st (λDd σ H=>t Dd σ H∨u Dd σ H):=λpins s σ H Dd I q=>q.elim (h1 pins s σ H Dd I) (h2 pins s σ H Dd I)
theorem QzE(h1:PSs X sts t)(h2:PSs X sts u):PSs X sts (λDd σ H=>t Dd σ H∨u Dd σ H):=λpins s σ H Dd I q=>q.elim (h1 pins s σ H Dd I) (h2 pins s σ H Dd I)
theorem QvY(h1:S1 X st f)(h2:Rz X st fx)(h3:RzS X sts fr):RzS X (st::sts) (Qaa f fx fr):=λH0 A0=>(Qps (QCv (h1 H0 A0) (h2 H0 A0)) (h3 H0 A0)).mono λDd σ H Z=>by
 obtain⟨U,hs,F,x,U',rel,e,q⟩:=Z;unfold Qaa at e;split at e
 ·rename_i U1 e1;exact .inl ⟨U,hs,F,_,rel,e1,λσ' H' F' rel'=>⟨U1,hs,F',x,U',rel',e,q⟩⟩
 ·cases e
 ·exact .inr ⟨U,hs,F,x,U',rel,e,q⟩
theorem Qzo(hp:PassesOwn (model X.prog X.w) X.A X.env X.xe)(hc:X.calm=true)(hi:SI X tg iter fi)(hg:SG X tg t)(hb:SS X body f)(hbx:RzS X body fx)(hs:∀x,foldedSetIterable iter X.env x=pure x):
  Rz X (.For tg iter body [] pos) (QiM fi t f fx):=λH0 A0=>(Qsw hp hc (hi H0 A0) (hg H0 A0) (QzE (hb H0 A0) (hbx H0 A0)) hs).mono λDd σ H Z=>by
 obtain⟨U,hs,F,c,U',rel,e,q⟩:=Z;refine Qh e λir e1 e=>?_;refine⟨U,hs,F,ir,rel,e1,λJ H1 ts s1 wk hts ow hz=>?_⟩;have rel1:Rel X.K H0 A0 (ts++hs) (Qa7 ir.M U) F σ H1:=((rel.ext s1).weak (Qcd ir.M U)).hold λt ht=>⟨(hts t ht).1,Shr.of rel (hts t ht).2⟩;refine⟨λi m σ' H'=>m=ir.items.length-i/\i<=ir.items.length/\∃Ui Fi,Rel X.K H0 A0 (ts++hs) Ui Fi σ' H'/\QeP t f fx (ir.items.drop i) Ui=some (c,U'),⟨_,rfl,ZO _,_,F,rel1,by simpa using e⟩,?_⟩;rintro i m σ' H' ⟨rfl,hi',Ui,Fi,reli,ei⟩;have held:QkS X.K H' ts:=λt ht=>(reli.held t (Zf _ ht)).1;by_cases hlt:i<ir.items.length
 ·rw[Zab hlt]at ei;unfold QeP at ei;refine Qh ei λU1 eb ei=>?_;refine .inr ⟨wk.go i H' hlt held,λσ2 H2=>∃U2 F2,Rel X.K H0 A0 (ts++hs) U2 F2 σ2 H2/\QeP t f fx (ir.items.drop (i+1)) U2=some (c,U'),λσ2 H2 ⟨U2,F2,rel2,e2⟩=>⟨_,⋯,rfl,hlt,U2,F2,rel2,e2⟩,λx H2 hy=>?_⟩;obtain⟨s2,G0,rp0,hG0⟩:=wk.yld i ir.items[i] H' x H2 (by simp[hlt]) held hy;have shr:Shr H0 A0 Ui Fi G0:=λa ha=>by
   obtain⟨t,ht,hat⟩:=hG0 a ha;exact⟨(reli.held t (Zf _ ht)).2 a hat,λj d ej hj=>(reli.own j d ej).2.2.2.2 t (Zf _ ht) a hj hat⟩
  refine⟨Ui,ts++hs,Fi,ir.items[i],G0,U1,reli.ext s2,rp0,shr,eb,λσ3 F3 rel3 _ _=>?_⟩;split at ei
  ·rename_i U2 eo;exact .inl ⟨U1,ts++hs,F3,_,rel3,eo,λσ4 H4 F4 rel4=>⟨U2,F4,rel4,ei⟩⟩
  ·rename_i U2 eo;exact .inl ⟨U1,ts++hs,F3,_,rel3,eo,λσ4 H4 F4 rel4=>⟨U2,F4,rel4,ei⟩⟩
  ·cases ei
  ·exact .inr ⟨U1,ts++hs,F3,c,U',rel3,ei,λC ea s' hC T=>q C ea s' hC T.hold⟩
 ·have hn:i=ir.items.length:= ⋯
  subst hn;rw[ZbV]at ei;cases ei
end
noncomputable abbrev QDw:List Value:=[.type "ValueError",.type "Exception",.type "BaseException",.type "object"]
structure Qit (K:Fgg) (x:Str):Prop where
 ex:∃C,ClsAt K x C/\PySem.W.excIn K C QDw "ValueError.__new__" =true
theorem QuS{K:Fgg}{C:Addr}{bmB:List Value}{newId:String}(q:PySem.W.excIn K C bmB newId=true){h:Heap}(X:K.In h):∃bm N nm qn bs hdct sn sub ab col dd k0 k1 k2 k3 k5 mN,
  h.get? C=some (excClassObj nm qn C N bs bm hdct sn sub ab col dd k0 k1 k2 k3 k5 newId)/\h.Ns N mN/\mN "__init__" =none/\OwnTail h bmB bm:=by
 rw[PySem.W.excIn.eq_def]at q;split at q
 case h_2=>cases q
 rename_i dd cd sl ho;split at q
 case h_2=>cases q
 rename_i C1 bm k0 k1 k2 k3 nid k5 em es;simp only[Zh,beq_iff_eq,ZaB]at q;obtain⟨⟨⟨⟨⟨z1,z2⟩,nodel⟩,tl⟩,okN⟩,noInit⟩:=q;subst z1 z2;have hget:=X _ _ ho;have hsl:sl= #[k0,k1,k2,k3,some (.builtin nid),k5]:=Array.ext' es;rw[hsl]at hget;refine⟨bm,cd.ns,cd.name,cd.qualname,cd.bases,cd.hasDict,cd.slotNames,cd.subclasses,cd.abstract,cd.collection,dd,k0,k1,k2,k3,k5,_,?_,.of_isNs (PySem.W.isNs_of_in X okN),PySem.W.nsMap_none_of_in X okN noInit,PySem.W.tail_of_in X tl⟩;rw[hget];cases cd with
 | mk c1 c2 c3 c4 c5 c6 c7 c8 c9 c10 c11=>
  dsimp only at em nodel;rw[em,nodel]
section
variable {X:Cx}{e:Expr}{fs:DA}{x:Str}{np cpos pos:Pos}
theorem Qwa(hc:X.calm=true)(hg:Gl X x)(hk:Qit X.K x)(hdb:(x == ("__debug__" :Str))=false)(ha:SA X [e] fs)(he:starEach [e] X.env=(false,eval e X.env)::starEach [] X.env):
  Rz X (.Raise (some (.Call (.Name x np) [e] [] cpos)) none pos) (Qd7 x fs):=λH0 A0 pins s σ H Dd I Z=>by
 obtain⟨U,hs,F,c,U',rel,ex,q⟩:=Z;refine Qh ex λra e1 e2=>?_;split at e2
 case isFalse=>cases e2
 rename_i hl;cases e2;obtain⟨C,hC,hq⟩:=hk.ex;obtain⟨bm,N,nm,qn,bs,hdct,sn,sub,ab,col,dd,k0,k1,k2,k3,k5,mN,o1,o2,o3,o4⟩:=QuS hq I.ok.mod.kin;have hm:X.mg x=some (.ref C):=ZaM I.ok.mod.kin I.ok.mod.glob hC
 refine wpAny_Raise_call_subT (C:=C) (nm:=nm) (q:=qn) (N:=N) (bs:=bs) (bm:=bm) (hdct:=hdct) (sn:=sn) (sub:=sub) (ab:=ab) (col:=col) (dd:=dd) (k0:=k0) (k1:=k1) (k2:=k2) (k3:=k3) (k5:=k5)
  PySem.F.excBase_ValueError (mN:=mN) (o4.hasType PySem.F.excBase_ValueError.hasBase) (I.ok.hd hc) (by rw[he];rfl) o3 (QdQ I hg hm ⟨rfl,?_⟩ hdb)
 have hargs:=ha H0 A0 cpos pins s σ H (λvs H1=>∃G,Qss X.K U F H H1 ra vs G) I ⟨U,hs,F,ra,rel,e1,λvs H1 G p1=>⟨G,p1⟩⟩;rw[he]at hargs ⊢;refine Calls.evalArgs_plain (thn hargs λus s2 ⟨vs,H1,I1,rv,G,p1⟩=>⟨rfl,?_,I1.bk _ _ o1,o2.keeps I1.bk,o4.keeps I1.bk,λh' ea hm=>?_⟩)
 ·show us.length<=sizeLine;rw[← rv.length,← p1.rp.length];exact ZC hl (by decide)
 ·exact q C ea _ hC ⟨pins,σ,H1,F,rel.ext p1.same,.inl ⟨s2,us,I1,hm,rfl,rfl⟩⟩
end
structure ThX where
 Γx:List (Str×(Nat×(List D->Option Str)))
 cls:List Str
structure XOk (X:Cx) (YX:ThX):Prop where
 ex:X.ex=[]
 stk:X.stack=X.env::X.outer
 fr:X.env.frame=some X.env.locals
 fx:∀x r,look x YX.Γx=some r->∃k f fd ps,Qcq X.prog X.w X.K X.mg X.base (CXR X.prog X.w) k f fd ps (spX X.K r.1 r.2)/\Qba k X.A/\X.mg x=some (.ref f)/\PySem.W.keepIn X.K (.ref f)=true/\Binds X.K fd ps []/\ps.length=r.1
 cl:∀x∈YX.cls,Qit X.K x
noncomputable def xc0(n:Nat)(Y:Th)(YX:ThX)(e:Expr):DX:=match e with
 | .Call (.Name x _) (a::as) [] _=>if Y.gl x then(match look x YX.Γx with
  | some r=>(match Qbr n Y (a::as)with | some fs=>Qac r.1 r.2 fs | none=>xNo)
  | none=>xNo)else xNo
 | _=>xNo
noncomputable def xOr(f g:DX):DX:=λU=>match f U with
 | some q=>some q
 | none=>g U
noncomputable def QCw(YX:ThX)(e:Expr):Bool:=match e with
 | .Call f as kw _=>match Qdq f with
  | some y=>(look y YX.Γx).isSome && as.length != 0 && kw.isEmpty
  | none=>false
 | _=>false
noncomputable def xcE(n:Nat)(Y:Th)(YX:ThX)(e:Expr):DX:=match e with
 | .Call (.Name x p) (a::as) [] pos=>if(Y.gl x && (look x YX.Γx).isSome && QCw YX a && (Qbr n Y (a::as)).isSome)=true then xOr (xc0 n Y YX a) (xc0 n Y YX (.Call (.Name x p) (a::as) [] pos))else xc0 n Y YX (.Call (.Name x p) (a::as) [] pos)
 | e=>xc0 n Y YX e
noncomputable def xbE(n:Nat)(Y:Th)(YX:ThX)(e:Expr):DX:=
 xcE n Y YX e
noncomputable def QvD:List Expr->Option Str
 | [e]=>Qdq e
 | _=>none
theorem Qn8{e:Expr}{x:Str}{G:Expr->Prop}(h:Qdq e=some x)(g:∀p,G (.Name x p)):G e:=by
 cases e with
 | Name z p=>cases h;exact g p
 | _=>exact nn h
noncomputable def QCb:Expr->Option (Str×Expr)
 | .Call f as kw _=>match kw with
  | _::_=>none
  | []=>match as with
   | []=>none
   | a::as=>match as with
    | _::_=>none
    | []=>(Qdq f).map λx=>(x,a)
 | _=>none
mutual
noncomputable def QrB(n:Nat)(Y:Th)(YX:ThX)(st:Stmt):Option DX:=match n with
 | 0=>none
 | n+1=>match st with
  | .Raise v c _=>match c with
   | some _=>none
   | none=>v.bind λe=>(QCb e).bind λq=>if Y.gl q.1 && YX.cls.contains q.1 then(Qbr n Y [q.2]).map λfs=>Qd7 q.1 fs else none
  | .Expr e _=>some (xcE n Y YX e)
  | .Return v _=>match v with
   | none=>some xNo
   | some e=>some (xbE n Y YX e)
  | .Assign ts e _=>match QvD ts with
   | none=>some xNo
   | some x=>(Y.Qcj x).map λ_=>xcE n Y YX e
  | .If c a b _=>(Qbd n Y c).bind λg=>(QeU n Y YX a).bind λfa=>(QeU n Y YX b).map λfb=>xIf g fa fb
  | .For tg iter body els _=>match els with
   | _::_=>some xNo
   | []=>(QkF Y tg).bind λt=>(QhF n Y tg iter).bind λfi=>(QaY n Y body).bind λfb=>(QeU n Y YX body).map λfx=>QiM fi t fb fx
  | _=>some xNo
noncomputable def QeU(n:Nat)(Y:Th)(YX:ThX)(sts:List Stmt):Option DX:=match n with
  | 0=>none
  | n+1=>match sts with
    | []=>some xNo
    | st::r=>
     (Qjq n Y st).bind λf=>(QrB n Y YX st).bind λfx=>(QeU n Y YX r).map λfr=>Qaa f fx fr
end
section
variable {X:Cx}{Y:Th}{YX:ThX}
theorem QlE{e:Expr}:RzE X e xNo:=λH0 A0 pins s σ H Q I ⟨U,hs,F,x,U',rel,e,q⟩=>by cases e
theorem QlY{n:Nat}(ok:Q7 X Y)(xk:XOk X YX)(e:Expr):RzE X e (xc0 n Y YX e)/\(xc0 n Y YX e≠xNo->∃x p a as pos,e= .Call (.Name x p) (a::as) [] pos):=by
 unfold xc0;split
 ·rename_i x p a as pos;refine⟨?_,λ_=>⟨x,p,a,as,pos,rfl⟩⟩;split
  ·rename_i hg;obtain⟨g1,g2,g3⟩:=QcK ok.toCtxB hg;split
   ·rename_i r hr;split
    ·rename_i fs hfs;obtain⟨k,f,fd,ps,F1,F2,F3,F4,F5,F6⟩:=xk.fx x r hr;obtain⟨s1,s2⟩:=callArgs (X:=X) hfs rfl pos;exact QyS F1 F2 g1 F3 F4 F5 xk.ex F6 ((QbZ n).A X Y _ fs ok hfs) g2 s1 s2
    ·exact QlE
   ·exact QlE
  ·exact QlE
 ·exact⟨QlE,λh=>absurd rfl h⟩
theorem QBN{e:Expr}{f g:DX}(h1:RzE X e f)(h2:RzE X e g):RzE X e (xOr f g):=λH0 A0 pins s σ H Q I ⟨U,hs,F,x,U',rel,ex,q⟩=>by
 unfold xOr at ex;split at ex
 ·rename_i e1;cases ex;exact h1 H0 A0 pins s σ H Q I ⟨U,hs,F,x,U',rel,e1,q⟩
 ·exact h2 H0 A0 pins s σ H Q I ⟨U,hs,F,x,U',rel,ex,q⟩
theorem QAg{e:Expr}{es:List Expr}{x:Str}{p pos:Pos}{fa:Addr}{fx:DX}{fs:DA}(hg:Gl X x)(hm:X.mg x=some (.ref fa))(hk:PySem.W.keepIn X.K (.ref fa)=true)(h:RzE X e fx)(hr:SA X es fs)(hdb:(x == ("__debug__" :Str))=false)
  (he:starEach (e::es) X.env=(false,eval e X.env)::starEach es X.env) (hpl:(backTo pos (starEach es X.env)).any (·.1)=false):RzE X (.Call (.Name x p) (e::es) [] pos) fx:=λH0 A0 pins s σ H Q I q=>by
 refine wpAny_Call_Name_kw (QdQ I hg hm ?_ hdb);exact Zbk (h₀:=X.base) I.ok.mod.kin hk (thn (Qaq (h H0 A0) (hr H0 A0) he pos pins s σ H (λ_ _=>False) I q) λus s1 ⟨vs,H1,I1,rv,z⟩=>z.elim) he hpl
theorem Qpj{n:Nat}(ok:Q7 X Y)(xk:XOk X YX)(e:Expr):RzE X e (xcE n Y YX e)/\(xcE n Y YX e≠xNo->∃x p a as pos,e= .Call (.Name x p) (a::as) [] pos):=by
 unfold xcE;split
 ·rename_i x p a as pos;refine⟨?_,λ_=>⟨x,p,a,as,pos,rfl⟩⟩;split
  ·rename_i hc;simp only[Zh]at hc;obtain⟨⟨⟨hg,hx⟩,_⟩,ha⟩:=hc;obtain⟨g1,g2,g3⟩:=QcK ok.toCtxB hg;obtain⟨r,hr⟩:=ZaL.mp hx;obtain⟨fs,hfs⟩:=ZaL.mp ha;obtain⟨k,f,fd,ps,F1,F2,F3,F4,F5,F6⟩:=xk.fx x r hr;obtain⟨s1,s2⟩:=callArgs (X:=X) hfs rfl pos;refine QBN ?_ (QlY ok xk _).1;cases n with
   | zero=>exact nomatch (show(none:Option DA)=some _ from hfs)
   | succ n=>
    refine Qh (show(Qr n Y a).bind _=some _ from hfs) λfa h1 h=>?_;obtain⟨fr,h2,_⟩:=Ze.mp h;exact QAg g1 F3 F4 (QlY ok xk a).1 ((QbZ n).A X Y as fr ok h2) g2 s1 s2
  ·exact(QlY ok xk _).1
 ·exact QlY ok xk _
theorem QBa{n:Nat}(ok:Q7 X Y)(xk:XOk X YX)(e:Expr):RzE X e (xbE n Y YX e):=
 (Qpj ok xk e).1
structure QA4 (n:Nat):Prop where
 X:∀X Y YX st f,Q7 X Y->XOk X YX->QrB n Y YX st=some f->Rz X st f
 Xs:∀X Y YX sts f,Q7 X Y->XOk X YX->QeU n Y YX sts=some f->RzS X sts f
theorem QAt{n:Nat}(ih:QA4 n):∀X Y YX st f,Q7 X Y->XOk X YX->QrB (n+1) Y YX st=some f->Rz X st f:=by
 intro X Y YX st f ok xk h;have hN:X.N.Nodup:=by rw[ok.N];exact ok.nd
 cases st with
 | Raise v c pos=>
  cases c with
  | some _=>exact nn h
  | none=>
   refine Qh (show v.bind _=some _ from h) λe he h=>?_;cases he;refine Qh h λq hq h'=>?_;clear h;split at h'
   ·rename_i hc;simp only[Zh]at hc;refine mapR h' λfs h1=>?_;clear h';obtain⟨g1,g2,g3⟩:=QcK ok.toCtxB hc.1;obtain⟨s1,s2⟩:=callArgs (X:=X) h1 rfl pos;cases e with
    | Call fn as kw cp=>
     rcases kw with _ | ⟨k1,k2⟩
     ·rcases as with _ | ⟨a,_ | ⟨a2,as⟩⟩
      ·cases hq
      ·obtain⟨x,hx,rfl⟩:=Ze.mp (show(Qdq fn).map _=some q from hq);exact Qn8 (G:=λt=>Rz X (.Raise (some (.Call t [a] [] cp)) none pos) (Qd7 x fs)) hx λnp=>Qwa ok.calm g1 (xk.cl x (by simpa using hc.2)) g2 ((QbZ n).A X Y _ fs ok h1) s1
      ·cases hq
     ·cases hq
    | _=>exact nomatch (show(none:Option (Str×Expr))=some _ from hq)
   ·cases h'
 | Expr e pos=>
  cases(show some (xcE n Y YX e)=some f from h);obtain⟨h1,h2⟩:=Qpj (n:=n) ok xk e;by_cases hz:xcE n Y YX e=xNo
  ·rw[hz];exact Qgb
  ·obtain⟨x,p,a,as,pos',rfl⟩:=h2 hz;exact Qze h1 rfl
 | Return v pos=>
  cases v with
  | none=>cases(show some xNo=some f from h);exact Qgb
  | some e=>cases(show some (xbE n Y YX e)=some f from h);exact QA0 (QBa (n:=n) ok xk e)
 | Assign ts e pos=>
  rcases ts with _ | ⟨t,_ | ⟨t2,ts⟩⟩
  ·cases(show some xNo=some f from h);exact Qgb
  ·cases t with
   | Name x p=>
    refine mapR (show(Y.Qcj x).map _=some f from h) λi hi=>?_;obtain⟨g1,g2,g3⟩:=Qc2 ok.toCtxB hi;obtain⟨h1,h2⟩:=Qpj (n:=n) ok xk e;by_cases hz:xcE n Y YX e=xNo
    ·rw[hz];exact Qgb
    ·obtain⟨x,p,a,as,pos',rfl⟩:=h2 hz;exact Qzi hN g1 g2 g3 h1 (Qgm rfl)
   | _=>cases(show some xNo=some f from h);exact Qgb
  ·cases(show some xNo=some f from h);exact Qgb
 | If c a b pos=>
  refine Qh (show(Qbd n Y c).bind _=some f from h) λg h1 h=>?_;exact bindR h λfa fb h2 h3=>QBQ ((QbZ n).T X Y c g ok h1) (ih.Xs X Y YX a fa ok xk h2) (ih.Xs X Y YX b fb ok xk h3)
 | For tg iter body els pos=>
  cases els with
  | cons _ _=>cases(show some xNo=some f from h);exact Qgb
  | nil=>
   refine Qh (show(QkF Y tg).bind _=some f from h) λt h1 h=>?_;refine Qh h λfi h2 h=>?_;refine bindR h λfb fx h3 h4=>?_;obtain⟨i1,i2⟩:=(QbZ n).I X Y tg iter fi ok h2;exact Qzo ok.pass ok.calm i1 (Qn9 ok h1) ((Qjm n).Ss X Y body fb ok h3) (ih.Xs X Y YX body fx ok xk h4) i2
 | _=>cases(show some xNo=some f from h);exact Qgb
theorem Qr6:∀n,QA4 n
 | 0=>⟨λ_ _ _ _ _ _ _ h=>(nn h),λ_ _ _ _ _ _ _ h=>(nn h)⟩
 | n+1=>by
  have ih:=Qr6 n;refine⟨QAt ih,λX Y YX sts f ok xk h=>?_⟩;cases sts with
  | nil=>cases(show some xNo=some f from h);exact Qx9
  | cons st r=>
   refine Qh (show(Qjq n Y st).bind _=some f from h) λfs h1 h=>?_;exact bindR h λfx fr h2 h3=>QvY ((Qjm n).S X Y st fs ok h1) (ih.X X Y YX st fx ok xk h2) (ih.Xs X Y YX r fr ok xk h3)
end
noncomputable def Qak(k:Nat)(f:DX):List D->Option Str:=λds=>(f (Qav k ds)).map (·.1)
section
variable (P:Program) (w:World) (K:Fgg) (mg:Str->Option Value) (base:Heap)
def Qhk(k:Nat)(x:Str)(r:Nat×(List D->Option Str)):Prop:=∃f fd ps,Qcq P w K mg base (CXR P w) k f fd ps (spX K r.1 r.2)/\mg x=some (.ref f)/\PySem.W.keepIn K (.ref f)=true/\Binds K fd ps []/\ps.length=r.1
def Qe9(k:Nat)(Γx:List (Str×(Nat×(List D->Option Str)))):Prop:=∀x r,look x Γx=some r->Qhk P w K mg base k x r
end
section
variable {P:Program}{w:World}{K:Fgg}{mg:Str->Option Value}{base:Heap}
theorem Qe9.nil{k:Nat}:Qe9 P w K mg base k []:=λx r h=>by cases h
theorem Qhk.mono{j k:Nat}{x:Str}{r:Nat×(List D->Option Str)}(h:Qhk P w K mg base j x r)(hk:j<=k):Qhk P w K mg base k x r:=by
 obtain⟨f,fd,ps,h1,h2⟩:=h;exact⟨f,fd,ps,h1.mono hk,h2⟩
theorem Qe9.mono{j k:Nat}{Γ:List (Str×(Nat×(List D->Option Str)))}(t:Qe9 P w K mg base j Γ)(hk:j<=k):Qe9 P w K mg base k Γ:=λx r e=>(t x r e).mono hk
theorem Qe9.cons{k:Nat}{Γ:List (Str×(Nat×(List D->Option Str)))}{x:Str}{r:Nat×(List D->Option Str)}(t:Qe9 P w K mg base k Γ)(h:Qhk P w K mg base (k+1) x r):Qe9 P w K mg base (k+1) ((x,r)::Γ):=λy q e=>by
 unfold look at e;split at e
 ·rename_i z;cases e;subst z;exact h
 ·exact(t y q e).mono (ZaW _)
theorem QbA.up{j k:Nat}{Γ:List (Str×FnR)}(t:QbA P w K mg base j Γ)(hk:j<=k):QbA P w K mg base k Γ:=λx r e=>(t x r e).mono hk
theorem Qda{h:Heap}{x:Str}{st:Stmt}{ps:List Str}{k n:Nat}{Γ:List (Str×FnR)}{Γx:List (Str×(Nat×(List D->Option Str)))}{cls:List Str}{cs:List (Str×Int)}{g:DX}(X:K.In h)(G:h.Ns mainGlobals mg)(F:Fact K x st)(S:QbI (namesOf (Ql st)) ps (Ql st))(B:Qaf x st ps)(M:QdY mg cs)(tab:QbA P w K mg base k Γ)(tabx:Qe9 P w K mg base k Γx)
  (hcl:∀x∈cls,Qit K x) (hc:QeU n (Qer st Γ cs) ⟨Γx,cls⟩ (QaM st)=some g):Qhk P w K mg base (k+1) x (ps.length,Qak (namesOf (Ql st)).length g):=by
 obtain⟨f,fd,Fn,a⟩:=F.ex;refine⟨f,fd,ps,?_,ZaM X G a,Fn.kp,Fn.binds (B ·),rfl⟩;obtain⟨oc,od,kV,doc,pm,an,cdv,ct,osl,rfl,lk,hcd⟩:=Fn.ex;refine Qxd lk hcd S (QxN rfl) λA outer s H vs Q E hr hsp=>?_;obtain⟨ds,L,y,rps,hl,hd,hE⟩:=hsp;have ok:Q7 (Qdk (CXR P w) P w K mg base (namesOf (Ql st)) x (Ql st) f cdv A outer s H E) (Qer st Γ cs):=Qrl (CX:=CXR P w) (E:=E) S M tab hr PassesOwn.leaving;have xk:XOk (Qdk (CXR P w) P w K mg base (namesOf (Ql st)) x (Ql st) f cdv A outer s H E) ⟨Γx,cls⟩:=⟨rfl,rfl,rfl,λz r e=>by
  obtain⟨f',fd',ps',h1,h2,h3,h4,h5⟩:=tabx z r e;exact⟨k,f',fd',ps',h1,hr,h2,h3,h4,h5⟩,hcl⟩
 refine⟨_,(Qr6 n).Xs _ _ _ _ g ok xk hc H L,?_⟩;obtain⟨F0,rel⟩:=Qgc (N:=namesOf (Ql st)) rps;obtain⟨⟨y',U'⟩,e1,e2⟩:=Ze.mp hd;cases e2;exact⟨_,[],F0,y',U',rel,e1,λC ea s' hC T=>Qp1 rfl rfl rfl rfl rfl rfl rfl T λH' sm=>hE C H' hC sm⟩
end
end HS
namespace HS
open PySem PySem.Spec L2 PyProof.Rows
section
variable {X:Cx}{pins:List (Addr×Obj)}{σ:L2.St}{H:Hp}{s s':Shared}{B:Heap}
theorem QnN{h h':Heap}{c:Addr}{v:Option Value}(up:h.UpToSlots h')(z:h.IsCell c v):h'.IsCell c v:=by
 obtain⟨o,e,d⟩:=z;obtain⟨sl,e'⟩:=up c o e λvs q=>by rw[d]at q;cases q
 exact⟨_,e',d⟩
theorem QlH(I:Inv X pins σ H s)(ho:s'.os=s.os)(hg:AllBare s'.gens)(hx:X.ex=[])(b1:B.StaysIn s.heap)(b2:B.StaysIn s'.heap)(up:s.heap.UpToSlots s'.heap)(cov:Cov H B)
  (old:∀b o,X.s₀.heap.get? b=some o->b∉X.fs->∃o',B.get? b=some o') (pb:∀p∈X.pn++pins,∃o,B.get? p.1=some o):Inv X pins σ H s' where
 ok:=I.ok
 os:=ho.trans I.os
 bare:=hg
 base:=by
  have hb:=I.base;rw[hx]at hb ⊢;exact Qou hb b1 b2 up old (λb o e hb=>Qls I.ok e hb) I.ok.frf
 loc:=by
  obtain⟨m,hn,hl⟩:=I.loc;refine⟨m,up.ns hn,λi x v e1 e2 e3=>?_⟩;obtain⟨u,r,q⟩:=hl i x v e1 e2 e3;refine⟨u,r,?_⟩;rcases q with q | ⟨k,c,e,z⟩
  ·exact .inl q
  ·exact .inr ⟨k,c,e,QnN up z⟩
 cell:=λx c e=>by
  obtain⟨v,z⟩:=I.cell x c e;exact⟨v,QnN up z⟩
 free:=I.free
 freeC:=I.freeC
 pin:=λp hp=>by
  obtain⟨e,n,ne,nf,d⟩:=I.pin p hp;obtain⟨o,eo⟩:=pb p hp;have:=b1 _ _ eo;rw[e]at this;cases this;exact⟨b2 _ _ eo,n,ne,nf,d⟩
 hok:=Qmp I.hok b1 b2 cov
 len:=I.len
theorem QyQ{ea C:Addr}{a0:Value}(I:Inv X pins σ H s)(hx:X.ex=[])(fl:Heap.FlyingW B X.stack ea (.ref C) a0 s.heap)(cov:Cov H B)(old:∀b o,X.s₀.heap.get? b=some o->b∉X.fs->∃o',B.get? b=some o')
  (pb:∀p∈X.pn++pins,∃o,B.get? p.1=some o):H ea=none/\Inv X pins σ (upd H ea (.ext (QdH ea C))) s:=by
 obtain⟨oe,vs,he,hc,hd,_⟩:=fl.first
 have ne:∀{b o},B.get? b=some o->b≠ea:=λ{b o} e z=>by rw[z,fl.2.1]at e;cases e
 have hn:H ea=none:=by
  cases q:H ea with
  | none=>rfl
  | some u=>obtain⟨o,e⟩:=cov ea u q;exact absurd rfl (ne e)
 have nd:∀{b o},s.heap.get? b=some o->(∀vs,o.data≠ .fields vs)->b≠ea:=λ{b o} e h z=>by
  rw[z,he]at e;cases e;exact h vs hd
 have tr:∀b u,H b=some u->upd H ea (.ext (QdH ea C)) b=some u:=λb u e=>by
  obtain⟨o,eo⟩:=cov b u e;rw[QD (ne eo)];exact e
 refine⟨hn,I.ok,I.os,I.bare,⟨I.base.keep,I.base.slot,λb o e n hxx=>?_,I.base.there,λb xs q=>tr _ _ (I.base.tups b xs q),λb o u q=>tr _ _ (I.base.frzs b o u q),λb ps q=>?_⟩,I.loc,I.cell,?_,λx c e=>?_,λp hp=>?_,λb u e=>?_,I.len⟩
 ·rw[QD]
  ·exact I.base.free b o e n hxx
  ·by_cases hb:b∈X.fs
   ·obtain⟨sl,e1⟩:=I.base.slot b o e n hb hxx;exact nd e1 λvs q=>Qls I.ok e hb vs q
   ·obtain⟨o',e1⟩:=old b o e hb;exact ne e1
 ·obtain⟨more,q⟩:=I.base.tbls b ps q;exact⟨more,tr _ _ q⟩
 ·rw[QD]
  ·exact I.free
  ·obtain⟨m,⟨o,es,ep,e,d,_⟩,_⟩:=I.loc;exact nd e λvs q=>by rw[d]at q;cases q
 ·rw[QD]
  ·exact I.freeC x c e
  ·obtain⟨v,o,eo,d⟩:=I.cell x c e;exact nd eo λvs q=>by rw[d]at q;cases q
 ·obtain⟨e,n,ne',nf,d⟩:=I.pin p hp;obtain⟨o,eo⟩:=pb p hp;exact⟨e,by rw[QD (ne eo)];exact n,ne',nf,d⟩
 ·by_cases hb:b=ea
  ·subst hb;rw[Qad]at e;cases e;refine⟨⟨oe,vs,he,hc,hd⟩,⟨oe,he⟩,λh1 h2 ⟨o,w,e1,e2,e3⟩ k=>⟨o,w,k _ e1,e2,e3⟩⟩
  ·rw[QD hb]at e;exact(I.hok b u e).QgI (λc v _ q=>q) (λc q=>tr _ _ q) λc xs q=>tr _ _ q
theorem Qlt{M:Model}{A:Around}{E:Value->Shared->Prop}{i:Nat}{x:Str}{pos:Pos}{Q:Unit->Shared->Prop}(I:Inv X pins σ H s)(hN:X.N.Nodup)(hi:X.N[i]? =some x)(hx:X.env.scope.names.lookup x=some .local)
  (h:∀s',Inv X pins (σ.set i none) H s'->Q () s'):wpAny M A (do bindName X.env x .none;unbindBehindTheSuite X.env x pos) Q E s:=by
 refine wpAny_bind (wpAny_bindName (Qf7 (v:= .non) I hN hi (.inl hx) rfl (λs1 I1=>?_) (.inr hx)));have hcls:(X.env.scope.kind == .class || (X.env.scope.kind == .module && X.env.locals != X.env.globals))=false:=by rw[I.ok.kind];rfl
 have hiσ:i<σ.length:=by rw[I.len];exact(Zm.mp hi).1
 obtain⟨m,hn,hl⟩:=id I1.loc;obtain⟨u,_,q⟩:=hl i x .non hi (Zu hiσ) (.inl hx);have hm:m x=some u:=by
  rcases q with⟨_,e⟩ | ⟨k,_⟩
  ·exact e
  ·have hx':X.env.kindOf x=some .local :=hx;rcases k with k | k<;>rw[hx']at k<;>cases k
 unfold unbindBehindTheSuite;refine wpAny_onRaise (wpAny_unbindName_local hx hn hm hcls λh' u' hn' hs=>h _ ?_);have cne:=I1.cne;obtain⟨oL,_,_,hoL,_⟩:=id hn;refine⟨I1.ok,I1.os,I1.bare,⟨λb o e n hb hx=>?_,λb o e n hb hx=>?_,I1.base.free,λb o e hx=>?_,I1.base.tups,I1.base.frzs,I1.base.tbls⟩,⟨_,hn',λj y v' e1 e2 e3=>?_⟩,λy c e=>?_,I1.free,I1.freeC,λp hp=>?_,λb ob e=>?_,by simpa using I1.len⟩
 ·exact(hs.2 b (ZG (Zt (Zo e) I.ok.above))).trans (I1.base.keep b o e n hb hx)
 ·obtain⟨sl,e1⟩:=I1.base.slot b o e n hb hx;exact⟨sl,(hs.2 b (ZG (Zt (Zo e) I.ok.above))).trans e1⟩
 ·obtain⟨o',e1⟩:=I1.base.there b o e hx;exact⟨o',(hs.2 b (ZG (Zt (Zo e) I.ok.above))).trans e1⟩
 ·by_cases hj:j=i
  ·subst hj;rw[Zu hiσ]at e2;cases e2
  ·rw[Zi (Ne.symm hj)]at e2;have e2':(σ.set i (some V.non))[j]? =some (some v'):=by rw[Zi (Ne.symm hj)];exact e2
   obtain⟨u1,r1,q1⟩:=hl j y v' e1 e2' e3;refine⟨u1,r1,?_⟩;rcases q1 with⟨k,e⟩ | ⟨k,c,e,z⟩
   ·refine .inl ⟨k,?_⟩;have:y≠x:=λe=>hj (QkH hN e1 (e▸hi));simp[this,e]
   ·exact .inr ⟨k,c,e,z.sameBut hs (cne y c e)⟩
 ·obtain⟨w',z⟩:=I1.cell y c e;exact⟨w',z.sameBut hs (cne y c e)⟩
 ·obtain⟨e,n,ne,nf,d⟩:=I1.pin p hp;exact⟨(hs.2 p.1 ne).trans e,n,ne,nf,d⟩
 ·refine(I1.hok b ob e).QgI (λc w' hc q=>(hs.2 c ?_).trans q) (λ_ q=>q) λ_ _ q=>q;rintro rfl;have hfree:=I1.free;rcases hc with rfl | hc
  ·rw[hfree]at e;cases e
  ·rw[hfree]at hc;cases hc
end
noncomputable abbrev inH(X:Cx)(ea:Addr):Cx:={X with A:=X.A.mark (some (.ref ea)),calm:=false,xe:=λ_ _=>False}
def Fly(X:Cx)(pins:List (Addr×Obj))(H:Hp)(ea C:Addr)(s:Shared):Prop:=∃B a0,Heap.FlyingW B X.stack ea (.ref C) a0 s.heap/\Cov H B/\(∀b o,X.s₀.heap.get? b=some o->b∉X.fs->∃o',B.get? b=some o')/\∀p∈X.pn++pins,∃o,B.get? p.1=some o
section
variable {X:Cx}{pins:List (Addr×Obj)}{σ:L2.St}{H:Hp}{s s':Shared}{B:Heap}{ea C:Addr}
theorem _root_.L2.Inv.inH(I:Inv X pins σ H s):Inv (HS.inH X ea) pins σ H s:=
 ⟨⟨I.ok.mod,I.ok.kind,I.ok.glob,I.ok.blt,I.ok.above,I.ok.inj,I.ok.has,I.ok.cab,λz=>(by cases z),I.ok.frames,I.ok.stk,I.ok.exf,I.ok.bs,I.ok.bsz,I.ok.noex,I.ok.exfs,I.ok.Qee,I.ok.frf⟩,I.os,I.bare,I.base,I.loc,I.cell,I.free,I.freeC,I.pin,I.hok,I.len⟩
theorem _root_.L2.Inv.QgL(ok:X.Ok)(I:Inv (HS.inH X ea) pins σ H s):Inv X pins σ H s:=⟨ok,I.os,I.bare,I.base,I.loc,I.cell,I.free,I.freeC,I.pin,I.hok,I.len⟩
theorem Qqi{E:Value->Shared->Prop}{Qk:Shared->Prop}{H0:Hp}{A0:LAd}{hs:List (V×D×List Addr)}{U:En}(T:Qhi X H0 A0 hs U (.ref C) ea s')(hx:X.ex=[])(hst:X.stack=X.env::X.outer)(hf:X.env.frame=some X.env.locals)
  (k:∀pins σ H F s'',Rel X.K H0 A0 hs U F σ H->Inv X pins σ H s''->Fly X pins H ea C s''->Qk s''):
  wpAny (model X.prog X.w) X.A (noteFrame (.ref ea) X.env) (λ_ s₂=>wpAny (model X.prog X.w) X.A (setFlight (.ref ea) none) (λ_ s₃=>Qk s₃) E s₂) E s':=by
 obtain⟨pins,σ,H,F,rel,⟨sg,args,I,hm,ho,hg⟩ | ⟨B,a0,I,fl,cov,old,pb⟩⟩:=T
 ·obtain⟨B,b1,b2,cov,old,pb⟩:=Qor I hx;have hfr:=I.ok.frames;rw[hst]at hfr b2;obtain⟨t,he,htn,ht⟩:=hm.there;have fresh:B.get? ea=none:=by
   cases q:B.get? ea with
   | none=>rfl
   | some o=>have:=b1 _ _ q;rw[hm.new]at this;cases this
  have note:∀Q:Unit->Shared->Prop,(∀h',Heap.NotedW B (X.env::X.outer) ea (.ref C) (.ref t) (rawInt X.env.locals) s'.heap h'->Q () {s' with heap:=h'})->wpAny (model X.prog X.w) X.A (noteFrame (.ref ea) X.env) Q E s':=λQ hq=>by
   unfold noteFrame;simp only[hf];refine wpAny_bind (wpAny_field (x:= .none) he rfl rfl ?_);rw[if_neg (by decide)];exact wpAny_entryW (a0:= .ref t) hfr (b2.of_keeps λb o hb _=>⟨o,hm.keeps b o hb,rfl⟩) hf he (λb o hb=>hm.keeps b o (b1 b o hb)) fresh rfl (by show 1<6;decide) rfl hq
  refine note _ λh1 Z=>?_;obtain⟨n1,n2,n3,n4⟩:=Z;refine wpAny_landsW (s:={s' with heap:=h1}) (L:=X.env.locals) ⟨n1,fresh,n2,n3⟩ λh2 fl up=>?_;have up':sg.heap.UpToSlots h2:=((Heap.UpToSlots.of_keeps hm.keeps).trans n4).trans up;refine k pins σ H F _ rel (QlH I ho (by show AllBare s'.gens;rw[hg];exact I.bare) hx b1 fl.1 up' cov old pb) ⟨B,_,by rw[hst];exact fl,cov,old,pb⟩
 ·have hfr:=I.ok.frames;rw[hst]at hfr fl;refine wpAny_looks_onW hfr hf fl λh1 hd up1=>?_;refine wpAny_landsW (s:={s' with heap:=h1}) hd λh2 fl2 up2=>?_;exact k pins σ H F _ rel (QlH I rfl I.bare hx fl.1 fl2.1 (up1.trans up2) cov old pb) ⟨B,a0,by rw[hst];exact fl2,cov,old,pb⟩
def Qsd(K:Fgg)(sub:Str->Str->Option Bool):Prop:=∀x y b,sub x y=some b->∃C c,ClsAt K x C/\PySem.W.KtsName K y c/\PySem.W.exmOne K (.ref C) c=some b
theorem QsM{E:Value->Shared->Prop}{y:Str}{c:Value}{np:Pos}{Q:Value->Shared->Prop}(I:Inv X pins σ H s)(hg:Gl X y)(hdb:(y == ("__debug__" :Str))=false)(k:PySem.W.KtsName X.K y c)(h:Q c s):wpAny (model X.prog X.w) X.A (eval (.Name y np) X.env) Q E s:=by
 rcases k with k | ⟨k1,k2,k3⟩
 ·exact QdQ I hg (ZaM I.ok.mod.kin I.ok.mod.glob k) h hdb
 ·exact Qdm I hg (PySem.W.mg_none_of I.ok.mod.kin I.ok.mod.glob k1) k2 h k3 hdb
theorem QiW{K:Fgg}{x:Str}{C C':Addr}(a:ClsAt K x C)(b:ClsAt K x C'):C=C':=by
 unfold ClsAt at a b;rw[a]at b;exact Value.ref.inj (Option.some.inj (Option.some.inj b))
theorem Rel.Qnh{K:Fgg}{H0:Hp}{A0:LAd}{hs:List (V×D×List Addr)}{U:En}{F:Nat->List Addr}{i:Nat}(r:Rel K H0 A0 hs U F σ H):Rel K H0 A0 hs (U.set i none) F (σ.set i none) H:=by
 have w:=r.weak (QnE (U:=U) i);refine⟨by simpa using r.len,λj d b e=>?_,w.own,w.src,w.held,w.same⟩;obtain⟨v,h1,h2⟩:=w.val j d b e;refine⟨v,?_,h2⟩;by_cases hj:i=j
 ·subst hj;exfalso;by_cases hl:i<U.length
  ·rw[Zu hl]at e;cases e
  ·rw[ZA (by simp;omega)]at e;cases e
 ·rw[Zi hj];exact h1
noncomputable def QzZ(i:Nat):Out->Out
 | .nx U=> .nx (U.set i none)
 | .bk U=> .bk (U.set i none)
 | .ct U=> .ct (U.set i none)
 | .rt d fr=> .rt d fr
noncomputable abbrev Hd:=Str×Option Nat×DS
noncomputable def QrG(sub:Str->Str->Option Bool)(x:Str)(U:En):List Hd->Option Out
 | []=>none
 | h::r=>(sub x h.1).bind λb=>if b=true then(match h.2.1 with
  | none=>h.2.2 U
  | some i=>(h.2.2 (U.set i (some (.exc x,true)))).map (QzZ i))else QrG sub x U r
noncomputable def QgD(f:DS)(fx:DX)(sub:Str->Str->Option Bool)(hl:List Hd):DS:=λU=>match f U with
 | some o=>some o
 | none=>(fx U).bind λq=>QrG sub q.1 q.2 hl
inductive QgH (X:Cx):List ExceptHandler->List Hd->Prop
 | nil:QgH X [] []
 | bare {y:Str}{np pos:Pos}{b₀:Stmt}{suite:List Stmt}{r:List ExceptHandler}{hr:List Hd}{f:DS}(hg:Gl X y) (hdb:(y == ("__debug__" :Str))=false) (hS:∀ea,SS (inH X ea) (b₀::suite) f) (t:QgH X r hr):
   QgH X (.ExceptHandler (some (.Name y np)) none (b₀::suite) pos::r) ((y,none,f)::hr)
 | as {y n:Str}{np pos:Pos}{b₀:Stmt}{suite:List Stmt}{r:List ExceptHandler}{hr:List Hd}{f:DS}{i:Nat}(hg:Gl X y) (hdb:(y == ("__debug__" :Str))=false) (hi:X.N[i]? =some n) (hl:X.env.scope.names.lookup n=some .local) (hS:∀ea,SS (inH X ea) (b₀::suite) f) (t:QgH X r hr):
   QgH X (.ExceptHandler (some (.Name y np)) (some n) (b₀::suite) pos::r) ((y,some i,f)::hr)
theorem _root_.L2.SP.QgL{Dd:Ends}{f:Flow}(ok:X.Ok)(h:SP (HS.inH X ea) pins Dd f s):SP X pins Dd f s:=by
 cases f with
 | next=>obtain⟨σ',H',I,q⟩:=h;exact⟨σ',H',I.QgL ok,q⟩
 | brk=>obtain⟨σ',H',I,q⟩:=h;exact⟨σ',H',I.QgL ok,q⟩
 | cont=>obtain⟨σ',H',I,q⟩:=h;exact⟨σ',H',I.QgL ok,q⟩
 | ret u=>obtain⟨v,σ',H',I,r,q⟩:=h;exact⟨v,σ',H',I.QgL ok,r,q⟩
theorem QsT{sub:Str->Str->Option Bool}{x:Str}{H0:Hp}{A0:LAd}{hs:List (V×D×List Addr)}{U:En}{Dd:Ends}{o:Out}(hN:X.N.Nodup)(hx:X.ex=[])(hsub:Qsd X.K sub)(hC:ClsAt X.K x C):
  ∀{hds:List ExceptHandler}{hl:List Hd},QgH X hds hl->∀{F:Nat->List Addr}{σ:L2.St}{H:Hp}{s:Shared},Inv X pins σ H s->Rel X.K H0 A0 hs U F σ H->Fly X pins H ea C s->QrG sub x U hl=some o->Fits X.K H0 A0 hs Dd o→
   wpAny (model X.prog X.w) X.A (handleBy (.ref ea) X.env hds) (SP X pins Dd) X.xe s:=by
 intro hds hl h
 have test:∀{y:Str}{np pos:Pos}{nm:Option Str}{b₀:Stmt}{suite:List Stmt}{r:List ExceptHandler}{b:Bool}{σ:L2.St}{H:Hp}{s:Shared},Gl X y->(y == ("__debug__" :Str))=false->sub x y=some b->Inv X pins σ H s->Fly X pins H ea C s→
   (b=true->codeAny (model X.prog X.w) (X.A.mark (some (.ref ea))) (.handlers (.ref ea) [.ExceptHandler none nm (b₀::suite) pos] X.env) (λr s₂=>match r with
     | .ok f=>(match nm with
      | none=>SP X pins Dd f s₂
      | some n=>wpAny (model X.prog X.w) X.A (do bindName X.env n .none;unbindBehindTheSuite X.env n pos) (λ_ s₃=>SP X pins Dd f s₃) X.xe s₂)
     | .error x=>cameBackBy (model X.prog X.w) X.A X.env X.xe x s₂) s)→
   (b=false->wpAny (model X.prog X.w) X.A (handleBy (.ref ea) X.env r) (SP X pins Dd) X.xe s)->wpAny (model X.prog X.w) X.A (handleBy (.ref ea) X.env (.ExceptHandler (some (.Name y np)) nm (b₀::suite) pos::r)) (SP X pins Dd) X.xe s:=by
  intro y np pos nm b₀ suite r b σ H s hg hdb e1 I fly ht hf;obtain⟨C',c,k1,k2,k3⟩:=hsub x y b e1;cases QiW hC k1;obtain⟨B,a0,fl,_⟩:=fly;obtain⟨ob,hob,hc⟩:=fl.there;have LT:PySem.W.Looks (model X.prog X.w) s.heap (typeOf (.ref ea)) (.ref C):=hc▸(PySem.W.Looks.ld hob).andThen .now;refine wpAny_handleBy_cons (codeAny_handlers_test (QsM (X:=HS.inH X ea) (I.inH (ea:=ea)) hg hdb k2 ((PySem.W.exm_one I.kIn LT k3).here ?_))) (by intro q;cases q);cases b with
  | true=>exact ht rfl
  | false=>exact hf rfl
 induction h with
 | nil=>intro F σ H s I rel fly e q;cases e
 | @bare y np pos b₀ suite r hr f hg hdb hS t ih=>
  intro F σ H s I rel fly e q;refine Qh e λb e1 e=>?_;refine test hg hdb e1 I fly (λhb=>?_) λhb=>?_
  ·subst hb;rw[if_pos rfl]at e;obtain⟨B,a0,fl,cov,old,pb⟩:=fly;refine codeAny_handlers_suite (lands_againW fl λh' fl' up=>?_);have I1:=QlH (s':={s with heap:=h'}) I rfl I.bare hx fl.1 fl'.1 up cov old pb;exact wpAny_mono (hS ea H0 A0 pins _ σ H Dd (I1.inH (ea:=ea)) ⟨U,hs,F,o,rel,e,q⟩) (λf s2 hq=>SP.QgL I.ok hq) λ_ _ z=>z.elim
  ·subst hb;rw[if_neg ZV]at e;exact ih I rel fly e q
 | @as y n np pos b₀ suite r hr f i hg hdb hi hl hS t ih=>
  intro F σ H s I rel fly e q;refine Qh e λb e1 e=>?_;refine test hg hdb e1 I fly (λhb=>?_) λhb=>?_
  ·subst hb;rw[if_pos rfl]at e;obtain⟨o1,e2,e3⟩:=Ze.mp e;subst e3;obtain⟨B,a0,fl,cov,old,pb⟩:=fly;refine codeAny_handlers_suite_as (lands_againW fl λh' fl' up=>?_);have I1:=QlH (s':={s with heap:=h'}) I rfl I.bare hx fl.1 fl'.1 up cov old pb;obtain⟨hn,I2⟩:=QyQ I1 hx fl' cov old pb;have sm:QM H (upd H ea (.ext (QdH ea C))):=λb u eb=>by rw[QD (λz=>by rw[z,hn]at eb;cases eb)];exact eb
   refine Qf7 (X:=HS.inH X ea) (v:= .ref ea) (I2.inH (ea:=ea)) hN hi (.inl hl) rfl (λs3 I3=>?_) (.inr hl);obtain⟨F',rel'⟩:=(rel.ext sm).QAU (i:=i) (d:= .exc x) (v:= .ref ea) (by rw[Rp];exact⟨⟨ea,rfl,C,hC,Qad⟩,rfl⟩) rfl;refine wpAny_mono (hS ea H0 A0 pins _ _ _ ⟨λσ' H'=>Dd.nx (σ'.set i none) H',Dd.rt,λσ' H'=>Dd.bk (σ'.set i none) H',λσ' H'=>Dd.ct (σ'.set i none) H'⟩ I3 ⟨_,hs,F',o1,rel',e2,?_⟩) (λf s4 hq=>?_) λ_ _ z=>z.elim
   ·cases o1 with
    | nx U1=>exact λσ' H' F' rel'=>q _ _ _ rel'.Qnh
    | bk U1=>exact λσ' H' F' rel'=>q _ _ _ rel'.Qnh
    | ct U1=>exact λσ' H' F' rel'=>q _ _ _ rel'.Qnh
    | rt d fr=>exact q
   ·cases f with
    | next=>obtain⟨σ',H',I4,q4⟩:=hq;exact Qlt (I4.QgL I.ok) hN hi hl λs5 I5=>⟨_,H',I5,q4⟩
    | brk=>obtain⟨σ',H',I4,q4⟩:=hq;exact Qlt (I4.QgL I.ok) hN hi hl λs5 I5=>⟨_,H',I5,q4⟩
    | cont=>obtain⟨σ',H',I4,q4⟩:=hq;exact Qlt (I4.QgL I.ok) hN hi hl λs5 I5=>⟨_,H',I5,q4⟩
    | ret u=>obtain⟨v,σ',H',I4,r4,q4⟩:=hq;exact Qlt (I4.QgL I.ok) hN hi hl λs5 I5=>⟨v,_,H',I5,r4,q4⟩
  ·subst hb;rw[if_neg ZV]at e;exact ih I rel fly e q
noncomputable abbrev Cx.chg(X:Cx)(xe:Value->Shared->Prop)(pn:List (Addr×Obj)):Cx:={X with xe:=xe,pn:=pn}
theorem _root_.L2.Inv.chg{xe:Value->Shared->Prop}(I:Inv X pins σ H s):Inv (Cx.chg X xe (X.pn++pins)) [] σ H s:=
 ⟨⟨I.ok.mod,I.ok.kind,I.ok.glob,I.ok.blt,I.ok.above,I.ok.inj,I.ok.has,I.ok.cab,I.ok.hd,I.ok.frames,I.ok.stk,I.ok.exf,I.ok.bs,I.ok.bsz,I.ok.noex,I.ok.exfs,I.ok.Qee,I.ok.frf⟩,I.os,I.bare,I.base,I.loc,I.cell,I.free,I.freeC,λp hp=>I.pin p (by simpa using hp),I.hok,I.len⟩
theorem _root_.L2.Inv.Qlq{xe:Value->Shared->Prop}{pins':List (Addr×Obj)}(ok:X.Ok)(I:Inv (Cx.chg X xe (X.pn++pins)) pins' σ H s):Inv X pins σ H s:=
 ⟨ok,I.os,I.bare,I.base,I.loc,I.cell,I.free,I.freeC,λp hp=>I.pin p (Zf _ hp),I.hok,I.len⟩
theorem QAZ{sub:Str->Str->Option Bool}{body:List Stmt}{h₀:ExceptHandler}{hds:List ExceptHandler}{hl:List Hd}{f:DS}{fx:DX}{pos:Pos}(hN:X.N.Nodup)(hx:X.ex=[])(hst:X.stack=X.env::X.outer)(hf:X.env.frame=some X.env.locals)(hsub:Qsd X.K sub)
  (hb:∀xe pn,PassesOwn (model X.prog X.w) X.A X.env xe->SS (Cx.chg X xe pn) body f/\RzS (Cx.chg X xe pn) body fx) (hh:QgH X (h₀::hds) hl):S1 X (.Try body (h₀::hds) [] [] pos) (QgD f fx sub hl):=λH0 A0 pins s σ H Dd I=>exK λU hs F o rel e q=>by
 refine wpAny_Try_except ?_;have pass:PassesOwn (model X.prog X.w) X.A X.env (λe s₁=>wpAny (model X.prog X.w) X.A (noteFrame e X.env) (λ_ s₂=>wpAny (model X.prog X.w) X.A (setFlight e none) (λ_ s₃=>wpAny (model X.prog X.w) X.A (handleBy e X.env (h₀::hds)) (SP X pins Dd) X.xe s₃) X.xe s₂) X.xe s₁):=PassesOwn.looking;obtain⟨b1,b2⟩:=hb _ (X.pn++pins) pass;unfold QgD at e;split at e
 ·rename_i o' eo;cases e;refine thn (b1 H0 A0 [] s σ H Dd I.chg ⟨U,hs,F,o,rel,eo,q⟩) λfl s1 hq=>?_;cases fl with
  | next=>obtain⟨σ',H',I1,q1⟩:=hq;exact wpAny_execs_nil ⟨σ',H',I1.Qlq I.ok,q1⟩
  | brk=>obtain⟨σ',H',I1,q1⟩:=hq;exact⟨σ',H',I1.Qlq I.ok,q1⟩
  | cont=>obtain⟨σ',H',I1,q1⟩:=hq;exact⟨σ',H',I1.Qlq I.ok,q1⟩
  | ret u=>obtain⟨v,σ',H',I1,r1,q1⟩:=hq;exact⟨v,σ',H',I1.Qlq I.ok,r1,q1⟩
 ·obtain⟨⟨x,U'⟩,e1,e⟩:=bind1 e;refine thn (b2 H0 A0 [] s σ H ⟨λ_ _=>False,λ_ _=>False,λ_ _=>False,λ_ _=>False⟩ I.chg ⟨U,hs,F,x,U',rel,e1,λC ea s' hC T=>?_⟩) λfl s1 hq=>?_
  ·refine Qqi (X:=Cx.chg X _ (X.pn++pins)) (E:=X.xe) (Qk:=λs₃=>wpAny (model X.prog X.w) X.A (handleBy (.ref ea) X.env (h₀::hds)) (SP X pins Dd) X.xe s₃) T hx hst hf λpins' σ' H' F' s'' rel' I' fly=>?_;obtain⟨B,a0,fl,cov,old,pb⟩:=fly;exact QsT hN hx hsub hC hh (I'.Qlq I.ok) rel' ⟨B,a0,fl,cov,old,λp hp=>pb p (Zf _ hp)⟩ e q
  ·cases fl with
   | next=>obtain⟨σ',H',I1,q1⟩:=hq;exact q1.elim
   | brk=>obtain⟨σ',H',I1,q1⟩:=hq;exact q1.elim
   | cont=>obtain⟨σ',H',I1,q1⟩:=hq;exact q1.elim
   | ret u=>obtain⟨v,σ',H',I1,r1,q1⟩:=hq;exact q1.elim
end
end HS
namespace HS
open PySem PySem.Spec L2 PyProof.Rows PySem.W
structure QhR (K:Frag) (C:Addr):Prop where
 cl:(clsIn K C).isSome=true
 ga:findIn K (.ref C) "__getattribute__" =some (some (.builtin "BaseException.__getattribute__"))
 hk:findIn K (.ref C) "__getattr__" =some none
 ca:findIn K (.ref C) "__class__" =some (some (.builtin "object.__class__"))
 mo:mroIn K C (.type "object")=some true
 be:subIn K (.ref C) (.type "BaseException")=some true
section
variable {prog:Program}{w:World}{A:Around}{E:Value->Shared->Prop}{s:Shared}{K:Frag}{a C:Addr}
theorem Qiz{M:Model}{h:Heap}(x:QdH a C h):Looks M h (typeOf (.ref a)) (.ref C):=by
 obtain⟨o,vs,e,c,_⟩:=x;exact c▸(Looks.ld e).andThen .now
theorem Qx3{R:Result->Shared->Prop}{tp:Value}(z:QhR K C)(X:K.In s.heap)(x:QdH a C s.heap)(h:R (.ok (.ret (.ref C))) s):
  codeAny (model prog w) A (.call (.builtin "getset_descriptor.__get__") ⟨[.builtin "object.__class__",.ref a,tp],[]⟩) R s:=by
 obtain⟨hh,g,dr,t,os⟩:=s;have T0:=Qiz (M:=model prog w) x;have T1:=looks_mroIn (M:=model prog w) X z.mo
 refine codeAny_call_builtin KF.slot_gs.plain KF.entry_gs
  (KF.slot_gs.check _ _ _ _ _ _ _ _ KF.type_class (KF.args_gs _ _ _) ?_)
 unfold Builtin.«getset_descriptor.__get__» Builtin.Getset_descriptor.descrGet;rw[dga_obj];refine wpAny_bind (wpAny_pure ?_)
 unfold Builtin.Getset_descriptor.descrGetter Builtin.Getset_descriptor.descrCheckInstance
  Builtin.Getset_descriptor.descrNameAndClass isInstance
 simp only[KF.owner_class]
 repeat lk
 refine⟨Code.quiet_builtin _ (by decide+kernel),
  codeAny_builtin KF.entry_class ?_⟩
 unfold Builtin.«object.__class__» shownTypeOf;repeat lk
 exact h
theorem Qsx{tk:Tok}{Q:Fin->Shared->Prop}(z:QhR K C)(X:K.In s.heap)(x:QdH a C s.heap)(h:Q (.done (.ret (.ref C))) s):
  wpAny (model prog w) A (Builtin.«object.__getattribute__» ⟨[.ref a,.str "__class__" tk],[]⟩) Q E s:=by
 obtain⟨hh,g,dr,t,os⟩:=s;have T0:=Qiz (M:=model prog w) x;have T1:=looks_findIn (M:=model prog w) X z.ca;have f5:=F.typeOf_object_class;have f6:=F.slot_gs_get.lookup;have f7:=F.slot_gs_set.lookup;obtain⟨o,vs,hx,hc,hd⟩:=id x;have hT5:(⟨hh,g,dr,t,os⟩:Shared).TypeIs (.builtin "object.__class__") "getset_descriptor" :=f5
 repeat (any_goals (first | assumption | (with_reducible refine wpAny_loadPart_at hx ?_;rw[hc]) | with_reducible refine T1.at ?_ | wp_step))
 refine Qx3 z X x ?_
 repeat (any_goals (first | assumption | wp_step))
theorem QsI{M:Model}{nameV:Value}{Q:Unit->Shared->Prop}(z:QhR K C)(X:K.In s.heap)(x:QdH a C s.heap)(h:Q () s):wpAny M A (checkBuiltinCall "BaseException.__getattribute__" ⟨[.ref a,nameV],[]⟩) Q E s:=by
 obtain⟨hh,g,dr,t,os⟩:=s;have k1:builtinKind "BaseException.__getattribute__" =some .slot:=by decide+kernel
 have k2:splitId "BaseException.__getattribute__" =some ("BaseException","__getattribute__"):=by decide+kernel
 have T0:=Qiz (M:=M) x;have T1:=looks_subIn (M:=M) X z.be;have T2:Looks M hh (isInstance (.ref a) (.type "BaseException")) true:=T0.andThen T1;have k3:=F.args_bexc_ga (.ref a) nameV;simp only[checkBuiltinCall,k1,k2];refine wpAny_bind (T2.at ?_);rw[if_neg (by decide)];have k4:Q () ⟨hh,g,dr,t,os⟩:=h
 repeat (any_goals (first | assumption | wp_step))
theorem QzY{tk:Tok}{Q:Value->Shared->Prop}(z:QhR K C)(X:K.In s.heap)(x:QdH a C s.heap)(h:Q (.ref C) s):wpAny (model prog w) A (getAttrBy (.ref a) (.str "__class__" tk) false) Q E s:=by
 obtain⟨hh,g,dr,t,os⟩:=s;have T0:=Qiz (M:=model prog w) x;have T1:=looks_findIn (M:=model prog w) X z.ga;have T2:=looks_findIn (M:=model prog w) X z.hk;have f3:=PySem.F.attr_ValueError.ga.bind (.ref a);have n2:(Value.builtin "BaseException.__getattribute__" == Value.builtin "object.__getattribute__")=false:=by decide+kernel
 have n1:(onTheHeap (Value.ref C) && Value.builtin "BaseException.__getattribute__" == Value.builtin "object.__getattribute__")=false:=by rw[n2];rfl
 obtain⟨o,vs,hx,hc,hd⟩:=id x
 repeat (any_goals (first | assumption | (with_reducible refine wpAny_loadPart_at hx ?_;rw[hc]) | with_reducible refine T1.at ?_ | with_reducible refine T2.at ?_ | wp_step))
 refine codeAny_call_builtin PySem.F.attr_ValueError.ga.plain F.entry_bexc_ga (QsI z X x (Qsx z X x ?_));have k4:Q (.ref C) ⟨hh,g,dr,t,os⟩:=h
 repeat (any_goals (first | assumption | wp_step))
theorem QvU{Q:Option Value->Shared->Prop}(z:QhR K C)(X:K.In s.heap)(x:QdH a C s.heap)(h:Q (some (.ref C)) {s with toks:=s.toks+1}):wpAny (model prog w) A (getAttr? (.ref a) "__class__") Q E s:=by
 obtain⟨hh,g,dr,t,os⟩:=s;have k4:Q (some (.ref C)) ⟨hh,g,dr,t+1,os⟩:=h;have X':K.In (⟨hh,g,dr,t+1,os⟩:Shared).heap:=X;have x':QdH a C (⟨hh,g,dr,t+1,os⟩:Shared).heap:=x;unfold getAttr? getAttrBy?
 repeat (any_goals (first | assumption | with_reducible apply QzY z X' x' | wp_step))
theorem QpO(z:QhR K C):KitX K (.ref a) (.ref C) (QdH a C) where
 ty:=λ_ _ _ x=>Qiz x
 it:=λ_ _ X _=>by
  have h0:=z.cl;unfold clsIn at h0;split at h0
  ·rename_i ho;intro A' Q' E' s' k q;unfold isType loadHead;refine wpAny_bind ?_;exact wpAny_loadPart (k _ _ (X _ _ ho)) (wpAny_pure q)
  ·cases h0
 ne:=λh tp dd its n sl X htp=>by
  have h0:=z.cl;refine Bool.eq_false_iff.mpr λq=>?_;obtain rfl:C=tp:=Value.ref.inj (beq_iff_eq.mp q);unfold clsIn at h0;split at h0
  ·rename_i ho;have e:=X _ _ ho;rw[htp]at e;cases e
  ·cases h0
 ca:=λX x k=>QvU z X x k
end
end HS
namespace HS
open PySem PySem.Spec L2 PyProof.Rows
def QxR(K:Fgg)(x y:Str)(b:Bool):Prop:=∃C c,ClsAt K x C/\PySem.W.KtsName K y c/\PySem.W.exmOne K (.ref C) c=some b/\PySem.W.kitOne K (.ref C) c=some b/\QhR K C
def Qbx(K:Fgg)(sub:Str->Str->Option Bool):Prop:=∀x y b,sub x y=some b->QxR K x y b
theorem Qbx.ok{K:Fgg}{sub:Str->Str->Option Bool}(h:Qbx K sub):Qsd K sub:=λx y b e=>by
 obtain⟨C,c,h1,h2,h3,_⟩:=h x y b e;exact⟨C,c,h1,h2,h3⟩
noncomputable def vC:Value->V
 | .ref a=> .ref a
 | .type n=> .ty n
 | _=> .non
theorem Qtp{K:Fgg}{C:Addr}{c:Value}{b:Bool}(h:PySem.W.kitOne K (.ref C) c=some b):RelV (vC c) c:=by
 cases c with
 | ref a=>exact rfl
 | type n=>exact rfl
 | _=>
  unfold PySem.W.kitOne at h;split at h
  ·rename_i q;have:=beq_iff_eq.mp q;cases this
  ·cases h
noncomputable def anyS(sub:Str->Str->Option Bool)(x:Str):List Str->Option Bool
 | []=>some false
 | y::r=>(sub x y).bind λb=>(anyS sub x r).map λd=>b || d
noncomputable def QfM(sub:Str->Str->Option Bool)(ys:List Str)(fa:DE):DE:=λU=>(fa U).bind λr=>match r.d with
 | .exc x=>(anyS sub x ys).map λb=>⟨.bl b,true,[]⟩
 | _=>none
section
variable {X:Cx}{a:Expr}{fa:DE}{p p2 pos:Pos}{sub:Str->Str->Option Bool}
noncomputable def QDp(K:Fgg):List V->Hp->VK->Prop:=λxs H Q=>∃C a y,xs=[.ref a,y]/\H a=some (.ext (QdH a C))/\QhR K C∧
 ((∃c b,y=vC c/\PySem.W.kitOne K (.ref C) c=some b/\Q (.bl b) H)∨∃tp cs b,y= .ref tp/\H tp=some (.tup (cs.map vC))/\(∀c∈cs,RelV (vC c) c)/\PySem.W.kitAny K (.ref C) cs=some b/\Q (.bl b) H)
theorem Qo5{v:V}{c c':Value}(hv:v=vC c)(h:RelV (vC c) c)(h':RelV v c'):c'=c:=by
 subst hv;cases c with
 | ref a=>exact h'
 | type n=>exact h'
 | none=>cases h';rfl
 | _=>cases h
theorem Qo1:∀{cs:List Value}{us:List Value},(∀c∈cs,RelV (vC c) c)->QA (cs.map vC) us->us=cs
 | [],_,_,.nil=>rfl
 | c::cs,_,h,.cons r t=>by
  rw[Qo5 rfl (h c Zg) r,Qo1 (λc hc=>h c (Zc _ hc)) t]
theorem Qvm:Qbs X (.builtin "isinstance") (QDp X.K):=by
 intro pins s σ H xs us Q I r h;obtain⟨C,a,y,rfl,hH,z,h⟩:=h;obtain⟨u,w,rfl,ru,rw'⟩:=vals2 r;cases(show u=Value.ref a from ru);have xo:QdH a C s.heap:=(show QaQ X.prog X.w H s.heap a (.ext (QdH a C))from I.hok a _ hH).1;rcases h with⟨c,b,rfl,k,q⟩ | ⟨tp,cs,b,rfl,ht,hr,k,q⟩
 ·cases Qo5 rfl (Qtp k) rw';exact ZaJ (QpO z) I.kIn xo k (λz=>nomatch z) λtk=>⟨.bl b,H,I.tok _,rfl,q⟩
 ·cases(show w=Value.ref tp from rw');obtain⟨_,its,rv,o,e1,e2,n,e3⟩:=(show QaQ X.prog X.w H s.heap tp (.tup (cs.map vC))from I.hok tp _ ht);have hits:=Qo1 hr rv;subst hits;obtain⟨oc,od,odat,osl⟩:=o;dsimp only at e2 e3;subst e2 e3;exact PySem.W.kia_tup (QpO z) I.kIn xo e1 k (λz=>nomatch z) λtk=>⟨.bl b,H,I.tok _,rfl,q⟩
theorem QAI{y:Str}{c:Value}{np:Pos}(hg:Gl X y)(hdb:(y == ("__debug__" :Str))=false)(k:PySem.W.KtsName X.K y c)(hr:RelV (vC c) c):PE X (.Name y np) (tC (vC c)):=λpins s σ H Q I h=>QsM I hg hdb k ⟨vC c,H,I,hr,h⟩
theorem Qyh{y:Str}(hsub:Qbx X.K sub)(hg:Gl X "isinstance")(hm:X.mg "isinstance" =none)(hy:Gl X y)(hdb:(y == ("__debug__" :Str))=false)(ha:SE X a fa)(he:starEach [a,.Name y p2] X.env=(false,eval a X.env)::starEach [.Name y p2] X.env):
  SE X (.Call (.Name "isinstance" p) [a,.Name y p2] [] pos) (QfM sub [y] fa):=λH0 A0 pins s σ H Q I=>exK λU hs F r' rel e q=>by
 refine Qh e λr e1 e=>?_;split at e
 ·rename_i x hd;obtain⟨b,eb,rfl⟩:=Ze.mp e;have eb':sub x y=some b:=by
   unfold anyS at eb;refine Qh eb λb' h1 h2=>?_;cases b' with
   | true=>cases h2;exact h1
   | false=>cases h2;exact h1
  obtain⟨C,c,k1,k2,k3,k4,k5⟩:=hsub x y b eb';refine QkE Qvm hg hm ZbD (Qaq (ha H0 A0) (Qaq (QAI hy hdb k2 (Qtp k4)) QcW) he) (by decide) (by decide) he (by rfl) pins s σ H Q I ?_;refine⟨U,hs,F,r,rel,e1,λv H1 G p=>?_⟩;have rp:=p.rp;rw[hd,Rp]at rp;obtain⟨⟨ea,rfl,C',hC',hH⟩,rfl⟩:=rp;cases QiW k1 hC';exact⟨C,ea,_,rfl,hH,k5,.inl ⟨c,b,rfl,k4,q _ H1 [] (.flat p.same .QcO)⟩⟩
 ·cases e
end
structure Qcf (k:Nat) (A:Around):Prop where
 dp:A.depth+3*k+5<recursionLimit
 un:A.units+16*k+200<cLine
theorem QBM{k:Nat}{A:Around}(r:Qba k A):Qcf k A:=⟨r.dp,r.un⟩
theorem Qcf.mono{j k:Nat}{A:Around}(r:Qcf k A)(h:j<=k):Qcf j A:=⟨by have:=r.dp;omega,by have:=r.un;omega⟩
theorem Qcf.deeper{k:Nat}{A:Around}(r:Qcf (k+1) A)(env:Env):Qcf k (A.deeper env):=
 ⟨by have:=r.dp;show A.depth+1+3*k+5<_;omega,by have:=r.un;show A.units+3+16*k+200<_;omega⟩
theorem Qcf.units{k:Nat}{A:Around}(r:Qcf k A):A.units+64<cLine:=by have:=r.un;omega
theorem Qcf.mark{k:Nat}{A:Around}{v:Option Value}(r:Qcf k A):Qcf k (A.mark v):=⟨r.dp,r.un⟩
structure FnH (P:Program) (w:World) (K:Fgg) (mg:Str->Option Value) (base:Heap) (k:Nat) (f:Addr) (fd:FuncData) (ps:List Str) (sp:Sp):Prop where
 len:∀vs H Q E,sp vs H Q E->vs.length=ps.length
 run:∀(A:Around) (outer:List Env) (s:Shared) (H:Hp) (args:Args) (us:List Value) (vs:List V) (Q:VK) (E:XK),Qcf k A->Qpk P w K mg base A outer s H->BindsTo s fd args (ps.zip us)->QA vs us->sp vs H Q E→
  codeAny (model P w) A (.call (.ref f) args) (CR CX0 outer P w H s Q E) s
section
variable {P:Program}{w:World}{K:Fgg}{mg:Str->Option Value}{base:Heap}
theorem FnH.mono{j k:Nat}{f:Addr}{fd:FuncData}{ps:List Str}{sp:Sp}(F:FnH P w K mg base j f fd ps sp)(h:j<=k):FnH P w K mg base k f fd ps sp:=⟨F.len,λA outer s H args us vs Q E hr=>F.run A outer s H args us vs Q E (hr.mono h)⟩
theorem QxU{x qual:Str}{st:Stmt}{f:Addr}{fd:FuncData}{N ps:List Str}{k:Nat}{sp:Sp}(F:Fun K x qual st f fd)(S:QbI N ps (Ql st))(len:∀vs H Q E,sp vs H Q E->vs.length=ps.length)
  (hbody:∀(cdv:Value) (A:Around) (outer:List Env) (s:Shared) (H:Hp) (vs:List V) (Q:VK) (E:XK),Qcf k (A.deeper (envOfC qual (Ql st) s.heap.objs.size f cdv))->sp vs H Q E→
   ∃t,PSs (Qdk CX0 P w K mg base N qual (Ql st) f cdv A outer s H E).nox (QaM st) t/\t {nx:=λ_ H'=>Q .non H',rt:=Q} (start N vs) H):FnH P w K mg base (k+1) f fd ps sp:=by
 obtain⟨oc,od,kV,doc,pm,an,cdv,ct,osl,rfl,lk,hcd⟩:=F.ex;refine⟨len,λA outer s H args us vs Q E hr e0 hb r hsp=>?_⟩;have hl:=len _ _ _ _ hsp;have KX:K.In s.heap:=e0.mod.kin.keeps λb o e=>(e0.bs b o e).1;have lim:s.heap.NoLimit:=e0.mod.nolimit.keeps λb o e=>(e0.bs b o e).1;have hkind:∀y∈ps.zip us,(Ql st).names.lookup y.1=some .local ∨((Ql st).names.lookup y.1=some .cell/\((cellsFrom (s.heap.objs.size+1) (Ql st).names []).lookup y.1).isSome=true):=λZ hy=>by
  obtain⟨n,v⟩:=Z;rcases S.par n (ZbA hy).1 with q | q
  ·exact .inl q
  ·exact .inr ⟨q,Zbo _ _ _ (.inl q)⟩
 refine codeAny_call_function (by have:=hr.dp;omega) (KX _ _ lk) rfl S.co S.gen rfl (PySem.W.codeRec_of KX hcd) (hb _ _ _ _ ?_);refine wpAny_newFunctionEnv_cells S.kind hkind λenv he s1 x=>?_;subst he;refine⟨lim.keeps x.toInCall.keep,codeAny_func ?_⟩;obtain⟨t,ht,hq⟩:=hbody cdv A outer s H vs Q E (hr.deeper _) hsp;have I:Inv (Qdk CX0 P w K mg base N qual (Ql st) f cdv A outer s H E) [] (start N vs) H s1:=Qnz S e0 hl r x;refine wpAny_mono (ht.nox [] s1 (start N vs) H _ I hq) (λfl s' hs=>?_) λe s' hs=>hs
 have fin:∀{σ':L2.St}{H':Hp}{v:V}{u:Value},Inv (Qdk CX0 P w K mg base N qual (Ql st) f cdv A outer s H E) [] σ' H' s'->RelV v u->Q v H'->CE outer P w H s Q u s':=
  λ{σ' H' v u} J rv q=>⟨v,H',J.os,J.bare,J.base,J.hok,rv,q⟩
 cases fl with
 | ret u=>obtain⟨v,σ',H',J,rv,q⟩:=hs;exact fin J rv q
 | next=>obtain⟨σ',H',J,q⟩:=hs;exact fin (v:=V.non) (u:=Value.none) J rfl q
 | brk=>obtain⟨_,_,_,q⟩:=hs;exact False.elim q
 | cont=>obtain⟨_,_,_,q⟩:=hs;exact False.elim q
end
section
variable {X:Cx}{e:Expr}{es:List Expr}{fs:DA}{pos p:Pos}{x:Str}{n k:Nat}{f:Addr}{fd:FuncData}{ps:List Str}{den:Den}
theorem Qv3(Fk:FnH X.prog X.w X.K X.mg X.base k f fd ps (spV X.K n den))(hr:Qcf k X.A)(hg:Gl X x)(hm:X.mg x=some (.ref f))(hk:PySem.W.keepIn X.K (.ref f)=true)(hb:Binds X.K fd ps [])
  (ha:SA X (e::es) fs) (hdb:(x == ("__debug__" :Str))=false) (he:starEach (e::es) X.env=(false,eval e X.env)::starEach es X.env) (hpl:(backTo pos (starEach es X.env)).any (·.1)=false):
  SE X (.Call (.Name x p) (e::es) [] pos) (Qg n den [] fs):=λH0 A0=>by
 intro pins s σ H Q I h;have h:=QiQ (X:=X) (dvs:=[]) (λH=>by simp[Rps]) h;refine wpAny_Call_Name_kw (QdQ I hg hm ?_ hdb);refine Zbk (h₀:=X.base) I.ok.mod.kin hk (thn (ha H0 A0 pos pins s σ H _ I h) λus s1 ⟨vs,H1,I1,r,q⟩=>⟨I1.kIn,?_⟩) he hpl;have r2:QA (vs++[]) (us++[]):=by rw[Zag,Zag];exact r
 have hl:(us++[]).length=ps.length:=by rw[← r2.length];exact Fk.len _ _ _ _ q
 refine wpAny_call (codeAny_mono (Fk.run X.A X.stack s1 H1 ⟨us,[]⟩ (us++[]) (vs++[]) Q E0 hr I1.Qv7 (hb s1 us I1.kIn hl) r2 q) λr s' hq=>?_);cases r with
 | error ev=>exact Qsf pins σ H1 s1 ev s' I1 hq
 | ok fl=>
  cases fl with
  | ret u=>exact I1.after hq
  | next=>exact False.elim hq
  | brk=>exact False.elim hq
  | cont=>exact False.elim hq
end
def Qfc(X:Cx)(hΓ:List (Str×FnR)):Prop:=∀x r,look x hΓ=some r->∃k f fd ps,FnH X.prog X.w X.K X.mg X.base k f fd ps (spV X.K r.n r.den)/\Qcf k X.A/\X.mg x=some (.ref f)/\PySem.W.keepIn X.K (.ref f)=true/\Binds X.K fd ps []
theorem Qfc.inH{X:Cx}{hΓ:List (Str×FnR)}{ea:Addr}(h:Qfc X hΓ):Qfc (HS.inH X ea) hΓ:=λx r e=>by
 obtain⟨k,f,fd,ps,h1,h2,h3⟩:=h x r e;exact⟨k,f,fd,ps,h1,h2.mark,h3⟩
section
variable (P:Program) (w:World) (K:Fgg) (mg:Str->Option Value) (base:Heap)
def QgU(k:Nat)(x:Str)(r:FnR):Prop:=∃f fd ps,FnH P w K mg base k f fd ps (spV K r.n r.den)/\mg x=some (.ref f)/\PySem.W.keepIn K (.ref f)=true/\Binds K fd ps []
def QeG(k:Nat)(Γ:List (Str×FnR)):Prop:=∀x r,look x Γ=some r->QgU P w K mg base k x r
end
section
variable {P:Program}{w:World}{K:Fgg}{mg:Str->Option Value}{base:Heap}
theorem QeG.nil{k:Nat}:QeG P w K mg base k []:=λx r h=>by cases h
theorem QgU.mono{j k:Nat}{x:Str}{r:FnR}(h:QgU P w K mg base j x r)(hk:j<=k):QgU P w K mg base k x r:=by
 obtain⟨f,fd,ps,h1,h2⟩:=h;exact⟨f,fd,ps,h1.mono hk,h2⟩
theorem QeG.mono{j k:Nat}{Γ:List (Str×FnR)}(t:QeG P w K mg base j Γ)(hk:j<=k):QeG P w K mg base k Γ:=λx r e=>(t x r e).mono hk
theorem QeG.cons{k:Nat}{Γ:List (Str×FnR)}{x:Str}{r:FnR}(t:QeG P w K mg base k Γ)(h:QgU P w K mg base (k+1) x r):QeG P w K mg base (k+1) ((x,r)::Γ):=λy q e=>by
 unfold look at e;split at e
 ·rename_i z;cases e;subst z;exact h
 ·exact(t y q e).mono (ZaW _)
end
theorem QCf{X:Cx}{hΓ:List (Str×FnR)}{k:Nat}(hr:Qba k X.A)(t:QeG X.prog X.w X.K X.mg X.base k hΓ):Qfc X hΓ:=λz r e=>by
 obtain⟨f',fd',ps',h1,h2⟩:=t z r e;exact⟨k,f',fd',ps',h1,QBM hr,h2⟩
noncomputable def QAC:Const->Option DE
 | .bool b=>some (dC (.bl b))
 | .int i=>some (dC (.int i))
 | _=>none
noncomputable def QDs:List Expr->Option (Expr×Expr)
 | [a,y]=>some (a,y)
 | _=>none
noncomputable def Qzz(Y:Th):Expr->Option (List Str)
 | .Name y _=>if Y.gl y=true then some [y]else none
 | _=>none
mutual
noncomputable def QbQ(n:Nat)(Y:Th)(sub:Str->Str->Option Bool)(hΓ:List (Str×FnR))(e:Expr):Option DE:=match n with
 | 0=>none
 | n+1=>match e with
  | .Name x _=>(Y.slot x).map Qq
  | .Constant v _ _=>QAC v
  | .UnaryOp o a _=>match o with
   | .Not=>(QbQ n Y sub hΓ a).map Qsn
   | _=>none
  | .BoolOp o es p=>match es with
   | []=>none
   | a::r=>match r with
    | []=>QbQ n Y sub hΓ a
    | b::r=>match o with
     | .And=>(QbQ n Y sub hΓ a).bind λfa=>(QbQ n Y sub hΓ (.BoolOp .And (b::r) p)).map λfb=>QcF fa fb
     | .Or=>(QbQ n Y sub hΓ a).bind λfa=>(QbQ n Y sub hΓ (.BoolOp .Or (b::r) p)).map λfb=>dOr fa fb
  | .BinOp a o b _=>match o with
   | .Add=>(QbQ n Y sub hΓ a).bind λfa=>(QbQ n Y sub hΓ b).map λfb=>QI fa fb
   | _=>none
  | .Call f as kw _=>match kw with
   | _::_=>none
   | []=>(Qdq f).bind λx=>if Y.gl x=true then if x= "isinstance" then(QDs as).bind λp=>(Qzz Y p.2).bind λys=>(QbQ n Y sub hΓ p.1).map λfa=>QfM sub ys fa
    else match as with
     | []=>none
     | a::as=>(look x hΓ).bind λr=>(QgV n Y sub hΓ (a::as)).map λfs=>Qg r.n r.den [] fs
    else none
  | .List es _=>(QgV n Y sub hΓ es).map QN
  | _=>none
noncomputable def QgV(n:Nat)(Y:Th)(sub:Str->Str->Option Bool)(hΓ:List (Str×FnR))(es:List Expr):Option DA:=match n with
 | 0=>none
 | n+1=>match es with
  | []=>some Qb
  | e::es=>(QbQ n Y sub hΓ e).bind λfa=>(QgV n Y sub hΓ es).map λfs=>Qa fa fs
end
theorem Qok{n:Nat}{Y:Th}{sub:Str->Str->Option Bool}{hΓ:List (Str×FnR)}{e:Expr}{f:DE}(h:QbQ n Y sub hΓ e=some f)(es:List Expr)(env:Env):starEach (e::es) env=(false,eval e env)::starEach es env:=by
 cases n with
 | zero=>exact nn h
 | succ n=>cases e<;>first | rfl | exact nn h
theorem Qpu:∀{n:Nat}{Y:Th}{sub:Str->Str->Option Bool}{hΓ:List (Str×FnR)}{es:List Expr}{fs:DA},QgV n Y sub hΓ es=some fs->∀(pos:Pos) (env:Env),(backTo pos (starEach es env)).any (·.1)=false
 | 0,_,_,_,_,_,h,_,_=>nomatch (show(none:Option DA)=some _ from h)
 | n+1,_,_,_,[],_,h,_,_=>rfl
 | n+1,_,_,_,e::es,_,h,pos,env=>by
  refine Qh (show Option.bind _ _=some _ from h) λfa h1 h=>?_;refine mapR (M:=λ_=>(backTo pos (starEach (e::es) env)).any (·.1)=false) h λfs' h2=>?_;rw[Qok h1];have:=Qpu h2 pos env;simpa[backTo]using this
theorem QBU{X:Cx}{n:Nat}{Y:Th}{sub:Str->Str->Option Bool}{hΓ:List (Str×FnR)}{a:Expr}{as:List Expr}{fs:DA}(h:QgV n Y sub hΓ (a::as)=some fs)(pos:Pos):
  starEach (a::as) X.env=(false,eval a X.env)::starEach as X.env/\(backTo pos (starEach as X.env)).any (·.1)=false:=by
 cases n with
 | zero=>exact nn h
 | succ n=>
  refine Qh (show Option.bind _ _=some _ from h) λfa h1 h=>?_;exact mapR (M:=λ_=>starEach (a::as) X.env=(false,eval a X.env)::starEach as X.env/\(backTo pos (starEach as X.env)).any (·.1)=false) h λfs' h2=>⟨Qok h1 _ _,Qpu h2 pos X.env⟩
theorem QDm{X:Cx}{Y:Th}{sub:Str->Str->Option Bool}{a e:Expr}{fa:DE}{ys:List Str}{p pos:Pos}(ok:CtxB X Y)(hs:Qbx X.K sub)(g1:Y.gl "isinstance" =true)(h:Qzz Y e=some ys)(ha:SE X a fa)(he:starEach [a,e] X.env=(false,eval a X.env)::starEach [e] X.env):SE X (.Call (.Name "isinstance" p) [a,e] [] pos) (QfM sub ys fa):=by
 obtain⟨a1,a2,a3⟩:=QcK ok g1;cases e with
 | Name y p2=>
  change(if Y.gl y=true then some [y]else none)=some ys at h;split at h
  ·rename_i g2;cases h;obtain⟨b1,b2,b3⟩:=QcK ok g2;exact Qyh hs a1 (ok.mg _ (by decide+kernel)) b1 b2 ha he
  ·cases h
 | _=>exact nomatch (show(none:Option (List Str))=some _ from h)
structure QBb (n:Nat):Prop where
 E:∀X Y sub hΓ e f,CtxB X Y->Qbx X.K sub->Qfc X hΓ->QbQ n Y sub hΓ e=some f->SE X e f
 A:∀X Y sub hΓ es f,CtxB X Y->Qbx X.K sub->Qfc X hΓ->QgV n Y sub hΓ es=some f->SA X es f
theorem QzC{n:Nat}(ih:QBb n)(X:Cx)(Y:Th)(sub:Str->Str->Option Bool)(hΓ:List (Str×FnR))(e:Expr)(f:DE)(ok:CtxB X Y)(hs:Qbx X.K sub)(hu:Qfc X hΓ)(h:QbQ (n+1) Y sub hΓ e=some f):SE X e f:=by
 have ihE:=λe f=>ih.E X Y sub hΓ e f ok hs hu;cases e with
 | Name x p=>exact mapR (show Option.map _ _=some _ from h) λi h1=>Quc (Qfv ok h1)
 | Constant v k p=>
  change QAC v=some f at h;cases v with
  | bool b=>cases h;exact QhM Qn6 (λ_ _=> .QcO) rfl
  | int i=>cases h;exact QhM QlQ (λ_ _=> .int_mk) rfl
  | _=>exact nn h
 | UnaryOp o a p=>
  cases o with
  | Not=>exact mapR (show Option.map _ _=some _ from h) λfa h1=>QtG (ihE _ fa h1)
  | _=>exact nn h
 | BoolOp o es p=>
  cases es with
  | nil=>exact nn h
  | cons a r=>
   cases r with
   | nil=>exact Qpg (ihE _ f h)
   | cons b r=>
    cases o with
    | And=>exact bindR h λfa fb h1 h2=>Qt5 (ihE _ fa h1) (ihE _ fb h2)
    | Or=>exact bindR h λfa fb h1 h2=>Qxf (ihE _ fa h1) (ihE _ fb h2)
 | BinOp a o b p=>
  cases o with
  | Add=>exact bindR h λfa fb h1 h2=>QtR (ihE _ fa h1) (ihE _ fb h2)
  | _=>exact nn h
 | Call fn as kw p=>
  cases kw with
  | cons _ _=>exact nn h
  | nil=>
   refine Qh (show(Qdq fn).bind _=some _ from h) λx hx h=>Qn8 (G:=λt=>SE X (.Call t as [] p) f) hx λnp=>?_;split at h
   ·rename_i hg;split at h
    ·rename_i hi;subst hi;refine Qh h λq hq h=>?_;rcases as with _ | ⟨a,_ | ⟨y,_ | ⟨z,as⟩⟩⟩
     ·cases hq
     ·cases hq
     ·cases hq;exact bindR h λys fa h1 h2=>QDm ok hs hg h1 (ihE _ fa h2) (Qok h2 _ _)
     ·cases hq
    ·cases as with
     | nil=>cases h
     | cons a as=>
      refine Qh h λr hr h=>?_;refine mapR h λfs h1=>?_;obtain⟨a1,a2,a3⟩:=QcK ok hg;obtain⟨k,f,fd,ps,F1,F2,F3,F4,F5⟩:=hu _ r hr;obtain⟨s1,s2⟩:=QBU (X:=X) h1 _;exact Qv3 F1 F2 a1 F3 F4 F5 (ih.A X Y sub hΓ _ fs ok hs hu h1) a2 s1 s2
   ·cases h
 | List es p=>exact mapR (show Option.map _ _=some _ from h) λfs h1=>QtW (ih.A X Y sub hΓ _ fs ok hs hu h1)
 | _=>exact nn h
theorem QhE:∀n,QBb n
 | 0=>⟨λ_ _ _ _ _ _ _ _ _ h=>(nn h),λ_ _ _ _ _ _ _ _ _ h=>(nn h)⟩
 | n+1=>⟨QzC (QhE n),λX Y sub hΓ es f ok hs hu h=>by
  cases es with
  | nil=>cases(show some Qb=some f from h);exact QgW
  | cons e es=>exact bindR h λfa fs h1 h2=>QeC ((QhE n).E X Y sub hΓ _ fa ok hs hu h1) ((QhE n).A X Y sub hΓ _ fs ok hs hu h2) (Qok h1 _ _)⟩
noncomputable def Qdr(n:Nat)(Y:Th)(sub:Str->Str->Option Bool)(hΓ:List (Str×FnR))(e:Expr):Option DT:=match n with
 | 0=>none
 | n+1=>match e with
  | .UnaryOp o a _=>match o with
   | .Not=>(Qdr n Y sub hΓ a).map QbL
   | _=>none
  | .BoolOp o es p=>match o with
   | .Or=>match es with
    | []=>none
    | a::es=>match es with
     | []=>Qdr n Y sub hΓ a
     | b::r=>(Qdr n Y sub hΓ a).bind λfa=>(Qdr n Y sub hΓ (.BoolOp .Or (b::r) p)).map λfb=>bOr fa fb
   | _=>none
  | .Call f as kw p=>(QbQ 20 Y sub hΓ (.Call f as kw p)).map QC
  | _=>none
theorem QeV:∀(n:Nat) {X:Cx}{Y:Th}{sub:Str->Str->Option Bool}{hΓ:List (Str×FnR)}{e:Expr}{f:DT},CtxB X Y->Qbx X.K sub->Qfc X hΓ->Qdr n Y sub hΓ e=some f->ST X e f
 | 0,_,_,_,_,_,_,_,_,_,h=>nomatch (show(none:Option DT)=some _ from h)
 | n+1,X,Y,sub,hΓ,e,f,ok,hs,hu,h=>by
  cases e with
  | UnaryOp op a pos=>
   cases op with
   | Not=>exact mapR (show(Qdr n Y sub hΓ a).map QbL=some f from h) λfa h1=>Qt1 (QeV n ok hs hu h1)
   | _=>exact nn h
  | BoolOp op es pos=>
   cases op with
   | And=>exact nn h
   | Or=>
    rcases es with _ | ⟨a,_ | ⟨b,r⟩⟩
    ·exact nn h
    ·exact(Qs5 (QeV n ok hs hu (show Qdr n Y sub hΓ a=some f from h))).st
    ·refine bindR (show((Qdr n Y sub hΓ a).bind λfa=>(Qdr n Y sub hΓ (.BoolOp .Or (b::r) pos)).map λfb=>bOr fa fb)=some f from h) λfa fb h1 h2=>?_;have hb:=QeV n ok hs hu h2;exact(Qxe (QeV n ok hs hu h1) (λH0 A0 wh pins s σ H Q I q=>by have:=hb H0 A0 pins s σ H Q I q;exact this)).st
  | Call g as kw p=>exact mapR (show(QbQ 20 Y sub hΓ (.Call g as kw p)).map QC=some f from h) λfa h1=>QtL ((QhE 20).E X Y sub hΓ _ fa ok hs hu h1) λ_=>rfl
  | _=>exact nn h
noncomputable def Qvi(a:List Stmt):Option Expr:=match a with
 | []=>none
 | s::r=>match r with
  | []=>match s with
   | .Return v _=>v
   | _=>none
  | _=>none
theorem Qvg{a:List Stmt}{e:Expr}(h:Qvi a=some e):∃p,a=[.Return (some e) p]:=by
 rcases a with _ | ⟨s,_ | ⟨t,r⟩⟩
 ·cases h
 ·cases s with
  | Return v p=>cases(show v=some e from h);exact⟨p,rfl⟩
  | _=>exact nn h
 ·cases h
noncomputable def Qs2(Y:Th)(sub:Str->Str->Option Bool)(hΓ:List (Str×FnR))(st:Stmt):Option DS:=match st with
 | .Assign ts e _=>(QvD ts).bind λx=>(Y.Qcj x).bind λi=>if QjQ e=false/\Qjk e=true then(QbQ 20 Y sub hΓ e).map λfa=>Qt i fa else none
 | .Return v _=>v.bind λe=>(QbQ 20 Y sub hΓ e).map λfa=>QB fa
 | .If c a b _=>match b with
  | []=>(Qvi a).bind λe=>(Qdr 20 Y sub hΓ c).bind λg=>(QbQ 20 Y sub hΓ e).map λfa=>sIf g (Qc (QB fa) Qi) Qi
  | _=>none
 | _=>none
theorem Qt3{X:Cx}{Y:Th}{sub:Str->Str->Option Bool}{hΓ:List (Str×FnR)}{st:Stmt}{f:DS}(ok:CtxB X Y)(hs:Qbx X.K sub)(hu:Qfc X hΓ)(h:Qs2 Y sub hΓ st=some f):S1 X st f:=by
 cases st with
 | Assign ts e p=>
  refine Qh (show(QvD ts).bind _=some _ from h) λx hx h'=>?_;clear h;rcases ts with _ | ⟨t,_ | ⟨t2,ts⟩⟩
  ·cases hx
  ·refine Qn8 (G:=λt=>S1 X (.Assign [t] e p) f) hx λq=>?_;refine Qh h' λi hi h=>?_;split at h
   ·rename_i hc;refine mapR h λfa h1=>?_;obtain⟨a1,a2,a3⟩:=Qc2 ok hi;exact Qlg λH0 A0=>Qi6 (by rw[ok.N];exact ok.nd) a1 a2 ((QhE 20).E X Y sub hΓ _ fa ok hs hu h1 H0 A0) (Qgm hc.2) a3
   ·cases h
  ·cases hx
 | Return v p=>
  refine Qh (show v.bind _=some _ from h) λe he h=>?_;cases he;exact mapR h λfa h1=>Qom ((QhE 20).E X Y sub hΓ _ fa ok hs hu h1)
 | If c a b p=>
  rcases b with _ | ⟨t,r⟩
  ·refine Qh (show(Qvi a).bind _=some _ from h) λe he h=>?_;obtain⟨q,rfl⟩:=Qvg he;exact bindR h λg fa h1 h2=>Qxc (QeV 20 ok hs hu h1) (QmR (Qom ((QhE 20).E X Y sub hΓ _ fa ok hs hu h2)) QlK) QlK
  ·exact nn h
 | _=>exact nn h
noncomputable def Qjc(Y:Th)(sub:Str->Str->Option Bool)(hΓ:List (Str×FnR)):List Stmt->Option DS
 | []=>some Qi
 | st::r=>(Qs2 Y sub hΓ st).bind λf=>(Qjc Y sub hΓ r).map λg=>Qc f g
theorem Qi8{X:Cx}{Y:Th}{sub:Str->Str->Option Bool}{hΓ:List (Str×FnR)}(ok:CtxB X Y)(hs:Qbx X.K sub)(hu:Qfc X hΓ):∀(sts:List Stmt) (f:DS),Qjc Y sub hΓ sts=some f->SS X sts f
 | [],f,h=>by cases(show some Qi=some f from h);exact QlK
 | st::r,f,h=>bindR h λf g h1 h2=>QmR (Qt3 ok hs hu h1) (Qi8 ok hs hu r g h2)
noncomputable def hd1(Y:Th)(y:Str)(f:DS):Option Str->Option Hd
 | none=>some (y,none,f)
 | some nm=>if look nm Y.sc=some .local then(Y.Qcj nm).map λi=>(y,some i,f)else none
noncomputable def QpN(Y:Th)(sub:Str->Str->Option Bool)(hΓ:List (Str×FnR)):List ExceptHandler->Option (List Hd)
 | []=>some []
 | .ExceptHandler t nm bs _::r=>match bs with
  | []=>none
  | b::bs=>t.bind λt=>(Qdq t).bind λy=>if Y.gl y=true then(Qjc Y sub hΓ (b::bs)).bind λf=>(hd1 Y y f nm).bind λq=>(QpN Y sub hΓ r).map λl=>q::l else none
theorem QuV{X:Cx}{Y:Th}{ea:Addr}(ok:CtxB X Y):CtxB (inH X ea) Y:=⟨ok.N,ok.nd,ok.lc,ok.ce,ok.fe,ok.gl,ok.units,ok.mg,ok.cs⟩
theorem Qnk{X:Cx}{Y:Th}{sub:Str->Str->Option Bool}{hΓ:List (Str×FnR)}(ok:CtxB X Y)(hs:Qbx X.K sub)(hu:Qfc X hΓ):∀(hds:List ExceptHandler) (hl:List Hd),QpN Y sub hΓ hds=some hl->QgH X hds hl
 | [],f,h=>by cases(show some []=some f from h);exact .nil
 | .ExceptHandler t nm bs p::r,l,h=>by
  cases bs with
  | nil=>exact nomatch (show(none:Option (List Hd))=some _ from h)
  | cons b bs=>
   refine Qh (show t.bind _=some _ from h) λt ht h=>?_;cases ht;refine Qh h λy hy h=>Qn8 (G:=λt=>QgH X (.ExceptHandler (some t) nm (b::bs) p::r) l) hy λnp=>?_;split at h
   ·rename_i hc;obtain⟨g1,g2,_⟩:=QcK ok hc;refine Qh h λf h1 h=>?_;refine bindR h λq l hq h2=>?_;have hS:=λea=>Qi8 (QuV (ea:=ea) ok) hs hu.inH _ f h1;have tl:=Qnk ok hs hu r l h2;cases nm with
    | none=>cases(show some (y,none,f)=some q from hq);exact .bare g1 g2 hS tl
    | some nm=>
     change(if look nm Y.sc=some .local then(Y.Qcj nm).map λi=>(y,some i,f)else none)=some q at hq;split at hq
     ·rename_i hn;refine mapR (M:=λq=>QgH X (.ExceptHandler (some (.Name y np)) (some nm) (b::bs) p::r) (q::l)) hq λi hi=>?_;obtain⟨a1,a2,a3⟩:=Qc2 ok hi;exact .as g1 g2 a1 (ok.lc nm hn) hS tl
     ·cases hq
   ·cases h
noncomputable def Qwz(n:Nat)(Y:Th)(YX:ThX)(sub:Str->Str->Option Bool)(hΓ:List (Str×FnR))(st:Stmt):Option DS:=match st with
 | .Try body (h::hs) [] [] _=>(QaY n Y body).bind λf=>(QeU n Y YX body).bind λfx=>(QpN Y sub hΓ (h::hs)).map λhl=>QgD f fx sub hl
 | _=>none
theorem Qx6{X:Cx}{Y:Th}{xe:Value->Shared->Prop}{pn:List (Addr×Obj)}(ok:Q7 X Y)(ht:∀st,Y.tr st=none)(hp:PassesOwn (model X.prog X.w) X.A X.env xe):Q7 (Cx.chg X xe pn) Y:=
 ⟨⟨ok.N,ok.nd,ok.lc,ok.ce,ok.fe,ok.gl,ok.units,ok.mg,ok.cs⟩,ok.calm,hp,ok.fns,λst f h=>by rw[ht st]at h;cases h⟩
theorem QyK{X:Cx}{Y:Th}{YX:ThX}{sub:Str->Str->Option Bool}{hΓ:List (Str×FnR)}{n:Nat}{st:Stmt}{f:DS}(ok:Q7 X Y)(ht:∀st,Y.tr st=none)(xk:XOk X YX)(hs:Qbx X.K sub)(hu:Qfc X hΓ)(h:Qwz n Y YX sub hΓ st=some f):S1 X st f:=by
 unfold Qwz at h;split at h
 ·rename_i body h0 hds pos;refine Qh h λfb h1 h=>?_;obtain⟨fx,hl,h2,h3,rfl⟩:=Qbp h;have hN:X.N.Nodup:=by rw[ok.N];exact ok.nd
  refine QAZ hN xk.ex xk.stk xk.fr hs.ok (λxe pn hp=>?_) (Qnk ok.toCtxB hs hu _ hl h3);have ok':=Qx6 (pn:=pn) ok ht hp;have xk':XOk (Cx.chg X xe pn) YX:=⟨xk.ex,xk.stk,xk.fr,xk.fx,xk.cl⟩;exact⟨(Qjm n).Ss _ _ _ fb ok' h1,(Qr6 n).Xs _ _ _ _ fx ok' xk' h2⟩
 ·cases h
noncomputable def thT(n:Nat)(st:Stmt)(Γ:List (Str×FnR))(cs:List (Str×Int))(YX:ThX)(sub:Str->Str->Option Bool)(hΓ:List (Str×FnR)):Th:={Qer st Γ cs with tr:=Qwz n (Qer st Γ cs) YX sub hΓ}
section
variable {P:Program}{w:World}{K:Fgg}{mg:Str->Option Value}{base:Heap}
theorem QgS{h:Heap}{x:Str}{st:Stmt}{ps:List Str}{k n m:Nat}{Γ:List (Str×FnR)}{Γx:List (Str×(Nat×(List D->Option Str)))}{cls:List Str}{cs:List (Str×Int)}{sub:Str->Str->Option Bool}{hΓ:List (Str×FnR)}{g:DS}(X:K.In h)(G:h.Ns mainGlobals mg)(F:Fact K x st)(S:QbI (namesOf (Ql st)) ps (Ql st))(B:Qaf x st ps)(M:QdY mg cs)(tab:QbA P w K mg base k Γ)(tabx:Qe9 P w K mg base k Γx)
  (hcl:∀x∈cls,Qit K x) (hs:Qbx K sub) (tabh:QeG P w K mg base k hΓ) (hc:QaY n (thT m st Γ cs ⟨Γx,cls⟩ sub hΓ) (QaM st)=some g):Known P w K mg base (k+1) x ⟨ps.length,[],Qs (namesOf (Ql st)).length g⟩:=by
 obtain⟨f,fd,Fn,a⟩:=F.ex;refine⟨f,fd,ps,?_,ZaM X G a,Fn.kp,λm hm=>⟨[],[],Fn.binds (B ·),.nil,λH=>by simp[Rps]⟩⟩;refine Fn.ok S (Qnf rfl) λcdv A outer s H vs Q E hr h=>?_;obtain⟨ds,L,d,fr,rps,hl,hd,q⟩:=h;have ok:=Quo (P:=P) (w:=w) (K:=K) (base:=base) (qual:=x) (f:=f) (outer:=outer) (H:=H) (E:=E) S M tab hr;have xk:XOk (Qdk CX0 P w K mg base (namesOf (Ql st)) x (Ql st) f cdv A outer s H E).nox ⟨Γx,cls⟩:=⟨rfl,rfl,rfl,λz r e=>by
  obtain⟨f',fd',ps',h1,h2,h3,h4,h5⟩:=tabx z r e;exact⟨k,f',fd',ps',h1,hr,h2,h3,h4,h5⟩,hcl⟩
 have ok2:Q7 (Qdk CX0 P w K mg base (namesOf (Ql st)) x (Ql st) f cdv A outer s H E).nox (thT m st Γ cs ⟨Γx,cls⟩ sub hΓ):=
  ⟨⟨ok.N,ok.nd,ok.lc,ok.ce,ok.fe,ok.gl,ok.units,ok.mg,ok.cs⟩,ok.calm,ok.pass,ok.fns,λst' f' h'=>QyK ok (λ_=>rfl) xk hs (QCf hr tabh) h'⟩
 refine⟨_,(Qjm n).Ss _ _ _ g ok2 hc H L,?_⟩;obtain⟨F0,rel⟩:=Qgc (N:=namesOf (Ql st)) rps;unfold Qs at hd;refine Qh hd λo ho hd=>?_;refine⟨_,[],F0,o,rel,ho,?_⟩;cases o with
 | nx U=>
  cases hd;exact λσ H' F' rel'=>q .non H' [] ⟨rel'.same,.QlG,λa ha=>by simp at ha,λ_=>⟨ZaD,rfl,λa ha=>by simp at ha⟩⟩
 | bk U=>cases hd
 | ct U=>cases hd
 | rt d' fr'=>
  cases hd;exact λv H' G r=>q v H' G r
theorem Qy3{h:Heap}{x:Str}{st:Stmt}{ps:List Str}{k:Nat}{cs:List (Str×Int)}{sub:Str->Str->Option Bool}{hΓ:List (Str×FnR)}{g:DS}(X:K.In h)(G:h.Ns mainGlobals mg)(F:Fact K x st)(S:QbI (namesOf (Ql st)) ps (Ql st))(B:Qaf x st ps)(M:QdY mg cs)
  (hs:Qbx K sub) (tabh:QeG P w K mg base k hΓ) (hc:Qjc (Qer st [] cs) sub hΓ (QaM st)=some g):QgU P w K mg base (k+1) x ⟨ps.length,[],Qs (namesOf (Ql st)).length g⟩:=by
 obtain⟨f,fd,Fn,a⟩:=F.ex;refine⟨f,fd,ps,?_,ZaM X G a,Fn.kp,Fn.binds (B ·)⟩;refine QxU Fn S (Qnf rfl) λcdv A outer s H vs Q E hr h=>?_;obtain⟨ds,L,d,fr,rps,hl,hd,q⟩:=h
 have ok:CtxB (Qdk CX0 P w K mg base (namesOf (Ql st)) x (Ql st) f cdv A outer s H E).nox (Qer st [] cs):=
  ⟨rfl,S.nd,λx h=>by rw[Qa2]at h;exact h,λx h=>by rw[Qa2]at h;exact⟨h,rfl⟩,λx h=>by rw[Qa2]at h;exact absurd rfl (S.nofree _ (Zae h)),λx h=>by rw[Qa2]at h;exact h,hr.units,M.bn,M.cs⟩
 refine⟨_,Qi8 ok hs (λz r e=>by
   obtain⟨f',fd',ps',h1,h2⟩:=tabh z r e;exact⟨k,f',fd',ps',h1,hr,h2⟩) _ g hc H L,?_⟩
 obtain⟨F0,rel⟩:=Qgc (N:=namesOf (Ql st)) rps;unfold Qs at hd;refine Qh hd λo ho hd=>?_;refine⟨_,[],F0,o,rel,ho,?_⟩;cases o with
 | nx U=>
  cases hd;exact λσ H' F' rel'=>q .non H' [] ⟨rel'.same,.QlG,λa ha=>by simp at ha,λ_=>⟨ZaD,rfl,λa ha=>by simp at ha⟩⟩
 | bk U=>cases hd
 | ct U=>cases hd
 | rt d' fr'=>
  cases hd;exact λv H' G r=>q v H' G r
end
end HS
namespace HS
open PySem PySem.Spec L2 PyProof.Rows
section
variable {K:Fgg}{x y:Str}{C C':Addr}{v:Bool}
theorem QyA(a:PySem.W.nsIn K mainGlobals x=some (some (.ref C)))(b:PySem.W.excIn K C [.type "ValueError",.type "Exception",.type "BaseException",.type "object"] "ValueError.__new__" =true):Qit K x:=⟨⟨C,a,b⟩⟩
def XK1(K:Fgg)(x:Str):Prop:=∃C,ClsAt K x C/\QhR K C
theorem QCc(a:PySem.W.nsIn K mainGlobals x=some (some (.ref C)))(h1:PySem.W.isClsIn K C=true)(h2:PySem.W.findIn K (.ref C) "__getattribute__" =some (some (.builtin "BaseException.__getattribute__")))(h3:PySem.W.findIn K (.ref C) "__getattr__" =some none)
  (h4:PySem.W.findIn K (.ref C) "__class__" =some (some (.builtin "object.__class__"))) (h5:PySem.W.mroIn K C (.type "object")=some true) (h6:PySem.W.subIn K (.ref C) (.type "BaseException")=some true):XK1 K x:=⟨C,a,h1,h2,h3,h4,h5,h6⟩
def Qoc(K:Fgg)(x y:Str)(b:Bool):Prop:=∃C c,ClsAt K x C/\PySem.W.KtsName K y c/\PySem.W.exmOne K (.ref C) c=some b/\PySem.W.kitOne K (.ref C) c=some b
theorem Qva(a:PySem.W.nsIn K mainGlobals x=some (some (.ref C)))(b:PySem.W.nsIn K mainGlobals y=some (some (.ref C')))(c:PySem.W.exmOne K (.ref C) (.ref C')=some v)(d:PySem.W.kitOne K (.ref C) (.ref C')=some v):Qoc K x y v:=⟨C,_,a,.inl b,c,d⟩
theorem Qya(a:PySem.W.nsIn K mainGlobals x=some (some (.ref C)))(b:PySem.W.nsIn K mainGlobals "ValueError" =some none)(c:PySem.W.exmOne K (.ref C) (.type "ValueError")=some v)(d:PySem.W.kitOne K (.ref C) (.type "ValueError")=some v):Qoc K x "ValueError" v:=
 ⟨C,_,a,.inr ⟨b,PyProof.Rows.Boot.«ValueError»,by decide⟩,c,d⟩
noncomputable def Qmn(K:Fgg)(x:Str):List (Str×Bool)->Prop
 | []=>True
 | q::r=>Qoc K x q.1 q.2/\Qmn K x r
noncomputable def SubL(K:Fgg):List (Str×List (Str×Bool))->Prop
 | []=>True
 | q::r=>(XK1 K q.1/\Qmn K q.1 q.2)/\SubL K r
noncomputable def Qw4(tab:List (Str×List (Str×Bool))):Str->Str->Option Bool:=λx y=>(look x tab).bind λr=>look y r
theorem QkJ{α:Type}:∀{x:Str}{l:List (Str×α)}{a:α},look x l=some a->(x,a)∈l
 | x,[],a,h=>by cases h
 | x,(y,b)::r,a,h=>by
  unfold look at h;split at h
  ·rename_i e;cases h;subst e;exact Zg
  ·exact Zc _ (QkJ h)
theorem Qmn.mem:∀{r:List (Str×Bool)},Qmn K x r->∀q∈r,Qoc K x q.1 q.2
 | [],_,q,h=>by simp at h
 | p::r,h,q,hq=>by
  rcases Zn.mp hq with rfl | hq
  ·exact h.1
  ·exact Qmn.mem h.2 q hq
theorem SubL.mem:∀{t:List (Str×List (Str×Bool))},SubL K t->∀q∈t,XK1 K q.1/\Qmn K q.1 q.2
 | [],_,q,h=>by simp at h
 | p::r,h,q,hq=>by
  rcases Zn.mp hq with rfl | hq
  ·exact h.1
  ·exact SubL.mem h.2 q hq
theorem Qzf{tab:List (Str×List (Str×Bool))}(h:SubL K tab):Qbx K (Qw4 tab):=λx y b e=>by
 refine Qh e λr h1 h2=>?_;obtain⟨⟨C,k1,k2⟩,k3⟩:=h.mem _ (QkJ h1);obtain⟨C',c,m1,m2,m3,m4⟩:=k3.mem _ (QkJ h2);cases QiW k1 m1;exact⟨C,c,k1,m2,m3,m4,k2⟩
noncomputable def QA8(K:Fgg):List Str->Prop
 | []=>True
 | x::r=>Qit K x/\QA8 K r
theorem Qq5:∀{l:List Str},QA8 K l->∀x∈l,Qit K x
 | [],_,x,h=>by simp at h
 | y::l,h,x,hx=>by
  rcases Zn.mp hx with rfl | hx
  ·exact h.1
  ·exact Qq5 h.2 x hx
end
end HS
namespace HS
open PySem PySem.Spec L2
def Ap(f:DS)(fx:DX):Prop:=∀U,fx U≠none->f U=none
def ApF(d:Den)(xd:List D->Option Str):Prop:=∀ds,xd ds≠none->d ds=none
theorem Qbt{f:DS}:Ap f xNo:=λU h=>absurd rfl h
theorem Qay{x:Str}{fs:DA}:Ap Qw (Qd7 x fs):=λU h=>rfl
theorem QaW{f g:DS}{fx gx:DX}(a:Ap f fx)(b:Ap g gx):Ap (Qc f g) (Qaa f fx gx):=λU h=>by
 unfold Qaa at h;unfold Qc;split at h
 ·rename_i U' e;rw[e];exact b U' h
 ·exact absurd rfl h
 ·rename_i e;rw[e];rfl
theorem QcL{c:DT}{f g:DS}{fx gx:DX}(a:Ap f fx)(b:Ap g gx):Ap (sIf c f g) (xIf c fx gx):=λU h=>by
 unfold xIf at h;unfold sIf;cases e:c U with
 | none=>rfl
 | some v=>
  rw[e,Za]at h;rw[Za];cases v with
  | true=>rw[if_pos rfl]at h ⊢;exact a U h
  | false=>rw[if_neg ZV]at h ⊢;exact b U h
theorem Qb7{fi:DI}{t:Tg}{fb:DS}{fx:DX}(a:Ap fb fx):Ap (Qbh fi t fb) (QiM fi t fb fx):=λU h=>by
 unfold QiM at h;unfold Qbh;cases e:fi U with
 | none=>rfl
 | some ir=>
  rw[e,Za]at h;rw[Za];clear e;revert h;generalize ir.items=ds;generalize Qa7 ir.M U=U0
  induction ds generalizing U0 with
  | nil=>exact λh=>absurd rfl h
  | cons d ds ih=>
   intro h;unfold QeP at h;unfold Qdc;cases e1:QbB t d U0 with
   | none=>rfl
   | some U1=>
    rw[e1,Za]at h;rw[Za];split at h
    ·rename_i U2 e2;rw[e2,Za];exact ih U2 h
    ·rename_i U2 e2;rw[e2,Za];exact ih U2 h
    ·exact absurd rfl h
    ·rename_i e2;rw[e2];rfl
theorem QjK{n:Nat}{d:Den}{xd:List D->Option Str}{fs:DA}(a:ApF d xd){U:En}(h:Qac n xd fs U≠none):Qg n d [] fs U=none:=by
 unfold Qac at h;unfold Qg;cases e:fs U with
 | none=>rfl
 | some r=>
  rw[e,Za]at h;rw[Za];split at h
  ·rename_i hl;rw[if_pos (by simpa using hl),Zag,a r.ds (λz=>h (by rw[z];rfl))];rfl
  ·exact absurd rfl h
theorem Qan{n:Nat}{d:Den}{xd:List D->Option Str}{fs:DA}(a:ApF d xd):Ap (Qal (Qg n d [] fs)) (Qac n xd fs):=λU h=>by unfold Qal;rw[QjK a h];rfl
theorem Qbi{n i:Nat}{d:Den}{xd:List D->Option Str}{fs:DA}(a:ApF d xd):Ap (Qt i (Qg n d [] fs)) (Qac n xd fs):=λU h=>by unfold Qt;rw[QjK a h];rfl
theorem Qfk{k:Nat}{f:DS}{fx:DX}(a:Ap f fx):ApF (Qs k f) (Qak k fx):=λds h=>by
 unfold Qak at h;unfold Qs;rw[a _ λz=>h (by rw[z];rfl)];rfl
def QcC(f:DX)(U:En)(x:Str):Prop:=∃U',f U=some (x,U')
theorem Qkn{x:Str}{fs:DA}{U:En}{r:RA}(h:fs U=some r)(hl:r.ds.length<=1):QcC (Qd7 x fs) U x:=⟨U,by unfold Qd7;rw[h,Za,if_pos hl]⟩
theorem QcA{n:Nat}{xd:List D->Option Str}{fs:DA}{U:En}{r:RA}{x:Str}(h:fs U=some r)(hl:r.ds.length=n)(hx:xd r.ds=some x):QcC (Qac n xd fs) U x:=⟨U,by unfold Qac;rw[h,Za,if_pos hl,hx];rfl⟩
theorem QrD{g:DT}{fa fb:DX}{b:Bool}{U:En}{x:Str}(h:g U=some b)(q1:b=true->QcC fa U x)(q2:b=false->QcC fb U x):QcC (xIf g fa fb) U x:=by
 cases b with
 | true=>obtain⟨o,h1⟩:=q1 rfl;exact⟨o,by simp[xIf,h,h1]⟩
 | false=>obtain⟨o,h1⟩:=q2 rfl;exact⟨o,by simp[xIf,h,h1]⟩
theorem QaD{f:DS}{fx fr:DX}{U:En}{x:Str}(a:Ap f fx)(q:QcC fx U x):QcC (Qaa f fx fr) U x:=by
 obtain⟨o,h⟩:=q;exact⟨o,by unfold Qaa;rw[a U (by rw[h];exact λz=>by cases z)];exact h⟩
theorem Qm9{f:DS}{fx fr:DX}{U:En}{x:Str}(h:Run f U (Nx λU'=>QcC fr U' x)):QcC (Qaa f fx fr) U x:=by
 obtain⟨o,h1,h2⟩:=h;cases o with
 | nx U'=>obtain⟨o,h3⟩:=h2;exact⟨o,by unfold Qaa;rw[h1];exact h3⟩
 | _=>exact h2.elim
theorem Qz5{α:Type}{fi:DI}{t:Tg}{fb:DS}{fx:DX}{toD:α->D}{U:En}{ir:IR}{c:Str}(a:Ap fb fx)(xs:List α)(I:Nat->En->Prop)(k:Nat)(hk:k<xs.length)(h:fi U=some ir)(hx:ir.items=xs.map toD)(h0:I 0 (Qa7 ir.M U))
  (turn:∀i x U,i<k->xs[i]? =some x->I i U->∃U1,QbB t (toD x) U=some U1/\Run fb U1 (Nx λU2=>I (i+1) U2))
  (here:∀x U,xs[k]? =some x->I k U->∃U1,QbB t (toD x) U=some U1/\QcC fx U1 c):QcC (QiM fi t fb fx) U c:=by
 unfold QcC QiM;rw[h,Za,hx];clear h hx;have gen:∀(n:Nat) (i:Nat) (U:En),k-i=n->i<=k->I i U->∃U',QeP t fb fx ((xs.drop i).map toD) U=some (c,U'):=by
  intro n
  induction n with
  | zero=>
   intro i U e hi hI;obtain rfl:i=k:= ⋯
   rw[Zab hk,Zp];unfold QeP;obtain⟨U1,e1,U2,e2⟩:=here xs[i] U (by simp[hk]) hI;refine⟨U2,?_⟩;rw[e1,Za,a U1 (by rw[e2];exact λz=>by cases z)];exact e2
  | succ n ih=>
   intro i U e hi hI;have hlt:i<xs.length:= ⋯
   rw[Zab hlt,Zp];unfold QeP;obtain⟨U1,e1,o,e2,e3⟩:=turn i xs[i] U ⋯ (by simp[hlt]) hI;cases o with
   | nx U2=>
    obtain⟨U',e4⟩:=ih (i+1) U2 ⋯ ⋯ e3;exact⟨U',by rw[e1,Za,e2];exact e4⟩
   | _=>exact e3.elim
 have:=gen (k-0) 0 _ rfl (ZO _) h0;simpa using this
theorem Qcs{k:Nat}{f:DX}{ds:List D}{x:Str}(h:QcC f (Qav k ds) x):Qak k f ds=some x:=by
 obtain⟨U,e⟩:=h;unfold Qak;rw[e];rfl
theorem Qf6{f:DS}{fx:DX}{sub:Str->Str->Option Bool}{y:Str}{i:Nat}{h:DS}{r:List Hd}{x:Str}{U U':En}{Q:Out->Prop}(a:Ap f fx)(e:fx U=some (x,U'))(hs:sub x y=some true)(q:Run h (U'.set i (some (.exc x,true))) λo=>Q (QzZ i o)):Run (QgD f fx sub ((y,some i,h)::r)) U Q:=by
 obtain⟨o,h1,h2⟩:=q;refine⟨_,?_,h2⟩;unfold QgD;rw[a U (by rw[e];exact λz=>by cases z)];dsimp only;rw[e,Za];unfold QrG;rw[hs,Za,if_pos rfl];dsimp only;rw[h1];rfl
noncomputable def QeH:DX:=(Qaa (Qbh (Qar vv1) (.nm 2) (Qc (sIf (QC (dOp gNe (dBf Qbz (Qa vv2 Qb)) (Qv vv0 kk0))) (Qc Qw Qi) Qi) Qi)) (QiM (Qar vv1) (.nm 2) (Qc (sIf (QC (dOp gNe (dBf Qbz (Qa vv2 Qb)) (Qv vv0 kk0))) (Qc Qw Qi) Qi) Qi) (Qaa (sIf (QC (dOp gNe (dBf Qbz (Qa vv2 Qb)) (Qv vv0 kk0))) (Qc Qw Qi) Qi) (xIf (QC (dOp gNe (dBf Qbz (Qa vv2 Qb)) (Qv vv0 kk0))) (Qaa Qw (Qd7 "NoRow" (Qa (dC (.str "a row has one number for each place of the net, a full row one more")) Qb)) xNo) xNo) xNo)) xNo)
theorem Qx8:ApF (Qs 3 Qdu) (Qak 3 QeH):=Qfk (by unfold Qdu QeH;repeat (first | exact Qbt | exact Qay | assumption | apply QaW | apply QcL | apply Qb7 | apply Qan | apply Qbi | apply ap_ret))
def Qgd(xd:List D->Option Str):Prop:=∀(m:Int) (R L:Lpp) (xs:List (List D)) (k:Nat),k<xs.length->(∀i x,i<k->xs[i]? =some x->(x.length:Int)=m)->(∀x,xs[k]? =some x->(x.length:Int)≠m)->xd [Qj m R L,.lst (xs.map .lst)]=some "NoRow"
theorem QwS:Qgd (Qak 3 QeH):=λm R L xs k hk h1 h2=>by
 refine Qcs (QaD (Qb7 (by repeat (first | exact Qbt | exact Qay | assumption | apply QaW | apply QcL | apply Qb7 | apply Qan | apply Qbi | apply ap_ret))) (Qz5 (by repeat (first | exact Qbt | exact Qay | assumption | apply QaW | apply QcL | apply Qb7 | apply Qan | apply Qbi | apply ap_ret)) (toD:=λx=> .lst x) xs (λ_ U=>∃j2,U=[slF (Qj m R L),slF (.lst (xs.map .lst)),j2]) k hk (ir:=⟨xs.map .lst,[]⟩) rfl rfl ⟨none,rfl⟩ ?_ ?_))
 ·rintro i x U hi hx ⟨j2,rfl⟩;refine⟨_,rfl,?_⟩;refine run_seq (QY (b:=false) (QH (QeS (QfK (xs:=x) (r:=reF (.lst x)) rfl rfl) rfl (QbX (m:=m) (R:=R) (L:=L) (r:=reF (Qj m R L)) rfl rfl).1 rfl) (by simp[h1 i x hi hx])) (λh=>by cases h) (λ_=>Qu (Qu ⟨_,rfl⟩)))
 ·rintro x U hx ⟨j2,rfl⟩;refine⟨_,rfl,?_⟩;refine QaD (by repeat (first | exact Qbt | exact Qay | assumption | apply QaW | apply QcL | apply Qb7 | apply Qan | apply Qbi | apply ap_ret)) (QrD (b:=true) (QH (QeS (QfK (xs:=x) (r:=reF (.lst x)) rfl rfl) rfl (QbX (m:=m) (R:=R) (L:=L) (r:=reF (Qj m R L)) rfl rfl).1 rfl) (by simp[h2 x hx])) (λ_=>?_) (λh=>by cases h));exact QaD Qay (Qkn rfl (Zj _))
noncomputable def Qjt(Q0:Den)(Qz:Den)(x_need_rows:List D->Option Str):DX:=(Qaa (Qal (Qg 2 Qz [] (Qa vv0 (Qa (QN (Qa vv1 (Qa vv2 Qb))) Qb)))) (Qac 2 x_need_rows (Qa vv0 (Qa (QN (Qa vv1 (Qa vv2 Qb))) Qb))) (Qaa (Qt 3 (dList (Qa vv1 Qb))) xNo (Qaa (Qbh (Qaw (Qg 1 Q0 [] (Qa vv0 Qb)) vv2) (.tp [4,5]) (Qc (Qt 3 (QQ (Qaw vv3 vv4) (.tp [1,2]) [none,none,none,some 5] Q8 (QI vv1 (Qaz vv3 vv2)))) Qi)) (QiM (Qaw (Qg 1 Q0 [] (Qa vv0 Qb)) vv2) (.tp [4,5]) (Qc (Qt 3 (QQ (Qaw vv3 vv4) (.tp [1,2]) [none,none,none,some 5] Q8 (QI vv1 (Qaz vv3 vv2)))) Qi) (Qaa (Qt 3 (QQ (Qaw vv3 vv4) (.tp [1,2]) [none,none,none,some 5] Q8 (QI vv1 (Qaz vv3 vv2)))) xNo xNo)) (Qaa (QB vv3) xNo xNo))))
theorem Qvy{dn dt:Den}{xn:List D->Option Str}(h:ApF dn xn):ApF (Qs 6 (QjE dn dt)) (Qak 6 (Qjt dt dn xn)):=Qfk (by unfold QjE Qjt;repeat (first | exact Qbt | exact Qay | assumption | apply QaW | apply QcL | apply Qb7 | apply Qan | apply Qbi | apply ap_ret))
def QoW(xd:List D->Option Str):Prop:=∀(m:Int) (R L:Lpp) (a b:List D),(a.length:Int)≠m∨(b.length:Int)≠m->xd [Qj m R L,.lst a,.lst b]=some "NoRow"
theorem Qur{dn dt:Den}{xn:List D->Option Str}(h:ApF dn xn)(hx:Qgd xn):QoW (Qak 6 (Qjt dt dn xn)):=λm R L a b hab=>by
 refine Qcs (QaD (Qan h) (QcA (r:=⟨[Qj m R L,.lst [.lst a,.lst b]],_,_⟩) rfl rfl ?_));by_cases ha:(a.length:Int)=m
 ·have hb:(b.length:Int)≠m:=by rcases hab with z | z<;>first | exact absurd ha z | exact z
  exact hx m R L [a,b] 1 (by simp) (λi x hi e=>by
   obtain rfl:i=0:= ⋯
   cases e;exact ha) (λx e=>by cases e;exact hb)
 ·exact hx m R L [a,b] 0 (by simp) (λi x hi e=> ⋯) (λx e=>by cases e;exact ha)
end HS
namespace HS
open PySem L2
theorem Qiu{n:Nat}{d:Den}{xd:List D->Option Str}{fs:DA}{U:En}{r:RA}{x:Str}(a:ApF d xd)(h:fs U=some r)(hl:r.ds.length=n)(hx:xd r.ds=some x):Qaa (Qal (Qg n d [] fs)) (Qac n xd fs) xNo U=some (x,U):=by
 have e:Qac n xd fs U=some (x,U):=by unfold Qac;rw[h,Za,if_pos hl,hx];rfl
 unfold Qaa;rw[Qan a U (by rw[e];exact λz=>by cases z)];exact e
theorem Qhg{sub:Str->Str->Option Bool}{ys:List Str}{fa:DE}{U:En}{x:Str}{b:Bool}(h:fa U=some ⟨.exc x,true,[]⟩)(hs:anyS sub x ys=some b):QfM sub ys fa U=some (reT (.bl b)):=by
 unfold QfM;rw[h,Za];dsimp only;rw[hs];rfl
theorem any_cons{sub:Str->Str->Option Bool}{x y:Str}{ys:List Str}{b c:Bool}(h:sub x y=some b)(t:anyS sub x ys=some c):anyS sub x (y::ys)=some (b || c):=by
 unfold anyS;rw[h,Za,t];rfl
theorem Qt7{fa:DE}{lo hi:DO}{U:En}{ra:R}{xs:List D}{l h:Option Int}(ha:fa U=some ra)(ea:ra.d= .lst xs)(hl:lo U=some l)(hh:hi U=some h)(hf:QT xs=true):Qeb fa lo hi U=some (reT (.lst (cutD xs l h))):=by
 unfold Qeb;rw[ha,Za,hl,Za,hh,Za,ea];dsimp only;unfold Qat
 rw[if_pos];unfold cutD;generalize HT.sIx xs.length 0 l=a;generalize HT.sIx xs.length xs.length h-a=b;have d1:∀(n:Nat) (xs:List D),QT xs=true->QT (xs.drop n)=true:=λn=>by
  induction n with
  | zero=>exact λxs h=>by simpa using h
  | succ n ih=>exact λxs h=>by cases xs with
   | nil=>rfl
   | cons d ds=>simp only[QT,Zh]at h;exact ih ds h.2
 have d2:∀(n:Nat) (xs:List D),QT xs=true->QT (xs.take n)=true:=λn=>by
  induction n with
  | zero=>exact λxs h=>by rw[List.take_zero];rfl
  | succ n ih=>exact λxs h=>by cases xs with
   | nil=>rfl
   | cons d ds=>simp only[QT,Zh]at h;rw[ZbG];simp only[QT,Zh];exact⟨h.1,ih ds h.2⟩
 exact d2 _ _ (d1 _ _ hf)
noncomputable def QdR(QbC:Den):DX:=(Qaa (sIf (QbL (QC (Qg 1 QbC [] (Qa vv0 Qb)))) (Qc Qw Qi) Qi) (xIf (QbL (QC (Qg 1 QbC [] (Qa vv0 Qb)))) (Qaa Qw (Qd7 "NotPlain" (Qa (dC (.str "this is told of nets without lanes alone")) Qb)) xNo) xNo) xNo)
theorem QuO{dp:Den}:ApF (Qs 1 (Qc4 dp)) (Qak 1 (QdR dp)):=Qfk (by unfold Qc4 QdR;repeat (first | exact Qbt | exact Qay | assumption | apply QaW | apply QcL | apply Qb7 | apply Qan | apply Qbi | apply ap_ret))
def Qep(xd:List D->Option Str):Prop:=∀(m:Int) (R L:Lpp),L≠[]->xd [Qj m R L]=some "NotPlain"
theorem Qun{dp:Den}(hp:QjG dp):Qep (Qak 1 (QdR dp)):=λm R L hL=>by
 have:decide ((L.length:Int)=0)=false:=decide_eq_false (by cases L with | nil=>exact absurd rfl hL | cons a l=>simp;omega);refine Qcs (QaD (by repeat (first | exact Qbt | exact Qay | assumption | apply QaW | apply QcL | apply Qb7 | apply Qan | apply Qbi | apply ap_ret)) (QrD (b:=true) (Qcn (b:=false) (QH (b:=false) (Qp (r:=⟨[Qj m R L],false,[]⟩) rfl (hp m R L) rfl) ?_)) (λ_=>QaD Qay (Qkn rfl (Zj _))) (λh=>by cases h)));show D.bl _=_;rw[this]
theorem none_or{n k:Nat}{d d1:Den}{x x1:List D->Option Str}{gs fs:DA}(a1:ApF d1 x1)(a:ApF d x){U:En}(h:xOr (Qac k x1 gs) (Qac n x (Qa (Qg k d1 [] gs) fs)) U≠none):Qg n d [] (Qa (Qg k d1 [] gs) fs) U=none:=by
 unfold xOr at h;split at h
 ·rename_i q e;have z:=QjK (n:=k) (fs:=gs) a1 (U:=U) (by rw[e];exact λz=>by cases z);have zc:Qa (Qg k d1 [] gs) fs U=none:=by show(Qg k d1 [] gs U).bind _=none;rw[z];rfl
  show(Qa (Qg k d1 [] gs) fs U).bind _=none;rw[zc];rfl
 ·exact QjK a h
theorem Qc6{n k:Nat}{d d1:Den}{x x1:List D->Option Str}{gs fs:DA}(a1:ApF d1 x1)(a:ApF d x):Ap (Qal (Qg n d [] (Qa (Qg k d1 [] gs) fs))) (xOr (Qac k x1 gs) (Qac n x (Qa (Qg k d1 [] gs) fs))):=λU h=>by unfold Qal;rw[none_or a1 a h];rfl
theorem QdL{n k:Nat}{d d1:Den}{x x1:List D->Option Str}{gs fs:DA}(a1:ApF d1 x1)(a:ApF d x):Ap (QB (Qg n d [] (Qa (Qg k d1 [] gs) fs))) (xOr (Qac k x1 gs) (Qac n x (Qa (Qg k d1 [] gs) fs))):=λU h=>by unfold QB;rw[none_or a1 a h];rfl
theorem Qtx{f g:DX}{U:En}{x:Str}(h:QcC f U x):QcC (xOr f g) U x:=let ⟨U',e⟩:=h;⟨U',by unfold xOr;rw[e]⟩
theorem QtZ{f g:DX}{U:En}{x:Str}(h0:f U=none)(h:QcC g U x):QcC (xOr f g) U x:=let ⟨U',e⟩:=h;⟨U',by unfold xOr;rw[h0];exact e⟩
theorem Qt9{d:Den}{x:List D->Option Str}(a:ApF d x){ds:List D}{r:D×Bool}(h:d ds=some r):x ds=none:=by
 cases e:x ds with
 | none=>rfl
 | some c=>rw[a ds (by rw[e];exact λz=>by cases z)]at h;cases h
theorem Ql8{n:Nat}{x:List D->Option Str}{fs:DA}{U:En}{r:RA}(h:fs U=some r)(e:x r.ds=none):Qac n x fs U=none:=by
 unfold Qac;rw[h,Za,e];split<;>rfl
noncomputable def Qfj(QaO:Den)(x_need_plain:List D->Option Str):DX:=(Qaa (Qal (Qg 1 QaO [] (Qa vv0 Qb))) (Qac 1 x_need_plain (Qa vv0 Qb)) (Qaa (QB (QaF (Qa (QI (Qv vv0 kk0) kk1) (Qa (Qv vv0 kk1) (Qa (Qv vv0 kk2) Qb))))) xNo xNo))
noncomputable def Qef(QG:Den)(QaL:Den)(x_with_pit:List D->Option Str)(x_after:List D->Option Str):DX:=(Qaa (QB (Qg 3 QaL [] (Qa (Qg 1 QG [] (Qa vv0 Qb)) (Qa vv1 (Qa vv2 Qb))))) (xOr (Qac 1 x_with_pit (Qa vv0 Qb)) (Qac 3 x_after (Qa (Qg 1 QG [] (Qa vv0 Qb)) (Qa vv1 (Qa vv2 Qb))))) xNo)
noncomputable def Qhy(QaL:Den)(QdK:Den)(QaE:Den)(Qab:Den)(Qz:Den)(QG:Den)(x_need_rows:List D->Option Str)(x_with_pit:List D->Option Str):DX:=(Qaa (Qt 2 (Qg 1 QG [] (Qa vv0 Qb))) (Qac 1 x_with_pit (Qa vv0 Qb)) (Qaa (Qal (Qg 2 Qz [] (Qa vv2 (Qa (QN (Qa vv1 Qb)) Qb)))) (Qac 2 x_need_rows (Qa vv2 (Qa (QN (Qa vv1 Qb)) Qb))) (Qaa (Qt 3 (QQ (Qaw (Qg 1 Qab [] (Qa vv0 Qb)) vv1) (.tp [1,2]) [none,none,none] Q8 (dOp QaI (dOp QaI vv1 kk1) vv2))) xNo (Qaa (Qt 4 (QI (Qg 1 QaE [] (Qa (Qv (Qg 2 QdK [] (Qa vv0 (Qa vv3 Qb))) kk1) Qb)) (QN (Qa kk0 Qb)))) xNo (Qaa (QB (QaF (Qa (Qg 3 QaL [] (Qa vv2 (Qa vv1 (Qa vv4 Qb)))) (Qa vv4 Qb)))) xNo xNo)))))
noncomputable def QeK(Q1:Den)(x_lowest:List D->Option Str):DX:=(Qaa (Qt 2 (Qg 2 Q1 [] (Qa vv0 (Qa vv1 Qb)))) (Qac 2 x_lowest (Qa vv0 (Qa vv1 Qb))) (Qaa (QB (QjH (dOp gGe (Qv (Qv vv2 kk0) (Qv vv0 kk0)) kk0) 2)) xNo xNo))
noncomputable def Qdn(Qb2:Den)(Q1:Den)(QG:Den)(Qz:Den)(x_with_pit:List D->Option Str)(x_need_rows:List D->Option Str):DX:=(Qaa (Qal (Qg 2 Qz [] (Qa (Qg 1 QG [] (Qa vv0 Qb)) (Qa (QN (Qa vv1 Qb)) Qb)))) (xOr (Qac 1 x_with_pit (Qa vv0 Qb)) (Qac 2 x_need_rows (Qa (Qg 1 QG [] (Qa vv0 Qb)) (Qa (QN (Qa vv1 Qb)) Qb)))) (Qaa (sIf (bOr (QC (dOp gGt (Qv vv0 kk0) kk4)) (QC (dOp gGt (dBf Qfn (Qa vv1 Qb)) kk6))) (Qc Qw Qi) Qi) (xIf (bOr (QC (dOp gGt (Qv vv0 kk0) kk4)) (QC (dOp gGt (dBf Qfn (Qa vv1 Qb)) kk6))) (Qaa Qw (Qd7 "TooMany" (Qa (dC (.str "worth is told of nets of at most 4 places and full rows of at most 6 grains")) Qb)) xNo) xNo) (Qaa (Qt 2 (QdU kk1)) xNo (Qaa (Qt 3 (QN (Qa (Qv (Qg 2 Q1 [] (Qa vv0 (Qa vv1 Qb))) kk0) Qb))) xNo (Qaa (Qco (QC (dBf QhG (Qa (QQ (Qar vv3) (.nm 1) [none,none,some 0] Q8 (dOp gGe (Qv vv1 (Qv vv2 kk0)) kk0)) Qb))) (Qc (Qik (gI λi j=>some (.int (i+j))) 2 kk1) (Qc (Qt 3 (Qg 2 Qb2 [] (Qa vv0 (Qa vv3 Qb)))) Qi))) xNo (Qaa (QB vv2) xNo xNo))))))
noncomputable def Qdx(Qab:Den)(Qz:Den)(QG:Den)(x_need_rows:List D->Option Str)(x_with_pit:List D->Option Str):DX:=(Qaa (Qt 2 (Qg 1 QG [] (Qa vv0 Qb))) (Qac 1 x_with_pit (Qa vv0 Qb)) (Qaa (Qal (Qg 2 Qz [] (Qa vv2 (Qa (QN (Qa vv1 Qb)) Qb)))) (Qac 2 x_need_rows (Qa vv2 (Qa (QN (Qa vv1 Qb)) Qb))) (Qaa (QB (QQ (Qaw (Qg 1 Qab [] (Qa vv2 Qb)) vv1) (.tp [1,2]) [none,none,none] Q8 (dOp QaI (dOp QaI vv1 kk2) vv2))) xNo xNo)))
theorem Qyy{dp:Den}{xp:List D->Option Str}(h:ApF dp xp):ApF (Qs 1 (Qfi dp)) (Qak 1 (Qfj dp xp)):=Qfk (by unfold Qfi Qfj;repeat (first | exact Qbt | exact Qay | assumption | (apply Qc6<;>assumption) | (apply QdL<;>assumption) | apply QaW | apply QcL | apply Qb7 | apply Qan | apply Qbi | apply ap_ret))
theorem Qvd{dw da:Den}{xw xa:List D->Option Str}(h1:ApF dw xw)(h2:ApF da xa):ApF (Qs 3 (Qd3 dw da)) (Qak 3 (Qef dw da xw xa)):=Qfk (by unfold Qd3 Qef;repeat (first | exact Qbt | exact Qay | assumption | (apply Qc6<;>assumption) | (apply QdL<;>assumption) | apply QaW | apply QcL | apply Qb7 | apply Qan | apply Qbi | apply ap_ret))
theorem QBt{dw dn ds da dop dft:Den}{xn xw:List D->Option Str}(h1:ApF dw xw)(h2:ApF dn xn):ApF (Qs 5 (Qho dw dn ds da dop dft)) (Qak 5 (Qhy dft da dop ds dn dw xn xw)):=Qfk (by unfold Qho Qhy;repeat (first | exact Qbt | exact Qay | assumption | (apply Qc6<;>assumption) | (apply QdL<;>assumption) | apply QaW | apply QcL | apply Qb7 | apply Qan | apply Qbi | apply ap_ret))
theorem Qyr{dl:Den}{xl:List D->Option Str}(h1:ApF dl xl):ApF (Qs 3 (QeJ dl)) (Qak 3 (QeK dl xl)):=Qfk (by unfold QeJ QeK;repeat (first | exact Qbt | exact Qay | assumption | (apply Qc6<;>assumption) | (apply QdL<;>assumption) | apply QaW | apply QcL | apply Qb7 | apply Qan | apply Qbi | apply ap_ret))
theorem QvW{dw dn dl d1:Den}{xn xw:List D->Option Str}(h1:ApF dw xw)(h2:ApF dn xn):ApF (Qs 4 (Qdw dw dn dl d1)) (Qak 4 (Qdn d1 dl dw dn xw xn)):=Qfk (by unfold Qdw Qdn;repeat (first | exact Qbt | exact Qay | assumption | (apply Qc6<;>assumption) | (apply QdL<;>assumption) | apply QaW | apply QcL | apply Qb7 | apply Qan | apply Qbi | apply ap_ret))
theorem Qvs{dw dn ds:Den}{xn xw:List D->Option Str}(h1:ApF dw xw)(h2:ApF dn xn):ApF (Qs 3 (Qdy dw dn ds)) (Qak 3 (Qdx ds dn dw xn xw)):=Qfk (by unfold Qdy Qdx;repeat (first | exact Qbt | exact Qay | assumption | (apply Qc6<;>assumption) | (apply QdL<;>assumption) | apply QaW | apply QcL | apply Qb7 | apply Qan | apply Qbi | apply ap_ret))
theorem QuG{dp:Den}{xp:List D->Option Str}(h:ApF dp xp)(px:Qep xp):Qep (Qak 1 (Qfj dp xp)):=λm R L hL=>Qcs (QaD (Qan h) (QcA (r:=⟨[Qj m R L],false,[]⟩) rfl rfl (px m R L hL)))
structure Qdh (xd:List D->Option Str):Prop where
 pl:∀(m:Nat) (R L:Lpp) (a:List D),L≠[]->xd [Qj m R L,.lst a]=some ("NotPlain" :Str)
 nr:∀(m:Nat) (R:Lpp) (a:List D),a.length≠m+1->xd [Qj m R [],.lst a]=some ("NoRow" :Str)
theorem QBR{xn:List D->Option Str}(hx:Qgd xn){m:Nat}{R:Lpp}{a:List D}(h:a.length≠m+1):xn [Qj ((m+1:Nat):Int) R [],.lst [.lst a]]=some ("NoRow" :Str):=
 hx ((m+1:Nat):Int) R [] [a] 0 (by simp) (λi x hi=> ⋯) λx e=>by cases e;omega
theorem Qmo{m:Nat}{R:Lpp}{a:List D}{U:En}{xn:List D->Option Str}(hx:Qgd xn)(h:a.length≠m+1){fs:DA}{r:RA}(e:fs U=some r)(er:r.ds=[Qj ((m+1:Nat):Int) R [],.lst [.lst a]]):QcC (Qac 2 xn fs) U "NoRow" :=QcA e (by rw[er];rfl) (by rw[er];exact QBR hx h)
section
variable {dw dn:Den}{xn xw:List D->Option Str}
theorem Qxs{ds da dop dft:Den}(h1:ApF dw xw)(h2:ApF dn xn)(hw:Qcm dw)(px:Qep xw)(hx:Qgd xn):Qdh (Qak 5 (Qhy dft da dop ds dn dw xn xw)) where
 pl:=λm R L a hL=>Qcs (QaD (Qbi h1) (QcA (r:=⟨[Qj m R L],false,[]⟩) rfl rfl (px m R L hL)))
 nr:=λm R a ha=>Qcs (Qm9 (QL (Qcc (r:=⟨[Qj m R []],false,[]⟩) rfl (hw m R) rfl) (by
  rw[Qgh rfl];exact QaD (Qan h2) (Qmo hx ha (r:=⟨[Qj ((m+1:Nat):Int) R [],.lst [.lst a]],false,[]⟩) rfl rfl))))
theorem Qtu{ds:Den}(h1:ApF dw xw)(h2:ApF dn xn)(hw:Qcm dw)(px:Qep xw)(hx:Qgd xn):Qdh (Qak 3 (Qdx ds dn dw xn xw)) where
 pl:=λm R L a hL=>Qcs (QaD (Qbi h1) (QcA (r:=⟨[Qj m R L],false,[]⟩) rfl rfl (px m R L hL)))
 nr:=λm R a ha=>Qcs (Qm9 (QL (Qcc (r:=⟨[Qj m R []],false,[]⟩) rfl (hw m R) rfl) (by
  rw[Qgh rfl];exact QaD (Qan h2) (Qmo hx ha (r:=⟨[Qj ((m+1:Nat):Int) R [],.lst [.lst a]],false,[]⟩) rfl rfl))))
theorem Qwj{dl:Den}{xl:List D->Option Str}(h1:ApF dl xl)(fx:Qdh xl):Qdh (Qak 3 (QeK dl xl)) where
 pl:=λm R L a hL=>Qcs (QaD (Qbi h1) (QcA (r:=⟨[Qj m R L,.lst a],false,[]⟩) rfl rfl (fx.pl m R L a hL)))
 nr:=λm R a ha=>Qcs (QaD (Qbi h1) (QcA (r:=⟨[Qj m R [],.lst a],false,[]⟩) rfl rfl (fx.nr m R a ha)))
theorem Qti{dl d1:Den}(h1:ApF dw xw)(h2:ApF dn xn)(hw:Qcm dw)(px:Qep xw)(hx:Qgd xn):Qdh (Qak 4 (Qdn d1 dl dw dn xw xn)) where
 pl:=λm R L a hL=>Qcs (QaD (Qc6 h1 h2) (Qtx (QcA (r:=⟨[Qj m R L],false,[]⟩) rfl rfl (px m R L hL))))
 nr:=λm R a ha=>Qcs (QaD (Qc6 h1 h2) (QtZ (Ql8 (r:=⟨[Qj m R []],false,[]⟩) rfl (Qt9 h1 (hw m R))) (Qmo hx ha (Qm (Qcc (r:=⟨[Qj m R []],false,[]⟩) rfl (hw m R) rfl) (Qm (r:=reF (.lst [.lst a])) rfl (QJ _))) rfl)))
def Qn7(xd:List D->Option Str):Prop:=∀(m:Nat) (R:Lpp) (f:Mt1),4<m∨6<Qo (m+1) f->xd [Qj m R [],Qd (m+1) f]=some ("TooMany" :Str)
theorem Qv4{dl d1:Den}(hw:Qcm dw)(hn:Qen dn):Qn7 (Qak 4 (Qdn d1 dl dw dn xw xn)):=λm R f h=>Qcs (Qm9 (Qcu (Qp (Qm (Qcc (r:=⟨[Qj m R []],false,[]⟩) rfl (hw m R) rfl) (Qm (r:=reF (.lst [Qd (m+1) f])) rfl (QJ _))) (hn (m+1) R [] [f]) rfl) (by
 refine QaD (QcL (QaW Qay Qbt) Qbt) (QrD (b:=decide (4<(m:Int)) || decide (6<Qo (m+1) f)) (Qcw (QH (Qg2 (a:=(m:Int)) (b:=4) (QbX (m:=m) (R:=R) (L:=[]) (r:=reF (Qj m R [])) rfl rfl).1 rfl rfl rfl) rfl) (QH (Qg2 (a:=Qo (m+1) f) (b:=6) (QmL (r:=reF (Qd (m+1) f)) rfl rfl) rfl rfl rfl) rfl)) (λ_=>QaD Qay (Qkn (r:=⟨[.str "worth is told of nets of at most 4 places and full rows of at most 6 grains"],true,[]⟩) rfl (by decide))) λz=>?_);exfalso;rcases h with h | h
 ·rw[decide_eq_true (show(4:Int)<(m:Int) by omega)]at z;cases z
 ·rw[decide_eq_true h,Bool.or_true]at z;cases z)))
structure Qpv (xd:List D->Option Str):Prop where
 pl:∀(m:Nat) (R L:Lpp) (a b:List D),L≠[]->xd [Qj m R L,.lst a,.lst b]=some ("NotPlain" :Str)
 nr:∀(m:Nat) (R:Lpp) (a b:List D),a.length≠m+1∨b.length≠m+1->xd [Qj m R [],.lst a,.lst b]=some ("NoRow" :Str)
theorem Qub{da:Den}{xa:List D->Option Str}(h1:ApF dw xw)(h2:ApF da xa)(hw:Qcm dw)(px:Qep xw)(ax:QoW xa):Qpv (Qak 3 (Qef dw da xw xa)) where
 pl:=λm R L a b hL=>Qcs (QaD (QdL h1 h2) (Qtx (QcA (r:=⟨[Qj m R L],false,[]⟩) rfl rfl (px m R L hL))))
 nr:=λm R a b hab=>Qcs (QaD (QdL h1 h2) (QtZ (Ql8 (r:=⟨[Qj m R []],false,[]⟩) rfl (Qt9 h1 (hw m R))) (QcA (Qm (Qcc (r:=⟨[Qj m R []],false,[]⟩) rfl (hw m R) rfl) (Qm (r:=reF (.lst a)) rfl (Qm (r:=reF (.lst b)) rfl (QJ _)))) rfl (ax ((m+1:Nat):Int) R [] a b ⋯))))
end
structure Qed (sub:Str->Str->Option Bool) (x:Str) (w:Nat):Prop where
 he:sub x "HeapError" =some true
 ve:sub x "ValueError" =some true
 nn:sub x "NoNet" =some false
 nh:sub x "NoHeap" =some false
 nr:sub x "NoRow" =some (decide (w=0))
 np:sub x "NotPlain" =some (decide (w=1))
 tm:sub x "TooMany" =some (decide (w=2))
noncomputable def Qcr(w:Nat):D:= .lst [.bl (decide (w=0)),.bl (decide (w=1)),.bl (decide (w=2))]
theorem Qjn(w:Nat):(Qcr w).sim 8=true:=rfl
noncomputable def Qld(sub:Str->Str->Option Bool):DS:=(Qc (sIf (bOr (QbL (QC (QfM sub ["ValueError"] vv0))) (bOr (QC (QfM sub ["NoNet"] vv0)) (QC (QfM sub ["NoHeap"] vv0)))) (Qc (QB (QN Qb)) Qi) Qi) (Qc (QB (QN (Qa (QfM sub ["NoRow"] vv0) (Qa (QfM sub ["NotPlain"] vv0) (Qa (QfM sub ["TooMany"] vv0) Qb))))) Qi))
def QdI(sub:Str->Str->Option Bool)(d:Den):Prop:=∀x w,Qed sub x w->d [.exc x]=some (Qcr w,true)
theorem QsO{sub:Str->Str->Option Bool}:QdI sub (Qs 1 (Qld sub)):=λx w h=>by
 refine QU ?_;refine Qy (QY (b:=false) (Qcw (a:=false) (b:=false) (Qcn (b:=true) (QH (Qhg (x:=x) rfl (any_cons h.ve (ys:=[]) rfl)) rfl)) (Qcw (a:=false) (b:=false) (QH (Qhg (x:=x) rfl (any_cons h.nn (ys:=[]) rfl)) rfl) (QH (Qhg (x:=x) rfl (any_cons h.nh (ys:=[]) rfl)) rfl))) (λz=>by cases z) λ_=>Qu ?_);refine QF ((Qe2 (Qm (Qhg (x:=x) rfl (any_cons h.nr (ys:=[]) rfl)) (Qm (Qhg (x:=x) rfl (any_cons h.np (ys:=[]) rfl)) (Qm (Qhg (x:=x) rfl (any_cons h.tm (ys:=[]) rfl)) (QJ _)))) (by simp)).trans rfl) ⟨?_,rfl⟩;simp only[Bool.or_false];rfl
noncomputable def Qkx(Q1:Den)(QaB:Den)(x_lowest:List D->Option Str)(sub:Str->Str->Option Bool):DS:=(Qc (QgD (Qc (Qal (Qg 2 Q1 [] (Qa vv0 (Qa vv1 Qb)))) Qi) (Qaa (Qal (Qg 2 Q1 [] (Qa vv0 (Qa vv1 Qb)))) (Qac 2 x_lowest (Qa vv0 (Qa vv1 Qb))) xNo) sub [("HeapError",some 2,(Qc (QB (Qg 1 QaB [] (Qa vv2 Qb))) Qi))]) (Qc (QB (QN Qb)) Qi))
noncomputable def Qm6(QaV:Den)(QaB:Den)(x_made_good:List D->Option Str)(sub:Str->Str->Option Bool):DS:=(Qc (QgD (Qc (Qal (Qg 2 QaV [] (Qa vv0 (Qa vv1 Qb)))) Qi) (Qaa (Qal (Qg 2 QaV [] (Qa vv0 (Qa vv1 Qb)))) (Qac 2 x_made_good (Qa vv0 (Qa vv1 Qb))) xNo) sub [("HeapError",some 2,(Qc (QB (Qg 1 QaB [] (Qa vv2 Qb))) Qi))]) (Qc (QB (QN Qb)) Qi))
noncomputable def Qmf(QaC:Den)(QaB:Den)(x_row_worth:List D->Option Str)(sub:Str->Str->Option Bool):DS:=(Qc (QgD (Qc (Qal (Qg 2 QaC [] (Qa vv0 (Qa vv1 Qb)))) Qi) (Qaa (Qal (Qg 2 QaC [] (Qa vv0 (Qa vv1 Qb)))) (Qac 2 x_row_worth (Qa vv0 (Qa vv1 Qb))) xNo) sub [("HeapError",some 2,(Qc (QB (Qg 1 QaB [] (Qa vv2 Qb))) Qi))]) (Qc (QB (QN Qb)) Qi))
noncomputable def Qhe(QaS:Den)(QaB:Den)(x_counterpart:List D->Option Str)(sub:Str->Str->Option Bool):DS:=(Qc (QgD (Qc (Qal (Qg 2 QaS [] (Qa vv0 (Qa vv1 Qb)))) Qi) (Qaa (Qal (Qg 2 QaS [] (Qa vv0 (Qa vv1 Qb)))) (Qac 2 x_counterpart (Qa vv0 (Qa vv1 Qb))) xNo) sub [("HeapError",some 2,(Qc (QB (Qg 1 QaB [] (Qa vv2 Qb))) Qi))]) (Qc (QB (QN Qb)) Qi))
def Qb6(sub:Str->Str->Option Bool)(xf:List D->Option Str)(d:Den):Prop:=∀(m:Int) (R L:Lpp) (xs:List D) (x:Str) (w:Nat),Qed sub x w->xf [Qj m R L,.lst xs]=some x->d [Qj m R L,.lst xs]=some (Qcr w,true)
theorem QoZ{df dk:Den}{xf:List D->Option Str}{sub:Str->Str->Option Bool}(h1:ApF df xf)(hk:QdI sub dk):Qb6 sub xf (Qs 3 (Qkx df dk xf sub)):=λm R L xs x w hw hf=>by
 refine QU ?_;refine Qy (Qf6 (x:=x) (U':=[slF (Qj m R L),slF (.lst xs),none]) (QaW (Qan h1) Qbt) (Qiu h1 (r:=⟨[Qj m R L,.lst xs],_,_⟩) rfl rfl hf) hw.he ?_);exact Qy (Qbo (Qp (r:=⟨[.exc x],true,[]⟩) rfl (hk x w hw) rfl) ⟨rfl,rfl⟩)
theorem QrC{df dk:Den}{xf:List D->Option Str}{sub:Str->Str->Option Bool}(h1:ApF df xf)(hk:QdI sub dk):Qb6 sub xf (Qs 3 (Qm6 df dk xf sub)):=λm R L xs x w hw hf=>by
 refine QU ?_;refine Qy (Qf6 (x:=x) (U':=[slF (Qj m R L),slF (.lst xs),none]) (QaW (Qan h1) Qbt) (Qiu h1 (r:=⟨[Qj m R L,.lst xs],_,_⟩) rfl rfl hf) hw.he ?_);exact Qy (Qbo (Qp (r:=⟨[.exc x],true,[]⟩) rfl (hk x w hw) rfl) ⟨rfl,rfl⟩)
theorem Qqc{df dk:Den}{xf:List D->Option Str}{sub:Str->Str->Option Bool}(h1:ApF df xf)(hk:QdI sub dk):Qb6 sub xf (Qs 3 (Qmf df dk xf sub)):=λm R L xs x w hw hf=>by
 refine QU ?_;refine Qy (Qf6 (x:=x) (U':=[slF (Qj m R L),slF (.lst xs),none]) (QaW (Qan h1) Qbt) (Qiu h1 (r:=⟨[Qj m R L,.lst xs],_,_⟩) rfl rfl hf) hw.he ?_);exact Qy (Qbo (Qp (r:=⟨[.exc x],true,[]⟩) rfl (hk x w hw) rfl) ⟨rfl,rfl⟩)
theorem QjR{df dk:Den}{xf:List D->Option Str}{sub:Str->Str->Option Bool}(h1:ApF df xf)(hk:QdI sub dk):Qb6 sub xf (Qs 3 (Qhe df dk xf sub)):=λm R L xs x w hw hf=>by
 refine QU ?_;refine Qy (Qf6 (x:=x) (U':=[slF (Qj m R L),slF (.lst xs),none]) (QaW (Qan h1) Qbt) (Qiu h1 (r:=⟨[Qj m R L,.lst xs],_,_⟩) rfl rfl hf) hw.he ?_);exact Qy (Qbo (Qp (r:=⟨[.exc x],true,[]⟩) rfl (hk x w hw) rfl) ⟨rfl,rfl⟩)
noncomputable def Qlp(QaN:Den)(QaB:Den)(x_full_after:List D->Option Str)(sub:Str->Str->Option Bool):DS:=(Qc (QgD (Qc (Qal (Qg 3 QaN [] (Qa vv0 (Qa vv1 (Qa vv2 Qb))))) Qi) (Qaa (Qal (Qg 3 QaN [] (Qa vv0 (Qa vv1 (Qa vv2 Qb))))) (Qac 3 x_full_after (Qa vv0 (Qa vv1 (Qa vv2 Qb)))) xNo) sub [("HeapError",some 3,(Qc (QB (Qg 1 QaB [] (Qa vv3 Qb))) Qi))]) (Qc (QB (QN Qb)) Qi))
def QmQ(sub:Str->Str->Option Bool)(xf:List D->Option Str)(d:Den):Prop:=∀(m:Int) (R L:Lpp) (xs ys:List D) (x:Str) (w:Nat),Qed sub x w->xf [Qj m R L,.lst xs,.lst ys]=some x->d [Qj m R L,.lst xs,.lst ys]=some (Qcr w,true)
theorem Qp3{df dk:Den}{xf:List D->Option Str}{sub:Str->Str->Option Bool}(h1:ApF df xf)(hk:QdI sub dk):QmQ sub xf (Qs 4 (Qlp df dk xf sub)):=λm R L xs ys x w hw hf=>by
 refine QU ?_;refine Qy (Qf6 (x:=x) (U':=[slF (Qj m R L),slF (.lst xs),slF (.lst ys),none]) (QaW (Qan h1) Qbt) (Qiu h1 (r:=⟨[Qj m R L,.lst xs,.lst ys],_,_⟩) rfl rfl hf) hw.he ?_);exact Qy (Qbo (Qp (r:=⟨[.exc x],true,[]⟩) rfl (hk x w hw) rfl) ⟨rfl,rfl⟩)
noncomputable def QiV(Qb8:Den)(Qcv:Den)(Qdb:Den)(QaK:Den)(Qbq:Den):DS:=(Qc (sIf (bOr (QC (dOp gNe (Qg 3 Qb8 [] (Qa vv0 (Qa (dList (Qa vv1 Qb)) (Qa (dList (Qa vv2 Qb)) Qb)))) vv3)) (QC (dOp gNe (Qg 3 Qb8 [] (Qa vv0 (Qa (dList (Qa vv2 Qb)) (Qa (dList (Qa vv1 Qb)) Qb)))) vv3))) (Qc (QB (dC (.bl false))) Qi) Qi) (Qc (sIf (bOr (QC (dOp gNe (Qg 2 Qcv [] (Qa vv0 (Qa (dList (Qa vv1 Qb)) Qb))) vv3)) (QC (dOp gNe (Qg 2 Qdb [] (Qa vv0 (Qa (dList (Qa vv1 Qb)) Qb))) vv3))) (Qc (QB (dC (.bl false))) Qi) Qi) (Qc (QB (QcF (dOp gEq (Qg 2 QaK [] (Qa vv0 (Qa (dList (Qa vv1 Qb)) Qb))) vv3) (dOp gEq (Qg 2 Qbq [] (Qa vv0 (Qa (dList (Qa vv1 Qb)) Qb))) vv3))) Qi)))
structure Qzu (m:Nat) (R L:Lpp) (x:Str) (xfa xl xg xw xc:List D->Option Str) (a b:List Int):Prop where
 f1:xfa [Qj m R L,QO a,QO b]=some x
 f2:xfa [Qj m R L,QO b,QO a]=some x
 l:xl [Qj m R L,QO a]=some x
 g:xg [Qj m R L,QO a]=some x
 w:xw [Qj m R L,QO a]=some x
 c:xc [Qj m R L,QO a]=some x
def QkX(sub:Str->Str->Option Bool)(xfa xl xg xw xc:List D->Option Str)(d:Den):Prop:=∀(m:Nat) (R L:Lpp) (a b:List Int) (x:Str) (w:Nat),a.length<=1000->b.length<=1000->Qed sub x w->Qzu m R L x xfa xl xg xw xc a b->d [Qj m R L,QO a,QO b,Qcr w]=some (.bl true,true)
theorem QuB{sub:Str->Str->Option Bool}{xfa xl xg xw xc:List D->Option Str}{da dl dg dw dc:Den}(ha:QmQ sub xfa da)(hl:Qb6 sub xl dl)(hg:Qb6 sub xg dg)(hw:Qb6 sub xw dw)(hc:Qb6 sub xc dc):QkX sub xfa xl xg xw xc (Qs 4 (QiV da dl dg dw dc)):=λm R L a b x w la lb way F=>by
 refine QU ?_;have eA:∀{U:En},U[1]? =some (slF (QO a))->dList (Qa (Qq 1) Qb) U=some (reT (QO a)):=λh=>Qi4 (b:=false) (k:=a) (Qm (Qbw h) (QJ _)) rfl ⋯;have eB:∀{U:En},U[2]? =some (slF (QO b))->dList (Qa (Qq 2) Qb) U=some (reT (QO b)):=λh=>Qi4 (b:=false) (k:=b) (Qm (Qbw h) (QJ _)) rfl ⋯;have ne:∀{fa:DE}{U:En},fa U=some ⟨Qcr w,true,[]⟩->U[3]? =some (some (Qcr w,false))->QC (dOp gNe fa (Qq 3)) U=some false:=λh h3=>QH (Qs1 (d:=Qcr w) h rfl (Qbw h3) rfl (Qjn w)) rfl;have eq:∀{fa:DE}{U:En},fa U=some ⟨Qcr w,true,[]⟩->U[3]? =some (some (Qcr w,false))->dOp gEq fa (Qq 3) U=some (reT (.bl true)):=λh h3=>QqX (d:=Qcr w) h rfl (Qbw h3) rfl (Qjn w);refine Qy (QY (b:=false) (Qcw (a:=false) (b:=false) (ne (Qp (Qm (r:=reF (Qj m R L)) rfl (Qm (eA rfl) (Qm (eB rfl) (QJ _)))) (ha m R L _ _ x w way F.f1) rfl) rfl) (ne (Qp (Qm (r:=reF (Qj m R L)) rfl (Qm (eB rfl) (Qm (eA rfl) (QJ _)))) (ha m R L _ _ x w way F.f2) rfl) rfl)) (λz=>by cases z) λ_=>Qu ?_);refine Qy (QY (b:=false) (Qcw (a:=false) (b:=false) (ne (Qp (Qm (r:=reF (Qj m R L)) rfl (Qm (eA rfl) (QJ _))) (hl m R L _ x w way F.l) rfl) rfl) (ne (Qp (Qm (r:=reF (Qj m R L)) rfl (Qm (eA rfl) (QJ _))) (hg m R L _ x w way F.g) rfl) rfl)) (λz=>by cases z) λ_=>Qu ?_);exact QF (Qd5 (a:=true) (b:=true) (eq (Qp (Qm (r:=reF (Qj m R L)) rfl (Qm (eA rfl) (QJ _))) (hw m R L _ x w way F.w) rfl) rfl) (eq (Qp (Qm (r:=reF (Qj m R L)) rfl (Qm (eA rfl) (QJ _))) (hc m R L _ x w way F.c) rfl) rfl)) ⟨rfl,rfl⟩
noncomputable def QgZ(Q2:Den)(QeM:Den)(QeI:Den):DS:=(Qc (Qt 3 (QI kk1 (dOp Qag (Qg 2 Q2 [] (Qa vv0 (Qa kk0 Qb))) vv1))) (Qc (Qt 4 (dOp Qag (dOp QbU (Qg 2 Q2 [] (Qa vv0 (Qa kk1 Qb))) kk6) Qnv)) (Qc (Qt 5 (dOp Qag (Qg 2 Q2 [] (Qa vv0 (Qa kk1 Qb))) kk6)) (Qc (Qt 6 (Qg 5 QeI [] (Qa (Qg 3 QeM [] (Qa vv3 (Qa vv4 (Qa vv5 Qb)))) (Qa (Qeb vv0 (QcJ kk2) (QcJ QzK)) (Qa vv3 (Qa vv5 (Qa vv2 Qb))))))) (Qc (sIf (QC (dOp gEq (dOp Qag vv4 kk2) kk1)) (Qc (Qt 6 (Qow vv6 (QdU kk1))) Qi) Qi) (Qc (Qt 7 (QQ (Qar vv6) (.tp [1,2,3]) [none,none,none,none] (QbL (QC vv3)) (QaF (Qa (dBf Qmg (Qa vv1 (Qa vv2 Qb))) (Qa (dBf Ql5 (Qa vv1 (Qa vv2 Qb))) Qb))))) (Qc (Qt 8 (QQ (Qar vv6) (.tp [1,2,3]) [none,none,none,none] (QC vv3) (QaF (Qa vv1 (Qa vv2 Qb))))) (Qc (QB (QaF (Qa vv3 (Qa vv7 (Qa vv8 Qb))))) Qi))))))))
def Qm4(d:Den):Prop:=∀(ns:List Int) (most:Nat) (room:Int),ns.length<=63->0<most->most<=8->∃(m:Nat) (R L:Lpp),d [.lst (ns.map .int),.int most,.int room]=some (Qj m R L,true)/\0<m/\m<=most/\Q6 m R L
theorem QuE{dc db dm:Den}(hc:QlN dc)(hb:Qot db)(hm:QmM dm):Qm4 (Qs 9 (QgZ dc db dm)):=λns most room hl hm0 hm8=>by
 have b1:=ZJ (ns.getD 0 0) (by omega:(most:Int)≠0);have b2:=ZM (ns.getD 0 0) (by omega:(0:Int)<most);obtain⟨m1,em1⟩:∃m:Nat,(m:Int)=1+ns.getD 0 0 % most:=⟨(1+ns.getD 0 0 % most).toNat,⋯⟩;have t1:=ZJ (ns.getD 1 0 / 6) (by decide:(1000003:Int)≠0);have t2:=ZM (ns.getD 1 0 / 6) (by decide:(0:Int)<1000003);generalize et:ns.getD 1 0 / 6 % 1000003=t at t1 t2;generalize ek:ns.getD 1 0 % 6=kind;have key:Run (QgZ dc db dm) (Qav 9 [.lst (ns.map .int),.int most,.int room]) (Rt λd fr=>∃(m:Nat) (R L:Lpp),d=Qj m R L/\fr=true/\0<m/\m<=most/\Q6 m R L):=by
  have cell:∀(U:En) (k:Nat),U[0]? =some (slF (.lst (ns.map .int)))->Qg 2 dc [] (Qa (Qq 0) (Qa (dC (.int k)) Qb)) U=some (reI (ns.getD k 0)):=λU k h0=>Qp (Qm (Qbw h0) (Qm (Qje _ _) (QJ _))) (hc ns k) rfl;refine rsa (Qau (a:=1) rfl rfl (Qam (b:=most) (cell _ 0 rfl) rfl rfl rfl ⋯) rfl) ?_;rw[← em1];refine rsa (Qam (b:=1000003) (Qf8 (b:=6) (cell _ 1 rfl) rfl rfl rfl (by decide) (by decide)) rfl rfl rfl (by decide)) ?_;rw[et];refine rsa (Qam (b:=6) (cell _ 1 rfl) rfl rfl rfl (by decide)) ?_;rw[ek];have m0:0<m1:= ⋯
  have m8:m1<=most:= ⋯
  obtain⟨cs,hcs,esl⟩:=QvG (a:=2) (b:=12) (fa:=Qq 0) (ns:=ns) (U:=[slF (.lst (ns.map .int)),slI most,slI room,slI m1,slI t,slI kind,none,none,none]) (r:=reF (.lst (ns.map .int))) rfl rfl;have hbase:=hb m1 t kind ⋯ ⋯ t1 ⋯;obtain⟨W',fr,hmore,hw1,hw2⟩:=hm m1 (QcI m1 t kind) cs kind room ⋯ ⋯ (by rw[QoQ];omega) Qpn;have gW:∀w∈QcI m1 t kind++W',GoodW m1 w:=λw hw=>(ZH.mp hw).elim (Qpn w) (hw2 w);have easgM:∀fr,asg 6 (if fr=true then(reT (Qah (QcI m1 t kind++W')))else R.norm (reF (Qah (QcI m1 t kind++W')))) [slF (.lst (ns.map .int)),slI most,slI room,slI m1,slI t,slI kind,none,none,none]=[slF (.lst (ns.map .int)),slI most,slI room,slI m1,slI t,slI kind,some (Qah (QcI m1 t kind++W'),fr),none,none]:=λfr=>by cases fr<;>rfl
  refine run_seq (QL (r:=if fr=true then(reT (Qah (QcI m1 t kind++W')))else R.norm (reF (Qah (QcI m1 t kind++W')))) ?_ ?_)
  ·exact(Qcc (Qm (Qp (r:=⟨[.int m1,.int t,.int kind],true,[]⟩) rfl hbase rfl) (Qm esl (rs:=⟨[.int m1,.int kind,.int room],true,[]⟩) rfl)) hmore rfl).trans (by cases fr<;>rfl)
  refine(congrArg (λU=>Run _ U _) (easgM fr)).mpr ?_;refine Qca (P:=λU=>∃W b,(∀w∈QcI m1 t kind,w∈W)/\(∀w∈W,GoodW m1 w)/\W.length<=200/\U=[slF (.lst (ns.map .int)),slI most,slI room,slI m1,slI t,slI kind,some (Qah W,b),none,none]) ?_ ?_
  ·have hlen:(QcI m1 t kind++W').length<=200:=by rw[Zz,QoQ];omega
   refine QY (QH (Qa5 (Qam rfl rfl rfl rfl (by decide)) rfl rfl rfl) rfl) (λ_=>?_) (λ_=>?_)
   ·refine run_seq (QL (QsS rfl) (Qu ?_));rw[Qbb];exact⟨_,true,λw hw=>List.mem_reverse.mpr (Zf _ hw),λw hw=>gW w (List.mem_reverse.mp hw),by rw[ZbH];exact hlen,rfl⟩
   ·exact Qu ⟨_,fr,λw hw=>Zf _ hw,gW,hlen,rfl⟩
  ·rintro U ⟨W,b,w1,w2,w3,rfl⟩;refine rsa (QvH (Qbw rfl) (by cases b<;>rfl)) ?_;refine rsa (Qwi (Qbw rfl) (by cases b<;>rfl)) ?_;exact QF rfl ⟨m1,Qdd W,QdO W,rfl,rfl,m0,m8,⟨W,QuW.mono w1,w2,w3,rfl,rfl⟩⟩
 obtain⟨o,h1,h2⟩:=key;cases o with
 | rt d fr=>
  obtain⟨m,R,L,rfl,rfl,h3,h4,h5⟩:=h2;exact⟨m,R,L,by unfold Qs;rw[h1];rfl,h3,h4,h5⟩
 | _=>exact h2.elim
noncomputable def Qi1:DS:=(Qc (sIf (QC (dOp gEq (dOp Qag vv1 kk4) kk0)) (Qc (QB (QI vv0 (QN (Qa (QI kk1 (dOp Qag (dOp QbU vv1 kk4) kk9)) Qb)))) Qi) Qi) (Qc (sIf (QC (dOp gEq (dOp Qag vv1 kk4) kk1)) (Qc (QB (Qeb vv0 (QcJ kk1) Qff)) Qi) Qi) (Qc (sIf (QC (dOp gEq (dOp Qag vv1 kk4) kk2)) (Qc (QB (QN Qb)) Qi) Qi) (Qc (QB (QI vv0 vv0)) Qi))))
def QmI(d:Den):Prop:=∀(a:List Int) (c:Int),2<=a.length->a.length<=100->∃b:List Int,d [QO a,.int c]=some (QO b,true)/\b.length≠a.length/\b.length<=200
theorem QDc(a:List Int):cutD (a.map D.int) (some 1) none=(a.drop 1).map D.int:=by
 unfold cutD;rw[show HT.sIx (a.map D.int).length 0 (some 1)=min 1 (a.map D.int).length from HT.QqS _ _ 1,HT.Qko,← List.map_drop,← ZbO,Zl];cases a with
 | nil=>rfl
 | cons x a=>simp
theorem QvM:QmI (Qs 2 Qi1):=λa c h2 h1=>by
 have key:Run Qi1 (Qav 2 [QO a,.int c]) (Rt λd fr=>∃b:List Int,d=QO b/\fr=true/\b.length≠a.length/\b.length<=200):=by
  have em:∀U:En,U[1]? =some (slI c)->dOp Qag (Qq 1) (dC (.int 4)) U=some (reI (c % 4)):=λU h=>Qam (a:=c) (b:=4) (Qud h) rfl rfl rfl (by decide);refine Qy (QY (QH (Qa5 (b:=0) (em _ rfl) rfl rfl rfl) rfl) (λ_=>?_) λ_=>Qu ?_)
  ·exact Qy (Qbo (Qrn (A:=a) (B:=[1+c / 4 % 9]) (ra:=reF (QO a)) rfl rfl (Qe2 (Qm (Qau (a:=1) (b:=c / 4 % 9) (ra:=reI 1) rfl rfl (Qam (a:=c / 4) (b:=9) (Qf8 (a:=c) (b:=4) (ra:=reI c) rfl rfl rfl rfl (by decide) (by decide)) rfl rfl rfl (by decide)) rfl) (QJ _)) (Zx rfl)) rfl (by simp;omega)) ⟨_,rfl,rfl,by simp,by simp;omega⟩)
  refine Qy (QY (QH (Qa5 (b:=1) (em _ rfl) rfl rfl rfl) rfl) (λ_=>?_) λ_=>Qu ?_)
  ·refine Qy (Qbo (r:=reT (QO (a.drop 1))) ((Qt7 (xs:=a.map D.int) (l:=some 1) (h:=none) (ra:=reF (QO a)) rfl rfl rfl rfl (Qhj a)).trans (by rw[QDc];rfl)) ⟨_,rfl,rfl,by rw[Zba];omega,by rw[Zba];omega⟩)
  refine Qy (QY (QH (Qa5 (b:=2) (em _ rfl) rfl rfl rfl) rfl) (λ_=>?_) λ_=>Qu ?_)
  ·exact Qy (Qbo (r:=reT (QO [])) rfl ⟨[],rfl,rfl,by show(0:Nat)≠a.length;omega,by simp⟩)
  exact QF (Qrn (A:=a) (B:=a) (ra:=reF (QO a)) (rb:=reF (QO a)) rfl rfl rfl rfl ⋯) ⟨a++a,rfl,rfl,by rw[Zz];omega,by rw[Zz];omega⟩
 obtain⟨o,h1,h2⟩:=key;cases o with
 | rt d fr=>
  obtain⟨b,rfl,rfl,h3,h4⟩:=h2;exact⟨b,by unfold Qs;rw[h1];rfl,h3,h4⟩
 | _=>exact h2.elim
theorem Eff.sum{m:Nat}{R:Lpp}{f:Mt1}(hR:∀s∈R,Good m s)(h:Eff m R f):0<=Qo (m+1) f:=by
 obtain⟨c,hc⟩:=h;rw[← Qrf hR f c];exact Qfx hc
theorem Qlk{m:Nat}{R:Lpp}{f:Mt1}(hR:∀s∈R,Good m s)(ht:∀g:Nat->Int,0<=Qo (m+1) g->Eff m R g)(h0: -1<=Qo (m+1) f):Qhx m R f (Qo (m+1) f):=by
 have hs:∀{k:Int}{E:Mt1},Qbn m k E->Qo (m+1) (Q4 f E)=Qo (m+1) f-k:=λ{k E} hE=>by
  rw[← hE.2,Int.sub_eq_add_neg,← QbK,← Qae];exact Qx λj _=>by show f j-E j=f j+ -E j;omega
 refine⟨h0,λk hk E hE=>ht _ (by rw[hs hE];omega),λj=>if j=0 then Qo (m+1) f+1 else 0,?_,λz=>?_⟩
 ·exact⟨λj _=>by(try dsimp only);split<;>omega,Qs0 ⋯ _⟩
 ·have:=z.sum hR;rw[hs (k:=Qo (m+1) f+1) ⟨λj _=>by(try dsimp only);split<;>omega,Qs0 ⋯ _⟩]at this;omega
theorem Qu8:Q6 1 [(0,1)] []:=⟨[(0,1,false)],λA ⟨p,hp,ha⟩=>⟨(0,1,false),by simp,by decide,by rw[show p=0 by omega]at ha;exact ha,.inl rfl⟩,λw hw=>by
 rw[Zw.mp hw];exact⟨by unfold Good;decide,λh=>by cases h⟩,by simp,rfl,rfl⟩
theorem QvC:Q6 2 [(0,1),(1,2)] []:=⟨[(0,1,false),(1,2,false)],λA ⟨p,hp,ha⟩=>by
  by_cases h1:A 1
  ·exact⟨(1,2,false),by simp,by decide,h1,.inl rfl⟩
  ·refine⟨(0,1,false),by simp,by decide,?_,.inr h1⟩;have:p=0∨p=1:= ⋯
   rcases this with rfl | rfl
   ·exact ha
   ·exact absurd ha h1,λw hw=>by
 rcases Zn.mp hw with rfl | hw
 ·exact⟨by unfold Good;decide,λh=>by cases h⟩
 ·rw[Zw.mp hw];exact⟨by unfold Good;decide,λh=>by cases h⟩,by simp,rfl,rfl⟩
theorem QB9(g:Mt1)(h:0<=Qo 2 g):Eff 1 [(0,1)] g:=by
 have hR:=Qu8.good.1;have s:Qo 2 g=g 0+g 1:=by rw[QP,QP,show Qo 0 g=0 from rfl];omega
 refine⟨λi=>if i=0 then g 0 else 0,λj hj=>?_⟩;rw[show Af 1 [(0,1)] g (λi=>if i=0 then g 0 else 0) j=_ from Qfo hR g _ hj];have:j=0∨j=1:= ⋯
 rcases this with rfl | rfl<;>simp[Qe5]<;>omega
theorem QB7(g:Mt1)(h:0<=Qo 3 g):Eff 2 [(0,1),(1,2)] g:=by
 have hR:=QvC.good.1;have s:Qo 3 g=g 0+g 1+g 2:=by rw[QP,QP,QP,show Qo 0 g=0 from rfl];omega
 refine⟨λi=>if i=0 then 2*g 0+g 1 else if i=1 then g 0+g 1 else 0,λj hj=>?_⟩;rw[show Af 2 [(0,1),(1,2)] g (λi=>if i=0 then 2*g 0+g 1 else if i=1 then g 0+g 1 else 0) j=_ from Qfo hR g _ hj];have:j=0∨j=1∨j=2:= ⋯
 rcases this with rfl | rfl | rfl<;>simp[Qe5]<;>omega
noncomputable def Qqn(QaC:Den)(QaK:Den):DS:=(Qc (Qt 1 (dOp Qag vv0 kk7)) (Qc (sIf (QC (dOp gEq (dOp Qag (dOp QbU vv0 kk7) kk2) kk0)) (Qc (QB (dOp gEq (Qg 2 QaC [] (Qa (QaF (Qa kk1 (Qa (QN (Qa (QaF (Qa kk0 (Qa kk1 Qb))) Qb)) (Qa (QN Qb) Qb)))) (Qa (QN (Qa vv1 (Qa (dOp QaI kk6 vv1) Qb))) Qb))) kk6)) Qi) Qi) (Qc (Qt 2 (QaF (Qa kk2 (Qa (QN (Qa (QaF (Qa kk0 (Qa kk1 Qb))) (Qa (QaF (Qa kk1 (Qa kk2 Qb))) Qb))) (Qa (QN Qb) Qb))))) (Qc (sIf (QC (dOp gNe (Qg 2 QaK [] (Qa vv2 (Qa (QN (Qa vv1 (Qa (dOp QaI kk7 vv1) (Qa kk0 Qb)))) Qb))) (QN (Qa (dC (.bl false)) (Qa (dC (.bl false)) (Qa (dC (.bl true)) Qb)))))) (Qc (QB (dC (.bl false))) Qi) Qi) (Qc (QB (dOp gEq (Qg 2 QaC [] (Qa vv2 (Qa (QN (Qa vv1 (Qa (QdU kk2) (Qa (dOp QaI kk8 vv1) Qb)))) Qb))) kk6)) Qi)))))
def Qk4(d:Den):Prop:=∀c:Int,d [.int c]=some (.bl true,true)
theorem Qs4{dr db:Den}{sub:Str->Str->Option Bool}{xw:List D->Option Str}(hr:Qju dr)(hb:Qb6 sub xw db)(mx:Qn7 xw)(way:Qed sub "TooMany" 2):Qk4 (Qs 3 (Qqn dr db)):=λc=>by
 have o1:=ZJ c (by decide:(7:Int)≠0);have o2:=ZM c (by decide:(0:Int)<7);refine QU ?_;refine rsa (Qam (a:=c) (b:=7) (ra:=reI c) rfl rfl rfl rfl (by decide)) ?_;generalize c % 7=n at o1 o2;refine Qy (QY (QH (Qa5 (b:=0) (Qam (a:=c / 7) (b:=2) (Qf8 (a:=c) (b:=7) (ra:=reI c) rfl rfl rfl rfl (by decide) (by decide)) rfl rfl rfl (by decide)) rfl rfl rfl) rfl) (λ_=>?_) λ_=>Qu ?_)
 ·have s:Qo 2 (fnL [n,6-n])=6:=by rw[QpS (n:=2) rfl];simp;omega
  obtain⟨w,ew,W,_⟩:=hr 1 [(0,1)] (fnL [n,6-n]) (by decide) (by decide) Qu8 (λj hj=>by
   have:(2:Nat)^189≥10:=by decide
   rw[show j=0 by omega];show(n:Int).natAbs<=_;omega) (by rw[s];decide)
  have e:w=6:=by have:=W.unique (Qlk Qu8.good.1 QB9 (by rw[s];decide));rw[s]at this;exact this
  subst e;refine Qy (Qbo (Qa5 (a:=6) (b:=6) (Qp (Qm (r:=reT (Qj (1:Nat) [(0,1)] [])) rfl (Qm (r:=reT (Qd 2 (fnL [n,6-n]))) ?_ (QJ _))) ew rfl) rfl rfl rfl) ⟨rfl,rfl⟩);rw[Qji,QjN (n:=2) (k:=[n,6-n]) rfl];exact(Qe2 (Qm (r:=reI n) rfl (Qm (Qdv (a:=6) (b:=n) (ra:=reI 6) (rb:=reI n) rfl rfl rfl rfl) (QJ _))) (Zx rfl)).trans rfl
 refine rsa (d:=Qj (2:Nat) [(0,1),(1,2)] []) rfl ?_;have s7:Qo 3 (fnL [n,7-n,0])=7:=by rw[QpS (n:=3) rfl];simp;omega
 have s6:Qo 3 (fnL [n,-2,8-n])=6:=by rw[QpS (n:=3) rfl];simp;omega
 have eb:=hb (2:Nat) [(0,1),(1,2)] [] ([n,7-n,0].map .int) "TooMany" 2 way (by
  have:=mx 2 [(0,1),(1,2)] (fnL [n,7-n,0]) (.inr (by rw[s7];decide));rw[← Qo3 (n:=2+1) (k:=[n,7-n,0]) rfl]at this;exact this)
 refine Qy (QY (b:=false) (QH (Qs1 (d:=Qcr 2) (Qp (Qm (r:=⟨Qj (2:Nat) [(0,1),(1,2)] [],true,[2]⟩) rfl (Qm (r:=reT (.lst ([n,7-n,0].map .int))) ((Qe2 (Qm (r:=reI n) rfl (Qm (Qdv (a:=7) (b:=n) (ra:=reI 7) (rb:=reI n) rfl rfl rfl rfl) (Qm (r:=reI 0) rfl (QJ _)))) (Zx rfl)).trans rfl) (QJ _))) eb rfl) rfl (rb:=⟨Qcr 2,true,[]⟩) rfl rfl (Qjn 2)) rfl) (λh=>by cases h) λ_=>Qu ?_);obtain⟨w,ew,W,_⟩:=hr 2 [(0,1),(1,2)] (fnL [n,-2,8-n]) (by decide) (by decide) QvC (λj hj=>by
  have:(2:Nat)^189≥10:=by decide
  have:j=0∨j=1:= ⋯
  rcases this with rfl | rfl
  ·show(n:Int).natAbs<=_;omega
  ·show(-2:Int).natAbs<=_;omega) (by rw[s6];decide)
 have e:w=6:=by have:=W.unique (Qlk QvC.good.1 QB7 (by rw[s6];decide));rw[s6]at this;exact this
 subst e;refine QF (Qa5 (a:=6) (b:=6) (Qp (Qm (r:=⟨Qj (2:Nat) [(0,1),(1,2)] [],true,[2]⟩) rfl (Qm (r:=reT (Qd 3 (fnL [n,-2,8-n]))) ?_ (QJ _))) ew rfl) rfl rfl rfl) ⟨rfl,rfl⟩;rw[Qji,QjN (n:=3) (k:=[n,-2,8-n]) rfl];exact(Qe2 (Qm (r:=reI n) rfl (Qm (r:=reI (-2)) rfl (Qm (Qdv (a:=8) (b:=n) (ra:=reI 8) (rb:=reI n) rfl rfl rfl rfl) (QJ _)))) (Zx rfl)).trans rfl
theorem QwD{m:Nat}(g:Nat->D):cutD ((List.range (m+1)).map g) none (some (-1))=(List.range m).map g:=by
 unfold cutD;have:HT.sIx ((List.range (m+1)).map g).length ((List.range (m+1)).map g).length (some (-1))=m:=by
  rw[Zl,ZI];show(if(-1:Int)<0 then((-1:Int)+((m+1:Nat):Int)).toNat else min (-1:Int).toNat (m+1))=_;rw[if_pos (by decide)];omega
 rw[this,HT.Qko,List.drop_zero,Nat.sub_zero,← ZbO,List.take_range,Zce ⋯]
theorem Qp8(m:Nat)(f:Mt1):QT ((List.range m).map λi=>D.int (f i))=true:=Qbl (f:=λi=>D.int (f i)) (λ_=>rfl) _
theorem Qny{fa:DE}{U:En}{ra:R}{m:Nat}{f:Mt1}(ha:fa U=some ra)(ea:ra.d=Qd (m+1) f):Qeb fa Qff (QcJ (QdU (dC (.int 1)))) U=some (reT (Qd m f)):=
 (Qt7 (xs:=(List.range (m+1)).map λi=> .int (f i)) (l:=none) (h:=some (-1)) ha ea rfl rfl (Qp8 _ _)).trans (by rw[QwD];rfl)
noncomputable def QkY(QaK:Den)(QaC:Den):DS:=(Qc (Qt 3 (QbP (Qv (QN (Qa (QI kk7 (dOp Qag (dOp QbU vv2 kk3) Qty)) (Qa kk1 (Qa kk2 Qb)))) (dOp Qag vv2 kk3)))) (Qc (Qt 4 (QI (Qeb vv1 Qff (QcJ (QdU kk1))) (QN (Qa (dOp QaI vv3 (dBf Qfn (Qa (Qeb vv1 Qff (QcJ (QdU kk1))) Qb))) Qb)))) (Qc (sIf (bOr (QC (dOp gGt (Qv vv0 kk0) kk4)) (QC (dOp gGt vv3 kk6))) (Qc (QB (dOp gEq (Qg 2 QaK [] (Qa vv0 (Qa vv4 Qb))) (QN (Qa (dC (.bl false)) (Qa (dC (.bl false)) (Qa (dC (.bl true)) Qb)))))) Qi) Qi) (Qc (Qt 5 (Qg 2 QaC [] (Qa vv0 (Qa vv4 Qb)))) (Qc (QB (QcF (QeF "int" vv5) (QcF (Qsn (QeF "bool" vv5)) (QcF (dOp gLe (QdU kk1) vv5) (dOp gLe vv5 vv3))))) Qi)))))
def Qhp(d:Den):Prop:=∀(m:Nat) (R:Lpp) (f:Mt1) (c:Int),0<m->m<=8->Q6 m R []->(∀j,j<m+1->(f j).natAbs<=5)->d [Qj m R [],Qd (m+1) f,.int c]=some (.bl true,true)
theorem Qqa{dr db:Den}{sub:Str->Str->Option Bool}{xw:List D->Option Str}(hr:Qju dr)(hb:Qb6 sub xw db)(mx:Qn7 xw)(way:Qed sub "TooMany" 2):Qhp (Qs 6 (QkY db dr)):=λm R f c m0 m8 hw bf=>by
 have o1:=ZJ c (by decide:(3:Int)≠0);have o2:=ZM c (by decide:(0:Int)<3);have o3:=ZJ (c / 3) (by decide:(1000000:Int)≠0);obtain⟨due,ed,d1⟩:∃due:Int,[7+c / 3 % 1000000,1,2][(c % 3).toNat]? =some due/\1<=due:=by
  have:c % 3=0∨c % 3=1∨c % 3=2:= ⋯
  rcases this with h | h | h<;>rw[h]
  ·exact⟨_,rfl,⋯⟩
  ·exact⟨1,rfl,by decide⟩
  ·exact⟨2,rfl,by decide⟩
 refine QU ?_;refine run_seq (QL (Qhl (Qre (ns:=[7+c / 3 % 1000000,1,2]) (i:=c % 3) (v:=due) (Qe2 (Qm (Qau (a:=7) (b:=c / 3 % 1000000) (ra:=reI 7) rfl rfl (Qam (a:=c / 3) (b:=1000000) (Qf8 (a:=c) (b:=3) (ra:=reI c) rfl rfl rfl rfl (by decide) (by decide)) rfl rfl rfl (by decide)) rfl) (Qm (r:=reI 1) rfl (Qm (r:=reI 2) rfl (QJ _)))) (Zx rfl)) rfl (Qam (a:=c) (b:=3) (ra:=reI c) rfl rfl rfl rfl (by decide)) rfl o1 ed)) ?_);rw[Qex rfl];refine rsa (Qk5 (m:=m) (f:=f) (x:=due-Qo m f) (Qny (m:=m) (f:=f) (ra:=reF (Qd (m+1) f)) rfl rfl) rfl (Qdv (a:=due) (b:=Qo m f) (ra:=reI due) rfl rfl (QmL (Qny (m:=m) (f:=f) (ra:=reF (Qd (m+1) f)) rfl rfl) rfl) rfl) ⋯) ?_;have sg:Qo (m+1) (up f m (due-Qo m f))=due:=by
  rw[QP,Qx (g:=f) λi hi=>by unfold up;rw[if_neg ⋯]];unfold up;rw[if_pos rfl];omega
 have gb:∀j,j<m->(up f m (due-Qo m f) j).natAbs<=2^189:=λj hj=>by
  have h1:=bf j ⋯;have h2:(2:Nat)^189≥10:=by decide
  unfold up;rw[if_neg ⋯];omega
 generalize up f m (due-Qo m f)=g at sg gb;change Run _ [slF (Qj m R []),slF (Qd (m+1) f),slI c,slI due,slT (Qd (m+1) g),none] _;refine Qy (QY (b:=decide (4<(m:Int)) || decide (6<due)) (Qcw (QH (Qg2 (a:=(m:Int)) (b:=4) (QbX (m:=m) (R:=R) (L:=[]) (r:=reF (Qj m R [])) rfl rfl).1 rfl rfl rfl) rfl) (QH (Qg2 (a:=due) (b:=6) (ra:=reI due) rfl rfl rfl rfl) rfl)) (λh=>?_) λh=>Qu ?_)
 ·have h:4<(m:Int)∨6<due:=by simpa using h
  have eb:=hb m R [] ((List.range (m+1)).map λi=> .int (g i)) "TooMany" 2 way (mx m R g (by rw[sg];omega));exact Qy (Qbo (QqX (d:=Qcr 2) (Qp (r:=⟨[Qj m R [],Qd (m+1) g],false,[4]⟩) rfl eb rfl) rfl (rb:=⟨Qcr 2,true,[]⟩) rfl rfl (Qjn 2)) ⟨rfl,rfl⟩)
 ·have h:¬4<(m:Int)/\¬6<due:=by simpa using h
  obtain⟨w,ew,W,sw⟩:=hr m R g m0 ⋯ hw gb ⋯;have w1:=W.1;rw[sg]at sw;refine rsa (Qp (r:=⟨[Qj m R [],Qd (m+1) g],false,[4]⟩) rfl ew rfl) ?_;have l1:dOp gLe (QdU (dC (.int 1))) (Qq 5) [slF (Qj m R []),slF (Qd (m+1) f),slI c,slI due,slT (Qd (m+1) g),slI w]=some (reT (.bl true)):=by
   show some (HS.R.mk (.bl (decide ((-1:Int)<=w))) true [])=_;rw[decide_eq_true w1]
  have l2:dOp gLe (Qq 5) (Qq 3) [slF (Qj m R []),slF (Qd (m+1) f),slI c,slI due,slT (Qd (m+1) g),slI w]=some (reT (.bl true)):=by
   show some (HS.R.mk (.bl (decide (w<=due))) true [])=_;rw[decide_eq_true ⋯]
  exact QF (Qd5 (a:=true) (b:=true) rfl (Qd5 (a:=true) (b:=true) rfl (Qd5 (a:=true) (b:=true) l1 l2))) ⟨rfl,rfl⟩
noncomputable def Qgs(QaS:Den):DS:=(Qc (Qt 2 (Qaz (QN (Qa kk0 Qb)) (QI (Qv vv0 kk0) kk1))) (Qc (Qbh (Qar (Qv vv0 kk1)) (.tp [3,4]) (Qc (QcG 2 Qa8 vv3 (QI (Qv vv2 vv3) kk1)) (Qc (QcG 2 Qa8 vv4 (QI (Qv vv2 vv4) kk1)) Qi))) (Qc (Qt 5 (Qg 2 QaS [] (Qa vv0 (Qa (dList (Qa vv1 Qb)) Qb)))) (Qc (sIf (bOr (QbL (QC (QeF "list" vv5))) (QC (dOp gNe (dBf Qbz (Qa vv5 Qb)) (dBf Qbz (Qa vv1 Qb))))) (Qc (QB (dC (.bl false))) Qi) Qi) (Qc (Qbh (Qg6 vv5 vv2 vv1) (.tp [6,7,8]) (Qc (sIf (bOr (QbL (QC (QeF "int" vv6))) (bOr (QC (QeF "bool" vv6)) (QC (dOp gNe vv6 (dOp QaI (dOp QaI vv7 kk2) vv8))))) (Qc (QB (dC (.bl false))) Qi) Qi) Qi)) (Qc (QB (dC (.bl true))) Qi))))))
def QhP(d:Den):Prop:=∀(m:Nat) (R:Lpp) (f:Mt1),m<=100->R.length<=1000->(∀s∈R,Good m s)->d [Qj m R [],Qd (m+1) f]=some (.bl true,true)
theorem Qqw{dc:Den}(hc:QiU dc):QhP (Qs 9 (Qgs dc)):=λm R f0 hm hl hR=>by
 refine QU ?_;have it:∀{U:En},U[0]? =some (slF (Qj m R []))->Qq 0 U=some (reF (Qj m R [])):=λh=>Qbw h;refine rsa (Qiw (n:=m+1) (Qau (a:=(m:Int)) (b:=1) (QbX (it rfl) rfl).1 rfl rfl rfl) rfl ⋯) ?_;refine Qca (P:=λU=>∃j2 j3,U=[slF (Qj m R []),slF (Qd (m+1) f0),slT (Qd (m+1) (QE R [])),j2,j3,none,none,none,none]) ?_ ?_
 ·refine Qa0 (toD:=pairD) R (λi U=>∃f j2 j3,(∀k,f k=((R.take i).map λr=>isI k r.1+isI k r.2).sum)/\U=[slF (Qj m R []),slF (Qd (m+1) f0),slT (Qd (m+1) f),j2,j3,none,none,none,none]) (ir:=⟨R.map pairD,[]⟩) (Qa1 (QbX (it rfl) rfl).2.1 rfl) rfl ⟨λ_=>0,none,none,λk=>by simp,rfl⟩ ?_ ?_
  ·rintro i s U hi ⟨f,j2,j3,hf,rfl⟩;obtain⟨h1,h2,h3,h4,h5⟩:=hR s (Zaj hi);refine⟨_,rfl,?_⟩;refine run_seq (QjL (i:=s.1) rfl rfl h1 ⋯ ?_);refine run_seq (QjL (i:=s.2) rfl rfl h2 ⋯ (Qu ⟨_,_,_,λk=>?_,rfl⟩));rw[Qv9 hi,← hf k];unfold isI;simp only[QfH];have n1:¬s.1.toNat=s.2.toNat:= ⋯
   by_cases c1:k=s.1.toNat
   ·have c2:¬k=s.2.toNat:= ⋯
    have c3:s.1=(k:Int):= ⋯
    have c4:¬s.2=(k:Int):= ⋯
    rw[if_neg c2,if_pos c1,if_pos c3,if_neg c4,c1];omega
   ·have c3:¬s.1=(k:Int):= ⋯
    by_cases c2:k=s.2.toNat
    ·have c4:s.2=(k:Int):= ⋯
     rw[if_pos c2,if_neg (λz=>n1 z.symm),if_neg c3,if_pos c4,c2];omega
    ·have c4:¬s.2=(k:Int):= ⋯
     rw[if_neg c2,if_neg c1,if_neg c3,if_neg c4];omega
  ·rintro U ⟨f,j2,j3,hf,rfl⟩;rw[ZbW]at hf;have:f=QE R []:=funext λk=>by rw[hf k];unfold QE;simp
   subst this;exact⟨j2,j3,rfl⟩
 rintro U ⟨j2,j3,rfl⟩;refine rsa (Qp (Qm (r:=reF (Qj m R [])) rfl (Qm (QhB (m:=m+1) (f:=f0) (rs:=⟨[Qd (m+1) f0],false,[]⟩) rfl rfl) (QJ _))) (hc m R f0 hm hl hR) rfl) ?_;change Run _ [slF (Qj m R []),slF (Qd (m+1) f0),slT (Qd (m+1) (QE R [])),j2,j3,slT (Qd (m+1) (Q4 (QfD R) f0)),none,none,none] _;refine Qy (QY (b:=false) (Qcw (a:=false) (b:=false) (Qcn (b:=true) (QH (b:=true) rfl rfl)) (QH (QeS (a:=((m+1:Nat):Int)) (b:=((m+1:Nat):Int)) (Qq9 (m:=m+1) (f:=Q4 (QfD R) f0) (r:=⟨Qd (m+1) (Q4 (QfD R) f0),true,[5]⟩) rfl rfl) rfl (Qq9 (m:=m+1) (f:=f0) (r:=reF (Qd (m+1) f0)) rfl rfl) rfl) (by simp))) (λh=>by cases h) λ_=>Qu ?_);refine Qy (Qa0 (toD:=λ(i:Nat)=> .tup [.int (Q4 (QfD R) f0 i),.int (QE R [] i),.int (f0 i)]) (List.range (m+1)) (λ_ U=>∃b2 b5 j3 j4 j6 j7 j8,U=[slF (Qj m R []),slF (Qd (m+1) f0),some (Qd (m+1) (QE R []),b2),j3,j4,some (Qd (m+1) (Q4 (QfD R) f0),b5),j6,j7,j8]) (Qoq (m:=m+1) (f:=λi=> .int (Q4 (QfD R) f0 i)) (g:=λi=> .int (QE R [] i)) (h:=λi=> .int (f0 i)) (ra:=⟨Qd (m+1) (Q4 (QfD R) f0),true,[5]⟩) rfl rfl (rb:=⟨Qd (m+1) (QE R []),true,[2]⟩) rfl rfl (rc:=reF (Qd (m+1) f0)) rfl rfl) rfl ⟨false,false,j2,j3,none,none,none,rfl⟩ ?_ ?_)
 ·rintro i k U hi ⟨b2,b5,j3,j4,j6,j7,j8,rfl⟩;refine⟨_,rfl,?_⟩;refine Qy (QY (b:=false) (Qcw (a:=false) (b:=false) (Qcn (b:=true) (QH (b:=true) rfl rfl)) (Qcw (a:=false) (b:=false) (QH (b:=false) rfl rfl) (QH (QeS (a:=Q4 (QfD R) f0 k) (b:=QE R [] k-2-f0 k) (ra:=reI (Q4 (QfD R) f0 k)) rfl rfl (Qdv (a:=QE R [] k-2) (b:=f0 k) (Qdv (a:=QE R [] k) (b:=2) (ra:=reI (QE R [] k)) rfl rfl rfl rfl) rfl (rb:=reI (f0 k)) rfl rfl) rfl) (by show D.bl (!decide (QE R [] k-2-f0 k=QE R [] k-2-f0 k))=_;simp)))) (λh=>by cases h) λ_=>Qu (Qu ⟨_,_,_,_,_,_,_,rfl⟩))
 ·rintro U ⟨b2,b5,j3,j4,j6,j7,j8,rfl⟩;exact QF (r:=reT (.bl true)) rfl ⟨rfl,rfl⟩
theorem Qst{L:Lpp}{fa:DE}{U:En}{ra:R}(ha:fa U=some ra)(ea:ra.d=Qao L):QC (dOp gNe fa (QN Qb)) U=some (!L.isEmpty):=by
 refine QH (QaR (rb:=reT (.lst [])) ha rfl (d:= .bl (!L.isEmpty)) ?_) rfl;unfold gNe;rw[ea,Qtm 6 L];show some (D.bl (!deq (.lst (L.map pairD)) (.lst [])))=_;rw[QDn];cases L<;>rfl
theorem Qpx{T:String}{fa:DE}{U:En}{r:R}{b:Bool}(h:fa U=some r)(e:D.isa T r.d=some b):QeF T fa U=some (reT (.bl b)):=by
 unfold QeF;rw[h,Za,e];rfl
noncomputable def QnM(Qeo:Den)(Q2:Den)(QcU:Den)(QaA:Den)(QcX:Den)(Qdt:Den)(Q1:Den)(QaV:Den)(Qbf:Den)(QaN:Den):DS:=(Qc (Qt 1 (Qg 3 Qeo [] (Qa vv0 (Qa kk8 (Qa QBG Qb))))) (Qc (Qt 2 (QQ (Qcz (QI (Qv vv1 kk0) kk1)) (.nm 1) [none,none,some 0] Q8 (dOp QaI (dOp Qag (dOp Qag (Qaz (Qg 2 Q2 [] (Qa vv2 (Qa (QI QzK vv1) Qb))) Qq3) Qzb) QBe) kk5))) (Qc (Qt 3 (dOp Qag (Qaz (Qg 2 Q2 [] (Qa vv0 (Qa QCV Qb))) Qrq) Qpd)) (Qc (Qt 4 (Qg 2 QcU [] (Qa vv2 (Qa vv3 Qb)))) (Qc (sIf (QC (dOp gNe (Qv vv1 kk2) (QN Qb))) (Qc (Qt 5 (QN (Qa (dC (.bl false)) (Qa (dC (.bl true)) (Qa (dC (.bl false)) Qb))))) (Qc (QB (QcF (Qg 4 QaA [] (Qa vv1 (Qa vv4 (Qa vv2 (Qa vv5 Qb))))) (Qg 4 QaA [] (Qa vv1 (Qa vv2 (Qa vv2 (Qa vv5 Qb))))))) Qi)) Qi) (Qc (sIf (QbL (QC (Qg 4 QaA [] (Qa vv1 (Qa vv4 (Qa vv2 (Qa (QN (Qa (dC (.bl true)) (Qa (dC (.bl false)) (Qa (dC (.bl false)) Qb)))) Qb))))))) (Qc (QB (dC (.bl false))) Qi) Qi) (Qc (sIf (QbL (QC (Qg 3 QcX [] (Qa vv1 (Qa vv2 (Qa (dOp Qag (Qg 2 Q2 [] (Qa vv0 (Qa QzS Qb))) Qnv) Qb)))))) (Qc (QB (dC (.bl false))) Qi) Qi) (Qc (sIf (QhI (QC (dOp gEq (dOp Qag (Qg 2 Q2 [] (Qa vv0 (Qa QzS Qb))) kk4) kk1)) (QbL (QC (Qg 1 Qdt [] (Qa (dOp Qag (Qg 2 Q2 [] (Qa vv0 (Qa QC8 Qb))) QAv) Qb))))) (Qc (QB (dC (.bl false))) Qi) Qi) (Qc (sIf (bOr (QbL (QC (QeF "tuple" (Qg 2 Q1 [] (Qa vv1 (Qa vv2 Qb)))))) (QbL (QC (QeF "tuple" (Qg 2 QaV [] (Qa vv1 (Qa vv2 Qb))))))) (Qc (QB (dC (.bl false))) Qi) Qi) (Qc (QB (QcF (Qg 2 Qbf [] (Qa vv1 (Qa vv2 Qb))) (QeF "list" (Qg 3 QaN [] (Qa vv1 (Qa vv2 (Qa vv2 Qb))))))) Qi))))))))))
theorem QAV{dn dc dwr dar dlw dtr dl dg dlc dfa:Den}{sub:Str->Str->Option Bool}{xfa xl xg xw xc:List D->Option Str}(hn:Qm4 dn)(hc:QlN dc)(hwr:QmI dwr)(har:QkX sub xfa xl xg xw xc dar)(hlw:Qhp dlw)(htr:Qk4 dtr)(hl:Qhs dl)(hg:Qm3 dg)(hlc:QhP dlc)(hfa:QmJ dfa)
  (fa:Qpv xfa) (lx:Qdh xl) (gx:Qdh xg) (wx:Qdh xw) (cx:Qdh xc) (w0:Qed sub "NoRow" 0) (w1:Qed sub "NotPlain" 1) (ns:List Int) (hns:ns.length<=63):Qs 6 (QnM dn dc dwr dar dlw dtr dl dg dlc dfa) [.lst (ns.map .int)]=slT (.bl true):=by
 obtain⟨m,R,L,en,m0,m8,hw⟩:=hn ns 8 300 hns (by decide) (by decide);have hR:=hw.good.1;have hRl:R.length<=200:=hw.good.2.2.1;have ecell:∀{U:En}{fb:DE}{k x:Nat},U[x]? =some (slF (.lst (ns.map .int)))->fb U=some (reI k)->Qg 2 dc [] (Qa (Qq x) (Qa fb Qb)) U=some (reI (ns.getD k 0)):=λ{U fb k x} h0 hb=>Qp (Qm (Qbw h0) (Qm hb (QJ _))) (hc ns k) rfl;have bf:∀k:Nat,(ns.getD (12+k) 0*48271 % 65537 % 11-5).natAbs<=5:=λk=>by
  have o1:=ZJ (ns.getD (12+k) 0*48271 % 65537) (by decide:(11:Int)≠0);have o2:=ZM (ns.getD (12+k) 0*48271 % 65537) (by decide:(0:Int)<11);omega
 generalize hf:(λk:Nat=>ns.getD (12+k) 0*48271 % 65537 % 11-5)=f;have bf:∀j,j<m+1->(f j).natAbs<=5:=λj _=>by rw[← hf];exact bf j
 have ai:Qd (m+1) f=QO (Qa9 (m+1) f):=Qji _ _;have al:(Qa9 (m+1) f).length=m+1:=Qpa _ _;obtain⟨b,eb,bl,bl2⟩:=hwr (Qa9 (m+1) f) (ns.getD 21 0*69621 % 2147483629) ⋯ ⋯;rw[← ai]at eb;refine QU ?_;refine rsa (Qp (r:=⟨[.lst (ns.map .int),.int 8,.int 300],false,[]⟩) rfl en rfl) ?_;refine run_seq (QL (r:=reT (Qd (m+1) f)) (QS (toD:=λ(k:Nat)=> .int (k:Int)) (out:=λ(k:Nat)=> .int (f k)) (List.range (m+1)) (Qev (n:=m+1) (Qau (a:=(m:Int)) (b:=1) (QbX (m:=m) (R:=R) (L:=L) (r:=⟨Qj m R L,true,[1]⟩) rfl rfl).1 rfl rfl rfl) rfl ⋯) rfl λk _=>⟨[none,slI k,slF (.lst (ns.map .int))],rfl,reI (f k),?_,rfl,rfl⟩) ?_)
 ·rw[← hf];exact Qdv (a:=ns.getD (12+k) 0*48271 % 65537 % 11) (b:=5) (Qam (b:=11) (Qam (b:=65537) (Qbj (b:=48271) (ecell (k:=12+k) (x:=2) rfl ((Qau (a:=12) (b:=(k:Int)) rfl rfl (rb:=reI k) rfl rfl).trans (by simp))) rfl rfl rfl (Qez (by decide))) rfl rfl rfl (by decide)) rfl rfl rfl (by decide)) rfl rfl rfl
 rw[Qbb];refine rsa (Qam (a:=ns.getD 21 0*69621) (b:=2147483629) (Qbj (b:=69621) (ecell (k:=21) (x:=0) rfl rfl) rfl rfl rfl (Qez (by decide))) rfl rfl rfl (by decide)) ?_;generalize ns.getD 21 0*69621 % 2147483629=c21 at eb;refine rsa (Qp (r:=⟨[Qd (m+1) f,.int c21],true,[2]⟩) rfl eb rfl) ?_;change Run _ [slF (.lst (ns.map .int)),slT (Qj m R L),slT (Qd (m+1) f),slI c21,slT (QO b),none] _;refine Qy (QY (b:= !L.isEmpty) (Qst (QbX (m:=m) (R:=R) (L:=L) (r:=⟨Qj m R L,true,[1]⟩) rfl rfl).2.2 rfl) (λh=>?_) λh=>Qu ?_)
 ·have hL:L≠[]:=λz=>by rw[z]at h;cases h
  have F:∀a b:List Int,Qzu m R L "NotPlain" xfa xl xg xw xc a b:=λa b=>⟨fa.pl m R L _ _ hL,fa.pl m R L _ _ hL,lx.pl m R L _ hL,gx.pl m R L _ hL,wx.pl m R L _ hL,cx.pl m R L _ hL⟩;have e1:=har m R L b (Qa9 (m+1) f) "NotPlain" 1 ⋯ ⋯ w1 (F _ _);have e2:=har m R L (Qa9 (m+1) f) (Qa9 (m+1) f) "NotPlain" 1 ⋯ ⋯ w1 (F _ _);rw[← ai]at e1 e2;refine rsa (d:=Qcr 1) rfl ?_;exact Qy (Qbo (Qd5 (a:=true) (b:=true) (Qp (r:=⟨[Qj m R L,QO b,Qd (m+1) f,Qcr 1],true,[1,4,2,5]⟩) rfl e1 rfl) (Qp (r:=⟨[Qj m R L,Qd (m+1) f,Qd (m+1) f,Qcr 1],true,[1,2,2,5]⟩) rfl e2 rfl)) ⟨rfl,rfl⟩)
 have hL:L=[]:=by cases L with | nil=>rfl | cons a l=>cases h
 subst hL;have blm:b.length≠m+1:=by rw[al]at bl;exact bl
 have bl':(b.map D.int).length≠m+1:=by rw[Zl];exact blm
 have e1:=har m R [] b (Qa9 (m+1) f) "NoRow" 0 ⋯ ⋯ w0 ⟨fa.nr m R _ _ (.inl bl'),fa.nr m R _ _ (.inr bl'),lx.nr m R _ bl',gx.nr m R _ bl',wx.nr m R _ bl',cx.nr m R _ bl'⟩;rw[← ai]at e1;have e2:=hlw m R f (ns.getD 22 0 % 1000003) m0 m8 hw bf;have e3:=htr (ns.getD 23 0 % 1009);obtain⟨c1,e4,_⟩:=hl m R f m0 m8 hw λj hj=>ZC (bf j ⋯) (by decide);obtain⟨c2,e5,_⟩:=hg m R f m0 m8 hw λj hj=>ZC (bf j ⋯) (by decide);have e6:=hlc m R f ⋯ ⋯ hR;have e7:=hfa m R f f ⋯ ⋯ hR;refine Qy (QY (b:=false) (Qcn (b:=true) (QH (b:=true) (Qp (Qm (r:=⟨Qj m R [],true,[1]⟩) rfl (Qm (r:=⟨QO b,true,[4]⟩) rfl (Qm (r:=⟨Qd (m+1) f,true,[2]⟩) rfl (Qm (r:=⟨Qcr 0,true,[]⟩) rfl (QJ _))))) e1 rfl) rfl)) (λh=>by cases h) λ_=>Qu ?_);refine Qy (QY (b:=false) (Qcn (b:=true) (QH (b:=true) (Qp (Qm (r:=⟨Qj m R [],true,[1]⟩) rfl (Qm (r:=⟨Qd (m+1) f,true,[2]⟩) rfl (Qm (Qam (a:=ns.getD 22 0) (b:=1000003) (ecell (k:=22) (x:=0) rfl rfl) rfl rfl rfl (by decide)) (QJ _)))) e2 rfl) rfl)) (λh=>by cases h) λ_=>Qu ?_);refine Qy (QY (b:=false) ?_ (λh=>by cases h) λ_=>Qu ?_)
 ·exact(QxW (QH (Qa5 (a:=ns.getD 22 0 % 4) (b:=1) (Qam (a:=ns.getD 22 0) (b:=4) (ecell (k:=22) (x:=0) rfl rfl) rfl rfl rfl (by decide)) rfl rfl rfl) rfl) (Qcn (b:=true) (QH (b:=true) (Qp (Qm (Qam (a:=ns.getD 23 0) (b:=1009) (ecell (k:=23) (x:=0) rfl rfl) rfl rfl rfl (by decide)) (QJ _)) e3 rfl) rfl))).trans (by simp)
 refine Qy (QY (b:=false) (Qcw (a:=false) (b:=false) (Qcn (b:=true) (QH (b:=true) (r:=reT (.bl true)) ?_ rfl)) (Qcn (b:=true) (QH (b:=true) (r:=reT (.bl true)) ?_ rfl))) (λh=>by cases h) λ_=>Qu ?_)
 ·exact Qpx (Qp (r:=⟨[Qj m R [],Qd (m+1) f],true,[1,2]⟩) rfl e4 rfl) rfl
 ·exact Qpx (Qp (r:=⟨[Qj m R [],Qd (m+1) f],true,[1,2]⟩) rfl e5 rfl) rfl
 refine QF (r:=reT (.bl true)) (Qd5 (a:=true) (b:=true) (Qp (r:=⟨[Qj m R [],Qd (m+1) f],true,[1,2]⟩) rfl e6 rfl) ?_) ⟨rfl,rfl⟩;exact Qpx (Qp (r:=⟨[Qj m R [],Qd (m+1) f,Qd (m+1) f],true,[1,2,2]⟩) rfl e7 rfl) rfl
end HS
theorem HS.some_of{α:Type}{x:Option α}{d:α}(h:x.isSome=true):x=some (x.getD d):=by cases x with | none=>cases h | some a=>rfl
namespace Law
open PySem L2 HS
noncomputable section
def top(i:Nat):Stmt:=PySem.Challenge.pw_heapstill_k66_debts_refused.main.body.getD i (.Pass ⟨0,0,0,0⟩)
abbrev cst:List (Str×Int):=[("MOST_PLACES",4),("MOST_GRAINS",6)]
abbrev Sc(s:Stmt)(P:List Str):Prop:=QbI (namesOf (Ql s)) P (Ql s)
theorem scM{s:Stmt}{P:List Str}(h1:(Ql s).kind= .function)(h2:(Ql s).isCoroutine=false)(h3:(Ql s).isGenerator=false)(h4:(namesOf (Ql s)).Nodup/\(namesOf (Ql s)).take P.length=P/\(∀x∈P,(Ql s).names.lookup x=some .local ∨(Ql s).names.lookup x=some .cell)/\∀y∈(Ql s).names,y.2≠ .free):Sc s P:=⟨h1,h2,h3,h4.1,h4.2.1,h4.2.2.1,h4.2.2.2⟩
noncomputable abbrev Cp(s:Stmt)(Γ:List (Str×FnR)):Option DS:=QaY 60 (Qer s Γ cst) (QaM s)
noncomputable abbrev Dn(s:Stmt)(g:DS):Den:=Qs (namesOf (Ql s)).length g
noncomputable abbrev Gc(x:Str)(n:Nat)(d:Den)(Γ:List (Str×FnR)):List (Str×FnR):=(x,⟨n,[],d⟩)::Γ
structure Kn (x:Str) (s:Stmt) (P:List Str) (Γ:List (Str×FnR)) (g:DS):Prop where
 a:Sc s P
 b:Qaf x s P
 c:Cp s Γ=some g
theorem eqQ(P:Den->Prop)(d:Den){e:Den}(h:P e)(q:d=e:=by kernel_rfl):P d:=q▸h
theorem kc{Pr:Program}{w:World}{K:PySem.W.Frag}{mg:Str->Option Value}{h:Heap}{x:Str}{s:Stmt}{P:List Str}{k:Nat}{Γ:List (Str×FnR)}{g:DS}(X:K.In h)(G:h.Ns mainGlobals mg)(M:QdY mg cst)(t:∀b:Heap,QbA Pr w K mg b k Γ)(q:Kn x s P Γ g)(F:Fact K x s)(b:Heap):QbA Pr w K mg b (k+1) ((x,⟨P.length,[],Dn s g⟩)::Γ):=(t b).cons (Qcb X G F q.a q.b M (t b) q.c)
local macro_rules | `(tactic| trivial)=> `(tactic| (refine⟨scM rfl rfl rfl (by decide+kernel),λ_ _ _ _ _ _=>?_,some_of (by decide+kernel)⟩;repeat' first | exact l0 rfl | refine lc λ_=>?_))
noncomputable abbrev cls:List Str:=["NoRow","NotPlain","TooMany"]
noncomputable abbrev QDd:List (Str×List (Str×Bool)):=[("NoRow",[("NoNet",false),("NoHeap",false),("NoRow",true),("NotPlain",false),("TooMany",false),("ValueError",true),("HeapError",true)]),("NotPlain",[("NoNet",false),("NoHeap",false),("NoRow",false),("NotPlain",true),("TooMany",false),("ValueError",true),("HeapError",true)]),("TooMany",[("NoNet",false),("NoHeap",false),("NoRow",false),("NotPlain",false),("TooMany",true),("ValueError",true),("HeapError",true)])]
noncomputable abbrev sub:=Qw4 QDd
noncomputable abbrev CpT(s:Stmt)(Γ:List (Str×FnR))(Γx:List (Str×(Nat×(List D->Option Str))))(hΓ:List (Str×FnR)):Option DS:=QaY 60 (thT 60 s Γ cst ⟨Γx,cls⟩ sub hΓ) (QaM s)
noncomputable abbrev CpH(s:Stmt)(hΓ:List (Str×FnR)):Option DS:=Qjc (Qer s [] cst) sub hΓ (QaM s)
noncomputable abbrev CpX(s:Stmt)(Γ:List (Str×FnR))(Γx:List (Str×(Nat×(List D->Option Str)))):Option DX:=QeU 60 (Qer s Γ cst) ⟨Γx,cls⟩ (QaM s)
abbrev QbE:=top 9
theorem QiJ:Sc QbE ["net","rows"]:=scM rfl rfl rfl (by decide+kernel)
theorem Qka:Qaf "need_rows" QbE ["net","rows"]:=λ_ _ _ _ _ _=>lc λ_=>lc λ_=>l0 rfl
noncomputable def QiT:=(CpX QbE [] []).getD xNo
theorem QoJ:CpX QbE [] []=some QiT:=some_of (by decide+kernel)
noncomputable abbrev Qbk:=Qak (namesOf (Ql QbE)).length QiT
noncomputable abbrev Qfy:List (Str×(Nat×(List D->Option Str))):=("need_rows",(2,Qbk))::[]
def QjY:=(Cp QbE []).getD Qw
theorem Qp4:Cp QbE []=some QjY:=some_of (by decide+kernel)
abbrev Qz:=Dn QbE QjY
abbrev QgF:=Gc "need_rows" 2 Qz []
abbrev QfB:=top 10
def Qir:=(Cp QfB QgF).getD Qw
theorem Qpi:Kn "need_heaps" QfB ["net","heaps"] QgF Qir:=by trivial
abbrev Qd9:=Dn QfB Qir
abbrev QfR:=Gc "need_heaps" 2 Qd9 QgF
abbrev Qmq:=top 12
def QqL:=(Cp Qmq QfR).getD Qw
theorem Qyg:Kn "steps" Qmq ["roads","lanes"] QfR QqL:=by trivial
abbrev QdP:=Dn Qmq QqL
abbrev QmZ:=Gc "steps" 2 QdP QfR
abbrev QfL:=top 13
def Qin:=(Cp QfL QmZ).getD Qw
theorem QpU:Kn "toll_table" QfL ["net"] QmZ Qin:=by trivial
abbrev Q0:=Dn QfL Qin
abbrev QfT:=Gc "toll_table" 1 Q0 QmZ
abbrev Qgr:=top 14
def QjT:=(Cp Qgr QfT).getD Qw
theorem Qqd:Kn "span_list" Qgr ["net"] QfT QjT:=by trivial
abbrev Qab:=Dn Qgr QjT
abbrev Qds:=Gc "span_list" 1 Qab QfT
abbrev QdN:=top 15
theorem QoN:Sc QdN ["net","row","counts"]:=scM rfl rfl rfl (by decide+kernel)
theorem Qra:Qaf "after" QdN ["net","row","counts"]:=λ_ _ _ _ _ _=>lc λ_=>lc λ_=>lc λ_=>l0 rfl
noncomputable def QpK:=(CpX QdN Qds Qfy).getD xNo
theorem Qwu:CpX QdN Qds Qfy=some QpK:=some_of (by decide+kernel)
noncomputable abbrev Qf4:=Qak (namesOf (Ql QdN)).length QpK
noncomputable abbrev QkT:List (Str×(Nat×(List D->Option Str))):=("after",(3,Qf4))::Qfy
def Qrj:=(Cp QdN Qds).getD Qw
theorem Qxn:Cp QdN Qds=some Qrj:=some_of (by decide+kernel)
abbrev QaL:=Dn QdN Qrj
abbrev Qmv:=Gc "after" 3 QaL Qds
abbrev Qhw:=top 17
def Qlo:=(Cp Qhw Qmv).getD Qw
theorem Qr8:Kn "is_plain" Qhw ["net"] Qmv Qlo:=by trivial
abbrev QbC:=Dn Qhw Qlo
abbrev QdW:=Gc "is_plain" 1 QbC Qmv
abbrev Qbg:=top 18
theorem Qia:Sc Qbg ["net"]:=scM rfl rfl rfl (by decide+kernel)
theorem Qi3:Qaf "need_plain" Qbg ["net"]:=λ_ _ _ _ _ _=>lc λ_=>l0 rfl
noncomputable def Qh0:=(CpX Qbg QdW QkT).getD xNo
theorem QnW:CpX Qbg QdW QkT=some Qh0:=some_of (by decide+kernel)
noncomputable abbrev Qcx:=Qak (namesOf (Ql Qbg)).length Qh0
noncomputable abbrev Qe4:List (Str×(Nat×(List D->Option Str))):=("need_plain",(1,Qcx))::QkT
def Qiq:=(Cp Qbg QdW).getD Qw
theorem QoG:Cp Qbg QdW=some Qiq:=some_of (by decide+kernel)
abbrev QaO:=Dn Qbg Qiq
abbrev Qf9:=Gc "need_plain" 1 QaO QdW
abbrev QkC:=top 20
def Qpy:=(Cp QkC Qf9).getD Qw
theorem QuT:Kn "column" QkC ["table","at"] Qf9 Qpy:=by trivial
abbrev QeB:=Dn QkC Qpy
abbrev QkM:=Gc "column" 2 QeB Qf9
abbrev Qkw:=top 21
def Qon:=(Cp Qkw QkM).getD Qw
theorem QuN:Kn "turned" Qkw ["table"] QkM Qon:=by trivial
abbrev QhQ:=Dn Qkw Qon
abbrev QkU:=Gc "turned" 1 QhQ QkM
abbrev QhV:=top 22
def QlJ:=(Cp QhV QkU).getD Qw
theorem QrI:Kn "opposite" QhV ["line"] QkU QlJ:=by trivial
abbrev QaE:=Dn QhV QlJ
abbrev Qhm:=Gc "opposite" 1 QaE QkU
abbrev Qkl:=top 23
def QoD:=(Cp Qkl Qhm).getD Qw
theorem QuX:Kn "common" Qkl ["numbers"] Qhm QoD:=by trivial
abbrev QhA:=Dn Qkl QoD
abbrev Qks:=Gc "common" 1 QhA Qhm
abbrev QfO:=top 25
def Qjd:=(Cp QfO Qks).getD Qw
theorem QoK:Kn "with_pivot" QfO ["lines","at"] Qks Qjd:=by trivial
abbrev Qea:=Dn QfO Qjd
abbrev Qf0:=Gc "with_pivot" 2 Qea Qks
abbrev Qgv:=top 26
def Qj6:=(Cp Qgv Qf0).getD Qw
theorem Qqb:Kn "taken_off" Qgv ["line","pivot_line","at","before"] Qf0 Qj6:=by trivial
abbrev QeQ:=Dn Qgv Qj6
abbrev Qgt:=Gc "taken_off" 4 QeQ Qf0
abbrev Qix:=top 24
def Qni:=(Cp Qix Qgt).getD Qw
theorem QsZ:Kn "cleared" Qix ["lines"] Qgt Qni:=by trivial
abbrev Qgj:=Dn Qix Qni
abbrev Qiv:=Gc "cleared" 1 Qgj Qgt
abbrev Qek:=top 27
def Qgq:=(Cp Qek Qiv).getD Qw
theorem QlX:Kn "cleared_whole" Qek ["lines"] Qiv Qgq:=by trivial
abbrev QcN:=Dn Qek Qgq
abbrev Qd2:=Gc "cleared_whole" 1 QcN Qiv
abbrev QfN:=top 28
def Qiy:=(Cp QfN Qd2).getD Qw
theorem QpT:Kn "shared_out" QfN ["table","row"] Qd2 Qiy:=by trivial
abbrev Qeg:=Dn QfN Qiy
abbrev Qf1:=Gc "shared_out" 2 Qeg Qd2
abbrev QgA:=top 30
def Qkh:=(Cp QgA Qf1).getD Qw
theorem Qqs:Kn "net_table" QgA ["net"] Qf1 Qkh:=by trivial
abbrev QeL:=Dn QgA Qkh
abbrev Qgu:=Gc "net_table" 1 QeL Qf1
abbrev Qjf:=top 33
def QnL:=(Cp Qjf Qgu).getD Qw
theorem Qtf:Kn "settled" Qjf ["tolls","heap","counts"] Qgu QnL:=by trivial
abbrev Qgk:=Dn Qjf QnL
abbrev QiR:=Gc "settled" 3 Qgk Qgu
abbrev Qms:=top 32
def Qq1:=(Cp Qms QiR).getD Qw
theorem Qxt:Kn "still" Qms ["net","heap"] QiR Qq1:=by trivial
abbrev Qg5:=Dn Qms Qq1
abbrev QmO:=Gc "still" 2 Qg5 QiR
abbrev Qe8:=top 36
def QhY:=(Cp Qe8 QmO).getD Qw
theorem QnU:Kn "near_counts" Qe8 ["net","row"] QmO QhY:=by trivial
abbrev QdB:=Dn Qe8 QhY
abbrev Qe6:=Gc "near_counts" 2 QdB QmO
abbrev Qem:=top 37
def Qgn:=(Cp Qem Qe6).getD Qw
theorem QlB:Kn "doubled_spans" Qem ["net"] Qe6 Qgn:=by trivial
abbrev Qb0:=Dn Qem Qgn
abbrev QdV:=Gc "doubled_spans" 1 Qb0 Qe6
abbrev s_again:=top 35
def QqP:=(Cp s_again QdV).getD Qw
theorem QyY:Kn "again" s_again ["net","row"] QdV QqP:=by trivial
abbrev QdK:=Dn s_again QqP
abbrev Qhb:=Gc "again" 2 QdK QdV
abbrev Qb5:=top 39
theorem Qki:Sc Qb5 ["net"]:=scM rfl rfl rfl (by decide+kernel)
theorem Ql3:Qaf "with_pit" Qb5 ["net"]:=λ_ _ _ _ _ _=>lc λ_=>l0 rfl
noncomputable def Qj7:=(CpX Qb5 Qhb Qe4).getD xNo
theorem Qp7:CpX Qb5 Qhb Qe4=some Qj7:=some_of (by decide+kernel)
noncomputable abbrev QbG:=Qak (namesOf (Ql Qb5)).length Qj7
noncomputable abbrev Qgw:List (Str×(Nat×(List D->Option Str))):=("with_pit",(1,QbG))::Qe4
def QlD:=(Cp Qb5 Qhb).getD Qw
theorem QrW:Cp Qb5 Qhb=some QlD:=some_of (by decide+kernel)
abbrev QG:=Dn Qb5 QlD
abbrev Qel:=Gc "with_pit" 1 QG Qhb
abbrev Qbm:=top 40
theorem Qh3:Sc Qbm ["net","full","counts"]:=scM rfl rfl rfl (by decide+kernel)
theorem QiO:Qaf "full_after" Qbm ["net","full","counts"]:=λ_ _ _ _ _ _=>lc λ_=>lc λ_=>lc λ_=>l0 rfl
noncomputable def Qh6:=(CpX Qbm Qel Qgw).getD xNo
theorem QnT:CpX Qbm Qel Qgw=some Qh6:=some_of (by decide+kernel)
noncomputable abbrev QbW:=Qak (namesOf (Ql Qbm)).length Qh6
noncomputable abbrev Qe7:List (Str×(Nat×(List D->Option Str))):=("full_after",(3,QbW))::Qgw
def Qij:=(Cp Qbm Qel).getD Qw
theorem QoX:Cp Qbm Qel=some Qij:=some_of (by decide+kernel)
abbrev QaN:=Dn Qbm Qij
abbrev QcQ:=Gc "full_after" 3 QaN Qel
abbrev QcY:=top 41
theorem QnQ:Sc QcY ["net","full"]:=scM rfl rfl rfl (by decide+kernel)
theorem Qox:Qaf "lowest" QcY ["net","full"]:=λ_ _ _ _ _ _=>lc λ_=>lc λ_=>l0 rfl
noncomputable def QnJ:=(CpX QcY QcQ Qe7).getD xNo
theorem QtI:CpX QcY QcQ Qe7=some QnJ:=some_of (by decide+kernel)
noncomputable abbrev Qc1:=Qak (namesOf (Ql QcY)).length QnJ
noncomputable abbrev Qi7:List (Str×(Nat×(List D->Option Str))):=("lowest",(2,Qc1))::Qe7
def Qp0:=(Cp QcY QcQ).getD Qw
theorem Qvt:Cp QcY QcQ=some Qp0:=some_of (by decide+kernel)
abbrev Q1:=Dn QcY Qp0
abbrev Qf2:=Gc "lowest" 2 Q1 QcQ
abbrev QbF:=top 42
theorem Qjb:Sc QbF ["net","full"]:=scM rfl rfl rfl (by decide+kernel)
theorem Qj0:Qaf "made_good" QbF ["net","full"]:=λ_ _ _ _ _ _=>lc λ_=>lc λ_=>l0 rfl
noncomputable def QiN:=(CpX QbF Qf2 Qi7).getD xNo
theorem QoF:CpX QbF Qf2 Qi7=some QiN:=some_of (by decide+kernel)
noncomputable abbrev Qcp:=Qak (namesOf (Ql QbF)).length QiN
noncomputable abbrev QfX:List (Str×(Nat×(List D->Option Str))):=("made_good",(2,Qcp))::Qi7
def Qj8:=(Cp QbF Qf2).getD Qw
theorem Qp9:Cp QbF Qf2=some Qj8:=some_of (by decide+kernel)
abbrev QaV:=Dn QbF Qj8
abbrev QgN:=Gc "made_good" 2 QaV Qf2
abbrev QhS:=top 47
def Qlf:=(Cp QhS QgN).getD Qw
theorem QrL:Kn "one_less" QhS ["net","forms"] QgN Qlf:=by trivial
abbrev Qb2:=Dn QhS Qlf
abbrev QdZ:=Gc "one_less" 2 Qb2 QgN
abbrev QbD:=top 46
theorem QiF:Sc QbD ["net","full"]:=scM rfl rfl rfl (by decide+kernel)
theorem QjW:Qaf "row_worth" QbD ["net","full"]:=λ_ _ _ _ _ _=>lc λ_=>lc λ_=>l0 rfl
noncomputable def Qi9:=(CpX QbD QdZ QfX).getD xNo
theorem QpE:CpX QbD QdZ QfX=some Qi9:=some_of (by decide+kernel)
noncomputable abbrev QbO:=Qak (namesOf (Ql QbD)).length Qi9
noncomputable abbrev QfJ:List (Str×(Nat×(List D->Option Str))):=("row_worth",(2,QbO))::QfX
def Qkk:=(Cp QbD QdZ).getD Qw
theorem Qqf:Cp QbD QdZ=some Qkk:=some_of (by decide+kernel)
abbrev QaC:=Dn QbD Qkk
abbrev Qdo:=Gc "row_worth" 2 QaC QdZ
abbrev Qa4:=top 48
theorem Qhc:Sc Qa4 ["net","full"]:=scM rfl rfl rfl (by decide+kernel)
theorem Qh1:Qaf "counterpart" Qa4 ["net","full"]:=λ_ _ _ _ _ _=>lc λ_=>lc λ_=>l0 rfl
noncomputable def Qhf:=(CpX Qa4 Qdo QfJ).getD xNo
theorem QmA:CpX Qa4 Qdo QfJ=some Qhf:=some_of (by decide+kernel)
noncomputable abbrev QbJ:=Qak (namesOf (Ql Qa4)).length Qhf
noncomputable abbrev Qas:List (Str×(Nat×(List D->Option Str))):=("counterpart",(2,QbJ))::QfJ
def QhZ:=(Cp Qa4 Qdo).getD Qw
theorem QnV:Cp Qa4 Qdo=some QhZ:=some_of (by decide+kernel)
abbrev QaS:=Dn Qa4 QhZ
abbrev Qfb:=Gc "counterpart" 2 QaS Qdo
abbrev Qeu:=top 50
def Qg1:=(Cp Qeu Qfb).getD Qw
theorem Qm5:Kn "_law_cell_at" Qeu ["_law_script","_law_k"] Qfb Qg1:=by trivial
abbrev Q2:=Dn Qeu Qg1
abbrev Qew:=Gc "_law_cell_at" 2 Q2 Qfb
abbrev Qgz:=top 51
def Qkj:=(Cp Qgz Qew).getD Qw
theorem Qqg:Kn "_law_base" Qgz ["_law_many","_law_turn","_law_kind"] Qew Qkj:=by trivial
abbrev QeM:=Dn Qgz Qkj
abbrev QgJ:=Gc "_law_base" 3 QeM Qew
abbrev QgG:=top 52
def Qj3:=(Cp QgG QgJ).getD Qw
theorem Qqq:Kn "_law_fits" QgG ["_law_many","_law_ways","_law_room"] QgJ Qj3:=by trivial
abbrev QbH:=Dn QgG Qj3
abbrev QgE:=Gc "_law_fits" 3 QbH QgJ
abbrev Qgy:=top 53
def Qkf:=(Cp Qgy QgE).getD Qw
theorem Qqz:Kn "_law_more" Qgy ["_law_ways","_law_cells","_law_many","_law_kind","_law_room"] QgE Qkf:=by trivial
abbrev QeI:=Dn Qgy Qkf
abbrev QgK:=Gc "_law_more" 5 QeI QgE
abbrev QhC:=top 54
def Ql1:=(Cp QhC QgK).getD Qw
theorem Qr2:Kn "_law_net" QhC ["_law_script","_law_most","_law_room"] QgK Ql1:=by trivial
abbrev Qeo:=Dn QhC Ql1
abbrev QhU:=Gc "_law_net" 3 Qeo QgK
abbrev Qdp:=top 56
theorem Qo6:Sc Qdp ["_law_error"]:=scM rfl rfl rfl (by decide+kernel)
theorem Qqv:Qaf "_law_word" Qdp ["_law_error"]:=λ_ _ _ _ _ _=>lc λ_=>l0 rfl
def QjX:=(CpH Qdp []).getD Qw
theorem Qp5:CpH Qdp []=some QjX:=some_of (by decide+kernel)
abbrev QaB:=Dn Qdp QjX
noncomputable abbrev QaP:=Gc "_law_word" 1 QaB []
abbrev Qb3:=top 57
theorem QkI:Sc Qb3 ["_law_net_here","_law_full","_law_counts"]:=scM rfl rfl rfl (by decide+kernel)
theorem Qle:Qaf "_law_by_after" Qb3 ["_law_net_here","_law_full","_law_counts"]:=λ_ _ _ _ _ _=>lc λ_=>lc λ_=>lc λ_=>l0 rfl
def Qgg:=(CpT Qb3 QhU Qas QaP).getD Qw
theorem Qmd:CpT Qb3 QhU Qas QaP=some Qgg:=some_of (by decide+kernel)
abbrev Qb8:=Dn Qb3 Qgg
abbrev QdS:=Gc "_law_by_after" 3 Qb8 QhU
abbrev QbN:=top 58
theorem QjS:Sc QbN ["_law_net_here","_law_full"]:=scM rfl rfl rfl (by decide+kernel)
theorem QkZ:Qaf "_law_by_lowest" QbN ["_law_net_here","_law_full"]:=λ_ _ _ _ _ _=>lc λ_=>lc λ_=>l0 rfl
def QfA:=(CpT QbN QdS Qas QaP).getD Qw
theorem QkV:CpT QbN QdS Qas QaP=some QfA:=some_of (by decide+kernel)
abbrev Qcv:=Dn QbN QfA
abbrev QdC:=Gc "_law_by_lowest" 2 Qcv QdS
abbrev Qck:=top 59
theorem QlF:Sc Qck ["_law_net_here","_law_full"]:=scM rfl rfl rfl (by decide+kernel)
theorem Qmw:Qaf "_law_by_good" Qck ["_law_net_here","_law_full"]:=λ_ _ _ _ _ _=>lc λ_=>lc λ_=>l0 rfl
def QgX:=(CpT Qck QdC Qas QaP).getD Qw
theorem Qng:CpT Qck QdC Qas QaP=some QgX:=some_of (by decide+kernel)
abbrev Qdb:=Dn Qck QgX
abbrev Qey:=Gc "_law_by_good" 2 Qdb QdC
abbrev Qb4:=top 60
theorem QkP:Sc Qb4 ["_law_net_here","_law_full"]:=scM rfl rfl rfl (by decide+kernel)
theorem QlS:Qaf "_law_by_worth" Qb4 ["_law_net_here","_law_full"]:=λ_ _ _ _ _ _=>lc λ_=>lc λ_=>l0 rfl
def Qgi:=(CpT Qb4 Qey Qas QaP).getD Qw
theorem QlI:CpT Qb4 Qey Qas QaP=some Qgi:=some_of (by decide+kernel)
abbrev QaK:=Dn Qb4 Qgi
abbrev Qd8:=Gc "_law_by_worth" 2 QaK Qey
abbrev QaT:=top 61
theorem QgO:Sc QaT ["_law_net_here","_law_full"]:=scM rfl rfl rfl (by decide+kernel)
theorem Qha:Qaf "_law_by_counterpart" QaT ["_law_net_here","_law_full"]:=λ_ _ _ _ _ _=>lc λ_=>lc λ_=>l0 rfl
def QdJ:=(CpT QaT Qd8 Qas QaP).getD Qw
theorem QgP:CpT QaT Qd8 Qas QaP=some QdJ:=some_of (by decide+kernel)
abbrev Qbq:=Dn QaT QdJ
abbrev Qcl:=Gc "_law_by_counterpart" 2 Qbq Qd8
abbrev QcS:=top 62
def QeZ:=(Cp QcS Qcl).getD Qw
theorem Qil:Kn "_law_all_refused" QcS ["_law_net_here","_law_row","_law_right","_law_due"] Qcl QeZ:=by trivial
abbrev QaA:=Dn QcS QeZ
abbrev QcZ:=Gc "_law_all_refused" 4 QaA Qcl
abbrev QfI:=top 63
def QiS:=(Cp QfI QcZ).getD Qw
theorem QpY:Kn "_law_wrong" QfI ["_law_full","_law_cell"] QcZ QiS:=by trivial
abbrev QcU:=Dn QfI QiS
abbrev QfC:=Gc "_law_wrong" 2 QcU QcZ
abbrev QfQ:=top 64
def QiC:=(Cp QfQ QfC).getD Qw
theorem Qpe:Kn "_law_worth" QfQ ["_law_net_here","_law_full","_law_cell"] QfC QiC:=by trivial
abbrev QcX:=Dn QfQ QiC
abbrev QfG:=Gc "_law_worth" 3 QcX QfC
abbrev QcT:=top 65
def QeY:=(Cp QcT QfG).getD Qw
theorem QiE:Kn "_law_counterpart" QcT ["_law_net_here","_law_full"] QfG QeY:=by trivial
abbrev Qbf:=Dn QcT QeY
abbrev Qc8:=Gc "_law_counterpart" 2 Qbf QfG
abbrev Qgx:=top 66
def QjZ:=(Cp Qgx Qc8).getD Qw
theorem Qqe:Kn "_law_tree" Qgx ["_law_cell"] Qc8 QjZ:=by trivial
abbrev Qdt:=Dn Qgx QjZ
abbrev Qj2:=Gc "_law_tree" 1 Qdt Qc8
abbrev Qla:=top 67
theorem QAx:Sc Qla ["_law_script"]:=scM rfl rfl rfl (by decide+kernel)
theorem QB8:Qaf "law" Qla ["_law_script"]:=λ_ _ _ _ _ _=>lc λ_=>l0 rfl
def Qw1:=(Cp Qla Qj2).getD Qw
theorem QBD:Cp Qla Qj2=some Qw1:=some_of (by decide+kernel)
abbrev Qsq:=Dn Qla Qw1
theorem Qj1:Qz=Qs 3 (HS.Qdu):=by kernel_rfl
theorem Qyt:QdP=Qs 4 (HS.QmN):=by kernel_rfl
theorem QoR:Q0=Qs 5 (HS.QfF QdP):=by kernel_rfl
theorem Qq6:QaL=Qs 6 (HS.QjE Qz Q0):=by kernel_rfl
theorem QiX:QaO=Qs 1 (HS.Qc4 QbC):=by kernel_rfl
theorem Qlm:QG=Qs 1 (HS.Qfi QaO):=by kernel_rfl
theorem Qid:QaN=Qs 3 (HS.Qd3 QG QaL):=by kernel_rfl
theorem Qpw:Q1=Qs 5 (HS.Qho QG Qz Qab QdK QaE QaL):=by kernel_rfl
theorem Qkd:QaV=Qs 3 (HS.QeJ Q1):=by kernel_rfl
theorem Qkc:QaC=Qs 4 (HS.Qdw QG Qz Q1 Qb2):=by kernel_rfl
theorem Qh5:QaS=Qs 3 (HS.Qdy QG Qz Qab):=by kernel_rfl
theorem QCs:Qsq=Qs 6 (HS.QnM Qeo Q2 QcU QaA QcX Qdt Q1 QaV Qbf QaN):=by kernel_rfl
theorem QiD:Qbk=Qak 3 (HS.QeH):=by kernel_rfl
theorem QpX:Qf4=Qak 6 (HS.Qjt Q0 Qz Qbk):=by kernel_rfl
theorem Qh4:Qcx=Qak 1 (HS.QdR QbC):=by kernel_rfl
theorem Qj9:QbG=Qak 1 (HS.Qfj QaO Qcx):=by kernel_rfl
theorem Qh2:QbW=Qak 3 (HS.Qef QG QaL QbG Qf4):=by kernel_rfl
theorem QnB:Qc1=Qak 5 (HS.Qhy QaL QdK QaE Qab Qz QG Qbk QbG):=by kernel_rfl
theorem Qip:Qcp=Qak 3 (HS.QeK Q1 Qc1):=by kernel_rfl
theorem QfZ:QbO=Qak 4 (HS.Qdn Qb2 Q1 QG Qz QbG Qbk):=by kernel_rfl
theorem Qg3:QbJ=Qak 3 (HS.Qdx Qab Qz QG Qbk QbG):=by kernel_rfl
end
end Law
namespace HS
open PySem PySem.Spec L2
noncomputable def QwF(mg:Str->Option Value):List Str->Prop
 | []=>True
 | x::r=>mg x=none/\QwF mg r
theorem QpL{mg:Str->Option Value}:∀{l:List Str},QwF mg l->∀x∈l,mg x=none
 | [],_,x,h=>by simp at h
 | y::r,h,x,hx=>by
  rcases Zn.mp hx with rfl | hx
  ·exact h.1
  ·exact QpL h.2 x hx
noncomputable def Qvo(mg:Str->Option Value):List (Str×Int)->Prop
 | []=>True
 | (x,i)::r=>(∃t,mg x=some (.int i t))/\Qvo mg r
theorem Qpz{mg:Str->Option Value}:∀{l:List (Str×Int)},Qvo mg l->∀x i,look x l=some i->∃t,mg x=some (.int i t)
 | [],_,x,i,h=>by cases h
 | (y,j)::r,h,x,i,hx=>by
  unfold look at hx;split at hx
  ·rename_i e;cases hx;subst e;exact h.1
  ·exact Qpz h.2 x i hx
theorem QAJ{mg:Str->Option Value}{cs:List (Str×Int)}(b:QwF mg QpP)(c:Qvo mg cs):QdY mg cs:=⟨QpL b,Qpz c⟩
end HS
theorem HS.Qw9{K:Fgg}{mg:PySem.Str->Option PySem.Value}{h:PySem.Heap}{x:PySem.Str}{i:Int}{t:PySem.Tok}(X:K.In h)(G:h.Ns PySem.mainGlobals mg)(a:PySem.W.nsIn K PySem.mainGlobals x=some (some (.int i t))):∃t,mg x=some (.int i t):=⟨t,ZaM X G a⟩
namespace Law
open HS
theorem Qod:QfV Q0:=by rw[QoR,Qyt];exact QxV
theorem Qhu:Qen Qz:=by rw[Qj1];exact QyE
def QAH:=eqQ Qml Qd9 (Qvc Qhu)
def QuL:=eqQ QiY Qgk Qsg
def QAY:=eqQ Qmu Qg5 (QvV QAH Qod QuL)
theorem Qp2:Qg0 QaL:=by rw[Qq6];exact QvK Qhu Qod
def QoL:=eqQ QiI Qab (QyM Qod)
def QwQ:=eqQ Qic Qb0 (QrX QoL)
def QAG:=eqQ Qob QaE QAb
def Qy4:=eqQ Qk1 QeL (Quj QAG Qod)
def QqZ:=eqQ Qhr QeB Quu
def QxM:=eqQ Qk9 QhQ (Qup QqZ)
def Qxq:=eqQ Qkr QhA Qtl
def QA1:=eqQ QmF Qea (QwN (dop:=QaE))
def Qz1:=eqQ QmY QeQ QvL
def QuP:=eqQ Qie Qgj (Qrw QA1 Qz1)
def QsL:=eqQ QhK QcN (Qqh QuP)
def Qy5:=eqQ Qkm Qeg (Quh QxM QsL QqZ Qxq)
def QCe:=eqQ Qm2 QdB (QvE Qy4 Qy5)
def QAL:=eqQ Qmy QdK (Qvw Qhu QCe Qp2 QwQ QAY)
def Qus:=eqQ QjG QbC Qv6
theorem Qzl:QmG QaO:=by rw[QiX];exact Qv8 Qus
theorem Qec:Qcm QG:=by rw[Qlm];exact Qws Qzl
theorem QrJ:Qhs Q1:=by rw[Qpw];exact QAy Qec Qhu QoL QAL QAG Qp2
def QDv:=eqQ Qso Qb2 (QzL QrJ)
theorem Qtk:Qju QaC:=by rw[Qkc];exact QuK Qec Qhu QrJ QDv
theorem QzI:Qm3 QaV:=by rw[Qkd];exact QuR QrJ
theorem QAe:QmJ QaN:=by rw[Qid];exact QuZ Qec Qp2
theorem QBi:QiU QaS:=by rw[Qh5];exact Qrx Qec Qhu QoL
theorem QeX:ApF Qz Qbk:=by rw[Qj1,QiD];exact Qx8
theorem Qoj:Qgd Qbk:=by rw[QiD];exact QwS
theorem QqN:ApF QaL Qf4:=by rw[Qq6,QpX];exact Qvy QeX
theorem Qzq:QoW Qf4:=by rw[QpX];exact Qur QeX Qoj
theorem Qro:ApF QaO Qcx:=by rw[QiX,Qh4];exact QuO
theorem QzJ:Qep Qcx:=by rw[Qh4];exact Qun Qus
theorem Qe0:ApF QG QbG:=by rw[Qlm,Qj9];exact Qyy Qro
theorem Qof:Qep QbG:=by rw[Qj9];exact QuG Qro QzJ
theorem Qxi:ApF QaN QbW:=by rw[Qid,Qh2];exact Qvd Qe0 QqN
theorem QBl:Qpv QbW:=by rw[Qh2];exact Qub Qe0 QqN Qec Qof Qzq
theorem QrK:ApF Q1 Qc1:=by rw[Qpw,QnB];exact QBt Qe0 QeX
theorem QAO:Qdh Qc1:=by rw[QnB];exact Qxs Qe0 QeX Qec Qof Qoj
theorem Qzj:ApF QaV Qcp:=by rw[Qkd,Qip];exact Qyr QrK
theorem QB2:Qdh Qcp:=by rw[Qip];exact Qwj QrK QAO
theorem Qxl:ApF QaC QbO:=by rw[Qkc,QfZ];exact QvW Qe0 QeX
theorem QAN:Qdh QbO:=by rw[QfZ];exact Qti Qe0 QeX Qec Qof Qoj
theorem Qw2:Qn7 QbO:=by rw[QfZ];exact Qv4 Qec Qhu
theorem QxX:ApF QaS QbJ:=by rw[Qh5,Qg3];exact Qvs Qe0 QeX
theorem QBm:Qdh QbJ:=by rw[Qg3];exact Qtu Qe0 QeX Qec Qof Qoj
def Qw3:=eqQ QlN Q2 QyO
def QCn:=eqQ Qot QeM Qyb
def QBJ:=eqQ QmS QbH QwJ
def QCl:=eqQ QmM QeI (QwC QBJ)
def QCY:=eqQ Qm4 Qeo (QuE Qw3 QCn QCl)
def QAA:=eqQ QmI QcU QvM
def Qlw:=eqQ (QdI sub) QaB QsO
def QCN:=eqQ (QmQ sub QbW) Qb8 (Qp3 Qxi Qlw)
def QDk:=eqQ (Qb6 sub Qc1) Qcv (QoZ QrK Qlw)
def QDl:=eqQ (Qb6 sub Qcp) Qdb (QrC Qzj Qlw)
def Qwn:=eqQ (Qb6 sub QbO) QaK (Qqc Qxl Qlw)
def QCR:=eqQ (Qb6 sub QbJ) Qbq (QjR QxX Qlw)
def QC6:=eqQ (QkX sub QbW Qc1 Qcp QbO QbJ) QaA (QuB QCN QDk QDl Qwn QCR)
theorem w0:Qed sub "NoRow" 0:=⟨by decide+kernel,by decide+kernel,by decide+kernel,by decide+kernel,by decide+kernel,by decide+kernel,by decide+kernel⟩
theorem w1:Qed sub "NotPlain" 1:=⟨by decide+kernel,by decide+kernel,by decide+kernel,by decide+kernel,by decide+kernel,by decide+kernel,by decide+kernel⟩
theorem w2:Qed sub "TooMany" 2:=⟨by decide+kernel,by decide+kernel,by decide+kernel,by decide+kernel,by decide+kernel,by decide+kernel,by decide+kernel⟩
def hLW:=eqQ Qhp QcX (Qqa Qtk Qwn Qw2 w2)
def QBY:=eqQ Qk4 Qdt (Qs4 Qtk Qwn Qw2 w2)
def hLC:=eqQ QhP Qbf (Qqw QBi)
theorem QA2(ns:List Int)(h:ns.length<=63):∃fr,Qsq [.lst (ns.map .int)]=some (.bl true,fr):=by
 rw[QCs];exact⟨true,QAV QCY Qw3 QAA QC6 hLW QBY QrJ QzI hLC QAe QBl QAO QB2 QAN QBm w0 w1 ns h⟩
end Law
namespace PySem.W.Fast
def tw12621542508343034390:=0
def tw17920346064567133590:=0
def tw14445004674033837355:=0
def tw6416305768853349435:=0
def tw10476494043863495637:=0
def tw2617877807212209563:=0
def tw5826791348408094052:=0
def tw15017939966340002601:=0
def tw11371323694477971172:=0
def tw16913030282704517996:=0
def tw108902877827377892:=0
def tw4332133847690312282:=0
def tw16223278798571902330:=0
def tw15779476166710133370:=0
def tw8766802833727777047:=0
def tw13964495803276427261:=0
def tw5496680516451444812:=0
def tw3260398683473233512:=0
def tw1512369188257324540:=0
def tw13929294224118155721:=0
def tw11392631955158473828:=0
def tw6434457081155697324:=0
def tw16041550245810571562:=0
def tw17260975222028000762:=0
def tw10798973817711062261:=0
def tw11064197614926001906:=0
def tw3649905397878698432:=0
def tw13037316763171760984:=0
def tw12780595206888578592:=0
def tw11954439506920785536:=0
def tw11213326732938626153:=0
def tw11819181770584088330:=0
def tw17848012090424684318:=0
def tw120798399975136427:=0
def tw1742643194273838815:=0
def tw2752173829303953577:=0
def tw16932781317295413045:=0
def tw17882540703744650775:=0
def tw864153342568120374:=0
def tw5405208306851268314:=0
def tw9169386046071408977:=0
def tw10643440030758581508:=0
def tw16040732856003699947:=0
def tw18097114937508727575:=0
def tw10680931151035492134:=0
def tw1860623622678590851:=0
def tw16229485120114455816:=0
def tw11759783898001254628:=0
def tw113455497488627812:=0
def tw6322221358943049898:=0
def tw11320067775940280905:=0
def tw11783667790269772605:=0
def tw16673540253057417169:=0
def tw3413737246412023722:=0
def tw10275769799819840625:=0
def tw7900185015844742045:=0
def tw13115681155586564390:=0
def tw15304213644247851378:=0
def tw6042011375926101716:=0
def tw10577933480283275645:=0
def tw7929456459595997986:=0
def tw7532413524028288329:=0
def tw14305581344679222484:=0
def tw9876358400323995617:=0
def tw14791091032105168695:=0
def tw10157979307077522276:=0
def tw5325180530177408624:=0
def tw4646293264435906731:=0
def tw464892860110152243:=0
def tw14342834434841925588:=0
def tw7988402001646915778:=0
def tw5732117956435515410:=0
def tw2175761230304671497:=0
def tw10734331247062321747:=0
def tw14346703426682723351:=0
def tw10687477385678608381:=0
def tw695142868360686254:=0
def tw16764390152820651779:=0
def tw10529606343360164765:=0
def tw11686646764859933509:=0
def tw1616358810345888139:=0
def tw680183672913946956:=0
def tw4645204032349677492:=0
def tw14673709672458212760:=0
def tw107888015168330589:=0
def tw2098665662226778779:=0
def tw16999504480051626446:=0
def tw6918748926537245469:=0
def tw15381811519616372403:=0
def tw17155031003458024889:=0
def tw4957277704640592413:=0
def tw2236812853781198145:=0
def tw4906042518819525756:=0
def tw11644112351059747476:=0
def tw2755129212105178908:=0
def tw12297883782123356786:=0
def tw12522428589121859318:=0
def tw9894850841994321224:=0
def tw1625461425557572756:=0
def tw14273703359387763947:=0
def tw13888376399300442935:=0
def tw2210688763197631787:=0
def tw17038025424147673323:=0
def tw10622496898621937815:=0
def tw7872728380758374573:=0
def tw13666630986912976548:=0
def tw7195549023463302572:=0
def tw8454957756487058981:=0
def tw3557351339605449266:=0
def tw4551516942365002634:=0
def tw17062418154813793931:=0
def tw1037903185194778017:=0
def tw271992692658231320:=0
def tw11680250673962095811:=0
def tw1923380210238450839:=0
def tw15949560836347018645:=0
def tw14313464322152356656:=0
def tw10744699171981954299:=0
def tw2855351413723442577:=0
def tw7979617558500333249:=0
def tw4119633346522132052:=0
def tw8534934432316774815:=0
def tw424118304029281587:=0
def tw9339859820942843783:=0
def tw3617868249708101426:=0
def tw1874620377632375385:=0
def tw1072902026209946412:=0
def tw8618201994905882893:=0
def tw3605285118797047363:=0
def tw15788517138258882998:=0
def tw9743545239603039682:=0
def tw1612969728872382802:=0
def tw14885924177594367704:=0
def tw18250712051730836137:=0
def tw2378648443117528750:=0
def tw13021905151407075814:=0
def tw2658554668648608352:=0
def tw12912790387758434070:=0
def tw785874361324756506:=0
def tw17604978691361617062:=0
def tw17075562276380969117:=0
def tw13841551787775224541:=0
def tw11658484752564951386:=0
def tw4141082349079529419:=0
end PySem.W.Fast
local macro_rules | `(tactic| trivial)=> `(tactic| ((try dsimp only[L2.KOf]);refine' HS.fact_mk ?a ?l ?c ?k;(case a=>k_is);(case l=>k_is);(case c=>k_is);(case k=>k_is)))
open PySem PySem.W PyProof.Rows HS
set_option maxRecDepth 100000 in
set_option maxHeartbeats 0 in
theorem PySem.Challenge.cw_heapstill_k66_debts_refused_holds : PySem.Challenge.rw_heapstill_k66_debts_refused.Holds := by
 w_on;o_law;k_head;(case hw=>w_witness2)
 k_fill
 refine HS.Qwh (l:=PySem.Challenge.rw_heapstill_k66_debts_refused) (k:=47) (x:= "_law_script") (den:=Law.Qsq) rfl rfl ⟨rfl,by decide,by decide⟩ (λw h Y=>PySem.W.kIn_of Y) Law.QA2 ?F
 case F=>
  intro w mg fa h KX G hmg;have M:HS.QdY mg Law.cst:=by
   have n_MOST_PLACES:∃t,mg "MOST_PLACES" =some (.int 4 t):=by refine' HS.Qw9 KX G ?a;(case a=>first | k_is | exact rfl | (dsimp only[L2.KOf];k_is))
   have n_MOST_GRAINS:∃t,mg "MOST_GRAINS" =some (.int 6 t):=by refine' HS.Qw9 KX G ?a;(case a=>first | k_is | exact rfl | (dsimp only[L2.KOf];k_is))
   refine HS.QAJ ⟨?_,?_,?_,?_,?_,?_,?_,?_,?_,?_,?_,?_,?_,?_,?_,?_,?_,?_,?_,True.intro⟩ ⟨n_MOST_PLACES,n_MOST_GRAINS,True.intro⟩<;>exact PySem.W.mg_none_of KX G (by k_is)
  have t0:∀base:Heap,HS.QbA (PySem.Challenge.rw_heapstill_k66_debts_refused).prog w (L2.KOf KX) mg base 0 []:=λ_=>HS.QbA.nil;have hcl:∀x∈Law.cls,HS.Qit (L2.KOf KX) x:=HS.Qq5 (by refine⟨?_,?_,?_,trivial⟩<;>(dsimp only[L2.KOf];refine' HS.QyA ?a ?b;(case a=>k_is);(case b=>k_exc)));have hsub:HS.Qbx (L2.KOf KX) Law.sub:=by
   refine HS.Qzf ⟨⟨?_,?_,?_,?_,?_,?_,?_,?_,trivial⟩,⟨?_,?_,?_,?_,?_,?_,?_,?_,trivial⟩,⟨?_,?_,?_,?_,?_,?_,?_,?_,trivial⟩,trivial⟩<;>(dsimp only[L2.KOf];first | (refine' HS.QCc ?a ?b ?c ?d ?e ?f ?g;(case a=>k_is);(case b=>k_is);(case c=>k_is);(case d=>k_is);(case e=>k_is);(case f=>k_is);(case g=>k_is)) | (refine' HS.Qva ?a ?b ?c ?d;(case a=>k_is);(case b=>k_is);(case c=>kts_exm);(case d=>kit_is)) | (refine' HS.Qya ?a ?b ?c ?d;(case a=>k_is);(case b=>k_is);(case c=>kts_exm);(case d=>kit_is)))
  have x0:∀base:Heap,HS.Qe9 (PySem.Challenge.rw_heapstill_k66_debts_refused).prog w (L2.KOf KX) mg base 0 []:=λ_=>HS.Qe9.nil;have h0:∀base:Heap,HS.QeG (PySem.Challenge.rw_heapstill_k66_debts_refused).prog w (L2.KOf KX) mg base 0 []:=λ_=>HS.QeG.nil;have y1:=λb=>(x0 b).cons (HS.Qda KX G (by trivial) Law.QiJ Law.Qka M (t0 b) (x0 b) hcl Law.QoJ);have t1:=λb=>(t0 b).cons (HS.Qcb KX G (by trivial) Law.QiJ Law.Qka M (t0 b) Law.Qp4);have t2:=Law.kc KX G M t1 Law.Qpi (by trivial);have t3:=Law.kc KX G M t2 Law.Qyg (by trivial);have t4:=Law.kc KX G M t3 Law.QpU (by trivial);have t5:=Law.kc KX G M t4 Law.Qqd (by trivial);have y2:=λb=>(y1 b).mono (k:=5) (Zx rfl);have y3:=λb=>(y2 b).cons (HS.Qda KX G (by trivial) Law.QoN Law.Qra M (t5 b) (y2 b) hcl Law.Qwu);have t6:=λb=>(t5 b).cons (HS.Qcb KX G (by trivial) Law.QoN Law.Qra M (t5 b) Law.Qxn);have t7:=Law.kc KX G M t6 Law.Qr8 (by trivial);have y4:=λb=>(y3 b).mono (k:=7) (Zx rfl);have y5:=λb=>(y4 b).cons (HS.Qda KX G (by trivial) Law.Qia Law.Qi3 M (t7 b) (y4 b) hcl Law.QnW);have t8:=λb=>(t7 b).cons (HS.Qcb KX G (by trivial) Law.Qia Law.Qi3 M (t7 b) Law.QoG);have t9:=Law.kc KX G M t8 Law.QuT (by trivial);have t10:=Law.kc KX G M t9 Law.QuN (by trivial);have t11:=Law.kc KX G M t10 Law.QrI (by trivial);have t12:=Law.kc KX G M t11 Law.QuX (by trivial);have t13:=Law.kc KX G M t12 Law.QoK (by trivial);have t14:=Law.kc KX G M t13 Law.Qqb (by trivial);have t15:=Law.kc KX G M t14 Law.QsZ (by trivial);have t16:=Law.kc KX G M t15 Law.QlX (by trivial);have t17:=Law.kc KX G M t16 Law.QpT (by trivial);have t18:=Law.kc KX G M t17 Law.Qqs (by trivial);have t19:=Law.kc KX G M t18 Law.Qtf (by trivial);have t20:=Law.kc KX G M t19 Law.Qxt (by trivial);have t21:=Law.kc KX G M t20 Law.QnU (by trivial);have t22:=Law.kc KX G M t21 Law.QlB (by trivial);have t23:=Law.kc KX G M t22 Law.QyY (by trivial);have y6:=λb=>(y5 b).mono (k:=23) (Zx rfl);have y7:=λb=>(y6 b).cons (HS.Qda KX G (by trivial) Law.Qki Law.Ql3 M (t23 b) (y6 b) hcl Law.Qp7);have t24:=λb=>(t23 b).cons (HS.Qcb KX G (by trivial) Law.Qki Law.Ql3 M (t23 b) Law.QrW);have y8:=λb=>(y7 b).cons (HS.Qda KX G (by trivial) Law.Qh3 Law.QiO M (t24 b) (y7 b) hcl Law.QnT);have t25:=λb=>(t24 b).cons (HS.Qcb KX G (by trivial) Law.Qh3 Law.QiO M (t24 b) Law.QoX);have y9:=λb=>(y8 b).cons (HS.Qda KX G (by trivial) Law.QnQ Law.Qox M (t25 b) (y8 b) hcl Law.QtI);have t26:=λb=>(t25 b).cons (HS.Qcb KX G (by trivial) Law.QnQ Law.Qox M (t25 b) Law.Qvt);have y10:=λb=>(y9 b).cons (HS.Qda KX G (by trivial) Law.Qjb Law.Qj0 M (t26 b) (y9 b) hcl Law.QoF);have t27:=λb=>(t26 b).cons (HS.Qcb KX G (by trivial) Law.Qjb Law.Qj0 M (t26 b) Law.Qp9);have t28:=Law.kc KX G M t27 Law.QrL (by trivial);have y11:=λb=>(y10 b).mono (k:=28) (Zx rfl);have y12:=λb=>(y11 b).cons (HS.Qda KX G (by trivial) Law.QiF Law.QjW M (t28 b) (y11 b) hcl Law.QpE);have t29:=λb=>(t28 b).cons (HS.Qcb KX G (by trivial) Law.QiF Law.QjW M (t28 b) Law.Qqf);have y13:=λb=>(y12 b).cons (HS.Qda KX G (by trivial) Law.Qhc Law.Qh1 M (t29 b) (y12 b) hcl Law.QmA);have t30:=λb=>(t29 b).cons (HS.Qcb KX G (by trivial) Law.Qhc Law.Qh1 M (t29 b) Law.QnV);have t31:=Law.kc KX G M t30 Law.Qm5 (by trivial);have t32:=Law.kc KX G M t31 Law.Qqg (by trivial);have t33:=Law.kc KX G M t32 Law.Qqq (by trivial);have t34:=Law.kc KX G M t33 Law.Qqz (by trivial);have t35:=Law.kc KX G M t34 Law.Qr2 (by trivial);have z1:=λb=>(h0 b).mono (k:=35) (Zx rfl);have z2:=λb=>(z1 b).cons (HS.Qy3 KX G (by trivial) Law.Qo6 Law.Qqv M hsub (z1 b) Law.Qp5);have t36:=λb=>(t35 b).up (ZaW _);have y14:=λb=>(y13 b).mono (k:=36) (Zx rfl);have t37:=λb=>(t36 b).cons (HS.QgS KX G (by trivial) Law.QkI Law.Qle M (t36 b) (y14 b) hcl hsub (z2 b) Law.Qmd);have y15:=λb=>(y13 b).mono (k:=37) (Zx rfl);have z3:=λb=>(z2 b).mono (k:=37) (Zx rfl);have t38:=λb=>(t37 b).cons (HS.QgS KX G (by trivial) Law.QjS Law.QkZ M (t37 b) (y15 b) hcl hsub (z3 b) Law.QkV);have y16:=λb=>(y13 b).mono (k:=38) (Zx rfl);have z4:=λb=>(z2 b).mono (k:=38) (Zx rfl);have t39:=λb=>(t38 b).cons (HS.QgS KX G (by trivial) Law.QlF Law.Qmw M (t38 b) (y16 b) hcl hsub (z4 b) Law.Qng);have y17:=λb=>(y13 b).mono (k:=39) (Zx rfl);have z5:=λb=>(z2 b).mono (k:=39) (Zx rfl);have t40:=λb=>(t39 b).cons (HS.QgS KX G (by trivial) Law.QkP Law.QlS M (t39 b) (y17 b) hcl hsub (z5 b) Law.QlI);have y18:=λb=>(y13 b).mono (k:=40) (Zx rfl);have z6:=λb=>(z2 b).mono (k:=40) (Zx rfl);have t41:=λb=>(t40 b).cons (HS.QgS KX G (by trivial) Law.QgO Law.Qha M (t40 b) (y18 b) hcl hsub (z6 b) Law.QgP);have t42:=Law.kc KX G M t41 Law.Qil (by trivial);have t43:=Law.kc KX G M t42 Law.QpY (by trivial);have t44:=Law.kc KX G M t43 Law.Qpe (by trivial);have t45:=Law.kc KX G M t44 Law.QiE (by trivial);have t46:=Law.kc KX G M t45 Law.Qqe (by trivial);exact HS.QB4 KX G hmg (by trivial) Law.QAx Law.QB8 M t46 Law.QBD
