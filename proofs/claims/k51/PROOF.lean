import PyProof.Rows.All
import Wide.All
import OpenK.AllK
import Wide.FinOn
import Lean
import PyProof.EqAt
import PyProof.EqKinds
import PyProof.TupleCall
import PyProof.ZipIter
import PyProof.EnumMake
import PyProof.Rows.FactsT2
import PyProof.Rows.EnumRows
import PyProof.P3In
import PyProof.NeData
import KE.KUnpack
import PyProof.Rows.SumAny
import PyProof.Rows.MinMaxN
import PyProof.Rows.ListRangeD
import PyProof.Rows.Range3
import PyProof.Rows.RuleM_int
import PyProof.Rows.SortShell
import PyProof.Rows.SetFrom
import PyProof.CollectIter
import PyProof.SetRoads
import PySem.Challenge.RW_heapstill_k51_tree_of_a_heap
set_option Elab.async false
set_option linter.all false
set_option maxRecDepth 100000
def Za:= @Option.bind_some
def Zb:= @List.getElem?_eq_some_iff
def Zc:= @List.mem_cons_of_mem
def Zd:= @List.mem_append_right
def Ze:= @Option.map_eq_some_iff
def Zf:= @PySem.Heap.get?_push_of_some
def Zg:= @List.mem_append_left
def Zh:= @List.mem_range
def Zi:= @List.length_map
def Zj:= @List.mem_cons_self
def Zk:= @Bool.and_eq_true
def Zl:= @List.mem_cons
def Zm:= @Array.length_toList
def Zn:= @PySem.Heap.lt_size
def Zo:= @List.getElem?_map
def Zp:= @Nat.le_refl
def Zq:= @List.length_cons
def Zr:= @List.length_append
def Zs:= @List.size_toArray
def Zt:= @List.getElem?_set_ne
def Zu:= @List.map_cons
def Zv:= @List.getElem?_eq_none
def Zw:= @List.lookup_cons
def Zx:= @PySem.Heap.get?_push_size
def Zy:= @Int.toNat_natCast
def Zz:= @List.length_range
def ZA:= @List.getElem?_eq_getElem
def ZC:= @Nat.lt_of_lt_of_le
def ZD:= @List.mem_of_getElem?
def ZE:= @Nat.ne_of_lt
def ZF:= @List.getElem?_set_self
def ZG:= @List.mem_singleton
def ZH:= @Nat.le_trans
def ZI:= @List.mem_map
def ZJ:= @List.mem_append
def ZK:= @List.getD_eq_getElem?_getD
def ZL:= @List.map_congr_left
def ZM:= @Array.getElem?_eq_getElem
def ZN:= @List.mem_filter
def ZO:= @Option.map_some
def ZP:= @List.getElem?_append_left
def ZQ:= @Array.getElem?_toList
def ZR:= @Nat.lt_irrefl
def ZS:= @List.sum_cons
def ZT:= @List.map_append
def ZU:= @PyProof.Rows.callWith_type1
def ZV:= @List.all_eq_true
def ZW:= @List.count_eq_zero
def ZX:= @Int.emod_lt_of_pos
def ZY:= @Bool.false_eq_true
def ZZ:= @Nat.zero_le
def Zaa:= @List.getElem?_range
def Zab:= @Int.emod_nonneg
def Zac:= @List.map_map
def Zad:= @Nat.lt_succ_of_lt
def Zae:= @List.eq_nil_of_length_eq_zero
def Zaf:= @PySem.Heap.size_push
def Zag:= @PySem.mem_of_lookup
def Zah:= @List.replicate_succ
def Zai:= @List.getElem?_of_mem
def Zaj:= @List.append_nil
def Zak:= @List.nodup_cons
def Zal:= @List.flatten_cons
def Zam:= @List.count_append
def Zan:= @List.nodup_append
def Zao:= @List.ext_getElem?
def Zap:= @List.range_succ
def Zaq:= @List.drop_eq_getElem_cons
def Zar:= @List.count_pos_iff
def Zas:= @List.nodup_iff_count
def Zat:= @List.append_assoc
def Zau:= @Bool.not_eq_true'
def Zav:= @Bool.false_ne_true
def Zaw:= @List.getElem?_append_right
def Zax:= @List.pairwise_cons
def Zay:= @List.set_eq_take_append_cons_drop
def Zaz:= @List.count_cons
def ZaA:= @Nat.le_succ
def ZaB:= @Nat.lt_succ_self
def ZaC:= @List.length_take
def ZaD:= @List.nodup_nil
def ZaE:= @List.filter_cons
def ZaF:= @Int.le_refl
def ZaG:= @PySem.Heap.get?_update_other
def ZaH:= @List.take_of_length_le
def ZaI:= @List.drop_of_length_le
def ZaJ:= @PySem.W.kia_one
def ZaK:= @List.take_append_drop
def ZaL:= @List.any_eq_false
def ZaM:= @List.pairwise_map
def ZaN:= @List.map_nil
def ZaO:= @List.length_drop
def ZaP:= @List.nodup_range
def ZaQ:= @List.take_length
def ZaR:= @List.filterMap_cons
def ZaS:= @List.map_eq_nil_iff
def ZaT:= @List.sum_append_int
def ZaU:= @Int.toNat_of_nonneg
def ZaV:= @List.length_erase_of_mem
def ZaW:= @List.foldl_cons
def ZaX:= @Bool.or_eq_true
def ZaY:= @List.mem_filterMap
def ZaZ:= @Nat.eq_zero_or_pos
def Zba:= @List.eraseIdx_cons_succ
def Zbb:= @Nat.le_of_lt
def Zbc:= @Nat.ne_of_gt
def Zbd:= @List.reverse_cons
def Zbe:= @Int.le_trans
def Zbf:= @List.pairwise_lt_range
def Zbg:= @PySem.Heap.get?_update_self
def Zbh:= @List.length_singleton
def Zbi:= @PyProof.Rows.callWith_builtin1
def Zbj:= @List.cons_append
def Zbk:= @List.mem_flatten
def Zbl:= @Nat.min_le_right
def Zbm:= @Int.mul_le_mul_of_nonneg_right
def Zbn:= @Bool.true_and
def Zbo:= @Nat.add_le_add_right
def Zbp:= @List.getElem?_zipIdx
def Zbq:= @List.mem_erase_of_ne
def Zbr:= @Nat.pow_le_pow_right
def Zbs:= @Int.add_mul
def Zbt:= @List.contains_eq_mem
def Zbu:= @List.length_set
def Zbv:= @List.length_nil
def Zbw:= @List.length_reverse
def Zbx:= @PySem.Heap.SameBut.update
def Zby:= @List.all_map
def Zbz:= @PySem.Calls.spliced_cons
def ZbA:= @List.getElem?_eq_none_iff
def ZbB:= @List.pairwise_iff_getElem
def ZbC:= @Classical.byContradiction
def ZbD:= @PySem.Value.isInt_shape
def ZbE:= @PySem.Calls.spliced_nil
def ZbF:= @List.foldl_append
def ZbG:= @Int.emod_eq_of_lt
def ZbH:= @PySem.F.slot_list_remove
def ZbI:= @List.any_cons
def ZbJ:= @List.Pairwise.imp_of_mem
def ZbK:= @List.getElem?_replicate
def ZbL:= @List.not_mem_nil
def ZbM:= @List.foldlM_cons
def ZbN:= @PySem.F.plainAttrs_list
def ZbO:= @Classical.axiomOfChoice
def ZbP:= @List.filter_cons_of_pos
def ZbQ:= @PySem.W.cellsFrom_some
def ZbR:= @PyProof.Rows.boot_list
def ZbS:= @List.range_succ_eq_map
def ZbT:= @List.append_eq_nil_iff
def ZbU:= @Int.add_zero
def ZbV:= @List.filter_eq_nil_iff
def ZbW:= @List.length_pos_of_mem
def ZbX:= @List.of_mem_zip
def ZbY:= @Int.mul_nonneg
def ZbZ:= @List.take_succ
def Zca:= @Prod.fst_swap
def Zcb:= @List.map_drop
def Zcc:= @List.map_take
namespace L2
open PySem PySem.Spec PyProof.Rows
noncomputable abbrev Key:=Sum Int Str
noncomputable def QpG:Key->Value->Bool
 | .inl k,v=>Value.isInt k v
 | .inr x,v=>Value.isStrOf x v
noncomputable def QuG(w:World):Key->Int
 | .inl k=>hashInt k
 | .inr x=>hashStr w x
theorem Qaj:∀{k:Key}{v:Value},QpG k v=true->(∃i t,k=Sum.inl i/\v=Value.int i t)∨(∃x t,k=Sum.inr x/\v=Value.str x t)
 | .inl i,v,h=>by
  obtain⟨t,e⟩:=ZbD (k:=i) (v:=v) h
  exact .inl ⟨i,t,rfl,e⟩
 | .inr x,v,h=>by
  obtain⟨t,e⟩:=Value.isStrOf_shape (x:=x) (v:=v) h
  exact .inr ⟨x,t,rfl,e⟩
theorem QrU(a b:Int):decide ((Sum.inl a:Key)=Sum.inl b)=(a == b):=by
 by_cases e:a=b
 ·subst e;simp
 ·have h:¬(Sum.inl a:Key)=Sum.inl b:=λq=>e (Sum.inl.inj q)
  rw[decide_eq_false h]
  exact(beq_eq_false_iff_ne.mpr e).symm
theorem Qr6(a b:Str):decide ((Sum.inr a:Key)=Sum.inr b)=decide (a=b):=by
 by_cases e:a=b
 ·subst e;simp
 ·have h:¬(Sum.inr a:Key)=Sum.inr b:=λq=>e (Sum.inr.inj q)
  rw[decide_eq_false h,decide_eq_false e]
theorem Qr3(a:Int)(b:Str):decide ((Sum.inl a:Key)=Sum.inr b)=false:=decide_eq_false (λq=>nomatch q)
theorem QsP(a:Str)(b:Int):decide ((Sum.inr a:Key)=Sum.inl b)=false:=decide_eq_false (λq=>nomatch q)
noncomputable def Qhk(prog:Program)(w:World):PySem.KeyKind prog w Key where
 is:=QpG
 hash:=QuG w
 inj:=λv a b ha hb=>by
  rcases Qaj ha with⟨i,t,rfl,rfl⟩ | ⟨x,t,rfl,rfl⟩
  ·rcases Qaj hb with⟨j,u,rfl,e⟩ | ⟨y,u,rfl,e⟩
   ·injection e with e1 _;rw[e1]
   ·exact nomatch e
  ·rcases Qaj hb with⟨j,u,rfl,e⟩ | ⟨y,u,rfl,e⟩
   ·exact nomatch e
   ·injection e with e1 _;rw[e1]
 byValue:=λk v h=>by
  rcases Qaj h with⟨i,t,rfl,rfl⟩ | ⟨x,t,rfl,rfl⟩<;>rfl
 pyHash:=λhv h=>by
  rcases Qaj hv with⟨i,t,rfl,rfl⟩ | ⟨x,t,rfl,rfl⟩
  ·exact wpAny_pyHash_int h
  ·exact wpAny_pyHash_str h
 eqBool:=λhu hv h=>by
  rcases Qaj hu with⟨i,t,rfl,rfl⟩ | ⟨x,t,rfl,rfl⟩
  ·rcases Qaj hv with⟨j,u,rfl,rfl⟩ | ⟨y,u,rfl,rfl⟩
   ·rw[QrU]at h;exact wpAny_eqBool_int h
   ·rw[Qr3]at h;exact SeqAt.EqAt.int_str i t y u _ _ _ _ h
  ·rcases Qaj hv with⟨j,u,rfl,rfl⟩ | ⟨y,u,rfl,rfl⟩
   ·rw[QsP]at h;exact SeqAt.EqAt.str_int x t j u _ _ _ _ h
   ·rw[Qr6]at h;exact wpAny_eqBool_str h
 «strs» :=λk x t v h=>by
  rcases Qaj h with⟨i,u,rfl,e⟩ | ⟨y,u,rfl,e⟩
  ·exact nomatch e
  ·injection e with e1 _
   subst e1
   cases v<;>rfl
end L2
namespace L2
open PySem PySem.Spec PyProof.Rows
inductive V where
 | non | bl (b:Bool) | int (i:Int) | str (x:Str) | byt (b:Array UInt8) | flt (b:UInt64) | ref (a:Addr) | ty (n:String)
 deriving DecidableEq
noncomputable def RelV:V->Value->Prop
 | .non,u=>u=Value.none
 | .bl b,u=>u=Value.bool b
 | .int i,u=>∃t,u=Value.int i t
 | .str x,u=>∃t,u=Value.str x t
 | .byt b,u=>∃t,u=Value.bytes b t
 | .flt b,u=>∃t,u=Value.float b t
 | .ref a,u=>u=Value.ref a
 | .ty n,u=>u=Value.type n
noncomputable abbrev Qn:List V->List Value->Prop:=Paired RelV
theorem Qn.length{xs:List V}{us:List Value}(r:Qn xs us):xs.length=us.length:=Paired.length r
theorem Qn.get:∀{xs:List V}{us:List Value}{i:Nat}{x:V},Qn xs us->xs[i]? =some x->∃u,us[i]? =some u/\RelV x u
 | _,_,_,_,.nil,e=>by simp at e
 | _,_,0,_,.cons r _,e=>by simp at e;subst e;exact⟨_,rfl,r⟩
 | _,_,i+1,x,.cons _ t,e=>by
  obtain⟨u,h1,h2⟩:=Qn.get (i:=i) (x:=x) t (by simpa using e)
  exact⟨u,by simpa using h1,h2⟩
theorem Qn.set{x:V}{u:Value}(r:RelV x u):∀{xs:List V}{us:List Value}(i:Nat),Qn xs us->Qn (xs.set i x) (us.set i u)
 | _,_,_,.nil=> .nil
 | _,_,0,.cons _ t=> .cons r t
 | _,_,i+1,.cons q t=> .cons q (Qn.set r i t)
theorem exK{α β γ δ:Type}{P Q R:α->β->γ->δ->Prop}{G:Prop}(k:∀a b c d,P a b c d->Q a b c d->R a b c d->G)(h:∃a b c d,P a b c d/\Q a b c d/\R a b c d):G:=let ⟨a,b,c,d,p,q,r⟩:=h;k a b c d p q r
theorem exJ{α β:Type}{P Q R:α->β->Prop}{G:Prop}(k:∀a b,P a b->Q a b->R a b->G)(h:∃a b,P a b/\Q a b/\R a b):G:=let ⟨a,b,p,q,r⟩:=h;k a b p q r
theorem Qn.append{xs ys:List V}{us ws:List Value}(h:Qn xs us)(s:Qn ys ws):Qn (xs++ys) (us++ws):=by
 induction h with
 | nil=>exact s
 | cons r t ih=>exact .cons r ih
theorem Qn.take:∀{xs:List V}{us:List Value}(n:Nat),Qn xs us->Qn (xs.take n) (us.take n)
 | _,_,0,_=> .nil
 | _,_,_+1,.nil=> .nil
 | _,_,n+1,.cons r t=> .cons r (Qn.take n t)
theorem Qn.drop:∀{xs:List V}{us:List Value}(n:Nat),Qn xs us->Qn (xs.drop n) (us.drop n)
 | _,_,0,r=>r
 | _,_,_+1,.nil=> .nil
 | _,_,n+1,.cons _ t=>Qn.drop n t
theorem Qn.none_of:∀{xs:List V}{us:List Value}{i:Nat},Qn xs us->xs[i]? =none->us[i]? =none:=λ{xs us i} r e=>by
 have h1:=r.length
 have h2:xs.length<=i:=ZbA.mp e
 exact ZbA.mpr (by omega)
noncomputable def Qg8:Option V->Option Value->Prop
 | some v,some u=>RelV v u
 | none,none=>True
 | _,_=>False
noncomputable def KV{κ:Type}:List (κ×V)->List (κ×Value)->Prop:=Paired λ(p:κ×V) (q:κ×Value)=>p.1=q.1/\RelV p.2 q.2
noncomputable def kV:Key->V
 | .inl i=> .int i
 | .inr x=> .str x
inductive HO where
 | lst (xs:List V)
 | tup (xs:List V)
 | dK (kvs:List (Key×V)) | dT (kvs:List (List Key×V))
 | set (S:Int->Bool) (n:Nat)
 | ins (C dx:Addr) (fs:List (Str×V))
 | own (x:Addr)
 | xd (fs:List (Str×V))
 | met (f x:Addr)
 | rng (lo hi:Int)
 | frz (o:Obj) (u:HO)
 | tbl (ps:Array Value)
 | ext (φ:Heap->Prop)
noncomputable abbrev Hp:=Addr->Option HO
noncomputable def upd(H:Hp)(a:Addr)(o:HO):Hp:=λb=>if b=a then some o else H b
theorem Qam{H:Hp}{a:Addr}{o:HO}:upd H a o a=some o:=by unfold upd;rw[if_pos rfl]
theorem QD{H:Hp}{a b:Addr}{o:HO}(h:b≠a):upd H a o b=H b:=by unfold upd;rw[if_neg h]
theorem QiK{H:Hp}{a b:Addr}{o u:HO}(h:H a=some o)(h':H b=some u)(d:o≠u):a≠b:=by
 intro e;subst e;rw[h]at h';exact d (Option.some.inj h')
theorem QaT{H:Hp}{a b:Addr}{o:HO}(h:H a=some o)(h':H b=none):a≠b:=by
 intro e;subst e;rw[h]at h';cases h'
section
variable (P:Program) (w:World)
noncomputable def QbH(H:Hp)(h:Heap)(a:Addr):HO->Prop
 | .lst xs=>xs.length<=sizeLine/\∃(its:List Value) (n:Nat),Qn xs its/\h.get? a=some {cls:= .type "list",data:= .seq its.toArray n}
 | .tup xs=>xs.length<=sizeLine/\∃its:List Value,Qn xs its/\IsTup h a its.toArray
 | .dK kvs=>kvs.length<=sizeLine/\(a == sysModules)=false/\∃vs,KV kvs vs/\h.DictOf (Qhk P w) a vs
 | .dT kvs=>kvs.length<=sizeLine/\(a == sysModules)=false/\∃xs:List (List Key×Addr×Value),
   Paired (λ(p:List Key×V) (q:List Key×Addr×Value)=>p.1=q.1/\H q.2.1=some (.tup (p.1.map kV))/\RelV p.2 q.2.2) kvs xs∧
   ∃o es ep,h.get? a=some o/\o.ExactDict/\o.data= .dict es ep/\es.toList=xs.map (entryOfKey (tupleKind (Qhk P w)))/\(xs.map (·.1)).Nodup
 | .set S n=>h.SetOf (intKind P w) a S n
 | .ins C dx fs=>H dx=some (.own a)/\fs.length<=1000/\dx≠a/\h.get? a=some (PySem.W.instObj C dx)∧
   ∃mA,h.Ns1 dx mA/\(∀f,Qg8 (fs.lookup f) (mA f))/\PySem.Within mA (fs.map (·.1))
 | .own _=>∃o,h.get? a=some o
 | .xd fs=>∃mA,h.Ns1 a mA/\∀f,Qg8 (fs.lookup f) (mA f)
 | .rng lo hi=>∃t u v,h.get? a=some {cls:= .type "range",data:= .fields #[.int lo t,.int hi u,.int 1 v]}
 | .frz o u=>h.get? a=some o/\QbH H h a u
 | .tbl ps=>h.get? a=some {cls:= .none,data:= .fields ps}
 | .met f x=>h.get? a=some (PySem.W.methodObj (.ref f) (.ref x))
 | .ext φ=>φ h/\(∃o,h.get? a=some o)/\∀h1 h2:Heap,φ h1->(∀o,h1.get? a=some o->h2.get? a=some o)->φ h2
def HOk(H:Hp)(h:Heap):Prop:=∀a o,H a=some o->QbH P w H h a o
end
section
variable {P:Program}{w:World}{H H':Hp}{h h':Heap}{a:Addr}{o:HO}
theorem QbH.lt(x:QbH P w H h a o):a<h.objs.size:=by
 cases o with
 | lst xs=>obtain⟨_,_,_,_,e⟩:=x;exact Zn e
 | tup xs=>obtain⟨_,_,_,p⟩:=x;exact p.lt
 | dK kvs=>obtain⟨_,_,_,_,o,_,_,e,_⟩:=x;exact Zn e
 | dT kvs=>obtain⟨_,_,_,_,o,_,_,e,_⟩:=x;exact Zn e
 | set S n=>obtain⟨o,_,_,_,e,_⟩:=x;exact Zn e
 | ins C dx fs=>obtain⟨_,_,_,e,_⟩:=x;exact Zn e
 | own y=>obtain⟨_,e⟩:=x;exact Zn e
 | xd fs=>obtain⟨_,⟨_,_,_,e,_⟩,_⟩:=x;exact Zn e
 | rng lo hi=>obtain⟨_,_,_,e⟩:=x;exact Zn e
 | frz ob u=>obtain⟨e,_⟩:=x;exact Zn e
 | tbl ps=>exact Zn (show h.get? a=some _ from x)
 | met f y=>exact Zn (show h.get? a=some _ from x)
 | ext φ=>obtain⟨_,⟨_,e⟩,_⟩:=x;exact Zn e
theorem Paired.QsU{α β:Type}{F G:α->β->Prop}:∀{l₁:List α}{l₂:List β},Paired F l₁ l₂->(∀a b,F a b->G a b)->Paired G l₁ l₂
 | _,_,.nil,_=> .nil
 | _,_,.cons r t,f=> .cons (f _ _ r) (Paired.QsU t f)
theorem QbH.Qd7(x:QbH P w H h a o)(k:∀b u,(b=a∨H b=some (.own a))->h.get? b=some u->h'.get? b=some u)
  (ho:∀b,H b=some (.own a)->H' b=some (.own a)) (ht:∀b xs,H b=some (.tup xs)->H' b=some (.tup xs)):QbH P w H' h' a o:=by
 induction o with
 | lst xs=>obtain⟨z,its,n,r,e⟩:=x;exact⟨z,its,n,r,k _ _ (.inl rfl) e⟩
 | tup xs=>obtain⟨z,its,r,ob,e,c⟩:=x;exact⟨z,its,r,ob,k _ _ (.inl rfl) e,c⟩
 | dK kvs=>obtain⟨z,y,vs,r,ob,es,ep,e,c⟩:=x;exact⟨z,y,vs,r,ob,es,ep,k _ _ (.inl rfl) e,c⟩
 | dT kvs=>
  obtain⟨z,y,xs,r,ob,es,ep,e,c⟩:=x
  exact⟨z,y,xs,Paired.QsU r λp q z=>⟨z.1,ht _ _ z.2.1,z.2.2⟩,ob,es,ep,k _ _ (.inl rfl) e,c⟩
 | set S n=>obtain⟨ob,es,ep,t,e,c⟩:=x;exact⟨ob,es,ep,t,k _ _ (.inl rfl) e,c⟩
 | ins C dx fs=>
  obtain⟨d,z,ne,e,mA,⟨od,es,ep,e2,c⟩,r⟩:=x
  exact⟨ho _ d,z,ne,k _ _ (.inl rfl) e,mA,⟨od,es,ep,k _ _ (.inr d) e2,c⟩,r⟩
 | own y=>obtain⟨ob,e⟩:=x;exact⟨ob,k _ _ (.inl rfl) e⟩
 | xd fs=>obtain⟨mA,⟨od,es,ep,e,c⟩,r⟩:=x;exact⟨mA,⟨od,es,ep,k _ _ (.inl rfl) e,c⟩,r⟩
 | rng lo hi=>obtain⟨t,u,v,e⟩:=x;exact⟨t,u,v,k _ _ (.inl rfl) e⟩
 | frz ob u ih=>obtain⟨e,q⟩:=x;exact⟨k _ _ (.inl rfl) e,ih q⟩
 | tbl ps=>
  have e:h.get? a=some {cls:= .none,data:= .fields ps}:=x
  show h'.get? a=some {cls:= .none,data:= .fields ps}
  exact k a _ (.inl rfl) e
 | met f y=>
  have e:h.get? a=some (PySem.W.methodObj (.ref f) (.ref y)):=x
  show h'.get? a=some (PySem.W.methodObj (.ref f) (.ref y))
  exact k a _ (.inl rfl) e
 | ext φ=>obtain⟨p,⟨o,e⟩,st⟩:=x;exact⟨st _ _ p λo q=>k _ _ (.inl rfl) q,⟨o,k _ _ (.inl rfl) e⟩,st⟩
theorem HOk.lt(x:HOk P w H h)(e:H a=some o):a<h.objs.size:=(x a o e).lt
theorem HOk.fresh(x:HOk P w H h)(e:h.objs.size<=a):H a=none:=by
 cases q:H a with
 | none=>rfl
 | some u=>exact absurd (ZC (x.lt q) e) (ZR _)
theorem HOk.kept(x:HOk P w H h)(k:∀b u,h.get? b=some u->h'.get? b=some u):HOk P w H h':=λa o e=>
 (x a o e).Qd7 (λb u _ q=>k b u q) (λ_ q=>q) λ_ _ q=>q
theorem HOk.laid(x:HOk P w H h)(k:∀b u,h.get? b=some u->h'.get? b=some u)(hp:h.objs.size<=a)(new:QbH P w (upd H a o) h' a o):HOk P w (upd H a o) h':=λb u e=>by
 have hn:=x.fresh hp
 by_cases hb:b=a
 ·subst hb;rw[Qam]at e;cases e;exact new
 ·rw[QD hb]at e
  exact(x b u e).Qd7 (λc v _ q=>k c v q) (λc q=>by rw[QD (QaT q hn)];exact q) λc xs q=>by rw[QD (QaT q hn)];exact q
end
def Rd(H:Hp)(a:Addr)(u:HO):Prop:=H a=some u∨∃o,H a=some (.frz o u)
theorem Rd.of{H:Hp}{a:Addr}{u:HO}(h:H a=some u):Rd H a u:= .inl h
theorem Rd.ok{P:Program}{w:World}{H:Hp}{h:Heap}{a:Addr}{u:HO}(r:Rd H a u)(x:HOk P w H h):QbH P w H h a u:=by
 rcases r with r | ⟨o,r⟩
 ·exact x a u r
 ·obtain⟨_,q⟩:=x a _ r
  exact q
noncomputable def Mut:Option HO->Prop
 | some (.lst _)=>True
 | some (.dK _)=>True
 | some (.dT _)=>True
 | some (.set _ _)=>True
 | some (.ins _ _ _)=>True
 | some (.ext _)=>True
 | _=>False
section
variable {P:Program}{w:World}{H:Hp}{h h':Heap}{x e:Addr}{o':HO}
theorem HOk.write(ok:HOk P w H h)(mu:Mut (H x))(he:e=x∨H e=some (.own x))(k:∀b u,b≠e->h.get? b=some u->h'.get? b=some u)(heo:∃u,h'.get? e=some u)
  (new:QbH P w (upd H x o') h' x o'):HOk P w (upd H x o') h':=λb u q=>by
 have nown:∀c y,H c=some (.own y)->c≠x:=λc y r z=>by subst z;rw[r]at mu;exact mu
 have ntup:∀c xs,H c=some (.tup xs)->c≠x:=λc xs r z=>by subst z;rw[r]at mu;exact mu
 by_cases hb:b=x
 ·subst hb;rw[Qam]at q;cases q;exact new
 ·rw[QD hb]at q
  by_cases hbe:b=e
  ·have q':H b=some (.own x):=by
    rcases he with z | z
    ·exact absurd (hbe.trans z) hb
    ·rw[hbe];exact z
   rw[q]at q';cases q'
   obtain⟨v,hv⟩:=heo
   exact⟨v,by rw[hbe];exact hv⟩
  ·refine(ok b u q).Qd7 (λc v hc r=>k c v ?_ r) (λc r=>by rw[QD (nown c b r)];exact r) λc xs r=>by rw[QD (ntup c xs r)];exact r
   rcases hc with rfl | hc
   ·exact hbe
   ·rintro rfl
    rcases he with z | z
    ·exact nown c b hc z
    ·rw[hc]at z;cases z;exact hb rfl
end
structure Un (fs ex:List Addr) (H H':Hp) (h h':Heap):Prop where
 keep:∀b o,h.get? b=some o->H b=none->b∉fs->b∉ex->h'.get? b=some o
 slot:∀b o,h.get? b=some o->H b=none->b∈fs->b∉ex->∃sl,h'.get? b=some {o with slots:=sl}
 free:∀b o,h.get? b=some o->H b=none->b∉ex->H' b=none
 there:∀b o,h.get? b=some o->b∉ex->∃o',h'.get? b=some o'
 tups:∀b xs,H b=some (.tup xs)->H' b=some (.tup xs)
 frzs:∀b o u,H b=some (.frz o u)->H' b=some (.frz o u)
 tbls:∀b ps,H b=some (.tbl ps)->∃more,H' b=some (.tbl (ps++more))
section
variable {fs fs' ex ex':List Addr}{H H1 H2:Hp}{h h1 h2 h':Heap}{a x e:Addr}{o:HO}
theorem Un.any(u:Un fs ex H H1 h h1){b:Addr}{ob:Obj}(q:h.get? b=some ob)(n:H b=none)(hx:b∉ex):∃sl,h1.get? b=some {ob with slots:=sl}:=by
 by_cases hb:b∈fs
 ·exact u.slot b ob q n hb hx
 ·exact⟨ob.slots,u.keep b ob q n hb hx⟩
theorem Un.trans(a:Un fs ex H H1 h h1)(b:Un fs ex H1 H2 h1 h2):Un fs ex H H2 h h2 where
 keep:=λc ob q n hc hx=>b.keep c ob (a.keep c ob q n hc hx) (a.free c ob q n hx) hc hx
 slot:=λc ob q n hc hx=>by
  obtain⟨sl,e1⟩:=a.slot c ob q n hc hx
  obtain⟨sl',e2⟩:=b.slot c _ e1 (a.free c ob q n hx) hc hx
  exact⟨sl',e2⟩
 free:=λc ob q n hx=>by
  obtain⟨o',e1⟩:=a.there c ob q hx
  exact b.free c o' e1 (a.free c ob q n hx) hx
 there:=λc ob q hx=>by
  obtain⟨o',e1⟩:=a.there c ob q hx
  exact b.there c o' e1 hx
 tups:=λc xs q=>b.tups c xs (a.tups c xs q)
 frzs:=λc ob xs q=>b.frzs c ob xs (a.frzs c ob xs q)
 tbls:=λc ps q=>by
  obtain⟨m1,e1⟩:=a.tbls c ps q
  obtain⟨m2,e2⟩:=b.tbls c _ e1
  exact⟨m1++m2,by rw[e2,Array.append_assoc]⟩
theorem Un.kept(k:∀b u,h.get? b=some u->h'.get? b=some u):Un fs ex H H h h':=
 ⟨λb ob q _ _ _=>k b ob q,λb ob q _ _ _=>⟨ob.slots,k b ob q⟩,λ_ _ _ n _=>n,λb ob q _=>⟨ob,k b ob q⟩,λ_ _ q=>q,λ_ _ _ q=>q,λ_ ps q=>⟨#[],by rw[q];simp⟩⟩
theorem Un.refl:Un fs ex H H h h:=Un.kept λ_ _ q=>q
theorem Un.laid(k:∀b u,h.get? b=some u->h'.get? b=some u)(hp:h.objs.size<=a)(hn:H a=none):Un fs ex H (upd H a o) h h' where
 keep:=λb u q _ _ _=>k b u q
 slot:=λb u q _ _ _=>⟨u.slots,k b u q⟩
 free:=λb u q n _=>by rw[QD (ZE (ZC (Zn q) hp))];exact n
 there:=λb u q _=>⟨u,k b u q⟩
 tups:=λb xs q=>by rw[QD (QaT q hn)];exact q
 frzs:=λb u xs q=>by rw[QD (QaT q hn)];exact q
 tbls:=λb ps q=>⟨#[],by rw[QD (QaT q hn),q];simp⟩
theorem Un.write(mu:Mut (H x))(he:e=x∨H e=some (.own x))(k:∀b u,b≠e->h.get? b=some u->h'.get? b=some u)(heo:∃u,h'.get? e=some u):Un fs ex H (upd H x o) h h':=by
 have hx:∀b,H b=none->b≠x:=λb n z=>by subst z;rw[n]at mu;exact mu
 have hb:∀b,H b=none->b≠e:=λb n z=>by
  subst z
  rcases he with r | r
  ·exact hx b n r
  ·rw[n]at r;cases r
 have hm:∀b u,H b=some u->¬Mut (some u)->b≠x:=λb u q nm z=>by subst z;rw[q]at mu;exact nm mu
 refine⟨λb u q n _ _=>k b u (hb b n) q,λb u q n _ _=>⟨u.slots,k b u (hb b n) q⟩,λb u q n _=>by rw[QD (hx b n)];exact n,λb u q _=>?_,
  λb xs q=>by rw[QD (hm b _ q λz=>z)];exact q,λb u xs q=>by rw[QD (hm b _ q λz=>z)];exact q,λb ps q=>⟨#[],by rw[QD (hm b _ q λz=>z),q];simp⟩⟩
 by_cases hbe:b=e
 ·subst hbe;exact heo
 ·exact⟨u,k b u hbe q⟩
theorem Un.mono(u:Un fs ex H H1 h h1)(hs:∀b∈fs,b∈fs')(hx:∀b∈ex,b∈ex'):Un fs' ex' H H1 h h1:=
 ⟨λb ob q n hb he=>u.keep b ob q n (λz=>hb (hs b z)) λz=>he (hx b z),λ_ _ q n _ he=>u.any q n λz=>he (hx _ z),λb ob q n he=>u.free b ob q n λz=>he (hx b z),λb ob q he=>u.there b ob q λz=>he (hx b z),u.tups,u.frzs,u.tbls⟩
end
noncomputable def trk(h:Heap)(H:Hp):List Addr:=(List.range h.objs.size).filter λa=>(H a).isSome
noncomputable def QeD(h:Heap)(H:Hp):Heap:=PySem.W.hideAll h (trk h H)
theorem QnO(h:Heap)(H:Hp):(QeD h H).objs.size=h.objs.size:=PySem.W.hideAll_size _ _
theorem Qn9{h:Heap}{H:Hp}{b:Addr}{o:Obj}(e:h.get? b=some o)(n:H b=none):(QeD h H).get? b=some o:=
 PySem.W.hideAll_get _ e λhm=>by
  have q:(H b).isSome=true:=(ZN.mp hm).2
  rw[n]at q;simp at q
theorem Qp9{h:Heap}{H:Hp}{b:Addr}{o:Obj}(e:(QeD h H).get? b=some o):h.get? b=some o/\H b=none:=by
 have e':h.get? b=some o:=PySem.W.of_hideAll (trk h H) e
 refine⟨e',?_⟩
 cases q:H b with
 | none=>rfl
 | some x=>
  have hm:b∈trk h H:=ZN.mpr ⟨Zh.mpr (Zn e'),by simp[q]⟩
  have z:(QeD h H).get? b=none:=PySem.W.hideAll_none (trk h H) hm
  rw[z]at e;cases e
noncomputable def QqR(g h:Heap)(L:Addr):List (Addr×Obj):=(List.range h.objs.size).filterMap λa=>if a=L∨(g.get? a).isSome=true then none else(h.get? a).map λo=>(a,o)
noncomputable def rest(g h:Heap)(L d:Addr):List (Addr×Obj):=(QqR g h L).filter λp=>decide (p.1≠d)
end L2
namespace L2
open PySem PySem.Spec PyProof.Rows
structure Mod (K:PySem.W.Frag) (mg:Str->Option Value) (base:Heap):Prop where
 kin:K.In base
 glob:base.Ns mainGlobals mg
 blt:∃mb,base.Ns builtinsNs mb/\∀x:Str,x≠ "__name__" ->mb x=bootBuiltins x
 nolimit:base.NoLimit
structure Cx where
 prog:Program
 w:World
 K:PySem.W.Frag
 mg:Str->Option Value
 base:Heap
 A:Around
 N:List Str
 s₀:Shared
 H₀:Hp
 env:Env
 outer:List Env
 stack:List Env
 ex:List Addr
 fn:Str->Bool
 calm:Bool
 pn:List (Addr×Obj)
 xe:Value->Shared->Prop
noncomputable def frs(l:List Env):List Addr:=l.filterMap (·.frame)
noncomputable abbrev Cx.fs(X:Cx):List Addr:=frs X.outer
def Vis(sc:Scope)(x:Str):Prop:=sc.names.lookup x=some .local ∨sc.names.lookup x=some .cell∨sc.names.lookup x=some .free
def Loc(sc:Scope)(x:Str):Prop:=sc.names.lookup x=some .local ∨sc.names.lookup x=some .cell
def Look(env:Env)(h:Heap)(m:Str->Option Value)(x:Str)(u:Value):Prop:=
 (env.kindOf x=some .local /\m x=some u)∨((env.kindOf x=some .cell∨env.kindOf x=some .free)/\∃c,env.cells.lookup x=some c/\h.IsCell c (some u))
structure Cx.Ok (X:Cx):Prop where
 mod:Mod X.K X.mg X.base
 kind:X.env.scope.kind= .function
 glob:X.env.globals=mainGlobals
 blt:X.env.builtins=builtinsNs
 above:X.s₀.heap.objs.size<=X.env.locals
 inj:∀x y c,X.env.cells.lookup x=some c->X.env.cells.lookup y=some c->x=y
 has:∀x,(X.env.kindOf x=some .cell∨X.env.kindOf x=some .free)->∃c,X.env.cells.lookup x=some c
 cab:∀x c,X.fn x=true->X.env.cells.lookup x=some c->X.s₀.heap.objs.size<=c
 hd:X.calm=true->X.A.handled=none
 frames:X.A.frames=some X.stack
 stk:X.stack=X.outer∨(X.stack=X.env::X.outer/\X.env.frame=some X.env.locals)
 exf:∀b∈X.ex,b≠X.env.locals/\∀x c,X.env.cells.lookup x=some c->c≠b
 bs:∀b o,X.base.get? b=some o->X.s₀.heap.get? b=some o/\X.H₀ b=none
 bsz:X.base.objs.size<=X.s₀.heap.objs.size
 noex:∀b o,X.base.get? b=some o->b∉X.ex
 exfs:∀b∈X.ex,b∉X.fs
 QcM:X.s₀.heap.FunFrames X.base X.outer
 frf:∀b∈X.fs,X.H₀ b=none
structure Inv (X:Cx) (pins:List (Addr×Obj)) (σ:List (Option V)) (H:Hp) (s:Shared):Prop where
 ok:X.Ok
 os:s.os=X.s₀.os
 bare:AllBare s.gens
 base:Un X.fs X.ex X.H₀ H X.s₀.heap s.heap
 loc:∃m,s.heap.Ns X.env.locals m/\∀(i:Nat) (x:Str) (v:V),X.N[i]? =some x->σ[i]? =some (some v)->Vis X.env.scope x->∃u,RelV v u/\Look X.env s.heap m x u
 cell:∀x c,X.env.cells.lookup x=some c->∃v,s.heap.IsCell c v
 free:H X.env.locals=none
 freeC:∀x c,X.env.cells.lookup x=some c->H c=none
 pin:∀p∈X.pn++pins,s.heap.get? p.1=some p.2/\H p.1=none/\p.1≠X.env.locals/\p.1∉X.fs/\∀v,p.2.data≠ .cell v
 hok:HOk X.prog X.w H s.heap
 len:σ.length=X.N.length
section
variable {X:Cx}{pins:List (Addr×Obj)}{σ:List (Option V)}{H H':Hp}{s:Shared}{h':Heap}
theorem Cx.Ok.QuZ(ok:X.Ok){b:Addr}{o:Obj}(e:X.base.get? b=some o):b∉X.fs:=λhb=>by
 have:=(ok.QcM.mem hb).1
 rw[e]at this;cases this
theorem Inv.bs(I:Inv X pins σ H s):∀b o,X.base.get? b=some o->s.heap.get? b=some o/\H b=none:=λb o e=>
 ⟨I.base.keep b o (I.ok.bs b o e).1 (I.ok.bs b o e).2 (I.ok.QuZ e) (I.ok.noex b o e),I.base.free b o (I.ok.bs b o e).1 (I.ok.bs b o e).2 (I.ok.noex b o e)⟩
theorem Inv.bk(I:Inv X pins σ H s):∀b o,X.base.get? b=some o->s.heap.get? b=some o:=λb o e=>(I.bs b o e).1
theorem Inv.mod(I:Inv X pins σ H s):Mod X.K X.mg X.base:=I.ok.mod
theorem Inv.kIn(I:Inv X pins σ H s):X.K.In s.heap:=I.ok.mod.kin.keeps I.bk
theorem Inv.nolimit(I:Inv X pins σ H s):s.heap.NoLimit:=I.ok.mod.nolimit.keeps I.bk
theorem Inv.fr(I:Inv X pins σ H s):∃m,Fr X.base X.env.locals s.heap m:=
 let ⟨m,hn,_⟩:=I.loc
 ⟨m,hn,I.bk,ZH I.ok.bsz I.ok.above⟩
theorem Inv.lt(I:Inv X pins σ H s):X.env.locals<s.heap.objs.size:=let ⟨_,hn,_⟩:=I.loc;hn.lt
theorem Inv.sz(I:Inv X pins σ H s):X.s₀.heap.objs.size<=s.heap.objs.size:=ZH I.ok.above (Zbb I.lt)
theorem Inv.QuX(I:Inv X pins σ H s){a:Addr}(h:s.heap.objs.size<=a):a∉X.fs:=λhb=>by
 obtain⟨_,o,ho,_⟩:=I.ok.QcM.mem hb
 exact absurd (ZC (Zn ho) (ZH I.sz h)) (ZR _)
theorem Inv.cne(I:Inv X pins σ H s):∀x c,X.env.cells.lookup x=some c->c≠X.env.locals:=λx c e z=>by
 obtain⟨v,o,ho,hd⟩:=I.cell x c e
 obtain⟨m,⟨o',es,ep,ho',hd',_⟩,_⟩:=I.loc
 rw[z,ho']at ho;cases ho;rw[hd']at hd;cases hd
theorem Inv.QcM(I:Inv X pins σ H s):s.heap.FunFrames X.base X.outer:=by
 have all:∀(l:List Env),(∀b∈frs l,b∈X.fs)->X.s₀.heap.FunFrames X.base l->s.heap.FunFrames X.base l:=by
  intro l
  induction l with
  | nil=>intro _ _;trivial
  | cons env r ih=>
   intro hs hl
   obtain⟨hk,⟨L,o,hf,hn,ho,hd⟩,hr⟩:=hl
   have hL:L∈X.fs:=hs L (by unfold frs;rw[ZaR,hf];exact Zj)
   obtain⟨sl,e⟩:=I.base.slot L o ho (I.ok.frf L hL) hL λz=>I.ok.exfs L z hL
   exact⟨hk,⟨L,_,hf,hn,e,hd⟩,ih (λb hb=>hs b (by unfold frs;rw[ZaR,hf];exact Zc _ hb)) hr⟩
 exact all X.outer (λ_ hb=>hb) I.ok.QcM
theorem Inv.stack(I:Inv X pins σ H s):s.heap.FunFrames X.base X.stack:=by
 rcases I.ok.stk with e | ⟨e,hf⟩
 ·rw[e];exact I.QcM
 ·rw[e]
  obtain⟨m,hn,_⟩:=I.loc
  refine .cons (by rw[I.ok.kind];decide) hf hn ?_ I.QcM
  exact Heap.get?_none_of_le (ZH I.ok.bsz I.ok.above)
theorem Inv.QgJ(I:Inv X pins σ H s):∀b∈frs X.stack,b∈X.env.locals::X.fs:=λb hb=>by
 rcases I.ok.stk with e | ⟨e,hf⟩
 ·rw[e]at hb;exact Zc _ hb
 ·rw[e]at hb
  unfold frs at hb
  rw[ZaR,hf]at hb
  exact hb
theorem Inv.Qlg(I:Inv X pins σ H s):∀b∈frs X.stack,H b=none:=λb hb=>by
 rcases Zl.mp (I.QgJ b hb)with e | hb
 ·rw[e];exact I.free
 ·obtain⟨_,o,ho,_⟩:=I.ok.QcM.mem hb
  exact I.base.free b o ho (I.ok.frf b hb) λz=>I.ok.exfs b z hb
theorem Inv.step{g':Array GenState}{t':Nat}{d':Drawn}{ch:List Addr}(I:Inv X pins σ H s)
  (hch:∀b∈ch,(b∈X.ex∨X.s₀.heap.objs.size<=b)/\b≠X.env.locals/\(∀x c,X.env.cells.lookup x=some c->c≠b)/\∀p∈X.pn++pins,p.1≠b)
  (keep:∀b o,b≠X.env.locals->b∉X.fs->b∉ch->s.heap.get? b=some o->H b=none->h'.get? b=some o)
  (slot:∀b o,b≠X.env.locals->b∈X.fs->b∉ch->s.heap.get? b=some o->H b=none->∃sl,h'.get? b=some {o with slots:=sl}) (free:∀b o,b∉ch->s.heap.get? b=some o->H b=none->H' b=none)
  (there:∀b o,b∉ch->s.heap.get? b=some o->∃o',h'.get? b=some o')
  (tups:∀b xs,H b=some (.tup xs)->H' b=some (.tup xs)) (frzs:∀b o u,H b=some (.frz o u)->H' b=some (.frz o u)) (tbls:∀b ps,H b=some (.tbl ps)->∃more,H' b=some (.tbl (ps++more)))
  (ns:∀m,s.heap.Ns X.env.locals m->h'.Ns X.env.locals m) (hok:HOk X.prog X.w H' h') (hg:AllBare g'):
  Inv X pins σ H' {s with heap:=h',gens:=g',drawn:=d',toks:=t'}:=by
 have neL:∀b o,X.s₀.heap.get? b=some o->b≠X.env.locals:=λb o e=>ZE (ZC (Zn e) I.ok.above)
 have neC:∀b o,X.s₀.heap.get? b=some o->b∉X.ex->b∉ch:=λb o e hx hb=>by
  rcases(hch b hb).1 with z | z
  ·exact hx z
  ·exact absurd (ZC (Zn e) z) (ZR _)
 have cellK:∀x c,X.env.cells.lookup x=some c->∀v,s.heap.IsCell c v->h'.IsCell c v:=λx c e v hpt=>by
  obtain⟨o,ho,hd⟩:=hpt
  have nch:c∉ch:=λz=>(hch c z).2.2.1 x c e rfl
  by_cases hc:c∈X.fs
  ·obtain⟨sl,q⟩:=slot c o (I.cne x c e) hc nch ho (I.freeC x c e)
   exact⟨_,q,hd⟩
  ·exact⟨o,keep c o (I.cne x c e) hc nch ho (I.freeC x c e),hd⟩
 refine⟨I.ok,I.os,hg,⟨λb o e n hb hx=>?_,λb o e n hb hx=>?_,λb o e n hx=>?_,λb o e hx=>?_,λb xs e=>tups b xs (I.base.tups b xs e),λb o xs e=>frzs b o xs (I.base.frzs b o xs e),λb ps e=>?_⟩,?_,λx c e=>?_,?_,λx c e=>?_,λp hp=>?_,hok,I.len⟩
 ·exact keep b o (neL b o e) hb (neC b o e hx) (I.base.keep b o e n hb hx) (I.base.free b o e n hx)
 ·obtain⟨sl,e1⟩:=I.base.slot b o e n hb hx
  obtain⟨sl',e2⟩:=slot b _ (neL b o e) hb (neC b o e hx) e1 (I.base.free b o e n hx)
  exact⟨sl',e2⟩
 ·obtain⟨o',e1⟩:=I.base.there b o e hx
  exact free b o' (neC b o e hx) e1 (I.base.free b o e n hx)
 ·obtain⟨o',e1⟩:=I.base.there b o e hx
  exact there b o' (neC b o e hx) e1
 ·obtain⟨m1,e1⟩:=I.base.tbls b ps e
  obtain⟨m2,e2⟩:=tbls b _ e1
  exact⟨m1++m2,by rw[e2,Array.append_assoc]⟩
 ·obtain⟨m,hn,hl⟩:=I.loc
  refine⟨m,ns m hn,λi x v e1 e2 e3=>?_⟩
  obtain⟨u,r,l⟩:=hl i x v e1 e2 e3
  refine⟨u,r,?_⟩
  rcases l with l | ⟨k,c,e,z⟩
  ·exact .inl l
  ·exact .inr ⟨k,c,e,cellK x c e _ z⟩
 ·obtain⟨v,z⟩:=I.cell x c e
  exact⟨v,cellK x c e v z⟩
 ·obtain⟨m,⟨o,_,_,ho,_⟩,_⟩:=I.loc
  exact free _ o (λz=>(hch _ z).2.1 rfl) ho I.free
 ·obtain⟨v,o,ho,hd⟩:=I.cell x c e
  exact free c o (λz=>(hch c z).2.2.1 x c e rfl) ho (I.freeC x c e)
 ·obtain⟨e,n,ne,nf,d⟩:=I.pin p hp
  have nch:p.1∉ch:=λz=>(hch p.1 z).2.2.2 p hp rfl
  exact⟨keep p.1 p.2 ne nf nch e n,free p.1 p.2 nch e n,ne,nf,d⟩
theorem Inv.un{t':Nat}(I:Inv X pins σ H s)(u:Un X.fs [] H H' s.heap h')(hok:HOk X.prog X.w H' h'):Inv X pins σ H' {s with heap:=h',toks:=t'}:=by
 obtain⟨m,⟨o,es,ep,ho,r⟩,_⟩:=id I.loc
 obtain⟨sl,hL⟩:=u.any ho I.free (by simp)
 exact I.step (g':=s.gens) (d':=s.drawn) (ch:=[]) (λ_ z=>nomatch z) (λb o _ hb _ e n=>u.keep b o e n hb (by simp)) (λb o _ hb _ e n=>u.slot b o e n hb (by simp)) (λb o _ e n=>u.free b o e n (by simp)) (λb o _ e=>u.there b o e (by simp)) u.tups u.frzs u.tbls (λm' hm=>by
  obtain⟨o',es',ep',ho',r'⟩:=hm
  rw[ho]at ho';cases ho'
  exact⟨_,es',ep',hL,r'⟩) hok I.bare
theorem Inv.call{g':Array GenState}{t':Nat}{d':Drawn}{ch:List Addr}(I:Inv X pins σ H s)(u:Un (frs X.stack) ch H H' s.heap h')(hok:HOk X.prog X.w H' h')(hg:AllBare g')
  (hch:∀b∈ch,(b∈X.ex∨X.s₀.heap.objs.size<=b)/\b≠X.env.locals/\(∀x c,X.env.cells.lookup x=some c->c≠b)/\∀p∈X.pn++pins,p.1≠b):
  Inv X pins σ H' {s with heap:=h',gens:=g',drawn:=d',toks:=t'}:=by
 obtain⟨m,⟨o,es,ep,ho,r⟩,_⟩:=id I.loc
 obtain⟨sl,hL⟩:=u.any ho I.free λz=>(hch _ z).2.1 rfl
 exact I.step (ch:=ch) hch (λb o hL hb hc e n=>u.keep b o e n (λz=>(Zl.mp (I.QgJ b z)).elim hL hb) hc) (λb o _ _ hc e n=>u.any e n hc) (λb o hc e n=>u.free b o e n hc) (λb o hc e=>u.there b o e hc) u.tups u.frzs u.tbls (λm' hm=>by
  obtain⟨o',es',ep',ho',r'⟩:=hm
  rw[ho]at ho';cases ho'
  exact⟨_,es',ep',hL,r'⟩) hok hg
theorem Inv.turned{t':Nat}{it:Addr}(I:Inv X pins σ H s)(k:∀b o,b≠it->s.heap.get? b=some o->h'.get? b=some o)(hn:H it=none)(hL:it≠X.env.locals)
  (h1:it∈X.ex∨X.s₀.heap.objs.size<=it) (h2:∀x c,X.env.cells.lookup x=some c->c≠it) (h3:∀p∈X.pn++pins,p.1≠it):Inv X pins σ H {s with heap:=h',toks:=t'}:=by
 have nit:∀b u,H b=some u->b≠it:=λb u e z=>by rw[z,hn]at e;cases e
 refine I.step (g':=s.gens) (d':=s.drawn) (ch:=[it]) (λb hb=>?_) (λb o _ _ hc e _=>k b o (λz=>hc (by simp[z])) e) (λb o _ _ hc e _=>⟨o.slots,k b o (λz=>hc (by simp[z])) e⟩) (λ_ _ _ _ n=>n)
  (λb o hc e=>⟨o,k b o (λz=>hc (by simp[z])) e⟩) (λ_ _ e=>e) (λ_ _ _ e=>e) (λb ps e=>⟨#[],by rw[e];simp⟩) (λm hm=>?_) (λb u e=>?_) I.bare
 ·have e:b=it:=by simpa using hb
  subst e
  exact⟨h1,hL,h2,h3⟩
 ·obtain⟨o,es,ep,ho,r⟩:=hm
  exact⟨o,es,ep,k _ o (Ne.symm hL) ho,r⟩
 ·refine(I.hok b u e).Qd7 (λc v hc q=>k c v ?_ q) (λ_ q=>q) λ_ _ q=>q
  rcases hc with z | z
  ·rw[z];exact nit b u e
  ·exact nit c _ z
theorem Inv.tok(I:Inv X pins σ H s)(t:Nat):Inv X pins σ H {s with toks:=t}:=I.un (h':=s.heap) (t':=t) Un.refl I.hok
theorem Inv.kept{t':Nat}(I:Inv X pins σ H s)(k:∀b u,s.heap.get? b=some u->h'.get? b=some u):Inv X pins σ H {s with heap:=h',toks:=t'}:=I.un (Un.kept k) (I.hok.kept k)
theorem Inv.laid{a:Addr}{o:HO}{t':Nat}(I:Inv X pins σ H s)(k:∀b u,s.heap.get? b=some u->h'.get? b=some u)(hp:s.heap.objs.size<=a)(new:QbH X.prog X.w (upd H a o) h' a o):
  Inv X pins σ (upd H a o) {s with heap:=h',toks:=t'}:=I.un (Un.laid k hp (I.hok.fresh hp)) (I.hok.laid k hp new)
theorem Inv.write{x e:Addr}{o:HO}{t':Nat}(I:Inv X pins σ H s)(mu:Mut (H x))(he:e=x∨H e=some (.own x))(k:∀b u,b≠e->s.heap.get? b=some u->h'.get? b=some u)(heo:∃u,h'.get? e=some u)
  (new:QbH X.prog X.w (upd H x o) h' x o):Inv X pins σ (upd H x o) {s with heap:=h',toks:=t'}:=I.un (Un.write mu he k heo) (I.hok.write mu he k heo new)
theorem Inv.weak{σ':List (Option V)}(I:Inv X pins σ H s)(hl:σ'.length=σ.length)(w:∀(i:Nat) v,σ'[i]? =some (some v)->σ[i]? =some (some v)):Inv X pins σ' H s:=
 ⟨I.ok,I.os,I.bare,I.base,let ⟨m,hn,hl'⟩:=I.loc;⟨m,hn,λi x v e1 e2 e3=>hl' i x v e1 (w i v e2) e3⟩,I.cell,I.free,I.freeC,I.pin,I.hok,hl.trans I.len⟩
theorem Inv.Qlc{pins':List (Addr×Obj)}(I:Inv X pins σ H s)(h:∀p∈pins',s.heap.get? p.1=some p.2/\H p.1=none/\p.1≠X.env.locals/\p.1∉X.fs/\∀v,p.2.data≠ .cell v):Inv X pins' σ H s:=
 ⟨I.ok,I.os,I.bare,I.base,I.loc,I.cell,I.free,I.freeC,λp hp=>(ZJ.mp hp).elim (λz=>I.pin p (Zg _ z)) (h p),I.hok,I.len⟩
theorem Qj0{N:List Str}(hN:N.Nodup){i j:Nat}{x:Str}(a:N[i]? =some x)(b:N[j]? =some x):i=j:=by
 obtain⟨h1,e1⟩:=Zb.mp a
 obtain⟨h2,e2⟩:=Zb.mp b
 exact(List.getElem_inj hN).mp (e1.trans e2.symm)
theorem Qid{M:Model}{A:Around}{E:Value->Shared->Prop}{i:Nat}{x:Str}{v:V}{u:Value}{Q:Unit->Shared->Prop}(I:Inv X pins σ H s)(hN:X.N.Nodup)(hi:X.N[i]? =some x)(hx:Loc X.env.scope x)(r:RelV v u)
  (h:∀s',Inv X pins (σ.set i (some v)) H s'->(∃a,Heap.SameBut a s.heap s'.heap/\(a=X.env.locals∨X.env.cells.lookup x=some a))->Q () s') (hf:X.fn x=true∨X.env.scope.names.lookup x=some .local :=by first | exact .inl rfl | exact .inr rfl | assumption):wpAny M A (storeName X.env x u) Q E s:=by
 obtain⟨m,hn,hl⟩:=id I.loc
 have hcls:(X.env.scope.kind == .class || (X.env.scope.kind == .module && X.env.locals != X.env.globals))=false:=by rw[I.ok.kind];rfl
 have hiσ:i<σ.length:=by rw[I.len];exact(Zb.mp hi).1
 have cne:=I.cne
 have tracked:∀{a:Addr}{h':Heap},(∃o,s.heap.get? a=some o/\H a=none)->Heap.SameBut a s.heap h'->HOk X.prog X.w H h':=λ{a h'} ha hs b ob e=>by
  obtain⟨_,_,hfree⟩:=ha
  refine(I.hok b ob e).Qd7 (λc w' hc q=>(hs.2 c ?_).trans q) (λ_ q=>q) λ_ _ q=>q
  rintro rfl
  rcases hc with rfl | hc
  ·rw[hfree]at e;cases e
  ·rw[hfree]at hc;cases hc
 rcases hx with hk | hk
 ·refine wpAny_storeName_local hk hn (λh' hn' hs=>?_) hcls
  obtain⟨oL,_,_,hoL,_⟩:=id hn
  refine h _ ⟨I.ok,I.os,I.bare,⟨λb o e n hb hx=>?_,λb o e n hb hx=>?_,I.base.free,λb o e hx=>?_,I.base.tups,I.base.frzs,I.base.tbls⟩,⟨_,hn',λj y v' e1 e2 e3=>?_⟩,λy c e=>?_,I.free,I.freeC,λp hp=>?_,tracked ⟨oL,hoL,I.free⟩ hs,by simpa using I.len⟩ ⟨_,hs,.inl rfl⟩
  ·exact(hs.2 b (ZE (ZC (Zn e) I.ok.above))).trans (I.base.keep b o e n hb hx)
  ·obtain⟨sl,e1⟩:=I.base.slot b o e n hb hx
   exact⟨sl,(hs.2 b (ZE (ZC (Zn e) I.ok.above))).trans e1⟩
  ·obtain⟨o',e1⟩:=I.base.there b o e hx
   exact⟨o',(hs.2 b (ZE (ZC (Zn e) I.ok.above))).trans e1⟩
  ·by_cases hj:j=i
   ·subst hj
    rw[hi]at e1;cases e1
    rw[ZF hiσ]at e2
    cases e2
    exact⟨u,r,.inl ⟨hk,by simp⟩⟩
   ·rw[Zt (Ne.symm hj)]at e2
    obtain⟨u',r',q⟩:=hl j y v' e1 e2 e3
    refine⟨u',r',?_⟩
    rcases q with⟨k,e⟩ | ⟨k,c,e,z⟩
    ·refine .inl ⟨k,?_⟩
     have:y≠x:=λe=>hj (Qj0 hN e1 (e▸hi))
     simp[this,e]
    ·exact .inr ⟨k,c,e,z.sameBut hs (cne y c e)⟩
  ·obtain⟨w',z⟩:=I.cell y c e
   exact⟨w',z.sameBut hs (cne y c e)⟩
  ·obtain⟨e,n,ne,nf,d⟩:=I.pin p hp
   exact⟨(hs.2 p.1 ne).trans e,n,ne,nf,d⟩
 ·have hfn:X.fn x=true:=by
   rcases hf with z | z
   ·exact z
   ·rw[z]at hk;cases hk
  obtain⟨c,hc⟩:=I.ok.has x (.inl hk)
  obtain⟨w',z⟩:=I.cell x c hc
  refine wpAny_storeName_cell I.ok.kind hk hc z (λh' hc' hs=>?_)
  obtain⟨oc,hoc,hocd⟩:=id z
  refine h {s with heap:=h'} ⟨I.ok,I.os,I.bare,⟨λb o e n hb hx=>?_,λb o e n hb hx=>?_,I.base.free,λb o e hx=>?_,I.base.tups,I.base.frzs,I.base.tbls⟩,⟨m,hn.sameBut hs (Ne.symm (cne x c hc)),λj y v' e1 e2 e3=>?_⟩,λy c' e=>?_,I.free,I.freeC,λp hp=>?_,tracked ⟨oc,hoc,I.freeC x c hc⟩ hs,by simpa using I.len⟩ ⟨c,hs,.inr hc⟩
  ·exact(hs.2 b (ZE (ZC (Zn e) (I.ok.cab x c hfn hc)))).trans (I.base.keep b o e n hb hx)
  ·obtain⟨sl,e1⟩:=I.base.slot b o e n hb hx
   exact⟨sl,(hs.2 b (ZE (ZC (Zn e) (I.ok.cab x c hfn hc)))).trans e1⟩
  ·obtain⟨o',e1⟩:=I.base.there b o e hx
   exact⟨o',(hs.2 b (ZE (ZC (Zn e) (I.ok.cab x c hfn hc)))).trans e1⟩
  ·by_cases hj:j=i
   ·subst hj
    rw[hi]at e1;cases e1
    rw[ZF hiσ]at e2
    cases e2
    exact⟨u,r,.inr ⟨.inl hk,c,hc,hc'⟩⟩
   ·rw[Zt (Ne.symm hj)]at e2
    obtain⟨u',r',q⟩:=hl j y v' e1 e2 e3
    refine⟨u',r',?_⟩
    rcases q with q | ⟨k,c',e,z'⟩
    ·exact .inl q
    ·refine .inr ⟨k,c',e,z'.sameBut hs ?_⟩
     rintro rfl
     exact hj (Qj0 hN e1 (I.ok.inj _ _ _ e hc▸hi))
  ·by_cases hcc:c'=c
   ·subst hcc;exact⟨_,hc'⟩
   ·obtain⟨w2,z2⟩:=I.cell y c' e
    exact⟨w2,z2.sameBut hs hcc⟩
  ·obtain⟨e,n,ne,nf,d⟩:=I.pin p hp
   refine⟨(hs.2 p.1 ?_).trans e,n,ne,nf,d⟩
   intro q
   rw[q,hoc]at e
   have q':oc=p.2:=Option.some.inj e
   exact d w' (by rw[← q'];exact hocd)
theorem QjN{M:Model}{A:Around}{E:Value->Shared->Prop}{i:Nat}{x:Str}{v:V}{u:Value}{Q:Unit->Shared->Prop}(I:Inv X pins σ H s)(hN:X.N.Nodup)(hi:X.N[i]? =some x)(hx:Loc X.env.scope x)(r:RelV v u)
  (h:∀s',Inv X pins (σ.set i (some v)) H s'->Q () s') (hf:X.fn x=true∨X.env.scope.names.lookup x=some .local :=by first | exact .inl rfl | exact .inr rfl | assumption):wpAny M A (storeName X.env x u) Q E s:=
 Qid I hN hi hx r (λs' I' _=>h s' I') hf
theorem Inv.Qtt{s':Shared}{ch:List Addr}(I:Inv X pins σ H s)(ho:s'.os=s.os)(u:Un (frs X.stack) ch H H' s.heap s'.heap)(hok:HOk X.prog X.w H' s'.heap)(hg:AllBare s'.gens)
  (hch:∀b∈ch,(b∈X.ex∨X.s₀.heap.objs.size<=b)/\b≠X.env.locals/\(∀x c,X.env.cells.lookup x=some c->c≠b)/\∀p∈X.pn++pins,p.1≠b):Inv X pins σ H' s':=by
 obtain⟨h',g',d',t',o'⟩:=s'
 have e:o'=s.os:=ho
 subst e
 exact I.call (g':=g') (t':=t') (d':=d') u hok hg hch
end
noncomputable abbrev XK:=Value->Option Addr->Hp->Prop
noncomputable abbrev St:=List (Option V)
noncomputable abbrev VK:=V->Hp->Prop
noncomputable abbrev TE:=St->Hp->VK->Prop
noncomputable abbrev TT:=St->Hp->(Bool->Hp->Prop)->Prop
noncomputable abbrev TA:=St->Hp->(List V->Hp->Prop)->Prop
structure Ends where
 nx:St->Hp->Prop
 rt:VK
 bk:St->Hp->Prop:=λ_ _=>False
 ct:St->Hp->Prop:=λ_ _=>False
noncomputable abbrev TS:=Ends->St->Hp->Prop
def EP(X:Cx)(pins:List (Addr×Obj))(σ:St)(Q:VK)(u:Value)(s':Shared):Prop:=∃v H',Inv X pins σ H' s'/\RelV v u/\Q v H'
def TP(X:Cx)(pins:List (Addr×Obj))(σ:St)(Q:Bool->Hp->Prop)(b:Bool)(s':Shared):Prop:=∃H',Inv X pins σ H' s'/\Q b H'
def AP(X:Cx)(pins:List (Addr×Obj))(σ:St)(Q:List V->Hp->Prop)(us:List Value)(s':Shared):Prop:=∃vs H',Inv X pins σ H' s'/\Qn vs us/\Q vs H'
def SP(X:Cx)(pins:List (Addr×Obj))(D:Ends)(f:Flow)(s':Shared):Prop:=
 match f with
 | .next=>∃σ' H',Inv X pins σ' H' s'/\D.nx σ' H'
 | .brk=>∃σ' H',Inv X pins σ' H' s'/\D.bk σ' H'
 | .cont=>∃σ' H',Inv X pins σ' H' s'/\D.ct σ' H'
 | .ret u=>∃v σ' H',Inv X pins σ' H' s'/\RelV v u/\D.rt v H'
def PE(X:Cx)(e:Expr)(t:TE):Prop:=
 ∀(pins:List (Addr×Obj)) (s:Shared) (σ:St) (H:Hp) (Q:VK),Inv X pins σ H s->t σ H Q->wpAny (model X.prog X.w) X.A (eval e X.env) (EP X pins σ Q) X.xe s
def PT(X:Cx)(e:Expr)(t:TT):Prop:=
 ∀(pins:List (Addr×Obj)) (s:Shared) (σ:St) (H:Hp) (Q:Bool->Hp->Prop),Inv X pins σ H s->t σ H Q->wpAny (model X.prog X.w) X.A (isTrue e X.env (eval e X.env)) (TP X pins σ Q) X.xe s
def PW(X:Cx)(e:Expr)(t:TT):Prop:=
 ∀(whole:Sem Value) (pins:List (Addr×Obj)) (s:Shared) (σ:St) (H:Hp) (Q:Bool->Hp->Prop),Inv X pins σ H s->t σ H Q->wpAny (model X.prog X.w) X.A (isTrue e X.env whole) (TP X pins σ Q) X.xe s
theorem PW.pt{X:Cx}{e:Expr}{t:TT}(h:PW X e t):PT X e t:=h _
def PA(X:Cx)(es:List Expr)(t:TA):Prop:=
 ∀(pos:Pos) (pins:List (Addr×Obj)) (s:Shared) (σ:St) (H:Hp) (Q:List V->Hp->Prop),Inv X pins σ H s->t σ H Q->wpAny (model X.prog X.w) X.A (spliced (backTo pos (starEach es X.env))) (AP X pins σ Q) X.xe s
def PS(X:Cx)(st:Stmt)(t:TS):Prop:=
 ∀(pins:List (Addr×Obj)) (s:Shared) (σ:St) (H:Hp) (D:Ends),Inv X pins σ H s->t D σ H->wpAny (model X.prog X.w) X.A (exec st X.env) (SP X pins D) X.xe s
def PSs(X:Cx)(st:List Stmt)(t:TS):Prop:=
 ∀(pins:List (Addr×Obj)) (s:Shared) (σ:St) (H:Hp) (D:Ends),Inv X pins σ H s->t D σ H->wpAny (model X.prog X.w) X.A (execs st X.env) (SP X pins D) X.xe s
theorem thn{α:Type}{t:Sem α}{Q Q':α->Shared->Prop}{M:Model}{A:Around}{E:Value->Shared->Prop}{s:Shared}(h:wpAny M A t Q E s)(hQ:∀a s,Q a s->Q' a s):wpAny M A t Q' E s:=wpAny_mono h hQ λ_ _ x=>x
end L2
namespace L2
open PySem PySem.Spec PyProof.Rows
section
variable {X:Cx}
noncomputable def QjT(i:Nat):TE:=λσ H Q=>∃v,σ[i]? =some (some v)/\Q v H
noncomputable def tC(v:V):TE:=λ_ H Q=>Q v H
theorem QmR{i:Nat}{x:Str}{pos:Pos}(hN:X.N[i]? =some x)(hv:Vis X.env.scope x)(hd:(x == ("__debug__" :Str))=false:=by decide)(hcd:(x == ("__classdict__" :Str))=false:=by decide):PE X (.Name x pos) (QjT i):=by
 intro pins s σ H Q I h
 obtain⟨v,e,h⟩:=h
 obtain⟨m,hn,hl⟩:=I.loc
 obtain⟨u,r,l⟩:=hl i x v hN e hv
 have fin:EP X pins σ Q u s:=⟨v,H,I,r,h⟩
 rcases l with⟨hk,hm⟩ | ⟨hk,c,hc,hcell⟩
 ·exact wpAny_Name (wpAny_loadName_local I.ok.kind hk hn hm fin) hd
 ·rcases hk with hk | hk
  ·exact wpAny_Name (wpAny_loadName_cell I.ok.kind hk hc hcell fin) hd
  ·exact wpAny_Name (wpAny_loadName_free I.ok.kind hk hc hcell fin hcd) hd
theorem Qsp{i j pos}:PE X (.Constant (.int i) j pos) (tC (.int i)):=λ_ _ _ H _ I h=>wpAny_Constant_int ⟨.int i,H,I.tok _,⟨_,rfl⟩,h⟩
theorem Quh{b j pos}:PE X (.Constant (.bool b) j pos) (tC (.bl b)):=λ_ _ _ H _ I h=>Constant_bool ⟨.bl b,H,I,rfl,h⟩
theorem QrY{j pos}:PE X (.Constant .none j pos) (tC .non):=λ_ _ _ H _ I h=>Constant_none ⟨.non,H,I,rfl,h⟩
theorem QsQ{x j pos}:PE X (.Constant (.str x) j pos) (tC (.str x)):=λ_ _ _ H _ I h=>Calls.Constant_str ⟨.str x,H,I.tok _,⟨_,rfl⟩,h⟩
def Gl(X:Cx)(x:Str):Prop:=X.env.kindOf x=some .globalImplicit
theorem Qg7{E:Value->Shared->Prop}{pins:List (Addr×Obj)}{s:Shared}{σ:St}{H:Hp}{x:Str}{u:Value}{pos:Pos}{Q:Value->Shared->Prop}(I:Inv X pins σ H s)(hg:Gl X x)(hm:X.mg x=some u)(h:Q u s)
  (hd:(x == ("__debug__" :Str))=false:=by decide):wpAny (model X.prog X.w) X.A (eval (.Name x pos) X.env) Q E s:=
 Calls.Name_function_global I.ok.kind hg (Calls.loadGlobal_global (by rw[I.ok.glob];exact I.mod.glob.keeps I.bk) hm h) hd
theorem QbM{E:Value->Shared->Prop}{pins:List (Addr×Obj)}{s:Shared}{σ:St}{H:Hp}{x:Str}{u:Value}{pos:Pos}{Q:Value->Shared->Prop}(I:Inv X pins σ H s)(hg:Gl X x)(hm:X.mg x=none)(hv:bootBuiltins x=some u)(h:Q u s)
  (hn:x≠ "__name__" :=by decide) (hd:(x == ("__debug__" :Str))=false:=by decide):wpAny (model X.prog X.w) X.A (eval (.Name x pos) X.env) Q E s:=by
 obtain⟨mb,h1,h2⟩:=I.mod.blt
 exact Calls.Name_function_global I.ok.kind hg (Calls.loadGlobal_builtin (by rw[I.ok.glob];exact I.mod.glob.keeps I.bk) hm (by rw[I.ok.blt];exact h1.keeps I.bk) ((h2 x hn).trans hv) h) hd
theorem Qrl{x:Str}{v:V}{u:Value}{pos:Pos}(hg:Gl X x)(hm:X.mg x=some u)(r:RelV v u)(hd:(x == ("__debug__" :Str))=false:=by decide):PE X (.Name x pos) (tC v):=
 λ_ _ _ H _ I h=>Qg7 I hg hm ⟨v,H,I,r,h⟩ hd
theorem Qd9{x:Str}{v:V}{u:Value}{pos:Pos}(hg:Gl X x)(hm:X.mg x=none)(hv:bootBuiltins x=some u)(r:RelV v u)(hn:x≠ "__name__" :=by decide)(hd:(x == ("__debug__" :Str))=false:=by decide):PE X (.Name x pos) (tC v):=
 λ_ _ _ H _ I h=>QbM I hg hm hv ⟨v,H,I,r,h⟩ hn hd
variable {a b:Expr}{ta tb:TE}{pos:Pos}
variable {tA tB':TT}{rest:List Expr}
noncomputable def Qup(t u:TT):TT:=λσ H Q=>t σ H λc H1=>if c=true then u σ H1 Q else Q false H1
noncomputable def tOr(t u:TT):TT:=λσ H Q=>t σ H λc H1=>if c=true then Q true H1 else u σ H1 Q
noncomputable def QuT(t:TT):TT:=λσ H Q=>t σ H λc H1=>Q (!c) H1
theorem Qrf(ha:PT X a tA):PW X (.BoolOp .And [a] pos) tA:=by
 intro wh pins s σ H Q I h
 refine isTrue_and (thn (ha pins s σ H Q I h) λc s1 e=>?_)
 cases c with
 | true=>exact isTrue_and_nil e
 | false=>exact e
theorem Qst(ha:PT X a tA):PW X (.BoolOp .Or [a] pos) tA:=by
 intro wh pins s σ H Q I h
 refine isTrue_or (thn (ha pins s σ H Q I h) λc s1 e=>?_)
 cases c with
 | false=>exact isTrue_or_nil e
 | true=>exact e
theorem Qsk(ha:PT X a tA)(hb:PW X (.BoolOp .And (b::rest) pos) tB'):PW X (.BoolOp .And (a::b::rest) pos) (Qup tA tB'):=by
 intro wh pins s σ H Q I h
 refine isTrue_and (thn (ha pins s σ H _ I h) λc s1 hpt=>?_)
 obtain⟨H1,I1,q1⟩:=hpt
 cases c with
 | true=>exact hb wh pins s1 σ H1 Q I1 q1
 | false=>exact⟨H1,I1,q1⟩
theorem Qts(ha:PT X a tA)(hb:PW X (.BoolOp .Or (b::rest) pos) tB'):PW X (.BoolOp .Or (a::b::rest) pos) (tOr tA tB'):=by
 intro wh pins s σ H Q I h
 refine isTrue_or (thn (ha pins s σ H _ I h) λc s1 hpt=>?_)
 obtain⟨H1,I1,q1⟩:=hpt
 cases c with
 | true=>exact⟨H1,I1,q1⟩
 | false=>exact hb wh pins s1 σ H1 Q I1 q1
theorem QsI(ha:PT X a tA):PT X (.UnaryOp .Not a pos) (QuT tA):=by
 intro pins s σ H Q I h
 exact isTrue_not (ha pins s σ H (λc H1=>Q (!c) H1) I h)
theorem Qta{op}{t:TE}(h:PE X a t):PE X (.BoolOp op [a] pos) t:=λpins s σ H Q I hw=>BoolOp_one (h pins s σ H Q I hw)
end
end L2
namespace L2
open PySem PySem.Spec PyProof.Rows
def SqL(K:PySem.W.Frag)(H:Hp)(a:Addr)(xs:List V):Prop:=
 Rd H a (.lst xs)∨
  ∃(o:Obj) (its:Array Value) (n:Nat),K.lookup a=some o/\o.cls= .type "list" /\o.dict=none/\o.data= .seq its n/\its.size<=sizeLine/\Qn xs its.toList
def SqT(K:PySem.W.Frag)(H:Hp)(a:Addr)(xs:List V):Prop:=
 Rd H a (.tup xs)∨
  ∃(o:Obj) (its:Array Value) (n:Nat),K.lookup a=some o/\o.cls= .type "tuple" /\o.data= .seq its n/\its.size<=sizeLine/\Qn xs its.toList
noncomputable def QuC:Value->Option V
 | .none=>some .non
 | .bool b=>some (.bl b)
 | .int i _=>some (.int i)
 | .str x _=>some (.str x)
 | .bytes b _=>some (.byt b)
 | .float b _=>some (.flt b)
 | .ref a=>some (.ref a)
 | .type n=>some (.ty n)
 | _=>none
theorem RelV.abs{x:V}{u:Value}(r:RelV x u):QuC u=some x:=by
 cases x with
 | non=>cases r;rfl
 | bl _=>cases r;rfl
 | int _=>obtain⟨t,rfl⟩:=r;rfl
 | str _=>obtain⟨t,rfl⟩:=r;rfl
 | byt _=>obtain⟨t,rfl⟩:=r;rfl
 | flt _=>obtain⟨t,rfl⟩:=r;rfl
 | ref _=>cases r;rfl
 | ty _=>cases r;rfl
theorem RelV.inj{x y:V}{u:Value}(r:RelV x u)(q:RelV y u):x=y:=Option.some.inj (r.abs.symm.trans q.abs)
theorem Qn.inj:∀{xs ys:List V}{us:List Value},Qn xs us->Qn ys us->xs=ys
 | _,_,_,.nil,.nil=>rfl
 | _,_,_,.cons r t,.cons r' t'=>by rw[r.inj r',Qn.inj t t']
section
variable {X:Cx}{pins:List (Addr×Obj)}{σ:St}{H:Hp}{s:Shared}{a:Addr}{xs ys:List V}
theorem SqL.of{K:PySem.W.Frag}(h:H a=some (.lst xs)):SqL K H a xs:= .inl (.inl h)
theorem SqT.of{K:PySem.W.Frag}(h:H a=some (.tup xs)):SqT K H a xs:= .inl (.inl h)
theorem Inv.list(I:Inv X pins σ H s)(h:SqL X.K H a xs):∃its:List Value,Qn xs its/\PlainL s.heap a its.toArray/\xs.length<=sizeLine:=by
 rcases h with h | ⟨o,its,n,hk,hc,hd,hs,hz,r⟩
 ·obtain⟨z,its,n,r,e⟩:=h.ok I.hok
  exact⟨its,r,⟨_,n,e,rfl,rfl,rfl⟩,z⟩
 ·refine⟨its.toList,r,⟨o,n,I.kIn a o hk,hc,hd,by simpa using hs⟩,?_⟩
  have e:=r.length
  simp only[Zm]at e
  omega
theorem Inv.tuple(I:Inv X pins σ H s)(h:SqT X.K H a xs):∃its:List Value,Qn xs its/\IsTup s.heap a its.toArray/\xs.length<=sizeLine:=by
 rcases h with h | ⟨o,its,n,hk,hc,hs,hz,r⟩
 ·obtain⟨z,its,r,p⟩:=h.ok I.hok
  exact⟨its,r,p,z⟩
 ·refine⟨its.toList,r,⟨o,I.kIn a o hk,hc,n,by simpa using hs⟩,?_⟩
  have e:=r.length
  simp only[Zm]at e
  omega
theorem Inv.Qex(I:Inv X pins σ H s)(h:SqL X.K H a xs)(h':SqL X.K H a ys):xs=ys:=by
 obtain⟨its,r,⟨o,n,e,_,_,d⟩,_⟩:=I.list h
 obtain⟨its',r',⟨o',n',e',_,_,d'⟩,_⟩:=I.list h'
 rw[e]at e';cases e'
 rw[d]at d'
 injection d' with d1 _
 have:its=its':=by simpa using congrArg Array.toList d1
 subst this
 exact r.inj r'
theorem Inv.Qnf(I:Inv X pins σ H s)(h:SqT X.K H a xs)(h':SqT X.K H a ys):xs=ys:=by
 obtain⟨its,r,⟨o,e,_,n,d⟩,_⟩:=I.tuple h
 obtain⟨its',r',⟨o',e',_,n',d'⟩,_⟩:=I.tuple h'
 rw[e]at e';cases e'
 rw[d]at d'
 injection d' with d1 _
 have:its=its':=by simpa using congrArg Array.toList d1
 subst this
 exact r.inj r'
end
noncomputable abbrev Cx.QcR(X:Cx)(E:Value->Shared->Prop):Cx:={X with xe:=E}
noncomputable abbrev Cx.nox(X:Cx):Cx:=X.QcR λ_ _=>False
theorem Cx.Ok.QcR{X:Cx}(ok:X.Ok)(E:Value->Shared->Prop):(X.QcR E).Ok:=
 ⟨ok.mod,ok.kind,ok.glob,ok.blt,ok.above,ok.inj,ok.has,ok.cab,ok.hd,ok.frames,ok.stk,ok.exf,ok.bs,ok.bsz,ok.noex,ok.exfs,ok.QcM,ok.frf⟩
theorem Cx.Ok.Qb3{X:Cx}{E:Value->Shared->Prop}(ok:(X.QcR E).Ok):X.Ok:=
 ⟨ok.mod,ok.kind,ok.glob,ok.blt,ok.above,ok.inj,ok.has,ok.cab,ok.hd,ok.frames,ok.stk,ok.exf,ok.bs,ok.bsz,ok.noex,ok.exfs,ok.QcM,ok.frf⟩
section
variable {X:Cx}{pins:List (Addr×Obj)}{σ:St}{H:Hp}{s:Shared}{E:Value->Shared->Prop}
theorem Inv.QcR(I:Inv X pins σ H s)(E:Value->Shared->Prop):Inv (X.QcR E) pins σ H s:=⟨I.ok.QcR E,I.os,I.bare,I.base,I.loc,I.cell,I.free,I.freeC,I.pin,I.hok,I.len⟩
theorem Inv.Qb3(I:Inv (X.QcR E) pins σ H s):Inv X pins σ H s:=⟨I.ok.Qb3,I.os,I.bare,I.base,I.loc,I.cell,I.free,I.freeC,I.pin,I.hok,I.len⟩
theorem SP.Qb3{D:Ends}{f:Flow}{s':Shared}(h:SP (X.QcR E) pins D f s'):SP X pins D f s':=by
 cases f with
 | next=>obtain⟨σ',H',I,q⟩:=h;exact⟨σ',H',I.Qb3,q⟩
 | brk=>obtain⟨σ',H',I,q⟩:=h;exact⟨σ',H',I.Qb3,q⟩
 | cont=>obtain⟨σ',H',I,q⟩:=h;exact⟨σ',H',I.Qb3,q⟩
 | ret u=>obtain⟨v,σ',H',I,r,q⟩:=h;exact⟨v,σ',H',I.Qb3,r,q⟩
theorem PE.nox{e:Expr}{t:TE}(h:PE X.nox e t):PE X e t:=λpins s σ H Q I hw=>
 wpAny_mono (h pins s σ H Q (I.QcR _) hw) (λ_ _ ⟨v,H',I',r,q⟩=>⟨v,H',I'.Qb3,r,q⟩) λ_ _ z=>False.elim z
theorem PT.nox{e:Expr}{t:TT}(h:PT X.nox e t):PT X e t:=λpins s σ H Q I hw=>
 wpAny_mono (h pins s σ H Q (I.QcR _) hw) (λ_ _ ⟨H',I',q⟩=>⟨H',I'.Qb3,q⟩) λ_ _ z=>False.elim z
theorem PSs.nox{st:List Stmt}{t:TS}(h:PSs X.nox st t):PSs X st t:=λpins s σ H D I hw=>
 wpAny_mono (h pins s σ H D (I.QcR _) hw) (λ_ _ q=>q.Qb3) λ_ _ z=>False.elim z
end
section
variable {X:Cx}{st:Stmt}{rest:List Stmt}{t u:TS}{e:Expr}{te:TE}{pos:Pos}
noncomputable def Qmj:TS:=λD σ H=>D.nx σ H
noncomputable def Quz(t u:TS):TS:=λD σ H=>t {D with nx:=u D} σ H
theorem Qq5:PSs X [] Qmj:=λ_ _ σ H _ I h=>wpAny_execs_nil ⟨σ,H,I,h⟩
theorem QoI(h1:PS X st t)(h2:PSs X rest u):PSs X (st::rest) (Quz t u):=by
 intro pins s σ H D I h
 refine wpAny_execs_cons (thn (h1 pins s σ H {D with nx:=u D} I h) λf s1 q=>?_)
 cases f with
 | next=>
  obtain⟨σ',H',I',q⟩:=q
  exact h2 pins s1 σ' H' D I' q
 | ret v=>exact q
 | brk=>exact q
 | cont=>exact q
noncomputable def Qr4:TS:=λD σ H=>D.bk σ H
noncomputable def Que:TS:=λD σ H=>D.ct σ H
theorem Qp3:PS X (.Pass pos) Qmj:=λ_ _ σ H _ I h=>wpAny_Pass ⟨σ,H,I,h⟩
theorem Qog:PS X (.Break pos) Qr4:=λ_ _ σ H _ I h=>wpAny_Break ⟨σ,H,I,h⟩
theorem QkV:PS X (.Continue pos) Que:=λ_ _ σ H _ I h=>wpAny_Continue ⟨σ,H,I,h⟩
theorem Inv.quiet{pins:List (Addr×Obj)}{σ:St}{H:Hp}{s:Shared}(I:Inv X pins σ H s):interactive X.env=false:=by simp[interactive,I.ok.kind]
theorem Qs3{x j pos pos'}:PS X (.Expr (.Constant (.str x) j pos) pos') Qmj:=λ_ s σ H _ I h=>wpAny_Expr (Calls.Constant_str (show SP X _ _ .next {s with toks:=s.toks+1}from⟨σ,H,I.tok _,h⟩)) I.quiet
noncomputable def QiI(te:TE):TS:=λD σ H=>te σ H λ_ H1=>D.nx σ H1
theorem Qhb(he:PE X e te)(hs:swapsWith e none pos.line X.env=pure false:=by rfl):PS X (.Expr e pos) (QiI te):=by
 intro pins s σ H D I h
 exact wpAny_Expr_any (thn (he pins s σ H _ I h) λv s1 ⟨x,H1,I1,r1,q1⟩=>⟨σ,H1,I1,q1⟩) I.quiet hs
noncomputable def Quy(te:TE):TS:=λD σ H=>te σ H D.rt
theorem Qr9(he:PE X e te):PS X (.Return (some e) pos) (Quy te):=by
 intro pins s σ H D I h
 exact wpAny_Return_some (thn (he pins s σ H _ I h) λv s1 ⟨x,H1,I1,r1,q1⟩=>⟨x,σ,H1,I1,r1,q1⟩)
noncomputable def Qu0(c:TT)(t u:TS):TS:=λD σ H=>c σ H λb H1=>if b=true then t D σ H1 else u D σ H1
theorem Qt4{c:Expr}{a b:List Stmt}{tc:TT}(hc:PT X c tc)(ha:PSs X a t)(hb:PSs X b u):PS X (.If c a b pos) (Qu0 tc t u):=by
 intro pins s σ H D I h
 refine wpAny_If (thn (hc pins s σ H _ I h) λd s1 hpt=>?_)
 obtain⟨H1,I1,q1⟩:=hpt
 cases d with
 | true=>exact ha pins s1 σ H1 D I1 q1
 | false=>exact hb pins s1 σ H1 D I1 q1
noncomputable def Qti:TS:=λ_ _ _=>False
theorem Qpq:PS X st Qti:=λ_ _ _ _ _ _ h=>h.elim
end
noncomputable abbrev TG:=V->St->Hp->(St->Hp->Prop)->Prop
noncomputable abbrev TGs:=List V->St->Hp->(St->Hp->Prop)->Prop
def PG(X:Cx)(target:Expr)(t:TG):Prop:=
 ∀(pins:List (Addr×Obj)) (s:Shared) (σ:St) (H:Hp) (v:V) (u:Value) (Q:St->Hp->Prop),Inv X pins σ H s->RelV v u->t v σ H Q→
  wpAny (model X.prog X.w) X.A (assign target X.env u) (λ_ s'=>∃σ' H',Inv X pins σ' H' s'/\Q σ' H') X.xe s
def PGs(X:Cx)(ts:List Expr)(t:TGs):Prop:=
 ∀(pins:List (Addr×Obj)) (s:Shared) (σ:St) (H:Hp) (vs:List V) (us:List Value) (Q:St->Hp->Prop),Inv X pins σ H s->Qn vs us->t vs σ H Q→
  wpAny (model X.prog X.w) X.A (assignInOrder ((assignEach ts X.env).map (·.2)) us) (λ_ s'=>∃σ' H',Inv X pins σ' H' s'/\Q σ' H') X.xe s
noncomputable abbrev QjY:=V->V->V->Hp->(Hp->Prop)->Prop
def QnY(X:Cx)(t:QjY):Prop:=
 ∀(pins:List (Addr×Obj)) (s:Shared) (σ:St) (H:Hp) (o i v:V) (ov iv u:Value) (Q:Hp->Prop),Inv X pins σ H s->RelV o ov->RelV i iv->RelV v u->t o i v H Q→
  wpAny (model X.prog X.w) X.A (setItem ov iv u) (λ_ s'=>∃H',Inv X pins σ H' s'/\Q H') X.xe s
noncomputable abbrev TIp:=V->V->Hp->VK->Prop
def PIp(X:Cx)(op:Operator)(t:TIp):Prop:=
 ∀(pins:List (Addr×Obj)) (s:Shared) (σ:St) (H:Hp) (x y:V) (v u:Value) (Q:VK),Inv X pins σ H s->RelV x v->RelV y u->t x y H Q→
  wpAny (model X.prog X.w) X.A (inplaceOp op v u) (EP X pins σ Q) X.xe s
section
variable {X:Cx}{pos:Pos}
noncomputable def QfB(i:Nat):TG:=λv σ H Q=>Q (σ.set i (some v)) H
theorem QlC{i:Nat}{x:Str}(hN:X.N.Nodup)(hi:X.N[i]? =some x)(hx:Loc X.env.scope x)(hf:X.fn x=true∨X.env.scope.names.lookup x=some .local :=by first | exact .inl rfl | exact .inr rfl | assumption):PG X (.Name x pos) (QfB i):=by
 intro pins s σ H v u Q I r h
 exact wpAny_assign_Name (QjN I hN hi hx r (λs' I'=>⟨_,H,I',h⟩) hf)
noncomputable def Qtk:TGs:=λvs σ H Q=>vs=[]/\Q σ H
noncomputable def QpA(t:TG)(u:TGs):TGs:=λvs σ H Q=>∃v r,vs=v::r/\t v σ H λσ' H'=>u r σ' H' Q
theorem Qp2:PGs X [] Qtk:=by
 intro pins s σ H vs us Q I r h
 obtain⟨e,h⟩:=h
 subst e
 cases r
 exact assignInOrder_nil ⟨σ,H,I,h⟩
theorem QoB{e:Expr}{es:List Expr}{t:TG}{u:TGs}(h1:PG X e t)(h2:PGs X es u)
  (hs:(assignEach (e::es) X.env).map (·.2)=assign e X.env::(assignEach es X.env).map (·.2):=by rfl):PGs X (e::es) (QpA t u):=by
 intro pins s σ H vs us Q I r h
 obtain⟨v,vr,e1,h⟩:=h
 subst e1
 cases r with
 | cons r rr=>
  rw[hs]
  refine assignInOrder_cons (thn (h1 pins s σ H _ _ _ I r h) λ_ s1 hpt=>?_)
  obtain⟨σ1,H1,I1,q1⟩:=hpt
  exact h2 pins s1 σ1 H1 _ _ Q I1 rr q1
noncomputable def QuW(K:PySem.W.Frag)(n:Nat)(t:TGs):TG:=λv σ H Q=>∃a xs,v= .ref a/\SqT K H a xs/\xs.length=n/\t xs σ H Q
theorem Qsi{es:List Expr}{k:Nat}{t:TGs}{n:Nat}(hc:X.calm=true)(h:PGs X es t)
  (hn:(assignEach es X.env).length=n:=by rfl) (hst:(assignEach es X.env).findIdx? (·.1)=none:=by rfl):PG X (.Tuple es k pos) (QuW X.K n t):=by
 intro pins s σ H v u Q I r hw
 obtain⟨a,xs,e1,hq,hl,hw⟩:=hw
 subst e1
 cases r
 obtain⟨its,rv,ht,hz⟩:=I.tuple hq
 refine assign_Tuple_tuple (I.ok.hd hc) ht (by simp[hn,← hl,rv.length]) hst λh' hx=>?_
 have I1:Inv X pins σ H {s with heap:=h'}:=I.kept (t':=s.toks) λb o e=>hx b o (ZE (Zn e)) e
 exact h pins _ σ H xs _ Q I1 (by simpa using rv) hw
noncomputable def QbK(to ti:TE)(t:QjY):TG:=λv σ H Q=>to σ H λo H1=>ti σ H1 λi H2=>t o i v H2 λH3=>Q σ H3
theorem QrK{o i:Expr}{to ti:TE}{t:QjY}(ho:PE X o to)(hi:PE X i ti)(hs:QnY X t)
  (ha:∀v,assign (.Subscript o i pos) X.env v=(do
   let ov ← holding [v] (eval o X.env)
   let iv ← holding [v,ov] (eval i X.env)
   standAt pos
   holding [v,ov,iv] (setItem ov iv v)
   release [v,ov,iv] []):=by intro _;rfl):PG X (.Subscript o i pos) (QbK to ti t):=by
 intro pins s σ H v u Q I r h
 rw[ha]
 refine wpAny_bind (wpAny_holding (thn (ho pins s σ H _ I h) λov s1=>exJ λx H1 I1 r1 q1=>?_))
 refine wpAny_bind (wpAny_holding (thn (hi pins s1 σ H1 _ I1 q1) λiv s2=>exJ λy H2 I2 r2 q2=>?_))
 refine wpAny_bind (wpAny_standAt (wpAny_bind (wpAny_holding (thn (hs pins s2 σ H2 x y v ov iv u _ I2 r1 r2 r q2) λ_ s3 hpt=>?_))))
 obtain⟨H3,I3,q3⟩:=hpt
 exact wpAny_release ⟨σ,H3,I3,q3⟩
noncomputable def Qi7(te:TE)(g:TG):TS:=λD σ H=>te σ H λx H1=>g x σ H1 D.nx
theorem Qnt{tg e:Expr}{te:TE}{g:TG}(he:PE X e te)(hg:PG X tg g)(hs:swapsWithSole [tg] e pos.line X.env=pure false:=by rfl)(hw:swappedStores [tg] e X.env=pure none:=by rfl)
  (h1:(assignEach [tg] X.env).map (·.2)=[assign tg X.env]:=by rfl):PS X (.Assign [tg] e pos) (Qi7 te g):=by
 intro pins s σ H D I h
 refine wpAny_Assign_stores (thn (he pins s σ H _ I h) λv s1 ⟨x,H1,I1,r1,q1⟩=>?_) hs hw
 rw[h1]
 exact thn (hg pins s1 σ H1 x v _ I1 r1 q1) λ_ s2 q=>q
theorem Qjt{i:Nat}{x:Str}{e:Expr}{te:TE}{pos':Pos}(hN:X.N.Nodup)(hi:X.N[i]? =some x)(hx:Loc X.env.scope x)(he:PE X e te)(hs:swapsWith e (some (.Name x pos')) pos.line X.env=pure false:=by rfl)(hf:X.fn x=true∨X.env.scope.names.lookup x=some .local :=by first | exact .inl rfl | exact .inr rfl | assumption):
  PS X (.Assign [.Name x pos'] e pos) (Qi7 te (QfB i)):=by
 intro pins s σ H D I h
 refine wpAny_Assign_Name (thn (he pins s σ H _ I h) λv s1 ⟨y,H1,I1,r1,q1⟩=>?_) hs
 exact QjN I1 hN hi hx r1 (λs2 I2=>⟨_,H1,I2,q1⟩) hf
noncomputable def QtI(to ti te:TE)(tget:V->V->Hp->VK->Prop)(tip:TIp)(tset:QjY):TS:=λD σ H=>to σ H λo H1=>ti σ H1 λi H2=>tget o i H2 λx H3=>te σ H3 λy H4=>tip x y H4 λz H5=>tset o i z H5 λH6=>D.nx σ H6
def QsH(X:Cx)(t:V->V->Hp->VK->Prop):Prop:=
 ∀(pins:List (Addr×Obj)) (s:Shared) (σ:St) (H:Hp) (o i:V) (ov iv:Value) (Q:VK),Inv X pins σ H s->RelV o ov->RelV i iv->t o i H Q→
  wpAny (model X.prog X.w) X.A (getItem ov iv) (EP X pins σ Q) X.xe s
theorem QqD{o i e:Expr}{to ti te:TE}{tget:V->V->Hp->VK->Prop}{tip:TIp}{tset:QjY}{op:Operator}{tpos:Pos}(ho:PE X o to)(hi:PE X i ti)(hg:QsH X tget)(he:PE X e te)(hp:PIp X op tip)(hs:QnY X tset)
  (ha:∀ov iv new,augStore i ov iv new=(do holding [new,ov,iv] (setItem ov iv new);release [new,ov,iv] [];pure .next):=by intros;rfl):PS X (.AugAssign (.Subscript o i tpos) op e pos) (QtI to ti te tget tip tset):=by
 intro pins s σ H D I h
 refine wpAny_AugAssign_SubscriptAny (thn (ho pins s σ H _ I h) λov s1 ⟨x1,H1,I1,r1,q1⟩=>?_) ha
 refine thn (hi pins s1 σ H1 _ I1 q1) λiv s2=>exJ λx2 H2 I2 r2 q2=>?_
 refine thn (hg pins s2 σ H2 x1 x2 ov iv _ I2 r1 r2 q2) λold s3=>exJ λx3 H3 I3 r3 q3=>?_
 refine thn (he pins s3 σ H3 _ I3 q3) λv s4=>exJ λx4 H4 I4 r4 q4=>?_
 refine thn (hp pins s4 σ H4 x3 x4 old v _ I4 r3 r4 q4) λnew s5=>exJ λx5 H5 I5 r5 q5=>?_
 exact thn (hs pins s5 σ H5 x1 x2 x5 ov iv new _ I5 r1 r2 r5 q5) λ_ s6 ⟨H6,I6,q6⟩=>⟨σ,H6,I6,q6⟩
end
section
variable {X:Cx}{pos:Pos}
end
structure It where
 go:Nat->Hp->Prop
 yld:Nat->Hp->V->Hp->Prop
 stop:Nat->Hp->Prop
def Qcy(X:Cx)(pins:List (Addr×Obj))(H:Hp)(b:Addr):Prop:=
 H b=none/\b≠X.env.locals/\b∉X.fs/\(b∈X.ex∨X.s₀.heap.objs.size<=b)/\(∀x c,X.env.cells.lookup x=some c->c≠b)/\∀p∈X.pn++pins,p.1≠b
theorem Inv.Qji{X:Cx}{pins:List (Addr×Obj)}{σ:St}{H H':Hp}{s:Shared}{b:Addr}(I:Inv X pins σ H s)(hb:s.heap.objs.size<=b)(hn:H' b=none):Qcy X pins H' b:=by
 refine⟨hn,Zbc (ZC I.lt hb),I.QuX hb,.inr (ZH I.sz hb),λx c e z=>?_,λp hp z=>?_⟩
 ·obtain⟨v,q⟩:=I.cell x c e
  exact absurd (ZC q.lt (by rw[z];exact hb)) (ZR _)
 ·exact absurd (ZC (Zn (I.pin p hp).1) (by rw[z];exact hb)) (ZR _)
structure Turn (P:Program) (w:World) (K:PySem.W.Frag) (tg:Expr) (J:It) (fp:List Addr) (it:Addr) (tn:Nat->Heap->Prop):Prop where
 mem:it∈fp
 obj:∀i h,tn i h->∀b∈fp,∃o,h.get? b=some o/\∀v,o.data≠ .cell v
 keep:∀i h h',tn i h->(∀b∈fp,∀o,h.get? b=some o->h'.get? b=some o)->tn i h'
 item:∀(X:Cx),X.prog=P->X.w=w->X.K=K->X.calm=true->∀(i:Nat) (pins:List (Addr×Obj)) (s:Shared) (σ:St) (H:Hp) (E:Value->Shared->Prop),Inv X pins σ H s->(∀b∈fp,Qcy X pins H b)->tn i s.heap->J.go i H→
  wpAny (model P w) X.A (pyNext (.ref it)) (λr s1=>∃u,r=some u∧
   wpAny (model P w) X.A (letOwnedTupleGo tg (.ref it) u) (λ_ s2=>∃x H',Inv X pins σ H' s2/\RelV x u/\J.yld i H x H'/\tn (i+1) s2.heap/\∀b∈fp,H' b=none) E s1) E s
 done:∀(X:Cx),X.prog=P->X.w=w->X.K=K->X.calm=true->∀(i:Nat) (pins:List (Addr×Obj)) (s:Shared) (σ:St) (H:Hp) (E:Value->Shared->Prop),Inv X pins σ H s->(∀b∈fp,Qcy X pins H b)->tn i s.heap->J.stop i H→
  wpAny (model P w) X.A (pyNext (.ref it)) (λr s1=>r=none/\Inv X pins σ H s1) E s
 self:∀(A:Around) (i:Nat) (s:Shared) (Q:Value->Shared->Prop) (E:Value->Shared->Prop),tn i s.heap->Q (.ref it) s->wpAny (model P w) A (pyIter (.ref it)) Q E s
noncomputable abbrev TI:=St->Hp->(It->Hp->Prop)->Prop
def PIE(X:Cx)(pins:List (Addr×Obj))(σ:St)(tg:Expr)(R:It->Hp->Prop)(itv:Value)(s2:Shared):Prop:=
 ∃(it:Addr) (fp:List Addr) (tn:Nat->Heap->Prop) (J:It) (H':Hp),itv= .ref it/\Inv X pins σ H' s2/\Turn X.prog X.w X.K tg J fp it tn/\tn 0 s2.heap/\(∀b∈fp,Qcy X pins H' b)/\R J H'
def PI(X:Cx)(tg iter:Expr)(wi:TI):Prop:=
 ∀(pins:List (Addr×Obj)) (s:Shared) (σ:St) (H:Hp) (R:It->Hp->Prop),Inv X pins σ H s->wi σ H R→
  wpAny (model X.prog X.w) X.A (eval iter X.env) (λv s1=>wpAny (model X.prog X.w) X.A (pyIter v) (PIE X pins σ tg R) X.xe s1) X.xe s
theorem Qmo{M:Model}{A:Around}{E:Value->Shared->Prop}{s:Shared}{tg:Expr}{it:Addr}{u:Value}{o:Obj}{n:String}{vs:Array Value}{Q:Unit->Shared->Prop}(ho:s.heap.get? it=some o)(hc:o.cls= .type n)(hd:o.data= .fields vs)
    (hn:["enumerate","zip","dict_itemiterator","dict_reverseitemiterator","odict_iterator","itertools.zip_longest","itertools.pairwise"].contains n=false) (hQ:Q () s):wpAny M A (letOwnedTupleGo tg (.ref it) u) Q E s:=by
  unfold letOwnedTupleGo
  cases tg<;>first
    | exact wpAny_pure hQ
    | (cases u<;>first
        | exact wpAny_pure hQ
        | (refine wpAny_bind (wpAny_load ho ?_)
           rw[hc,hd]
           show wpAny M A (if(["enumerate","zip","dict_itemiterator","dict_reverseitemiterator","odict_iterator","itertools.zip_longest","itertools.pairwise"].contains n && vs[0]? == some (rawInt _))=true then _ else _) Q E s
           rw[if_neg (by intro h;rw[hn,Bool.false_and]at h;cases h)]
           exact wpAny_pure hQ))
noncomputable def Itl(K:PySem.W.Frag)(a:Addr):It:=
 ⟨λi H=>∃xs x,SqL K H a xs/\xs[i]? =some x,λi H x H'=>H'=H/\∀xs,SqL K H a xs->xs[i]? =some x,λi H=>∃xs,SqL K H a xs/\xs.length<=i⟩
noncomputable def Itt(K:PySem.W.Frag)(a:Addr):It:=
 ⟨λi H=>∃xs x,SqT K H a xs/\xs[i]? =some x,λi H x H'=>H'=H/\∀xs,SqT K H a xs->xs[i]? =some x,λi H=>∃xs,SqT K H a xs/\xs.length<=i⟩
noncomputable def Itr(lo:Int)(n:Nat):It:=⟨λi _=>i<n,λi H x H'=>H'=H/\x= .int (lo+i),λi _=>n<=i⟩
theorem Qny{P:Program}{w:World}{K:PySem.W.Frag}{tg:Expr}(a it:Addr):Turn P w K tg (Itl K a) [it] it (λi h=>h.IsListIter it a i) where
 mem:=by simp
 obj:=λi h st b hb=>by
  have e:b=it:=by simpa using hb
  subst e
  obtain⟨o,e,c,d⟩:=st
  exact⟨o,e,λv z=>by rw[d]at z;cases z⟩
 keep:=λi h h' st k=>st.at λo e=>k it (by simp) o e
 item:=by
  intro X hP hw hK hc i pins s σ H E I hf st hg
  subst hP hw hK
  obtain⟨xs,x,hq,hx⟩:=hg
  obtain⟨its,rv,p,hz⟩:=I.list hq
  obtain⟨u,hu,ru⟩:=rv.get hx
  obtain⟨f0,f1,f2,f3,f4,f5⟩:=hf it (by simp)
  refine wpAny_pyNext_list_item st p.isList (x:=u) (by simpa using hu) λh' st' sb=>?_
  have I1:Inv X pins σ H {s with heap:=h'}:=I.turned (t':=s.toks) (λb o hb e=>(sb.2 b hb).trans e) f0 f1 f3 f4 f5
  obtain⟨o,e,c,d⟩:=id st'
  exact⟨u,rfl,Qmo (s:={s with heap:=h'}) e c d (by decide) ⟨x,H,I1,ru,⟨rfl,λys hy=>by rw[I.Qex hy hq];exact hx⟩,st',λb hb=>(hf b hb).1⟩⟩
 done:=by
  intro X hP hw hK hc i pins s σ H E I hf st hg
  subst hP hw hK
  obtain⟨xs,hq,hx⟩:=hg
  obtain⟨its,rv,p,hz⟩:=I.list hq
  obtain⟨f0,f1,f2,f3,f4,f5⟩:=hf it (by simp)
  have hl:=rv.length
  exact wpAny_pyNext_list_end (I.ok.hd hc) st p.isList (by simp;omega) λh' eb=>⟨rfl,I.turned (t':=s.toks) (λb o hb e=>eb b o hb e) f0 f1 f3 f4 f5⟩
 self:=λ_ _ _ _ _ st h=>wpAny_pyIter_listiter st h
theorem QlM{P:Program}{w:World}{K:PySem.W.Frag}{tg:Expr}(a it:Addr):Turn P w K tg (Itt K a) [it] it (λi h=>h.IsTupleIter it a i) where
 mem:=by simp
 obj:=λi h st b hb=>by
  have e:b=it:=by simpa using hb
  subst e
  obtain⟨o,e,c,d⟩:=st
  exact⟨o,e,λv z=>by rw[d]at z;cases z⟩
 keep:=λi h h' st k=>st.at λo e=>k it (by simp) o e
 item:=by
  intro X hP hw hK hc i pins s σ H E I hf st hg
  subst hP hw hK
  obtain⟨xs,x,hq,hx⟩:=hg
  obtain⟨its,rv,p,hz⟩:=I.tuple hq
  obtain⟨u,hu,ru⟩:=rv.get hx
  obtain⟨f0,f1,f2,f3,f4,f5⟩:=hf it (by simp)
  refine wpAny_pyNext_tuple_item st (show s.heap.IsTuple a its.toArray from p) (x:=u) (by simpa using hu) λh' st' sb=>?_
  have I1:Inv X pins σ H {s with heap:=h'}:=I.turned (t':=s.toks) (λb o hb e=>(sb.2 b hb).trans e) f0 f1 f3 f4 f5
  obtain⟨o,e,c,d⟩:=id st'
  exact⟨u,rfl,Qmo (s:={s with heap:=h'}) e c d (by decide) ⟨x,H,I1,ru,⟨rfl,λys hy=>by rw[I.Qnf hy hq];exact hx⟩,st',λb hb=>(hf b hb).1⟩⟩
 done:=by
  intro X hP hw hK hc i pins s σ H E I hf st hg
  subst hP hw hK
  obtain⟨xs,hq,hx⟩:=hg
  obtain⟨its,rv,p,hz⟩:=I.tuple hq
  obtain⟨f0,f1,f2,f3,f4,f5⟩:=hf it (by simp)
  have hl:=rv.length
  exact wpAny_pyNext_tuple_end (I.ok.hd hc) st (show s.heap.IsTuple a its.toArray from p) (by simp;omega) λh' eb=>⟨rfl,I.turned (t':=s.toks) (λb o hb e=>eb b o hb e) f0 f1 f3 f4 f5⟩
 self:=λ_ _ _ _ _ st h=>wpAny_pyIter_tupleiter st h
theorem QlN{P:Program}{w:World}{K:PySem.W.Frag}{tg:Expr}(it:Addr)(lo:Int)(n:Nat):Turn P w K tg (Itr lo n) [it] it (λi h=>IsRangeIter h it (lo+(i:Nat)*1) ((n:Int)-(i:Nat)) 1) where
 mem:=by simp
 obj:=λi h st b hb=>by
  have e:b=it:=by simpa using hb
  subst e
  exact⟨_,st,λv z=>by
   have z':Data.fields _=Data.cell v:=z
   cases z'⟩
 keep:=λi h h' st k=>k it (by simp) _ st
 item:=by
  intro X hP hw hK hc i pins s σ H E I hf st hg
  subst hP hw hK
  obtain⟨f0,f1,f2,f3,f4,f5⟩:=hf it (by simp)
  have W:=Walks.range (prog:=X.prog) (w:=X.w) (I.ok.hd hc) it lo 1 n
  refine W.item i s _ _ hg st λv h' tk hv st' kk=>?_
  obtain⟨t,rfl⟩:=hv
  have I1:Inv X pins σ H {s with heap:=h',toks:=tk}:=I.turned (λb o hb e=>kk b o (by simpa using hb) e) f0 f1 f3 f4 f5
  refine⟨_,rfl,Qmo (s:={s with heap:=h',toks:=tk}) (n:= "range_iterator") st' rfl rfl (by decide) ⟨.int (lo+i),H,I1,⟨t,?_⟩,⟨rfl,rfl⟩,st',λb hb=>(hf b hb).1⟩⟩
  rw[Int.mul_one]
 done:=by
  intro X hP hw hK hc i pins s σ H E I hf st hg
  subst hP hw hK
  obtain⟨f0,f1,f2,f3,f4,f5⟩:=hf it (by simp)
  exact wpAny_pyNext_range_end (I.ok.hd hc) st (by have:n<=i:=hg;omega) λh' eb=>⟨rfl,I.turned (t':=s.toks) (λb o hb e=>eb b o hb e) f0 f1 f3 f4 f5⟩
 self:=λ_ _ _ _ _ st h=>wpAny_pyIter_rangeiter st h
end L2
namespace L2
open PySem PySem.Spec PyProof.Rows
section
variable {X:Cx}{tg:Expr}
theorem Qj6{pins:List (Addr×Obj)}{σ:St}{H:Hp}{s:Shared}{R:It->Hp->Prop}{E:Value->Shared->Prop}{lo hi:Int}{t u v:Tok}{tk:Nat}(I:Inv X pins σ H s)(h1: -(2^62)<=lo)(h2:lo<2^62)(h3: -(2^62)<=hi)(h4:hi<2^62)
  (q:R (Itr lo (hi-lo).toNat) H):wpAny (model X.prog X.w) X.A (pyIter (.ref s.heap.objs.size)) (PIE X pins σ tg R) E {s with heap:=s.heap.push {cls:= .type "range",data:= .fields #[.int lo t,.int hi u,.int 1 v]},toks:=tk}:=by
 refine wpAny_pyIter_range (IsRange.new ..) (small_one h1 h2 h3 h4) ?_
 have I1:Inv X pins σ H {s with heap:=s.heap.push {cls:= .type "range",data:= .fields #[.int lo t,.int hi u,.int 1 v]},toks:=tk}:=I.kept λb o e=>Zf _ e
 refine⟨(s.heap.push {cls:= .type "range",data:= .fields #[.int lo t,.int hi u,.int 1 v]}).objs.size,[(s.heap.push {cls:= .type "range",data:= .fields #[.int lo t,.int hi u,.int 1 v]}).objs.size],_,_,H,rfl,
  I1.kept (t':=tk) λb o e=>Zf _ e,QlN _ lo (hi-lo).toNat,?_,λb hb=>?_,q⟩
 ·have e1:lo+((0:Nat):Int)*1=lo:=by simp
  have e2:(((hi-lo).toNat:Nat):Int)-((0:Nat):Int)=Builtin.Range.rangeSize lo hi 1:=by rw[rangeSize_one];split<;>omega
  show IsRangeIter _ _ (lo+((0:Nat):Int)*1) ((((hi-lo).toNat:Nat):Int)-((0:Nat):Int)) 1
  rw[e1,e2]
  exact Zx _ rfl
 ·have e:b=(s.heap.push {cls:= .type "range",data:= .fields #[.int lo t,.int hi u,.int 1 v]}).objs.size:=by simpa using hb
  subst e
  exact I1.Qji (Zp _) (I1.hok.fresh (Zp _))
noncomputable def QtB(ta:TA):TI:=λσ H R=>ta σ H λvs H1=>∃j:Int,vs=[.int j]/\ -(2^62)<=j/\j<2^62/\R (Itr 0 j.toNat) H1
noncomputable def QtP(ta:TA):TI:=λσ H R=>ta σ H λvs H1=>∃i j:Int,vs=[.int i,.int j]/\(-(2^62)<=i/\i<2^62/\ -(2^62)<=j/\j<2^62)/\R (Itr i (j-i).toNat) H1
theorem Qnj{a:Expr}{ta:TA}{p pos:Pos}(hg:Gl X "range")(hm:X.mg "range" =none)(ha:PA X [a] ta)(hs:starEach [a] X.env=[(false,eval a X.env)]:=by rfl):PI X tg (.Call (.Name "range" p) [a] [] pos) (QtB ta):=by
 intro pins s σ H R I h
 refine Call_ (QbM I hg hm boot_range (ZU (thn (ha pos pins s σ H _ I h) λus s1 ⟨vs,H1,I1,r1,q1⟩=>?_) hs rfl))
 obtain⟨j,e,q1,q2,q⟩:=q1
 subst e
 cases r1 with
 | cons r rr=>
  cases rr
  obtain⟨t,rfl⟩:=r
  exact call_range_1 (Qj6 I1 (by omega) (by omega) q1 q2 (by simpa using q))
theorem QmC{a b:Expr}{ta:TA}{p pos:Pos}(hg:Gl X "range")(hm:X.mg "range" =none)(ha:PA X [a,b] ta)(hs:starEach [a,b] X.env=[(false,eval a X.env),(false,eval b X.env)]:=by rfl)(hs2:starEach [b] X.env=[(false,eval b X.env)]:=by rfl):
  PI X tg (.Call (.Name "range" p) [a,b] [] pos) (QtP ta):=by
 intro pins s σ H R I h
 refine Call_ (QbM I hg hm boot_range (ZU (thn (ha pos pins s σ H _ I h) λus s1 ⟨vs,H1,I1,r1,q1⟩=>?_) (by rw[hs,hs2]) (by rw[hs2];rfl)))
 obtain⟨i,j,e,⟨q1,q2,q3,q4⟩,q⟩:=q1
 subst e
 cases r1 with
 | cons r rr=>
  cases rr with
  | cons r' rr=>
   cases rr
   obtain⟨t,rfl⟩:=r
   obtain⟨t',rfl⟩:=r'
   exact call_range_2 (Qj6 I1 q1 q2 q3 q4 q)
noncomputable def Quq(wi:TI)(g:TG)(tb:TS):TS:=λD σ H=>wi σ H λJ H1=>∃W:Nat->Nat->St->Hp->Prop,(∃m,W 0 m σ H1)/\∀i m σ H,W i m σ H→
 (J.stop i H/\D.nx σ H)∨(J.go i H/\∃N:St->Hp->Prop,(∀σ' H',N σ' H'->∃m',m'<m/\W (i+1) m' σ' H')/\∀x H',J.yld i H x H'->g x σ H' λσ2 H2=>tb {D with nx:=N,ct:=N,bk:=D.nx} σ2 H2)
noncomputable def Qfi(fp:List Addr)(h:Heap):List (Addr×Obj):=fp.filterMap λb=>(h.get? b).map λo=>(b,o)
theorem Qet{fp:List Addr}{h:Heap}{b:Addr}{o:Obj}(hb:b∈fp)(e:h.get? b=some o):(b,o)∈Qfi fp h:=ZaY.mpr ⟨b,hb,by rw[e];rfl⟩
theorem QmI{fp:List Addr}{h:Heap}{p:Addr×Obj}(hp:p∈Qfi fp h):p.1∈fp/\h.get? p.1=some p.2:=by
 obtain⟨b,hb,e⟩:=ZaY.mp hp
 cases q:h.get? b with
 | none=>rw[q]at e;cases e
 | some o=>
  rw[q]at e
  have e':(b,o)=p:=Option.some.inj e
  subst e'
  exact⟨hb,q⟩
theorem Inv.pinned{pins:List (Addr×Obj)}{σ:St}{H:Hp}{s:Shared}{fp:List Addr}(I:Inv X pins σ H s)(hf:∀b∈fp,Qcy X pins H b)(ho:∀b∈fp,∃o,s.heap.get? b=some o/\∀v,o.data≠ .cell v):Inv X (pins++Qfi fp s.heap) σ H s:=
 I.Qlc λp hp=>(ZJ.mp hp).elim (λz=>I.pin p (Zd _ z)) λz=>by
  obtain⟨hb,e⟩:=QmI z
  obtain⟨f0,f1,f2,_⟩:=hf p.1 hb
  obtain⟨o,e',d⟩:=ho p.1 hb
  rw[e]at e';cases e'
  exact⟨e,f0,f1,f2,d⟩
theorem Inv.Qes{pins pl:List (Addr×Obj)}{σ:St}{H:Hp}{s:Shared}(I:Inv X (pins++pl) σ H s):Inv X pins σ H s:=I.Qlc λp hp=>I.pin p (Zd _ (Zg _ hp))
theorem Qs2{iter:Expr}{body:List Stmt}{wi:TI}{g:TG}{tb:TS}{pos:Pos}(hp:PassesOwn (model X.prog X.w) X.A X.env X.xe)(hc:X.calm=true)(hi:PI X tg iter wi)(hg:PG X tg g)(hb:PSs X body tb)
  (hs:∀x,foldedSetIterable iter X.env x=pure x:=by intro _;rfl):PS X (.For tg iter body [] pos) (Quq wi g tb):=by
 intro pins s σ H D I h
 refine wpAny_For (thn (hi pins s σ H _ I h) λv s1 h1=>thn h1 λitv s2 h2=>?_) hs
 obtain⟨it,fp,tn,J,H2,e,I2,T,st2,f2,W,⟨m0,w0⟩,turn⟩:=h2
 subst e
 have stat:∀{H':Hp},(∀b∈fp,H' b=none)->∀b∈fp,Qcy X pins H' b:=λhn b hb=>⟨hn b hb,(f2 b hb).2⟩
 refine codeAny_forLoop_any (λn s'=>∃i σ' H',Inv X pins σ' H' s'/\tn i s'.heap/\(∀b∈fp,H' b=none)/\W i n σ' H') ?_ m0 ⟨0,σ,H2,I2,st2,λb hb=>(f2 b hb).1,w0⟩
 rintro n s3 ⟨i,σ3,H3,I3,st3,fr3,w3⟩
 rcases turn i n σ3 H3 w3 with⟨stop,qn⟩ | ⟨go,N,hN,step⟩
 ·refine wpAny_passesOwn hp (thn (T.done X rfl rfl rfl hc i pins s3 σ3 H3 X.xe I3 (stat fr3) st3 stop) λr s4 hpt=>?_)
  obtain⟨hr,I4⟩:=hpt
  subst hr
  exact wpAny_execs_nil ⟨σ3,H3,I4,qn⟩
 ·refine wpAny_passesOwn hp (thn (T.item X rfl rfl rfl hc i pins s3 σ3 H3 X.xe I3 (stat fr3) st3 go) λr s4 hpt=>?_)
  obtain⟨u,hr,h4⟩:=hpt
  subst hr
  refine wpAny_passesOwn hp (thn h4 λ_ s5 hpt=>?_)
  obtain⟨x,H5,I5,r5,y5,st5,fr5⟩:=hpt
  have I5':=I5.pinned (stat fr5) (T.obj _ _ st5)
  refine wpAny_passesOwn hp (thn (hg _ s5 σ3 H5 x u _ I5' r5 (step x H5 y5)) λ_ s6 hpt=>?_)
  obtain⟨σ6,H6,I6,q6⟩:=hpt
  refine wpAny_passesOwn hp (thn (hb _ s6 σ6 H6 _ I6 q6) λf s7 q7=>?_)
  have again:∀{σ7:St}{H7:Hp},Inv X (pins++Qfi fp s5.heap) σ7 H7 s7->N σ7 H7->∃m,m<n/\∃i σ' H',Inv X pins σ' H' s7/\tn i s7.heap/\(∀b∈fp,H' b=none)/\W i m σ' H':=λ{σ7 H7} I7 n7=>by
   obtain⟨m',hm,w7⟩:=hN σ7 H7 n7
   refine⟨m',hm,i+1,σ7,H7,I7.Qes,T.keep _ _ _ st5 λb hb o e=>(I7.pin (b,o) (Zd _ (Zd _ (Qet hb e)))).1,λb hb=>?_,w7⟩
   obtain⟨o,e,d⟩:=T.obj _ _ st5 b hb
   exact(I7.pin (b,o) (Zd _ (Zd _ (Qet hb e)))).2.1
  cases f with
  | next=>obtain⟨σ7,H7,I7,n7⟩:=q7;exact again I7 n7
  | cont=>obtain⟨σ7,H7,I7,n7⟩:=q7;exact again I7 n7
  | brk=>obtain⟨σ7,H7,I7,q7⟩:=q7;exact⟨σ7,H7,I7.Qes,q7⟩
  | ret v=>obtain⟨x7,σ7,H7,I7,r7,q7⟩:=q7;exact⟨x7,σ7,H7,I7.Qes,r7,q7⟩
end
end L2
namespace L2
open PySem PySem.Spec PyProof.Rows
noncomputable abbrev R2:=V->V->Hp->VK->Prop
def OpR(X:Cx)(f:Value->Value->Sem Value)(r:R2):Prop:=
 ∀(pins:List (Addr×Obj)) (s:Shared) (σ:St) (H:Hp) (x y:V) (v u:Value) (Q:VK),Inv X pins σ H s->RelV x v->RelV y u->r x y H Q→
  wpAny (model X.prog X.w) X.A (f v u) (EP X pins σ Q) X.xe s
def UnR(X:Cx)(f:Value->Sem Value)(r:V->Hp->VK->Prop):Prop:=
 ∀(pins:List (Addr×Obj)) (s:Shared) (σ:St) (H:Hp) (x:V) (v:Value) (Q:VK),Inv X pins σ H s->RelV x v->r x H Q→
  wpAny (model X.prog X.w) X.A (f v) (EP X pins σ Q) X.xe s
def QaJ(X:Cx)(f:Value)(r:List V->Hp->VK->Prop):Prop:=
 ∀(pins:List (Addr×Obj)) (s:Shared) (σ:St) (H:Hp) (xs:List V) (us:List Value) (Q:VK),Inv X pins σ H s->Qn xs us->r xs H Q→
  wpAny (model X.prog X.w) X.A (call f us) (EP X pins σ Q) X.xe s
def QuI(X:Cx)(r:V->Hp->(Bool->Hp->Prop)->Prop):Prop:=
 ∀(pins:List (Addr×Obj)) (s:Shared) (σ:St) (H:Hp) (x:V) (v:Value) (Q:Bool->Hp->Prop),Inv X pins σ H s->RelV x v->r x H Q→
  wpAny (model X.prog X.w) X.A (truthy v) (TP X pins σ Q) X.xe s
noncomputable def tOp(r:R2)(ta tb:TE):TE:=λσ H Q=>ta σ H λx H1=>tb σ H1 λy H2=>r x y H2 Q
noncomputable def tUn(r:V->Hp->VK->Prop)(ta:TE):TE:=λσ H Q=>ta σ H λx H1=>r x H1 Q
noncomputable def rI(C:Int->Int->Prop)(g:Int->Int->V):R2:=λx y H Q=>∃i j,x= .int i/\y= .int j/\C i j/\Q (g i j) H
noncomputable def rI0(g:Int->Int->V):R2:=λx y H Q=>∃i j,x= .int i/\y= .int j/\Q (g i j) H
noncomputable def rU(g:Int->V):V->Hp->VK->Prop:=λx H Q=>∃i,x= .int i/\Q (g i) H
section
variable {X:Cx}{a b c:Expr}{ta tb tc:TE}{pos:Pos}
theorem Qpm(ha:PE X a ta)(hb:PE X b tb){pins:List (Addr×Obj)}{s:Shared}{σ:St}{H:Hp}{R:V->V->Hp->Prop}(I:Inv X pins σ H s)
  (h:ta σ H λx H1=>tb σ H1 λy H2=>R x y H2) {Q:Value->Shared->Prop}{f:Value->Value->Sem Value}
  (hf:∀v u s2 x y H2,Inv X pins σ H2 s2->RelV x v->RelV y u->R x y H2->wpAny (model X.prog X.w) X.A (f v u) Q X.xe s2):
  wpAny (model X.prog X.w) X.A (eval a X.env) (λv s₁=>wpAny (model X.prog X.w) X.A (eval b X.env) (λu s₂=>wpAny (model X.prog X.w) X.A (f v u) Q X.xe s₂) X.xe s₁) X.xe s:=by
 refine thn (ha pins s σ H _ I h) λv s1=>exJ λx H1 I1 r1 q1=>?_
 refine thn (hb pins s1 σ H1 _ I1 q1) λu s2=>exJ λy H2 I2 r2 q2=>?_
 exact hf v u s2 x y H2 I2 r1 r2 q2
theorem QlV{op:Operator}{r:R2}(ho:OpR X (binaryOp op) r)(ha:PE X a ta)(hb:PE X b tb):PE X (.BinOp a op b pos) (tOp r ta tb):=by
 intro pins s σ H Q I h
 exact wpAny_BinOp (Qpm ha hb I h λv u s2 x y H2 I2 rx ry q=>ho pins s2 σ H2 x y v u Q I2 rx ry q)
theorem Qt8{op:UnaryOp}{r:V->Hp->VK->Prop}(ho:UnR X (unaryOp op) r)(ha:PE X a ta):PE X (.UnaryOp op a pos) (tUn r ta):=by
 intro pins s σ H Q I h
 exact UnaryOp_ (thn (ha pins s σ H _ I h) λv s1 ⟨x,H1,I1,r1,q1⟩=>ho pins s1 σ H1 x v Q I1 r1 q1)
theorem Quv{op:Operator}{r:R2}(ho:OpR X (inplaceOp op) r){pins:List (Addr×Obj)}{s:Shared}{σ:St}{H:Hp}{x y:V}{v u:Value}{Q:VK}(I:Inv X pins σ H s)
  (rx:RelV x v) (ry:RelV y u) (q:r x y H Q):wpAny (model X.prog X.w) X.A (inplaceOp op v u) (EP X pins σ Q) X.xe s:=ho pins s σ H x y v u Q I rx ry q
theorem opI{f:Value->Value->Sem Value}{C:Int->Int->Prop}{g:Int->Int->Int}
  (rule:∀(i j:Int) (t u:Tok) (s:Shared) (Q:Value->Shared->Prop) (E:Value->Shared->Prop),C i j->Q (.int (g i j) s.toks) {s with toks:=s.toks+1}->wpAny (model X.prog X.w) X.A (f (.int i t) (.int j u)) Q E s):
  OpR X f (rI C λi j=> .int (g i j)):=by
 intro pins s σ H x y v u Q I rx ry h
 obtain⟨i,j,rfl,rfl,hc,q⟩:=h
 obtain⟨t,rfl⟩:=rx
 obtain⟨t',rfl⟩:=ry
 exact rule i j t t' s _ _ hc ⟨.int (g i j),H,I.tok _,⟨_,rfl⟩,q⟩
theorem Qma{f:Value->Value->Sem Value}{g:Int->Int->Int}
  (rule:∀(i j:Int) (t u:Tok) (s:Shared) (Q:Value->Shared->Prop) (E:Value->Shared->Prop),Q (.int (g i j) s.toks) {s with toks:=s.toks+1}->wpAny (model X.prog X.w) X.A (f (.int i t) (.int j u)) Q E s):
  OpR X f (rI0 λi j=> .int (g i j)):=by
 intro pins s σ H x y v u Q I rx ry h
 obtain⟨i,j,rfl,rfl,q⟩:=h
 obtain⟨t,rfl⟩:=rx
 obtain⟨t',rfl⟩:=ry
 exact rule i j t t' s _ _ ⟨.int (g i j),H,I.tok _,⟨_,rfl⟩,q⟩
theorem Ql1{f:Value->Value->Sem Value}{g:Int->Int->Bool}
  (rule:∀(i j:Int) (t u:Tok) (s:Shared) (Q:Value->Shared->Prop) (E:Value->Shared->Prop),Q (.bool (g i j)) s->wpAny (model X.prog X.w) X.A (f (.int i t) (.int j u)) Q E s):
  OpR X f (rI0 λi j=> .bl (g i j)):=by
 intro pins s σ H x y v u Q I rx ry h
 obtain⟨i,j,rfl,rfl,q⟩:=h
 obtain⟨t,rfl⟩:=rx
 obtain⟨t',rfl⟩:=ry
 exact rule i j t t' s _ _ ⟨.bl (g i j),H,I,rfl,q⟩
def Qth(i j:Int):Prop:=(-(2^64)<i/\i<2^64)∨(-(2^64)<j/\j<2^64)
theorem Qth.ok{i j:Int}(h:Qth i j):IntMulOk i j:=by
 rcases h with⟨h1,h2⟩ | ⟨h1,h2⟩
 ·exact .of_left (intBits_le_64 h1 h2)
 ·exact .of_right (intBits_le_64 h1 h2)
theorem QsJ:OpR X (binaryOp .Add) (rI0 λi j=> .int (i+j)):=Qma λ_ _ _ _ _ _ _ q=>add_int q
theorem Qsq:OpR X (binaryOp .Sub) (rI0 λi j=> .int (i-j)):=Qma λ_ _ _ _ _ _ _ q=>sub_int q
theorem Qrh:OpR X (inplaceOp .Add) (rI0 λi j=> .int (i+j)):=Qma λ_ _ _ _ _ _ _ q=>iadd_int q
theorem Qra:OpR X (inplaceOp .Sub) (rI0 λi j=> .int (i-j)):=Qma λ_ _ _ _ _ _ _ q=>isub_int q
theorem unI{f:Value->Sem Value}{g:Int->Int}
  (rule:∀(i:Int) (t:Tok) (s:Shared) (Q:Value->Shared->Prop) (E:Value->Shared->Prop),Q (.int (g i) s.toks) {s with toks:=s.toks+1}->wpAny (model X.prog X.w) X.A (f (.int i t)) Q E s):
  UnR X f (rU λi=> .int (g i)):=by
 intro pins s σ H x v Q I rx h
 obtain⟨i,rfl,q⟩:=h
 obtain⟨t,rfl⟩:=rx
 exact rule i t s _ _ ⟨.int (g i),H,I.tok _,⟨_,rfl⟩,q⟩
theorem QrR:UnR X (unaryOp .USub) (rU λi=> .int (-i)):=unI λ_ _ _ _ _ q=>neg_int q
end
section
variable {X:Cx}{a b c:Expr}{ta tb tc:TE}{pos:Pos}
theorem Qub:OpR X (compareOp .Lt) (rI0 λi j=> .bl (decide (i<j))):=Ql1 λ_ _ _ _ _ _ _ q=>lt_int q
theorem QtU:OpR X (compareOp .LtE) (rI0 λi j=> .bl (decide (i<=j))):=Ql1 λ_ _ _ _ _ _ _ q=>le_int q
theorem QtF:OpR X (compareOp .Gt) (rI0 λi j=> .bl (decide (j<i))):=Ql1 λ_ _ _ _ _ _ _ q=>gt_int q
theorem Qua:OpR X (compareOp .GtE) (rI0 λi j=> .bl (decide (j<=i))):=Ql1 λ_ _ _ _ _ _ _ q=>ge_int q
theorem OpR.or{f:Value->Value->Sem Value}{r r':R2}(h:OpR X f r)(h':OpR X f r'):OpR X f (λx y H Q=>r x y H Q∨r' x y H Q):=by
 intro pins s σ H x y v u Q I rx ry q
 rcases q with q | q
 ·exact h pins s σ H x y v u Q I rx ry q
 ·exact h' pins s σ H x y v u Q I rx ry q
theorem Qu5(b:Expr){op:CmpOp}(h:op≠ .In:=by decide)(h2:op≠ .NotIn:=by decide):behindInMarks op b=false:=by
 have e1:(op == CmpOp.In)=false:=by cases op<;>first | rfl | exact absurd rfl h
 have e2:(op == CmpOp.NotIn)=false:=by cases op<;>first | rfl | exact absurd rfl h2
 cases b<;>simp[behindInMarks,e1,e2]
theorem QpS{op:CmpOp}{r:R2}(ho:OpR X (compareOp op) r)(ha:PE X a ta)(hb:PE X b tb)(hm:behindInMarks op b=false):PE X (.Compare a [op] [b] pos) (tOp r ta tb):=by
 intro pins s σ H Q I h
 exact wpAny_Compare1 (Qpm ha hb I h λv u s2 x y H2 I2 rx ry q=>ho pins s2 σ H2 x y v u Q I2 rx ry q) hm
noncomputable def Qt2(t:TE):TT:=λσ H Q=>t σ H λx H'=>∃k,x= .bl k/\Q k H'
theorem QqF{op:CmpOp}{r:R2}(ho:OpR X (compareOp op) r)(ha:PE X a ta)(hb:PE X b tb)(hm:behindInMarks op b=false):PT X (.Compare a [op] [b] pos) (Qt2 (tOp r ta tb)):=by
 intro pins s σ H Q I h
 refine wpAny_isTrue_Compare1 (thn (ha pins s σ H _ I h) λv s1 ⟨x,H1,I1,r1,q1⟩=>thn (hb pins s1 σ H1 _ I1 q1) λu s2 ⟨y,H2,I2,r2,q2⟩=>
  thn (ho pins s2 σ H2 x y v u _ I2 r1 r2 q2) λc s3 ⟨z,H3,I3,r3,k,e,q3⟩=>?_) hm
 subst e
 cases r3
 exact wpAny_truthy_bool ⟨H3,I3,q3⟩
def Qn0(K:PySem.W.Frag)(x:V)(H:Hp)(k:Bool):Prop:=
 match x with
 | .non=>k=false
 | .bl b=>k=b
 | .int i=>k=(i != 0)
 | .str y=>y.length<=sizeLine/\k=((y.length:Int) != 0)
 | .byt y=>y.size<=sizeLine/\k=((y.size:Int) != 0)
 | .ref p=>(∃xs,SqL K H p xs/\k= !xs.isEmpty)∨(∃xs,SqT K H p xs/\k= !xs.isEmpty)∨∃kvs,H p=some (.dK kvs)/\k= !kvs.isEmpty
 | _=>False
theorem Qmc{κ:Type}{kvs:List (κ×V)}{vs:List (κ×Value)}(r:KV kvs vs):(!vs.isEmpty)= !kvs.isEmpty:=by
 cases r<;>rfl
theorem QgC{xs:List V}{its:List Value}(r:Qn xs its):(!its.toArray.isEmpty)= !xs.isEmpty:=by
 cases r<;>simp
theorem Qec:(sizeLine:Nat)<2^63:=by rw[sizeLine_eq];decide
theorem QgA:QuI X (λx H Q=>∃k,Qn0 X.K x H k/\Q k H):=by
 intro pins s σ H x v Q I rx h
 obtain⟨k,e,q⟩:=h
 have hl:=Qec
 have hs:sizeLine=16777216:=sizeLine_eq
 cases x with
 | non=>
  cases rx
  have e':k=false:=e
  subst e'
  exact truthy_none ⟨H,I,q⟩
 | bl b=>
  cases rx
  have e':k=b:=e
  subst e'
  exact wpAny_truthy_bool ⟨H,I,q⟩
 | int i=>
  obtain⟨t,rfl⟩:=rx
  have e':k=(i != 0):=e
  subst e'
  exact PySem.P.truthy_int ⟨H,I,q⟩
 | str y=>
  obtain⟨t,rfl⟩:=rx
  obtain⟨hy,e'⟩:y.length<=sizeLine/\k=((y.length:Int) != 0):=e
  subst e'
  exact PySem.P.truthy_str (by omega) ⟨H,I.tok _,q⟩
 | byt y=>
  obtain⟨t,rfl⟩:=rx
  obtain⟨hy,e'⟩:y.size<=sizeLine/\k=((y.size:Int) != 0):=e
  subst e'
  exact PySem.W.truthy_bytes (by omega) ⟨H,I.tok _,q⟩
 | ref p=>
  cases rx
  have e':(∃xs,SqL X.K H p xs/\k= !xs.isEmpty)∨(∃xs,SqT X.K H p xs/\k= !xs.isEmpty)∨∃kvs,H p=some (.dK kvs)/\k= !kvs.isEmpty:=e
  rcases e' with⟨xs,hx,e'⟩ | ⟨xs,hx,e'⟩ | ⟨kvs,hx,e'⟩
  ·subst e'
   obtain⟨its,r,pl,hz⟩:=I.list hx
   have hlen:=r.length
   exact wpAny_truthy_list pl.isList (by simp only[Zs];omega) ⟨H,I.tok _,by rw[QgC r];exact q⟩
  ·subst e'
   obtain⟨its,r,pl,hz⟩:=I.tuple hx
   have hlen:=r.length
   exact truthy_tuple pl (by simp only[Zs];omega) ⟨H,I.tok _,by rw[QgC r];exact q⟩
  ·subst e'
   obtain⟨hz,hS,vs,r,m⟩:kvs.length<=sizeLine/\(p == sysModules)=false/\∃vs,KV kvs vs/\s.heap.DictOf (Qhk X.prog X.w) p vs:=I.hok p _ hx
   have hlen:kvs.length=vs.length:=Paired.length r
   exact wpAny_truthy_dict hS m (by omega) ⟨H,I.tok _,by rw[Qmc r];exact q⟩
 | _=>exact(show False from e).elim
theorem QnV(ha:PE X a ta)(he:∀whole,isTrue a X.env whole=(do let v ← whole;standAt a.pos;holding [v] (truthy v))):
  PT X a (λσ H Q=>ta σ H λx H'=>∃k,Qn0 X.K x H' k/\Q k H'):=by
 intro pins s σ H Q I h
 exact isTrue_plain (thn (ha pins s σ H _ I h) λv s1 ⟨x,H1,I1,r1,q1⟩=>QgA pins s1 σ H1 x v Q I1 r1 q1) (he _)
theorem vals1{x:V}{us:List Value}(r:Qn [x] us):∃u,us=[u]/\RelV x u:=by
 cases r with
 | cons r1 r2=>cases r2;exact⟨_,rfl,r1⟩
theorem vals2{x y:V}{us:List Value}(r:Qn [x,y] us):∃u w',us=[u,w']/\RelV x u/\RelV y w':=by
 cases r with
 | cons r1 r2=>
  cases r2 with
  | cons r3 r4=>cases r4;exact⟨_,_,rfl,r1,r3⟩
theorem Qnn(hc:X.calm=true):QaJ X (.builtin "min") (λxs H Q=>∃i j,xs=[.int i,.int j]/\Q (.int (if j<i then j else i)) H):=by
 intro pins s σ H xs us Q I r h
 obtain⟨i,j,rfl,q⟩:=h
 obtain⟨u,w',rfl,⟨t,rfl⟩,⟨t',rfl⟩⟩:=vals2 r
 refine min_two_ints (I.ok.hd hc) λh' tk k=>⟨_,H,I.kept k,?_,q⟩
 by_cases hj:j<i
 ·rw[if_pos hj,if_pos hj];exact⟨_,rfl⟩
 ·rw[if_neg hj,if_neg hj];exact⟨_,rfl⟩
theorem Qnm:QaJ X (.type "int") (λxs H Q=>(∃i,xs=[.int i]/\Q (.int i) H)∨∃k,xs=[.bl k]/\Q (.int (if k then 1 else 0)) H):=by
 intro pins s σ H xs us Q I r h
 rcases h with⟨i,rfl,q⟩ | ⟨k,rfl,q⟩
 ·obtain⟨u,rfl,t,rfl⟩:=vals1 r
  exact call_int_int ⟨.int i,H,I,⟨_,rfl⟩,q⟩
 ·obtain⟨u,rfl,r1⟩:=vals1 r
  cases r1
  exact call_int_bool ⟨.int (if k then 1 else 0),H,I.tok _,⟨_,rfl⟩,q⟩
end
end L2
namespace L2
open PySem PySem.Spec PyProof.Rows
structure QrO (h:Heap) (x dx C:Addr) (mA:Str->Option Value):Prop where
 obj:h.get? x=some (PySem.W.instObj C dx)
 ns:h.Ns1 dx mA
 ne:dx≠x
theorem Qmw{h:Heap}{dx:Addr}{mA:Str->Option Value}(n:h.Ns1 dx mA):∃od,h.get? dx=some od/\∀name,PySem.W.lookIn name od=some (mA name):=by
 obtain⟨o,es,ep,ho,hd,hk,_,hm⟩:=n
 refine⟨o,ho,λname=>?_⟩
 have e:=hm name
 unfold nsFind findBy at e
 rw[← Array.find?_toList]at e
 unfold PySem.W.lookIn
 rw[hd]
 dsimp only
 split
 ·rename_i y q
  rw[q]at e
  exact congrArg some e
 ·rename_i q
  rw[q]at e
  have a:es.toList.any (·.refKey)=false:=by
   rw[ZaL]
   intro y hy
   obtain⟨z,t,hkey⟩:=hk y (Array.mem_toList_iff.mp hy)
   simp[DictEntry.refKey,hkey]
  have a':¬es.toList.any (·.refKey)=true:=by rw[a];exact Zav
  rw[if_neg a']
  exact congrArg some e
theorem QrO.look{h:Heap}{x dx C:Addr}{mA:Str->Option Value}(I:QrO h x dx C mA):∃od,PySem.W.InstAt h x (PySem.W.instObj C dx) C (some od)/\∀name,PySem.W.lookIn name od=some (mA name):=
 let ⟨od,ho,hl⟩:=Qmw I.ns
 ⟨od,⟨I.obj,rfl,rfl,ho⟩,hl⟩
section
variable {prog:Program}{w:World}{A:Around}{E:Value->Shared->Prop}{s:Shared}{K:PySem.W.Frag}{x dx C f:Addr}{mA:Str->Option Value}{name:Str}{v:Value}
end
theorem Qg8.some_of{v:V}{o:Option Value}(r:Qg8 (some v) o):∃u,o=some u/\RelV v u:=by
 cases o with
 | none=>exact(show False from r).elim
 | some u=>exact⟨u,rfl,r⟩
theorem Qg8.none_of{o:Option Value}(r:Qg8 none o):o=none:=by
 cases o with
 | none=>rfl
 | some u=>exact(show False from r).elim
section
variable {P:Program}{w:World}{H H':Hp}{h h':Heap}{a C dx:Addr}{fs fs':List (Str×V)}
end
structure Cls (K:PySem.W.Frag) (C:Addr):Prop where
 pg:PySem.W.plainGet K C Str.empty=true
 hd:PySem.W.hasDictIn K C=true
 po:PySem.W.plainOver K C=true
 sa:PySem.W.findIn K (.ref C) "__setattr__" =some (some (.builtin "object.__setattr__"))
theorem Cls.get{K:PySem.W.Frag}{C:Addr}(c:Cls K C)(f:Str):PySem.W.plainGet K C f=true:=c.pg
structure Con (K:PySem.W.Frag) (C:Addr) (f:Str) (v:V) (u:Value):Prop where
 at_:PySem.W.findIn K (.ref C) f=some (some u)
 rel:RelV v u
 get:PySem.W.specialIn K u "__get__" =some none
 cp:PySem.W.copiedNames.contains f=false
structure Qu7 (K:PySem.W.Frag) (C:Addr) (m:Str) (f:Addr):Prop where
 at_:PySem.W.findIn K (.ref C) m=some (some (.ref f))
 fn:PySem.W.isFn K (.ref f)=true
 kp:PySem.W.keepIn K (.ref f)=true
section
variable {X:Cx}{pins:List (Addr×Obj)}{σ:St}{H:Hp}{s:Shared}{a C dx:Addr}{fs:List (Str×V)}{f:Str}{v:V}{A:Around}{E:Value->Shared->Prop}
theorem Inv.made(I:Inv X pins σ H s):Inv X pins σ (upd (upd H s.heap.objs.size (.own (s.heap.objs.size+1))) (s.heap.objs.size+1) (.ins C s.heap.objs.size []))
  {s with heap:=(s.heap.push PySem.W.emptyDict).push (PySem.W.instObj C s.heap.objs.size)}:=by
 have e1:(s.heap.push PySem.W.emptyDict).get? s.heap.objs.size=some PySem.W.emptyDict:=Zx s.heap rfl
 have e2:((s.heap.push PySem.W.emptyDict).push (PySem.W.instObj C s.heap.objs.size)).get? (s.heap.objs.size+1)=some (PySem.W.instObj C s.heap.objs.size):=by
  have:=Zx (s.heap.push PySem.W.emptyDict) (o:=PySem.W.instObj C s.heap.objs.size) rfl
  rwa[Zaf]at this
 have e3:(s.heap.push PySem.W.emptyDict).Ns s.heap.objs.size (λ_=>none):=⟨PySem.W.emptyDict,#[],_,e1,rfl,(λe he=>absurd he (by simp)),λ_=>rfl⟩
 have I1:=I.laid (a:=s.heap.objs.size) (o:= .own (s.heap.objs.size+1)) (h':=s.heap.push PySem.W.emptyDict) (t':=s.toks) (λb u q=>Zf _ q) (Zp _) ⟨_,e1⟩
 refine I1.laid (a:=s.heap.objs.size+1) (o:= .ins C s.heap.objs.size []) (t':=s.toks) (λb u q=>Zf _ q) (Nat.le_of_eq (Zaf _ _)) ?_
 have ne:s.heap.objs.size≠s.heap.objs.size+1:=ZE (ZaB _)
 refine⟨by rw[QD ne,Qam],ZZ _,ne,e2,λ_=>none,(Heap.Ns1.of_empty e3).at λo q=>Zf _ q,λ_=>True.intro,λy hy=>absurd rfl hy⟩
end
section
variable {X:Cx}{o e value:Expr}{f:Str}{pos pos' tpos:Pos}{ta tv:TE}
end
section
variable {X:Cx}{pins:List (Addr×Obj)}{σ:St}{H:Hp}{s:Shared}{A:Around}{E:Value->Shared->Prop}{Q:Value->Shared->Prop}{c:Value}{b:Bool}
end
end L2
namespace L2
open PySem PySem.Spec PyProof.Rows
structure Q4 (k:Nat) (A:Around):Prop where
 hd:A.handled=none
 dp:A.depth+3*k+5<recursionLimit
 un:A.units+16*k+200<cLine
theorem Q4.mono{j k:Nat}{A:Around}(r:Q4 k A)(h:j<=k):Q4 j A:=⟨r.hd,by have:=r.dp;omega,by have:=r.un;omega⟩
theorem Q4.deeper{k:Nat}{A:Around}(r:Q4 (k+1) A)(env:Env):Q4 k (A.deeper env):=
 ⟨r.hd,by have:=r.dp;show A.depth+1+3*k+5<_;omega,by have:=r.un;show A.units+3+16*k+200<_;omega⟩
theorem Q4.in1{k:Nat}{A:Around}(r:Q4 (k+1) A):Q4 k A.in1:=
 ⟨r.hd,by have:=r.dp;show A.depth+3*k+5<_;omega,by have:=r.un;show A.units+1+16*k+200<_;omega⟩
theorem Qmf{A:Around}{C:Addr}{us:List Value}{kw:List (Str×Value)}:(A.under (.builtin "type.__call__" ⟨.ref C::us,kw⟩)).depth=A.depth+1:=by
 first | rfl | simp[Around.under,Code.weight,Code.isCreation,Code.isGuard,Code.isCaller,Code.frames,Code.isFrame,guardIds]
theorem QlT{A:Around}{C:Addr}{us:List Value}{kw:List (Str×Value)}:(A.under (.builtin "type.__call__" ⟨.ref C::us,kw⟩)).units=A.units+1:=by
 first | rfl | simp[Around.under,Code.cUnits,Code.frames,Code.isFrame]
theorem Q4.make{k:Nat}{A:Around}(r:Q4 (k+1) A)(C:Addr)(us:List Value)(kw:List (Str×Value)):Q4 k (A.under (.builtin "type.__call__" ⟨.ref C::us,kw⟩)):=
 ⟨r.hd,by have:=r.dp;rw[Qmf];omega,by have:=r.un;rw[QlT];omega⟩
theorem Q4.depth{k:Nat}{A:Around}(r:Q4 k A):A.depth<recursionLimit:=by have:=r.dp;omega
theorem Q4.units{k:Nat}{A:Around}(r:Q4 k A):A.units+64<cLine:=by have:=r.un;omega
noncomputable def Qg4:TA:=λ_ H Q=>Q [] H
noncomputable def QgV(ta:TE)(tr:TA):TA:=λσ H Q=>ta σ H λx H1=>tr σ H1 λxs H2=>Q (x::xs) H2
section
variable {X:Cx}{e:Expr}{es:List Expr}{te:TE}{t:TA}{pos:Pos}
theorem Qb8:PA X [] Qg4:=λ_ _ _ _ H Q I h=>ZbE ⟨[],H,I,.nil,h⟩
theorem Qav(ha:PE X e te)(hr:PA X es t)(hs:starEach (e::es) X.env=(false,eval e X.env)::starEach es X.env:=by rfl):PA X (e::es) (QgV te t):=by
 intro pos pins s σ H Q I h
 rw[hs]
 show wpAny _ _ (spliced ((false,eval e X.env)::backTo pos (starEach es X.env))) _ _ s
 refine Zbz (thn (ha pins s σ H _ I h) λu s1=>exJ λx H1 I1 r1 q1=>?_)
 exact thn (hr pos pins s1 σ H1 _ I1 q1) λus s2 ⟨xs,H2,I2,r2,q2⟩=>⟨x::xs,H2,I2,.cons r1 r2,q2⟩
noncomputable def QuA(t:TA):TE:=λσ H Q=>t σ H λxs H1=>xs.length<=sizeLine/\∀p,H1 p=none->Q (.ref p) (upd H1 p (.tup xs))
noncomputable def Qux(t:TA):TE:=λσ H Q=>t σ H λxs H1=>xs.length<=sizeLine/\∀p,H1 p=none->Q (.ref p) (upd H1 p (.lst xs))
theorem Qss{x1}(h:PA X es t):PE X (.Tuple es x1 pos) (QuA t):=by
 intro pins s σ H Q I hq
 refine wpAny_Tuple_spliced (thn (h pos pins s σ H _ I hq) λus s1 ⟨xs,H1,I1,r,z,q⟩=>⟨by rw[← r.length];exact z,?_⟩)
 have hf:H1 s1.heap.objs.size=none:=I1.hok.fresh (Zp _)
 refine⟨.ref s1.heap.objs.size,upd H1 s1.heap.objs.size (.tup xs),I1.laid (t':=s1.toks) (λb u e=>Zf _ e) (Zp _) ?_,rfl,q _ hf⟩
 exact⟨z,us,r,⟨_,Zx _ rfl,rfl,_,rfl⟩⟩
theorem QrS(h:PA X es t):PE X (.List es pos) (Qux t):=by
 intro pins s σ H Q I hq
 refine wpAny_List_spliced (thn (h pos pins s σ H _ I hq) λus s1 ⟨xs,H1,I1,r,z,q⟩=>⟨by rw[← r.length];exact z,?_⟩)
 have hf:H1 s1.heap.objs.size=none:=I1.hok.fresh (Zp _)
 refine⟨.ref s1.heap.objs.size,upd H1 s1.heap.objs.size (.lst xs),I1.laid (t':=s1.toks) (λb u e=>Zf _ e) (Zp _) ?_,rfl,q _ hf⟩
 exact⟨z,us,0,r,Zx _ rfl⟩
end
noncomputable abbrev Sp:=List V->Hp->VK->XK->Prop
noncomputable abbrev CXT:=List Env->Hp->Shared->XK->Value->Shared->Prop
structure QdV (P:Program) (w:World) (K:PySem.W.Frag) (mg:Str->Option Value) (base:Heap) (A:Around) (outer:List Env) (s:Shared) (H:Hp):Prop where
 frames:A.frames=some outer
 mod:Mod K mg base
 bs:∀b o,base.get? b=some o->s.heap.get? b=some o/\H b=none
 bsz:base.objs.size<=s.heap.objs.size
 QcM:s.heap.FunFrames base outer
 frf:∀b∈frs outer,H b=none
 hok:HOk P w H s.heap
 bare:AllBare s.gens
def CE(outer:List Env)(P:Program)(w:World)(H:Hp)(s:Shared)(Q:VK)(u:Value)(s':Shared):Prop:=
 ∃v H',s'.os=s.os/\AllBare s'.gens/\Un (frs outer) [] H H' s.heap s'.heap/\HOk P w H' s'.heap/\RelV v u/\Q v H'
def CR(CX:CXT)(outer:List Env)(P:Program)(w:World)(H:Hp)(s:Shared)(Q:VK)(E:XK)(r:Result)(s':Shared):Prop:=
 match r with
 | .ok (.ret u)=>CE outer P w H s Q u s'
 | .ok _=>False
 | .error e=>CX outer H s E e s'
structure Qbe (P:Program) (w:World) (K:PySem.W.Frag) (mg:Str->Option Value) (base:Heap) (CX:CXT) (k:Nat) (f:Addr) (fd:FuncData) (ps:List Str) (sp:Sp):Prop where
 len:∀vs H Q E,sp vs H Q E->vs.length=ps.length
 run:∀(A:Around) (outer:List Env) (s:Shared) (H:Hp) (args:Args) (us:List Value) (vs:List V) (Q:VK) (E:XK),Q4 k A->QdV P w K mg base A outer s H->BindsTo s fd args (ps.zip us)->Qn vs us->sp vs H Q E→
  codeAny (model P w) A (.call (.ref f) args) (CR CX outer P w H s Q E) s
theorem Qbe.mono{P:Program}{w:World}{K:PySem.W.Frag}{mg:Str->Option Value}{base:Heap}{CX:CXT}{j k:Nat}{f:Addr}{fd:FuncData}{ps:List Str}{sp:Sp}(F:Qbe P w K mg base CX j f fd ps sp)(h:j<=k):
  Qbe P w K mg base CX k f fd ps sp:=⟨F.len,λA outer s H args us vs Q E hr=>F.run A outer s H args us vs Q E (hr.mono h)⟩
theorem Qbe.imp{P:Program}{w:World}{K:PySem.W.Frag}{mg:Str->Option Value}{base:Heap}{CX:CXT}{k:Nat}{f:Addr}{fd:FuncData}{ps:List Str}{sp sp':Sp}(F:Qbe P w K mg base CX k f fd ps sp)
  (h:∀vs H Q E,sp' vs H Q E->sp vs H Q E):Qbe P w K mg base CX k f fd ps sp':=
 ⟨λvs H Q E q=>F.len vs H Q E (h _ _ _ _ q),λA outer s H args us vs Q E hr he hb hv hs=>F.run A outer s H args us vs Q E hr he hb hv (h _ _ _ _ hs)⟩
theorem QdV.make{P:Program}{w:World}{K:PySem.W.Frag}{mg:Str->Option Value}{base:Heap}{A:Around}{outer:List Env}{s:Shared}{H:Hp}(e:QdV P w K mg base A outer s H)(C:Addr)(us:List Value)(kw:List (Str×Value)):
  QdV P w K mg base (A.under (.builtin "type.__call__" ⟨.ref C::us,kw⟩)) outer s H:=⟨by first | exact e.frames | (simpa[Around.under,Code.envs,Code.isFrame,pushEnvs]using e.frames),e.mod,e.bs,e.bsz,e.QcM,e.frf,e.hok,e.bare⟩
theorem QdV.in1{P:Program}{w:World}{K:PySem.W.Frag}{mg:Str->Option Value}{base:Heap}{A:Around}{outer:List Env}{s:Shared}{H:Hp}(e:QdV P w K mg base A outer s H):
  QdV P w K mg base A.in1 outer s H:=⟨e.frames,e.mod,e.bs,e.bsz,e.QcM,e.frf,e.hok,e.bare⟩
section
variable {X:Cx}{pins:List (Addr×Obj)}{σ:St}{H:Hp}{s s':Shared}
theorem Inv.QuQ(I:Inv X pins σ H s):QdV X.prog X.w X.K X.mg X.base X.A X.stack s H:=
 ⟨I.ok.frames,I.ok.mod,I.bs,ZH I.ok.bsz I.sz,I.stack,I.Qlg,I.hok,I.bare⟩
theorem Inv.after{Q:VK}{u:Value}(I:Inv X pins σ H s)(h:CE X.stack X.prog X.w H s Q u s'):EP X pins σ Q u s':=by
 obtain⟨v,H',os,bare,un,hok,r,q⟩:=h
 obtain⟨hh,g,d,t,os'⟩:=s'
 obtain rfl:os'=s.os:=os
 exact⟨v,H',I.call (h':=hh) (g':=g) (d':=d) (t':=t) (ch:=[]) un hok bare (λb z=>absurd z (by simp)),r,q⟩
end
noncomputable def Ql4(sp:Sp)(dvs:List V)(E:XK)(t:TA):TE:=λσ H Q=>t σ H λvs H1=>sp (vs++dvs) H1 Q E
def Binds(K:PySem.W.Frag)(fd:FuncData)(ps:List Str)(ds:List Value):Prop:=
 ∀(s:Shared) (us:List Value),K.In s.heap->(us++ds).length=ps.length->BindsTo s fd ⟨us,[]⟩ (ps.zip (us++ds))
theorem Binds.all{K:PySem.W.Frag}{fd:FuncData}{ps:List Str}(h:∀us:List Value,us.length=ps.length->bindArgs fd ⟨us,[]⟩=pure (ps.zip us)):Binds K fd ps []:=λs us _ hl=>by
 rw[Zaj]at hl ⊢
 exact .of_eq (h us hl)
def QgO(CX:CXT)(X:Cx)(E:XK):Prop:=∀(pins:List (Addr×Obj)) (σ:St) (H:Hp) (s:Shared) (e:Value) (s':Shared),Inv X pins σ H s->CX X.stack H s E e s'->X.xe e s'
section
variable {X:Cx}{CX:CXT}{k:Nat}{f C:Addr}{fd:FuncData}{ps:List Str}{sp:Sp}{dvs:List V}{ds:List Value}{E:XK}{x m:Str}{p pos apos:Pos}{e o:Expr}{es:List Expr}{ta:TE}{t:TA}
theorem Qm3{pins:List (Addr×Obj)}{σ:St}{H:Hp}{s:Shared}{Q:VK}{us:List Value}{vs:List V}(F:Qbe X.prog X.w X.K X.mg X.base CX k f fd ps sp)(hr:Q4 k X.A)(hb:Binds X.K fd ps ds)(hd:Qn dvs ds)(hx:QgO CX X E)
  (I:Inv X pins σ H s) (r:Qn vs us) (h:sp (vs++dvs) H Q E):wpAny (model X.prog X.w) X.A (call (.ref f) us) (EP X pins σ Q) X.xe s:=by
 have r2:Qn (vs++dvs) (us++ds):=r.append hd
 have hl:(us++ds).length=ps.length:=by rw[← r2.length];exact F.len _ _ _ _ h
 refine wpAny_call (codeAny_mono (F.run X.A X.stack s H ⟨us,[]⟩ (us++ds) (vs++dvs) Q E hr I.QuQ (hb s us I.kIn hl) r2 h) λr s' hq=>?_)
 cases r with
 | error e=>exact hx pins σ H s e s' I hq
 | ok fl=>
  cases fl with
  | ret u=>exact I.after hq
  | next=>exact False.elim hq
  | brk=>exact False.elim hq
  | cont=>exact False.elim hq
theorem QpN(F:Qbe X.prog X.w X.K X.mg X.base CX k f fd ps sp)(hr:Q4 k X.A)(hg:Gl X x)(hm:X.mg x=some (.ref f))(hk:PySem.W.keepIn X.K (.ref f)=true)(hb:Binds X.K fd ps ds)(hd:Qn dvs ds)(hx:QgO CX X E)
  (ha:PA X (e::es) t) (hdb:(x == ("__debug__" :Str))=false:=by decide) (he:starEach (e::es) X.env=(false,eval e X.env)::starEach es X.env:=by rfl) (hpl:(backTo pos (starEach es X.env)).any (·.1)=false:=by rfl):
  PE X (.Call (.Name x p) (e::es) [] pos) (Ql4 sp dvs E t):=by
 intro pins s σ H Q I h
 refine wpAny_Call_Name_kw (Qg7 I hg hm ?_ hdb)
 refine PySem.W.callWith_K (h₀:=X.base) I.ok.mod.kin hk (thn (ha pos pins s σ H _ I h) λus s1 ⟨vs,H1,I1,r,q⟩=>⟨I1.kIn,?_⟩) he hpl
 exact Qm3 F hr hb hd hx I1 r q
theorem Qoz(F:Qbe X.prog X.w X.K X.mg X.base CX k f fd ps sp)(hr:Q4 k X.A)(hg:Gl X x)(hm:X.mg x=some (.ref f))(hk:PySem.W.keepIn X.K (.ref f)=true)(hb:Binds X.K fd ps ds)(hd:Qn dvs ds)(hx:QgO CX X E)
  (hdb:(x == ("__debug__" :Str))=false:=by decide):PE X (.Call (.Name x p) [] [] pos) (Ql4 sp dvs E Qg4):=by
 intro pins s σ H Q I h
 refine wpAny_Call_Name_kw (Qg7 I hg hm ?_ hdb)
 exact PySem.W.callWith_K0 I.kIn hk (Qm3 (us:=[]) F hr hb hd hx I .nil h)
structure Mk (K:PySem.W.Frag) (C f:Addr):Prop where
 makes:PySem.W.makesIn K C=true
 init:PySem.W.findIn K (.ref C) "__init__" =some (some (.ref f))
 fn:PySem.W.isFn K (.ref f)=true
 kp:PySem.W.keepIn K (.ref C)=true
end
section
variable {X:Cx}{CX:CXT}{k:Nat}{f C:Addr}{fd:FuncData}{ps ks:List Str}{sp:Sp}{E:XK}{x m:Str}{p pos apos kpos:Pos}{e o:Expr}{es:List Expr}{kws:List Keyword}{te ta:TE}{t tk:TA}{nm:Option Str}
structure Qu4 (K:PySem.W.Frag) (fd:FuncData) (ps ks:List Str) (g:List Value->List Value->List Value) (gV:List V->List V->List V):Prop where
 to:∀(s:Shared) (us ws:List Value),K.In s.heap->(g us ws).length=ps.length->BindsTo s fd ⟨us,ks.zip ws⟩ (ps.zip (g us ws))
 rel:∀{vs:List V}{us:List Value}{zs:List V}{ws:List Value},Qn vs us->Qn zs ws->Qn (gV vs zs) (g us ws)
variable {g:List Value->List Value->List Value}{gV:List V->List V->List V}
end
structure QbY (N P:List Str) (sc:Scope):Prop where
 kind:sc.kind= .function
 co:sc.isCoroutine=false
 gen:sc.isGenerator=false
 nd:N.Nodup
 pre:N.take P.length=P
 par:∀x∈P,sc.names.lookup x=some .local ∨sc.names.lookup x=some .cell
 nofree:∀y∈sc.names,y.2≠ .free
theorem Qio{kindOf:Str->Option NameKind}{x:Str}:∀{binds:List (Str×Value)}{m:Str->Option Value},(∀v,(x,v)∉binds)->bindL kindOf binds m x=m x
 | [],_,_=>rfl
 | (n,v)::r,m,h=>by
  unfold bindL
  rw[Qio λw hw=>h w (Zc _ hw)]
  split
  ·have:x≠n:=by rintro rfl;exact h v Zj
   simp[this]
  ·rfl
theorem QhW{kindOf:Str->Option NameKind}{x:Str}:∀{binds:List (Str×Value)}{m:Str->Option Value},(∀v,(x,v)∉binds)->bindC kindOf binds m x=m x
 | [],_,_=>rfl
 | (n,v)::r,m,h=>by
  unfold bindC
  rw[QhW λw hw=>h w (Zc _ hw)]
  split
  ·rfl
  ·have:x≠n:=by rintro rfl;exact h v Zj
   simp[this]
theorem Qic{kindOf:Str->Option NameKind}{x:Str}{v:Value}:∀{P:List Str}{vs:List Value}{i:Nat}{m:Str->Option Value},P.Nodup->P[i]? =some x->vs[i]? =some v->kindOf x=some .local →
  bindL kindOf (P.zip vs) m x=some v
 | [],_,_,_,_,h,_,_=>by simp at h
 | _::_,[],_,_,_,_,h,_=>by simp at h
 | p::P,w::vs,0,m,nd,h1,h2,hk=>by
  simp at h1 h2;subst h1;subst h2
  show bindL kindOf ((p,w)::P.zip vs) m p=_
  unfold bindL
  rw[Qio λv hv=>(Zak.mp nd).1 (ZbX hv).1,if_pos hk]
  simp
 | p::P,w::vs,i+1,m,nd,h1,h2,hk=>by
  show bindL kindOf ((p,w)::P.zip vs) m x=_
  unfold bindL
  exact Qic (i:=i) (Zak.mp nd).2 (by simpa using h1) (by simpa using h2) hk
theorem Qih{kindOf:Str->Option NameKind}{x:Str}{v:Value}:∀{P:List Str}{vs:List Value}{i:Nat}{m:Str->Option Value},P.Nodup->P[i]? =some x->vs[i]? =some v->kindOf x≠some .local →
  bindC kindOf (P.zip vs) m x=some v
 | [],_,_,_,_,h,_,_=>by simp at h
 | _::_,[],_,_,_,_,h,_=>by simp at h
 | p::P,w::vs,0,m,nd,h1,h2,hk=>by
  simp at h1 h2;subst h1;subst h2
  show bindC kindOf ((p,w)::P.zip vs) m p=_
  unfold bindC
  rw[QhW λv hv=>(Zak.mp nd).1 (ZbX hv).1,if_neg hk]
  simp
 | p::P,w::vs,i+1,m,nd,h1,h2,hk=>by
  show bindC kindOf ((p,w)::P.zip vs) m x=_
  unfold bindC
  exact Qih (i:=i) (Zak.mp nd).2 (by simpa using h1) (by simpa using h2) hk
noncomputable def start(N:List Str)(vs:List V):St:=vs.map some++List.replicate (N.length-vs.length) none
noncomputable def QeZ(CX:CXT)(P:Program)(w:World)(K:PySem.W.Frag)(mg:Str->Option Value)(base:Heap)(N:List Str)(qual:Str)(scope:Scope)(f:Addr)(cd:Value)(A:Around)(outer:List Env)(s:Shared)(H:Hp)(E:XK):Cx where
 prog:=P
 w:=w
 K:=K
 mg:=mg
 base:=base
 A:=A.deeper (envOfC qual scope s.heap.objs.size f cd)
 N:=N
 s₀:=s
 H₀:=H
 env:=envOfC qual scope s.heap.objs.size f cd
 outer:=outer
 stack:=envOfC qual scope s.heap.objs.size f cd::outer
 ex:=[]
 calm:=decide (A.handled=none)
 fn:=λ_=>true
 pn:=[]
 xe:=λe s'=>wpAny (model P w) (A.deeper (envOfC qual scope s.heap.objs.size f cd)) (leaving (envOfC qual scope s.heap.objs.size f cd) e) (λ_ s''=>CX outer H s E e s'') (λe' s''=>CX outer H s E e' s'') s'
theorem Qjy{sc:Scope}{n:Nat}{x:Str}(h:sc.names.lookup x=some .cell):∃c,(cellsFrom n sc.names []).lookup x=some c:=by
 have q:=ZbQ sc.names n [] (.inl h)
 exact Option.isSome_iff_exists.mp q
theorem Qm7{CX:CXT}{P:Program}{w:World}{K:PySem.W.Frag}{mg:Str->Option Value}{base:Heap}{N ps:List Str}{qual:Str}{scope:Scope}{f:Addr}{cd:Value}{A:Around}{outer:List Env}{s s1:Shared}{H:Hp}{E:XK}{us:List Value}{vs:List V}
  (S:QbY N ps scope) (e0:QdV P w K mg base A outer s H) (hl:vs.length=ps.length) (r:Qn vs us)
  (x:InCallC s s.heap.objs.size (bindL (envOfC qual scope s.heap.objs.size f cd).kindOf (ps.zip us) λ_=>none) (cellsFrom (s.heap.objs.size+1) scope.names []) (bindC (envOfC qual scope s.heap.objs.size f cd).kindOf (ps.zip us) λ_=>none) s1):
  Inv (QeZ CX P w K mg base N qual scope f cd A outer s H E) [] (start N vs) H s1:=by
 have hpl:ps.length<=N.length:=by have:=congrArg List.length S.pre;rw[ZaC]at this;omega
 obtain⟨h1,tk,rfl,hk⟩:=x.done
 have noA:∀b:Addr,b∉(QeZ CX P w K mg base N qual scope f cd A outer s H E).ex:=λb z=>absurd (show b∈([]:List Addr)from z) (by simp)
 refine⟨⟨e0.mod,S.kind,rfl,rfl,Zp _,λy z c h1 h2=>?_,λy hy=>?_,λy c _ h=>?_,λh=>of_decide_eq_true h,Around.frames_deeper e0.frames,.inr ⟨rfl,rfl⟩,λb z=>absurd z (noA b),e0.bs,e0.bsz,λb _ _=>noA b,λb z=>absurd z (noA b),e0.QcM,e0.frf⟩,
  rfl,e0.bare,Un.kept hk,⟨_,x.toInCall.ns,λi y v h1 h2 h3=>?_⟩,λy c h=>⟨_,x.cell y c h⟩,e0.hok.fresh (Zp _),λy c h=>?_,λp hp=>absurd (show p∈([]:List (Addr×Obj))from hp) (by simp),e0.hok.kept hk,?_⟩
 ·exact name_of_addr x.apart (Zag h1) (Zag h2)
 ·have hy:scope.names.lookup y=some .cell∨scope.names.lookup y=some .free:=hy
  rcases hy with hy | hy
  ·exact Qjy hy
  ·exact absurd rfl (S.nofree _ (Zag hy))
 ·exact Zbb (x.above y c (Zag h))
 ·have hi:i<vs.length:=by
   unfold start at h2
   by_cases hi:i<vs.length
   ·exact hi
   ·rw[Zaw (by simpa using hi)]at h2
    rw[ZbK]at h2
    split at h2<;>cases h2
  have ha:vs[i]? =some v:=by
   unfold start at h2
   rw[ZP (by simpa using hi),Zo]at h2
   cases e:vs[i]? with
   | none=>rw[e]at h2;cases h2
   | some a=>rw[e]at h2;cases h2;rfl
  obtain⟨u,hu,rv⟩:=r.get ha
  have hp:ps[i]? =some y:=by
   rw[← S.pre,List.getElem?_take_of_lt (by omega)];exact h1
  have ndP:ps.Nodup:=by rw[← S.pre];exact S.nd.sublist (List.take_sublist _ _)
  refine⟨u,rv,?_⟩
  rcases S.par y (ZD hp)with k | k
  ·exact .inl ⟨k,Qic ndP hp hu k⟩
  ·obtain⟨c,e⟩:=Qjy (n:=s.heap.objs.size+1) k
   refine .inr ⟨.inl k,c,e,?_⟩
   have q:=x.cell y c e
   rw[Qih ndP hp hu (by show scope.names.lookup y≠_;rw[k];decide)]at q
   exact q
 ·exact e0.hok.fresh (Zbb (x.above y c (Zag h)))
 ·unfold start
  show _=N.length
  rw[Zr,Zi,List.length_replicate]
  omega
theorem QtZ{CX:CXT}{P:Program}{w:World}{K:PySem.W.Frag}{mg:Str->Option Value}{base:Heap}{k:Nat}{f:Addr}{name qual:Str}{params:Arguments}{body:List Stmt}{scope:Scope}{dV kV doc pm cdv ct oc:Value}{an od:Option Addr}
  {osl:Array (Option Value)}{N ps:List Str}{sp:Sp}(lk:K.lookup f=some ⟨oc,od,.func (PySem.W.fnOf name qual params body scope dV kV doc pm an cdv ct),osl⟩) (hcd:PySem.W.codeIn K cdv qual=true) (S:QbY N ps scope)
  (len:∀vs H Q E,sp vs H Q E->vs.length=ps.length)
  (hbody:∀(A:Around) (outer:List Env) (s:Shared) (H:Hp) (vs:List V) (Q:VK) (E:XK),Q4 k (A.deeper (envOfC qual scope s.heap.objs.size f cdv))->sp vs H Q E→
   ∃t,PSs (QeZ CX P w K mg base N qual scope f cdv A outer s H E) body t/\t {nx:=λ_ H'=>Q .non H',rt:=Q} (start N vs) H):
  Qbe P w K mg base CX (k+1) f (PySem.W.fnOf name qual params body scope dV kV doc pm an cdv ct) ps sp:=by
 refine⟨len,λA outer s H args us vs Q E hr e0 hb r hsp=>?_⟩
 have hl:=len _ _ _ _ hsp
 have KX:K.In s.heap:=e0.mod.kin.keeps λb o e=>(e0.bs b o e).1
 have lim:s.heap.NoLimit:=e0.mod.nolimit.keeps λb o e=>(e0.bs b o e).1
 have hkind:∀y∈ps.zip us,scope.names.lookup y.1=some .local ∨(scope.names.lookup y.1=some .cell/\((cellsFrom (s.heap.objs.size+1) scope.names []).lookup y.1).isSome=true):=λhpt hy=>by
  obtain⟨n,v⟩:=hpt
  rcases S.par n (ZbX hy).1 with q | q
  ·exact .inl q
  ·exact .inr ⟨q,ZbQ _ _ _ (.inl q)⟩
 refine codeAny_call_function hr.depth (KX _ _ lk) rfl S.co S.gen rfl (PySem.W.codeRec_of KX hcd) (hb _ _ _ _ ?_)
 refine wpAny_newFunctionEnv_cells S.kind hkind λenv he s1 x=>?_
 subst he
 refine⟨lim.keeps x.toInCall.keep,codeAny_func ?_⟩
 obtain⟨t,ht,hq⟩:=hbody A outer s H vs Q E (hr.deeper _) hsp
 have I:Inv (QeZ CX P w K mg base N qual scope f cdv A outer s H E) [] (start N vs) H s1:=Qm7 S e0 hl r x
 refine wpAny_mono (ht [] s1 (start N vs) H _ I hq) (λfl s' hs=>?_) λe s' hs=>hs
 have fin:∀{σ':St}{H':Hp}{v:V}{u:Value},Inv (QeZ CX P w K mg base N qual scope f cdv A outer s H E) [] σ' H' s'->RelV v u->Q v H'->CE outer P w H s Q u s':=
  λ{σ' H' v u} J rv q=>⟨v,H',J.os,J.bare,J.base,J.hok,rv,q⟩
 cases fl with
 | ret u=>
  obtain⟨v,σ',H',J,rv,q⟩:=hs
  exact fin J rv q
 | next=>
  obtain⟨σ',H',J,q⟩:=hs
  exact fin (v:=V.non) (u:=Value.none) J rfl q
 | brk=>
  obtain⟨_,_,_,q⟩:=hs
  exact False.elim q
 | cont=>
  obtain⟨_,_,_,q⟩:=hs
  exact False.elim q
end L2
namespace L2
open PySem PySem.Spec PyProof.Rows
section
variable {X:Cx}{x:Str}{p pos:Pos}{e:Expr}{es:List Expr}{t:TA}{id T:String}{r:List V->Hp->VK->Prop}
noncomputable def tCB(r:List V->Hp->VK->Prop)(t:TA):TE:=λσ H Q=>t σ H λvs H1=>r vs H1 Q
theorem Qf5(hc:QaJ X (.builtin id) r)(hg:Gl X x)(hm:X.mg x=none)(hv:bootBuiltins x=some (.builtin id))(ha:PA X (e::es) t)(hn:x≠ "__name__" :=by decide)(hdb:(x == ("__debug__" :Str))=false:=by decide)
  (he:starEach (e::es) X.env=(false,eval e X.env)::starEach es X.env:=by rfl) (hpl:(backTo pos (starEach es X.env)).any (·.1)=false:=by rfl):PE X (.Call (.Name x p) (e::es) [] pos) (tCB r t):=by
 intro pins s σ H Q I h
 refine wpAny_Call_Name_kw (QbM I hg hm hv ?_ hn hdb)
 exact Zbi (thn (ha pos pins s σ H _ I h) λus s1 ⟨vs,H1,I1,r1,q1⟩=>hc pins s1 σ H1 vs us Q I1 r1 q1) he hpl
theorem QhR(hc:QaJ X (.type T) r)(hg:Gl X x)(hm:X.mg x=none)(hv:bootBuiltins x=some (.type T))(ha:PA X (e::es) t)(hn:x≠ "__name__" :=by decide)(hdb:(x == ("__debug__" :Str))=false:=by decide)
  (he:starEach (e::es) X.env=(false,eval e X.env)::starEach es X.env:=by rfl) (hpl:(backTo pos (starEach es X.env)).any (·.1)=false:=by rfl):PE X (.Call (.Name x p) (e::es) [] pos) (tCB r t):=by
 intro pins s σ H Q I h
 refine wpAny_Call_Name_kw (QbM I hg hm hv ?_ hn hdb)
 exact ZU (thn (ha pos pins s σ H _ I h) λus s1 ⟨vs,H1,I1,r1,q1⟩=>hc pins s1 σ H1 vs us Q I1 r1 q1) he hpl
end
end L2
namespace HT
open PySem PyProof.Rows
section
open PySem.SeqAt
open PySem.AutoSeq1 (wpAny_loadPart')
open PySem.MeetsSeq PySem.MeetsSeq2 PySem.MeetsSeq3
end
section
variable {prog:Program}{w:World}{A:Around}{E:Value->Shared->Prop}{s:Shared}
noncomputable def sIx(n d:Nat):Option Int->Nat
 | none=>d
 | some v=>if v<0 then(v+(n:Int)).toNat else min v.toNat n
theorem Qjf(n d:Nat):sIx n d none=d:=rfl
theorem Qla(n d k:Nat):sIx n d (some (k:Int))=min k n:=by
 show(if(k:Int)<0 then((k:Int)+(n:Int)).toNat else min (k:Int).toNat n)=min k n
 rw[if_neg (by omega),Zy]
end
end HT
namespace L2
open PySem PySem.Spec PyProof.Rows
noncomputable abbrev TO:=St->Hp->(Option Int->Hp->Prop)->Prop
def PO(X:Cx)(e:Option Expr)(t:TO):Prop:=
 ∀(pins:List (Addr×Obj)) (s:Shared) (σ:St) (H:Hp) (Q:Option Int->Hp->Prop),Inv X pins σ H s->t σ H Q→
  wpAny (model X.prog X.w) X.A (evalPart e X.env) (λu s'=>∃o H',Inv X pins σ H' s'/\IsPart u o/\Q o H') X.xe s
noncomputable def Qqo:TO:=λ_ H Q=>Q none H
noncomputable def Qt9(t:TE):TO:=λσ H Q=>t σ H λx H1=>∃i,x= .int i/\Q (some i) H1
theorem intsAre_of{ns:List Int}:∀{us:List Value},Qn (ns.map V.int) us->IntsAre us ns:=by
 induction ns with
 | nil=>intro us r;rw[ZaN]at r;cases r;exact .nil
 | cons n ns ih=>
  intro us r
  rw[Zu]at r
  cases r with
  | cons r1 r2=>
   obtain⟨t,e⟩:=r1
   subst e
   exact .cons n t (ih r2)
section
variable {X:Cx}{e:Expr}{te:TE}{lo hi:Option Expr}{tl th:TO}{pos p2:Pos}
theorem Qqy:PO X none Qqo:=by
 intro pins s σ H Q I h
 rw[evalPart_none]
 exact wpAny_pure ⟨none,H,I,.none,h⟩
theorem Qqg(h:PE X e te):PO X (some e) (Qt9 te):=by
 intro pins s σ H Q I hw
 rw[evalPart_some]
 refine thn (h pins s σ H _ I hw) λu s1=>exJ λx H1 I1 r1 q1=>?_
 obtain⟨i,rfl,q⟩:=q1
 obtain⟨t,rfl⟩:=r1
 exact⟨some i,H1,I1,.int i t,q⟩
def SlR(X:Cx)(r:V->Option Int->Option Int->Hp->VK->Prop):Prop:=
 ∀(pins:List (Addr×Obj)) (s:Shared) (σ:St) (H:Hp) (x:V) (v vl vu:Value) (lo hi:Option Int) (sl:Addr) (Q:VK),Inv X pins σ H s->RelV x v->s.heap.IsSliceOf sl vl vu .none->IsPart vl lo->IsPart vu hi->r x lo hi H Q→
  ∃T id,typeLookup (.type T) "__getitem__" =pure (some (.builtin id))/\s.TypeIs v T/\wpAny (model X.prog X.w) X.A (getItem v (.ref sl)) (EP X pins σ Q) X.xe s
theorem SlR.or{r r':V->Option Int->Option Int->Hp->VK->Prop}(h:SlR X r)(h':SlR X r'):SlR X (λx lo hi H Q=>r x lo hi H Q∨r' x lo hi H Q):=by
 intro pins s σ H x v vl vu lo hi sl Q I rx hs pl pu q
 rcases q with q | q
 ·exact h pins s σ H x v vl vu lo hi sl Q I rx hs pl pu q
 ·exact h' pins s σ H x v vl vu lo hi sl Q I rx hs pl pu q
noncomputable def tSl(r:V->Option Int->Option Int->Hp->VK->Prop)(te:TE)(tl th:TO):TE:=λσ H Q=>te σ H λx H1=>tl σ H1 λl H2=>th σ H2 λu H3=>r x l u H3 Q
theorem Qpk{r:V->Option Int->Option Int->Hp->VK->Prop}(hr:SlR X r)(he:PE X e te)(hl:PO X lo tl)(hu:PO X hi th):PE X (.Subscript e (.Slice lo hi none p2) pos) (tSl r te tl th):=by
 intro pins s σ H Q I h
 refine Subscript_ (thn (he pins s σ H _ I h) λv s1=>exJ λx H1 I1 r1 q1=>?_)
 refine wpAny_Slice (thn (hl pins s1 σ H1 _ I1 q1) λvl s2 ⟨l,H2,I2,pl,q2⟩=>thn (hu pins s2 σ H2 _ I2 q2) λvu s3=>exJ λu H3 I3 pu q3=>?_)
 rw[evalPart_none]
 refine wpAny_pure ?_
 have I4:Inv X pins σ H3 {s3 with heap:=s3.heap.push {cls:= .type "slice",data:= .fields #[vl,vu,.none]}}:=I3.kept (t':=s3.toks) λb ob q=>Zf _ q
 obtain⟨T,id,hT,ht,hg⟩:=hr pins {s3 with heap:=s3.heap.push {cls:= .type "slice",data:= .fields #[vl,vu,.none]}} σ H3 x v vl vu l u s3.heap.objs.size Q I4 r1 (Heap.IsSliceOf.new ..) pl pu q3
 show wpAny (model X.prog X.w) X.A (subscriptTail e (.Slice lo hi none p2) v (.ref s3.heap.objs.size)) (EP X pins σ Q) X.xe {s3 with heap:=s3.heap.push {cls:= .type "slice",data:= .fields #[vl,vu,.none]}}
 exact tail_any (ops:=[.ref s3.heap.objs.size,v]) ht hT hg (by with_unfolding_all rfl)
noncomputable def QhN(xs:List V)(lo hi:Option Int):List V:=(xs.drop (HT.sIx xs.length 0 lo)).take (HT.sIx xs.length xs.length hi-HT.sIx xs.length 0 lo)
theorem QkT(xs:List V)(lo hi:Option Int):(QhN xs lo hi).length<=xs.length:=by
 unfold QhN
 rw[ZaC,ZaO]
 omega
end
end L2
namespace L2
open PySem PySem.Spec PyProof.Rows
noncomputable def ixN(n:Nat)(i:Int):Option Nat:=if 0<=i then(if i<n then some i.toNat else none)else if-(n:Int)<=i then some (i+n).toNat else none
noncomputable def atI{α:Type}(xs:List α)(i:Int):Option α:=(ixN xs.length i).bind λj=>xs[j]?
theorem Qft{n:Nat}{i:Int}{j:Nat}(h:ixN n i=some j):seqIndex? i n=some j/\j<n/\ -(n:Int)<=i/\i<n:=by
 unfold ixN at h
 by_cases h0:0<=i
 ·rw[if_pos h0]at h
  by_cases h1:i<n
  ·rw[if_pos h1]at h
   have e:i.toNat=j:=Option.some.inj h
   exact⟨by rw[seqIndex_of h0 h1,e],by omega,by omega,h1⟩
  ·rw[if_neg h1]at h;cases h
 ·rw[if_neg h0]at h
  by_cases h1: -(n:Int)<=i
  ·rw[if_pos h1]at h
   have e:(i+n).toNat=j:=Option.some.inj h
   exact⟨by rw[seqIndex_neg (by omega) h1,e],by omega,h1,by omega⟩
  ·rw[if_neg h1]at h;cases h
theorem Qhe{α:Type}{xs:List α}{i:Int}{v:α}(h:atI xs i=some v):∃j,seqIndex? i xs.length=some j/\xs[j]? =some v/\j<xs.length/\ -(xs.length:Int)<=i/\i<xs.length:=by
 unfold atI at h
 cases e:ixN xs.length i with
 | none=>rw[e]at h;cases h
 | some j=>
  rw[e]at h
  obtain⟨h1,h2,h3,h4⟩:=Qft e
  exact⟨j,h1,h,h2,h3,h4⟩
def QfJ(b:Expr):Prop:=∀o i,subscripted b false o i=operate [o,i] (getItem o i)
def IxR(X:Cx)(r:R2):Prop:=
 ∀(value slice:Expr) (pins:List (Addr×Obj)) (s:Shared) (σ:St) (H:Hp) (x y:V) (v u:Value) (Q:VK),Inv X pins σ H s->RelV x v->RelV y u->r x y H Q→
  subscripted slice false v u=operate [v,u] (getItem v u)->wpAny (model X.prog X.w) X.A (subscriptTail value slice v u) (EP X pins σ Q) X.xe s
def MtR(X:Cx)(id:String)(r:V->List V->Hp->VK->Prop):Prop:=
 ∀(pins:List (Addr×Obj)) (s:Shared) (σ:St) (H:Hp) (x:V) (xs:List V) (v:Value) (us:List Value) (Q:VK),Inv X pins σ H s->RelV x v->Qn xs us->r x xs H Q→
  wpAny (model X.prog X.w) X.A (call (.builtin id) (v::us)) (EP X pins σ Q) X.xe s
section
variable {X:Cx}{a b:Expr}{ta tb:TE}{pos:Pos}
theorem IxR.or{r r':R2}(h:IxR X r)(h':IxR X r'):IxR X (λx y H Q=>r x y H Q∨r' x y H Q):=by
 intro value slice pins s σ H x y v u Q I rx ry q hs
 rcases q with q | q
 ·exact h value slice pins s σ H x y v u Q I rx ry q hs
 ·exact h' value slice pins s σ H x y v u Q I rx ry q hs
theorem MtR.or{id:String}{r r':V->List V->Hp->VK->Prop}(h:MtR X id r)(h':MtR X id r'):MtR X id (λx xs H Q=>r x xs H Q∨r' x xs H Q):=by
 intro pins s σ H x xs v us Q I rx rs q
 rcases q with q | q
 ·exact h pins s σ H x xs v us Q I rx rs q
 ·exact h' pins s σ H x xs v us Q I rx rs q
theorem QpK{r:R2}(hr:IxR X r)(ha:PE X a ta)(hb:PE X b tb)(hs:QfJ b):PE X (.Subscript a b pos) (tOp r ta tb):=by
 intro pins s σ H Q I h
 exact Subscript_ (Qpm ha hb I h λv u s2 x y H2 I2 rx ry q=>hr a b pins s2 σ H2 x y v u Q I2 rx ry q (hs _ _))
noncomputable def QrI(K:PySem.W.Frag):R2:=λx y H Q=>∃p xs i v,x= .ref p/\y= .int i/\SqL K H p xs/\atI xs i=some v/\Q v H
noncomputable def Qur(K:PySem.W.Frag):R2:=λx y H Q=>∃p xs i v,x= .ref p/\y= .int i/\SqT K H p xs/\atI xs i=some v/\Q v H
theorem Qlx:IxR X (QrI X.K):=by
 intro value slice pins s σ H x y v u Q I rx ry h hs
 obtain⟨p,xs,i,z,rfl,rfl,hq,he,q⟩:=h
 cases rx
 obtain⟨t,rfl⟩:=ry
 obtain⟨its,r,pl,hz⟩:=I.list hq
 obtain⟨j,h1,h2,h3,h4,h5⟩:=Qhe he
 obtain⟨w,ew,rw'⟩:=r.get h2
 have hl:=r.length
 have hn:=Qec
 have fin:EP X pins σ Q w s:=⟨z,H,I,rw',q⟩
 by_cases h0:0<=i
 ·have hj:i.toNat=j:=by
   rw[seqIndex_of h0 h5]at h1
   exact Option.some.inj h1
  exact item_listR pl.isList h0 (by omega) (by rw[hj];simpa using ew) fin hs
 ·have hj:(i+(its.toArray.size:Int)).toNat=j:=by
   rw[seqIndex_neg (by omega) h4]at h1
   rw[Zs,← hl]
   exact Option.some.inj h1
  exact subscriptTail_builtinR (x:=w) pl.isList.typeIs slot_list_getitem.lookup
   (wpAny_getItem_list_neg (Q:=λr s'=>r=w/\EP X pins σ Q r s') pl.isList (by omega) (by rw[Zs]<;>omega) (by omega) (by rw[hj];simpa using ew) ⟨rfl,fin⟩) hs
theorem Qnp:IxR X (Qur X.K):=by
 intro value slice pins s σ H x y v u Q I rx ry h hs
 obtain⟨p,xs,i,z,rfl,rfl,hq,he,q⟩:=h
 cases rx
 obtain⟨t,rfl⟩:=ry
 obtain⟨its,r,pl,hz⟩:=I.tuple hq
 obtain⟨j,h1,h2,h3,h4,h5⟩:=Qhe he
 obtain⟨w,ew,rw'⟩:=r.get h2
 have hl:=r.length
 have hn:=Qec
 have fin:EP X pins σ Q w s:=⟨z,H,I,rw',q⟩
 exact subscriptTail_builtinR (x:=w) pl.typeIs slot_tuple_getitem.lookup
  (getItem_tuple (j:=j) (Q:=λr s'=>r=w/\EP X pins σ Q r s') pl (by omega) (by omega) (by rw[Zs,← hl];exact h1) (by simpa using ew) ⟨rfl,fin⟩) hs
theorem Qmp(its:List Value)(n j:Nat)(u:Value):Obj.mapSeq (·.setIfInBounds j u) {cls:= .type "list",data:= .seq its.toArray n}={cls:= .type "list",data:= .seq (its.set j u).toArray n}:=by
 simp[Obj.mapSeq]
theorem Inv.lst{pins:List (Addr×Obj)}{σ:St}{H:Hp}{s:Shared}{p:Addr}{xs:List V}(I:Inv X pins σ H s)(h:H p=some (.lst xs)):
  ∃(its:List Value) (n:Nat),Qn xs its/\s.heap.get? p=some {cls:= .type "list",data:= .seq its.toArray n}/\xs.length<=sizeLine:=by
 obtain⟨z,its,n,r,e⟩:=I.hok p _ h
 exact⟨its,n,r,e,z⟩
theorem Inv.QrV{pins:List (Addr×Obj)}{σ:St}{H:Hp}{s:Shared}{p:Addr}{xs ys:List V}{its its':List Value}{n n':Nat}{f:Obj->Obj}(I:Inv X pins σ H s)(h:H p=some (.lst xs))
  (ho:s.heap.get? p=some {cls:= .type "list",data:= .seq its.toArray n}) (hf:f {cls:= .type "list",data:= .seq its.toArray n}={cls:= .type "list",data:= .seq its'.toArray n'}) (r:Qn ys its') (hz:ys.length<=sizeLine) (t:Nat):
  Inv X pins σ (upd H p (.lst ys)) {s with heap:=s.heap.update p f,toks:=t}:=by
 have e:(s.heap.update p f).get? p=some {cls:= .type "list",data:= .seq its'.toArray n'}:=by
  rw[Zbg f ho (by rw[hf]<;>rfl),hf]
 refine I.write (x:=p) (e:=p) (by rw[h];trivial) (.inl rfl) (λb u hb q=>(ZaG _ _ (Ne.symm hb)).trans q) ⟨_,e⟩ ?_
 exact⟨hz,its',n',r,e⟩
noncomputable def QpB:V->V->V->Hp->(Hp->Prop)->Prop:=λo i v H Q=>∃p xs k j,o= .ref p/\i= .int k/\H p=some (.lst xs)/\ixN xs.length k=some j/\Q (upd H p (.lst (xs.set j v)))
theorem set_list:QnY X QpB:=by
 intro pins s σ H o i v ov iv u Q I ro ri rv h
 obtain⟨p,xs,k,j,rfl,rfl,hp,hj,q⟩:=h
 cases ro
 obtain⟨t,rfl⟩:=ri
 obtain⟨its,n,r,ho,hz⟩:=I.lst hp
 obtain⟨h1,h2,h3,h4⟩:=Qft hj
 have hl:=r.length
 have hn:=Qec
 have I':Inv X pins σ (upd H p (.lst (xs.set j v))) {s with heap:=s.heap.update p (Obj.mapSeq (·.setIfInBounds j u))}:=
  I.QrV hp ho (Qmp its n j u) (r.set rv j) (by rw[Zbu];exact hz) s.toks
 by_cases h0:0<=k
 ·have hk:k.toNat=j:=by
   rw[seqIndex_of h0 h4]at h1
   exact Option.some.inj h1
  exact PySem.W.ki_setAt ho h0 (by omega) (by rw[Zs,← hl];exact h4) (by rw[hk];exact⟨_,I',q⟩)
 ·have hk:(k+(its.toArray.size:Int)).toNat=j:=by
   rw[seqIndex_neg (by omega) h3]at h1
   rw[Zs,← hl]
   exact Option.some.inj h1
  exact PySem.W.ki_setBack ho (by omega) (by rw[Zs,← hl];exact h3) (by omega) (by rw[hk];exact⟨_,I',q⟩)
theorem QiX(lo hi:Option Int)(n:Nat):(sliceBounds lo hi none n).1=((HT.sIx n 0 lo:Nat):Int)/\(sliceBounds lo hi none n).2.1=((HT.sIx n n hi:Nat):Int)/\(sliceBounds lo hi none n).2.2=1:=by
 refine⟨?_,?_,rfl⟩
 ·cases lo with
  | none=>simp[sliceBounds,HT.sIx]
  | some i=>
   simp only[sliceBounds,HT.sIx,Option.getD_none,show(1:Int)>0 by decide,if_true]
   by_cases h:i<0
   ·simp only[h,if_true]<;>omega
   ·simp only[h,if_false]<;>omega
 ·cases hi with
  | none=>simp[sliceBounds,HT.sIx]
  | some i=>
   simp only[sliceBounds,HT.sIx,Option.getD_none,show(1:Int)>0 by decide,if_true]
   by_cases h:i<0
   ·simp only[h,if_true]<;>omega
   ·simp only[h,if_false]<;>omega
theorem QiC(its:List Value)(lo hi:Option Int):slicePick its.toArray lo hi none=((its.drop (HT.sIx its.length 0 lo)).take (HT.sIx its.length its.length hi-HT.sIx its.length 0 lo)).toArray:=by
 obtain⟨h1,h2,h3⟩:=QiX lo hi its.toArray.size
 unfold slicePick
 rw[h1,h2,h3]
 simp only[sliceRange_one,pick_run,Zs]<;>rfl
noncomputable def QuO(K:PySem.W.Frag):V->Option Int->Option Int->Hp->VK->Prop:=λx lo hi H Q=>∃a xs,x= .ref a/\SqL K H a xs/\∀p,H p=none->Q (.ref p) (upd H p (.lst (QhN xs lo hi)))
theorem QpT:SlR X (QuO X.K):=by
 intro pins s σ H x v vl vu lo hi sl Q I rx hs pl pu h
 obtain⟨a,xs,rfl,hx,q⟩:=h
 cases rx
 obtain⟨its,r,ht,hz⟩:=I.list hx
 have hlen:=r.length
 refine⟨"list",_,slot_list_getitem.lookup,ht.isList.typeIs,?_⟩
 refine wpAny_getItem_list_slice ht.isList hs pl pu .none (by simp) ?_ (by rw[Zs]<;>omega)
 rw[QiC,← hlen]
 refine⟨.ref s.heap.objs.size,_,I.laid (t':=s.toks) (o:= .lst (QhN xs lo hi)) (λb ob q=>Zf _ q) (Zp _) ?_,rfl,q _ (I.hok.fresh (Zp _))⟩
 exact⟨ZH (QkT xs lo hi) hz,_,0,(r.drop (HT.sIx xs.length 0 lo)).take (HT.sIx xs.length xs.length hi-HT.sIx xs.length 0 lo),Zx _ rfl⟩
theorem QjM:QaJ X (.builtin "len") (λxs H Q=>∃p ys,xs=[.ref p]/\(SqL X.K H p ys∨SqT X.K H p ys)/\Q (.int ys.length) H):=by
 intro pins s σ H xs us Q I r h
 obtain⟨p,ys,rfl,hq,q⟩:=h
 obtain⟨u,rfl,rx⟩:=vals1 r
 cases rx
 have hn:=Qec
 rcases hq with hq | hq
 ·obtain⟨its,r',pl,hz⟩:=I.list hq
  have hlen:=r'.length
  exact Calls.call_len_list pl.isList (by simp only[Zs]<;>omega) ⟨.int ys.length,H,I.tok _,⟨s.toks+1,by rw[Zs,hlen]⟩,q⟩
 ·obtain⟨its,r',pl,hz⟩:=I.tuple hq
  have hlen:=r'.length
  exact len_tuple pl (by simp only[Zs]<;>omega) ⟨.int ys.length,H,I.tok _,⟨s.toks+1,by rw[Zs,hlen]⟩,q⟩
theorem QaJ.or{f:Value}{r r':List V->Hp->VK->Prop}(h:QaJ X f r)(h':QaJ X f r'):QaJ X f (λxs H Q=>r xs H Q∨r' xs H Q):=by
 intro pins s σ H xs us Q I rs q
 rcases q with q | q
 ·exact h pins s σ H xs us Q I rs q
 ·exact h' pins s σ H xs us Q I rs q
theorem Qkb:QaJ X (.type "list") (λxs H Q=>∃p ys,xs=[.ref p]/\(SqL X.K H p ys∨SqT X.K H p ys)/\∀l,H l=none->Q (.ref l) (upd H l (.lst ys))):=by
 intro pins s σ H xs us Q I r h
 obtain⟨p,ys,rfl,hq,q⟩:=h
 obtain⟨u,rfl,rx⟩:=vals1 r
 cases rx
 have fin:∀(its:List Value),Qn ys its->ys.length<=sizeLine->∀(h':Heap) (c':Nat),(∀b o',s.heap.get? b=some o'->h'.get? b=some o')→
   h'.get? s.heap.objs.size=some {cls:= .type "list",dict:=none,data:= .seq its.toArray c',slots:= #[]}->EP X pins σ Q (.ref s.heap.objs.size) {s with heap:=h'}:=λits r' hz h' c' kp e=>
  ⟨.ref s.heap.objs.size,_,I.laid (t':=s.toks) kp (Zp _) (show QbH X.prog X.w _ h' _ (.lst ys)from⟨hz,its,c',r',e⟩),rfl,q _ (I.hok.fresh (Zp _))⟩
 rcases hq with hq | hq
 ·obtain⟨its,r',pl,hz⟩:=I.list hq
  have hlen:=r'.length
  obtain⟨o,ho,hc,n,hd⟩:=pl.isList
  exact call_list_seq p (.inl rfl) ho hc hd (λh' c' kp e=>fin its r' hz h' c' kp e) (by simp only[Zs]<;>omega)
 ·obtain⟨its,r',pl,hz⟩:=I.tuple hq
  have hlen:=r'.length
  obtain⟨o,ho,hc,n,hd⟩:=pl
  exact call_list_seq p (.inr rfl) ho hc hd (λh' c' kp e=>fin its r' hz h' c' kp e) (by simp only[Zs]<;>omega)
def tyV(K:PySem.W.Frag)(T:String)(x:V)(H:Hp):Prop:=match x with
 | .str _=>T= "str"
 | .int _=>T= "int"
 | .ref p=>(T= "list" /\∃xs,SqL K H p xs)∨(T= "tuple" /\∃o,K.lookup p=some o/\o.cls= .type "tuple" /\o.dict=none)∨
   (T= "dict" /\((∃kvs,H p=some (.dK kvs))∨∃kvs,H p=some (.dT kvs)))∨(T= "set" /\∃S n,H p=some (.set S n))
 | _=>False
theorem Qte{pins:List (Addr×Obj)}{σ:St}{H:Hp}{s:Shared}{T:String}{x:V}{v:Value}(I:Inv X pins σ H s)(r:RelV x v)(ty:tyV X.K T x H):
  s.TypeIs v T/\∀a,v= .ref a->∃ob,s.heap.get? a=some ob/\ob.dict=none:=by
 cases x with
 | str z=>
  obtain⟨t,rfl⟩:=r
  cases(show T= "str" from ty)
  exact⟨typeIs_str s z t,λ_ e=>nomatch e⟩
 | int i=>
  obtain⟨t,rfl⟩:=r
  cases(show T= "int" from ty)
  exact⟨typeIs_int s i t,λ_ e=>nomatch e⟩
 | ref p=>
  cases r
  rcases ty with⟨rfl,xs,hq⟩ | ⟨rfl,o,hk,hc,hd⟩ | ⟨rfl,hk⟩ | ⟨rfl,S,n,hk⟩
  ·obtain⟨its,_,pl,_⟩:=I.list hq
   refine⟨pl.isList.typeIs,λa e=>?_⟩
   cases e
   obtain⟨o,n,e,c,hd,_⟩:=pl
   exact⟨o,e,hd⟩
  ·refine⟨⟨o,I.kIn p o hk,hc⟩,λa e=>?_⟩
   cases e
   exact⟨o,I.kIn _ o hk,hd⟩
  ·have z:∃o,s.heap.get? p=some o/\o.ExactDict:=by
    rcases hk with⟨kvs,hk⟩ | ⟨kvs,hk⟩
    ·obtain⟨_,_,_,_,o,_,_,e,ex,_⟩:=I.hok p _ hk
     exact⟨o,e,ex⟩
    ·obtain⟨_,_,_,_,o,_,_,e,ex,_⟩:=I.hok p _ hk
     exact⟨o,e,ex⟩
   obtain⟨o,e,ex⟩:=z
   refine⟨⟨o,e,ex.1⟩,λa e2=>?_⟩
   cases e2
   exact⟨o,e,ex.2.1⟩
  ·obtain⟨o,_,_,_,e,ex,_⟩:=I.hok p _ hk
   refine⟨⟨o,e,ex.1⟩,λa e2=>?_⟩
   cases e2
   exact⟨o,e,ex.2.1⟩
 | _=>exact False.elim ty
noncomputable def tBM(K:PySem.W.Frag)(T:String)(r:V->List V->Hp->VK->Prop)(to:TE)(t:TA):TE:=λσ H Q=>to σ H λx H1=>tyV K T x H1/\t σ H1 λxs H2=>r x xs H2 Q
variable {o e:Expr}{es:List Expr}{to:TE}{t:TA}{name:Str}{apos cpos:Pos}{T id:String}{r:V->List V->Hp->VK->Prop}
theorem QpL(pa:PlainAttrs T)(slot:Slot T name id)(hty:typeOf (.builtin id)=pure (.type "method_descriptor"))(hm:MtR X id r)(ho:PE X o to)(ha:PA X (e::es) t)
  (hbase:attributeBase o name X.env (eval o X.env)=eval o X.env:=by rfl)
  (hfew:((backTo cpos (starEach (e::es) X.env)).all (λx=> !x.1) && (backToKw cpos (keywordEach [] X.env)).all (λx=>x.1.isSome)
   && decide ((e::es).length+([]:List Keyword).length+(if([]:List Keyword).isEmpty then 0 else 1)<30))=true:=by rfl)
  (hline:(apos.endLine == cpos.line)=true:=by rfl) (hs:starEach (e::es) X.env=(false,eval e X.env)::starEach es X.env:=by rfl) (hplain:(backTo cpos (starEach es X.env)).any (·.1)=false:=by rfl):
  PE X (.Call (.Attribute o name apos) (e::es) [] cpos) (tBM X.K T r to t):=by
 intro pins s σ H Q I h
 refine wpAny_Call_method_late hbase hfew hline rfl (thn (ho pins s σ H _ I h) λv s1 hpt=>?_)
 obtain⟨x,H1,I1,r1,ty,q1⟩:=hpt
 obtain⟨h1,h2⟩:=Qte I1 r1 ty
 refine⟨T,id,pa,slot,hty,h1,h2,?_⟩
 have hA:=ha cpos pins s1 σ H1 _ I1 q1
 rw[hs]at hA ⊢
 refine Calls.callWith_builtin (by show(false || (backTo cpos (starEach es X.env)).any (·.1))=false;rw[hplain]<;>rfl) (Calls.evalArgs_plain ?_)
 exact thn hA λus s2 ⟨vs,H2,I2,r2,q2⟩=>hm pins s2 σ H2 x vs v us Q I2 r1 r2 q2
end
end L2
namespace L2
open PySem PySem.Spec PyProof.Rows
def MtM(X:Cx)(id:String)(r:V->List V->Hp->VK->Prop):Prop:=
 ∀(pins:List (Addr×Obj)) (s:Shared) (σ:St) (H:Hp) (x:V) (xs:List V) (v:Value) (us:List Value) (Q:VK),Inv X pins σ H s->RelV x v->Qn xs us->r x xs H Q→
  wpAny (model X.prog X.w) X.A (call (.builtin id) (v::us)) (EP X pins σ Q) X.xe s
theorem Qn.one{x:V}{us:List Value}(r:Qn [x] us):∃u,us=[u]/\RelV x u:=vals1 r
theorem Qn.two{x y:V}{us:List Value}(r:Qn [x,y] us):∃u v,us=[u,v]/\RelV x u/\RelV y v:=vals2 r
theorem Qn.zero:∀{us:List Value},Qn [] us->us=[]
 | _,.nil=>rfl
theorem Qn.eraseIdx:∀{xs:List V}{us:List Value}(i:Nat),Qn xs us->Qn (xs.eraseIdx i) (us.eraseIdx i)
 | _,_,_,.nil=> .nil
 | _,_,0,.cons _ t=>t
 | _,_,i+1,.cons r t=> .cons r (Qn.eraseIdx i t)
theorem Qn.reverse{xs:List V}{us:List Value}(h:Qn xs us):Qn xs.reverse us.reverse:=by
 induction h with
 | nil=>exact .nil
 | cons r t ih=>rw[Zbd,Zbd];exact Qn.append ih (.cons r .nil)
theorem Qn.rep{xs:List V}{us:List Value}(h:Qn xs us):∀k:Nat,Qn (List.replicate k xs).flatten (List.replicate k us).flatten
 | 0=> .nil
 | k+1=>by
  rw[Zah,Zah,Zal,Zal]
  exact Qn.append h (Qn.rep h k)
theorem Qe6{α:Type}:∀(l:List α) (i:Nat),(l.eraseIdx i).length<=l.length
 | [],_=>Zp _
 | _::_,0=>ZaA _
 | _::r,i+1=>Nat.succ_le_succ (Qe6 r i)
theorem foldl_rep(its:List Value):∀(k:Nat) (acc:List Value),
  List.foldl (λx1 x2=>x1++x2) acc.toArray (List.replicate k its.toArray)=(acc++(List.replicate k its).flatten).toArray
 | 0,acc=>by simp
 | k+1,acc=>by
  have e:acc.toArray++its.toArray=(acc++its).toArray:=by simp
  have e2:(acc++its)++(List.replicate k its).flatten=acc++(List.replicate (k+1) its).flatten:=by
   rw[Zah,Zal,Zat]
  rw[← e2,← foldl_rep its k (acc++its),← e,Zah,ZaW]
section
variable {X:Cx}{pins:List (Addr×Obj)}{σ:St}{H:Hp}{s:Shared}{l b:Addr}{xs ys zs:List V}
theorem Inv.Qsb{its its':List Value}{n:Nat}{f:Array Value->Array Value}{t':Nat}(I:Inv X pins σ H s)(hH:H l=some (.lst xs))
  (e:s.heap.get? l=some {cls:= .type "list",data:= .seq its.toArray n}) (hf:f its.toArray=its'.toArray) (hv:Qn ys its') (hz:ys.length<=sizeLine):
  Inv X pins σ (upd H l (.lst ys)) {s with heap:=s.heap.update l (Obj.mapSeq f),toks:=t'}:=by
 have q:=PySem.IsL.update e f
 rw[hf]at q
 refine I.write (x:=l) (e:=l) (by rw[hH];exact trivial) (.inl rfl) (λb' u hb hu=>(ZaG s.heap (Obj.mapSeq f) (Ne.symm hb)).trans hu) ⟨_,q⟩ ?_
 exact⟨hz,its',_,hv,q⟩
theorem Inv.Qsg{its:List Value}{t':Nat}(I:Inv X pins σ H s)(hv:Qn ys its)(hz:ys.length<=sizeLine):
  Inv X pins σ (upd H s.heap.objs.size (.lst ys)) {s with heap:=s.heap.push {cls:= .type "list",data:= .seq its.toArray},toks:=t'}:=
 I.laid (λ_ _ q=>Zf _ q) (Zp _) ⟨hz,its,0,hv,Zx _ rfl⟩
theorem Inv.fresh(I:Inv X pins σ H s):H s.heap.objs.size=none:=I.hok.fresh (Zp _)
theorem Inv.QoE(I:Inv X pins σ H s)(hH:H l=some (.lst xs)):xs.length<=sizeLine/\∃(its:List Value) (n:Nat),Qn xs its/\xs.length=its.length/\s.heap.get? l=some {cls:= .type "list",data:= .seq its.toArray n}:=by
 obtain⟨z,its,n,r,e⟩:=I.hok l _ hH
 exact⟨z,its,n,r,r.length,e⟩
theorem Qoj{n:Nat}(h:n<=sizeLine):Builtin.List.listTooLong n=false:=by
 unfold Builtin.List.listTooLong
 exact decide_eq_false (by omega)
end
section
variable {X:Cx}
noncomputable def Qk3:V->List V->Hp->VK->Prop:=λx vs H Q=>∃l xs y,x= .ref l/\vs=[y]/\H l=some (.lst xs)/\xs.length<sizeLine/\Q .non (upd H l (.lst (xs++[y])))
theorem Qif:MtM X "list.append" Qk3:=by
 intro pins s σ H x vs v us Q I rx rv h
 obtain⟨l,xs,y,rfl,rfl,hH,hz,q⟩:=h
 cases rx
 obtain⟨u,rfl,ru⟩:=rv.one
 obtain⟨z,its,n,r,hl,e⟩:=I.QoE hH
 refine call_meets F.slot_list_append ⟨_,e,rfl⟩ F.entry_list_append (F.args_list_append_2 _ _) (PySem.list_append l its.toArray n u (by rw[Zs];omega)) ⟨e,?_⟩
 refine⟨.non,_,I.Qsb (its':=its++[u]) hH e (by simp) (r.append (.cons ru .nil)) ?_,rfl,q⟩
 rw[Zr,Zbh]
 omega
theorem len_rep{α:Type}(xs:List α)(k:Nat):(List.replicate k xs).flatten.length=k*xs.length:=by
 induction k with
 | zero=>simp
 | succ k ih=>rw[Zah,Zal,Zr,ih,Nat.succ_mul,Nat.add_comm]
end
section
variable {prog:Program}{w:World}{A:Around}{E:Value->Shared->Prop}{s:Shared}
end
section
variable {X:Cx}
end
end L2
namespace Att
open PySem PySem.W PySem.Calls PyProof.Rows
theorem Qgy{P:Params}{h:Heap}:∀(ns:List Int) (vs:List Value),WellAll P h vs (ns.map WData.int)->IntsAre vs ns:=by
 intro ns
 induction ns with
 | nil=>
  intro vs w
  rw[ZaN]at w
  cases w
  exact .nil
 | cons n ns ih=>
  intro vs w
  rw[Zu]at w
  cases w with
  | cons a b=>
   cases a
   exact .cons _ _ (ih _ b)
theorem QnS{l:OpenLaw}{n:Nat}(hn:l.most=some n){P:Params}{h:Heap}{args:List WData}{vals:List Value}
  (hpre:l.row.toRowW.claim.pre args=true) (hwl:WellAll P h vals args):
  ∃a vs ns,vals=[Value.ref a]/\args=[WData.list (ns.map WData.int)]/\h.get? a=some {cls:= .type "list",data:= .seq vs.toArray}/\IntsAre vs ns/\ns.length<=n:=by
 have hsh:WShape.hasAll [] args [.list .int]=true:=(pre_splitW hpre).1
 have hc:l.pre.holds [] {args:=args}=true:=(pre_splitW hpre).2
 obtain⟨d,r,rfl,h1,h2⟩:=hasAllW_cons hsh
 obtain rfl:=hasAllW_nil h2
 obtain⟨xs,rfl,h3⟩:=hasW_list h1
 obtain⟨ns,rfl⟩:=items_int h3
 have hlen:ns.length<=n:=by
  unfold OpenLaw.pre at hc
  have h4:(WTm.not (.lt (.lit (.int (n:Int))) (.len (.arg 0)))).holds [] {args:=[.list (ns.map .int)]}=true:=by
   have h4:=(holds_andW hc).1
   rw[hn]at h4
   exact h4
  have h5:=condW_of h4 (w_not (w_lt w_lit (w_len_list (w_arg rfl))))
  rw[Zi]at h5
  refine Nat.le_of_not_lt λq=>?_
  have q':(n:Int)<((ns.length:Nat):Int):=by omega
  first
   | (rw[decide_eq_true q']at h5;exact absurd h5 (by decide))
   | (simp at h5;omega)
 cases hwl with
 | cons w1 w2=>
  cases w2
  cases w1 with
  | list ho hall=>exact⟨_,_,ns,rfl,rfl,ho,Qgy ns _ hall,hlen⟩
theorem Qmy(l:OpenLaw)(args:List WData):l.row.toRowW.claim.post args (.bool true) args=true:=
 postW_of (r:=l.row.toRowW) (X:=(true == true))
  (show WShape.has [] (.bool true) .bool=true by first | rfl | decide | simp[WShape.has,WShape.arms,WShape.armsAll])
  (show(WTm.eq .res (.lit (.bool true))).value [] {args:=args,res:=some (.bool true),after:=args}=some (.bool (true == true))from w_eq_bool (w_res rfl) w_lit) rfl
theorem Qf0{l:OpenLaw}{n:Nat}{q:Program}{loose:List Str}{XP:(Str->Option Value)->Heap->Prop}{YP:World->Heap->Prop}{d:DefRec}
  (hn:l.most=some n) (hdf:d.params.defaults=[])
  (call:∀(w:World) (s₀ s₁:Shared) (mg mb:Str->Option Value) (fa:Addr) (o:Obj) (pm cd doc:Value) (a:Addr) (vs:List Value) (ns:List Int),
   Ground q loose [] XP w s₀ mg mb s₁.heap->YP w s₁.heap→
   s₁.heap.get? fa=some o->o.data= .func (docDef d.name d.params d.body d.scope pm cd doc)->s₁.heap.CodeRec cd d.name->mg d.name=some (.ref fa)→
   s₁.heap.get? a=some {cls:= .type "list",data:= .seq vs.toArray}->IntsAre vs ns->ns.length<=n->s₁.gens= #[]→
   codeAny (model l.prog w) callerA (.call (.ref fa) ⟨[.ref a],[]⟩) (λr s'=>r= .ok (.ret (.bool true))/\OldK s₁.heap s'.heap/\s'.os=s₁.os/\AllBare s'.gens) s₁):
  WalkO q loose XP YP l.row.toRowW d [] (λf vs=>PySem.call f vs):=by
 intro w s₀ s₁ mg mb G Y fa o pm cd doc dV kV ho hd hcd hD hmg hg args vals as hpre hlay hrd hwl hlo
 obtain rfl:dV= .none:=Dflts.none hD hdf
 obtain rfl:kV= .none:=Dflts.noKw hD
 obtain⟨a,vs,ns,rfl,rfl,hobj,hints,hlen⟩:=QnS hn hpre hwl
 refine enter_call (codeAny_mono (call w s₀ s₁ mg mb fa o pm cd doc a vs ns G Y ho (fd_plain hd) hcd hmg hobj hints hlen hg) λr s' hq=>?_)
 obtain⟨rfl,h2,h3,h4⟩:=hq
 exact⟨.inl ⟨.bool true,.bool true,[],rfl,λ_=>rfl,.bool true,Qmy l _,λ_=>⟨List.Pairwise.nil,λ_ hm=>(nomatch hm)⟩⟩,h2,h3,h4⟩
section
variable {prog:Program}{w:World}{A:Around}{E:Value->Shared->Prop}{s:Shared}{K:Frag}
noncomputable def ledger(h:Heap)(L d:Addr):List (Addr×Obj):=(List.range h.objs.size).filterMap λa=>if a=L∨a=d then none else(h.get? a).map λo=>(a,o)
end
end Att
namespace L2
open PySem PySem.Spec PyProof.Rows
theorem QY:∀{vs:List Value}{ns:List Int},IntsAre vs ns->Qn (ns.map V.int) vs
 | _,_,.nil=> .nil
 | _,_,.cons n t h=> .cons ⟨t,rfl⟩ (QY h)
def Qov(H:Hp):Prop:=∀b,H b=none∨∃o xs,H b=some (.frz o (.lst xs))
theorem QjB{P:Program}{w:World}{K:PySem.W.Frag}{mg mb:Str->Option Value}{CX:CXT}{k:Nat}{fa a:Addr}{fd:FuncData}{x:Str}{sp:Sp}{s₁:Shared}{vs:List Value}{ns:List Int}
  (KX:K.In s₁.heap) (hns:s₁.heap.Ns mainGlobals mg) (hb:s₁.heap.Ns builtinsNs mb) (hbb:∀x:Str,x≠ "__name__" ->mb x=bootBuiltins x) (hlim:s₁.heap.NoLimit) (hg:s₁.gens= #[])
  (ha:s₁.heap.get? a=some {cls:= .type "list",data:= .seq vs.toArray}) (hi:IntsAre vs ns) (hl:ns.length<=sizeLine) (hr:Q4 k callerA)
  (F:∀base:Heap,K.In base->base.Ns mainGlobals mg->Qbe P w K mg base CX k fa fd [x] sp) (hbind:∀(s:Shared) (u:Value),BindsTo s fd ⟨[u],[]⟩ [(x,u)])
  (hsp:∀H:Hp,Qov H->SqL K H a (ns.map V.int)->sp [.ref a] H (λv _=>v= .bl true) λ_ _ _=>False)
  (hCX:∀H e s',CX [] H s₁ (λ_ _ _=>False) e s'->False):
  codeAny (model P w) callerA (.call (.ref fa) ⟨[.ref a],[]⟩) (λr s'=>r= .ok (.ret (.bool true))/\OldK s₁.heap s'.heap/\s'.os=s₁.os/\AllBare s'.gens) s₁:=by
 have rv:=QY hi
 have lenV:=hi.length
 have core:∀H:Hp,Qov H->SqL K H a (ns.map V.int)->HOk P w H s₁.heap->(∀b,H b≠none->b=a)->(H a≠none->K.lookup a=none)→
   codeAny (model P w) callerA (.call (.ref fa) ⟨[.ref a],[]⟩) (λr s'=>r= .ok (.ret (.bool true))/\OldK s₁.heap s'.heap/\s'.os=s₁.os/\AllBare s'.gens) s₁:=by
  intro H hO hS hok hA hK
  have base_of:∀{b:Addr}{o:Obj},s₁.heap.get? b=some o->H b=none->(QeD s₁.heap H).get? b=some o:=λe n=>Qn9 e n
  have noA:∀{b:Addr}{o:Obj}{es:Array DictEntry}{ep:Nat},s₁.heap.get? b=some o->o.data= .dict es ep->H b=none:=λ{b o es ep} e d=>by
   cases q:H b with
   | none=>rfl
   | some u=>
    have e':b=a:=hA b (by rw[q];simp)
    subst e'
    rw[ha]at e;cases e
    have d':Data.seq vs.toArray _=Data.dict es ep:=d
    cases d'
  have nsK:∀{b:Addr}{m:Str->Option Value},s₁.heap.Ns b m->(QeD s₁.heap H).Ns b m:=λ{b m} ⟨o,es,ep,e,d,r⟩=>⟨o,es,ep,base_of e (noA e d),d,r⟩
  have hKb:K.In (QeD s₁.heap H):=λb o e=>base_of (KX b o e) (by
   cases q:H b with
   | none=>rfl
   | some u=>
    have e':b=a:=hA b (by rw[q];simp)
    subst e'
    rw[hK (by rw[q];simp)]at e;cases e)
  have hM:Mod K mg (QeD s₁.heap H):=⟨hKb,nsK hns,⟨mb,nsK hb,hbb⟩,let ⟨mc,h1,h2⟩:=hlim;⟨mc,nsK h1,h2⟩⟩
  have e0:QdV P w K mg (QeD s₁.heap H) callerA [] s₁ H:=⟨rfl,hM,λb o e=>Qp9 e,Nat.le_of_eq (QnO _ _),trivial,λb hb=>absurd (show b∈([]:List Addr)from hb) (by simp),hok,.of_eq hg⟩
  refine codeAny_mono ((F _ hKb (nsK hns)).run callerA [] s₁ H ⟨[.ref a],[]⟩ [.ref a] [.ref a] _ _ hr e0 (hbind s₁ (.ref a)) (.cons rfl .nil) (hsp H hO hS)) λr s' h=>?_
  cases r with
  | error e=>exact(hCX H e s' h).elim
  | ok fl=>
   cases fl with
   | next=>exact False.elim h
   | brk=>exact False.elim h
   | cont=>exact False.elim h
   | ret u=>
    obtain⟨v,H',os,bare,un,hok',r',q⟩:=h
    have q':v= .bl true:=q
    subst q'
    obtain rfl:u=Value.bool true:=r'
    refine⟨rfl,OldK.of_keep λb o e=>?_,os,bare⟩
    cases q:H b with
    | none=>exact un.keep b o e q (by intro z;exact absurd (show b∈([]:List Addr)from z) (by simp)) (by simp)
    | some u=>
     rcases hO b with z | ⟨ob,xs,z⟩
     ·rw[q]at z;cases z
     ·have z2:=un.frzs b ob _ z
      obtain⟨e1,_⟩:=hok b _ z
      obtain⟨e2,_⟩:=hok' b _ z2
      rw[e]at e1;cases e1
      exact e2
 cases hk:K.lookup a with
 | some o=>
  have e:=KX a o hk
  rw[ha]at e
  cases e
  refine core (λ_=>none) (λ_=> .inl rfl) (.inr ⟨_,vs.toArray,_,hk,rfl,rfl,rfl,by rw[Zs,lenV];exact hl,by simpa using rv⟩) (λb u z=>by have z':(none:Option HO)=some u:=z;cases z') (λb z=>absurd rfl z) λz=>absurd rfl z
 | none=>
  refine core (λb=>if b=a then some (.frz {cls:= .type "list",data:= .seq vs.toArray} (.lst (ns.map V.int)))else none) (λb=>?_) (.inl (.inr ⟨{cls:= .type "list",data:= .seq vs.toArray},if_pos rfl⟩)) (λb u z=>?_) (λb z=>?_) λ_=>hk
  ·by_cases hb:b=a
   ·exact .inr ⟨_,_,if_pos hb⟩
   ·exact .inl (if_neg hb)
  ·by_cases hb:b=a
   ·have z':=(if_pos hb).symm.trans z
    cases z'
    subst hb
    exact⟨ha,by rw[Zi];exact hl,vs,_,rv,ha⟩
   ·have z':=(if_neg hb).symm.trans z
    cases z'
  ·by_cases hb:b=a
   ·exact hb
   ·exact absurd (if_neg hb) z
end L2
namespace L2
open PySem PySem.Spec PyProof.Rows
noncomputable abbrev KOf{K:PySem.W.Frag}{h:Heap}(_:K.In h):PySem.W.Frag:=K
theorem Qu3{l:PySem.W.OpenLaw}{n k:Nat}{q:Program}{loose:List Str}{XP:(Str->Option Value)->Heap->Prop}{YP:World->Heap->Prop}{d:DefRec}{K:Params->PySem.W.Frag}{CX:World->CXT}{sp:World->Sp}{x:Str}
  (hn:l.most=some n) (hn2:n<=sizeLine) (hdf:d.params.defaults=[]) (hr:Q4 k callerA)
  (hY:∀(w:World) (h:Heap),YP w h->(K w.params).In h)
  (F:∀(w:World) (mg:Str->Option Value) (fa:Addr) (h:Heap),(K w.params).In h->h.Ns mainGlobals mg->mg d.name=some (.ref fa)→
   ∃fd:FuncData,(∀(s:Shared) (u:Value),BindsTo s fd ⟨[u],[]⟩ [(x,u)])∧
    ∀base:Heap,(K w.params).In base->base.Ns mainGlobals mg->Qbe l.prog w (K w.params) mg base (CX w) k fa fd [x] (sp w))
  (hsp:∀(w:World) (H:Hp) (a:Addr) (ns:List Int),ns.length<=n->Qov H->SqL (K w.params) H a (ns.map V.int)->sp w [.ref a] H (λv _=>v= .bl true) λ_ _ _=>False)
  (hCX:∀(w:World) (H:Hp) (s:Shared) (e:Value) (s':Shared),CX w [] H s (λ_ _ _=>False) e s'->False):
  PySem.W.WalkO q loose XP YP l.row.toRowW d [] (λf vs=>PySem.call f vs):=by
 refine Att.Qf0 hn hdf λw s₀ s₁ mg mb fa o pm cd doc a vs ns G Y ho hd hcd hmg hobj hints hlen hg=>?_
 have KX:=hY w _ Y
 obtain⟨fd,hb,hF⟩:=F w mg fa _ KX G.T.g hmg
 exact QjB KX G.T.g G.T.b G.T.builtins G.T.nolimit hg hobj hints (ZH hlen hn2) hr hF hb (λH hO hS=>hsp w H a ns hlen hO hS) λH e s'=>hCX w H s₁ e s'
end L2
namespace L2
open PySem PySem.Spec PyProof.Rows
noncomputable def Qdo(s:Stmt):Arguments:=match s with
 | .FunctionDef _ a _ _ _ _ _ _ _ _=>a
 | _=>{posonlyargs:=[],args:=[],vararg:=none,kwonlyargs:=[],kw_defaults:=[],kwarg:=none,defaults:=[]}
noncomputable def Qbd(s:Stmt):List Stmt:=match s with
 | .FunctionDef _ _ b _ _ _ _ _ _ _=>b
 | _=>[]
noncomputable def Qo(s:Stmt):Scope:=match s with
 | .FunctionDef _ _ _ _ _ _ sc _ _ _=>sc
 | _=>{kind:= .function,names:=[],isGenerator:=false,isCoroutine:=false}
noncomputable abbrev CX0:CXT:=λ_ _ _ _ _ _=>False
noncomputable abbrev E0:XK:=λ_ _ _=>False
theorem QpI{X:Cx}:QgO CX0 X E0:=λ_ _ _ _ _ _ _ h=>h.elim
structure Fun (K:PySem.W.Frag) (x qual:Str) (st:Stmt) (f:Addr) (fd:FuncData):Prop where
 ex:∃(oc:Value) (od:Option Addr) (kV doc pm:Value) (an:Option Addr) (cdv ct:Value) (osl:Array (Option Value)),
  fd=PySem.W.fnOf x qual (Qdo st) (Qbd st) (Qo st) .none kV doc pm an cdv ct/\K.lookup f=some ⟨oc,od,.func fd,osl⟩/\PySem.W.codeIn K cdv qual=true
 kp:PySem.W.keepIn K (.ref f)=true
section
variable {P:Program}{w:World}{K:PySem.W.Frag}{mg:Str->Option Value}{base:Heap}
theorem Fun.ok{x qual:Str}{st:Stmt}{f:Addr}{fd:FuncData}{N ps:List Str}{k:Nat}{sp:Sp}(F:Fun K x qual st f fd)(S:QbY N ps (Qo st))(len:∀vs H Q E,sp vs H Q E->vs.length=ps.length)
  (hbody:∀(cdv:Value) (A:Around) (outer:List Env) (s:Shared) (H:Hp) (vs:List V) (Q:VK) (E:XK),Q4 k (A.deeper (envOfC qual (Qo st) s.heap.objs.size f cdv))->sp vs H Q E→
   ∃t,PSs (QeZ CX0 P w K mg base N qual (Qo st) f cdv A outer s H E).nox (Qbd st) t/\t {nx:=λ_ H'=>Q .non H',rt:=Q} (start N vs) H):Qbe P w K mg base CX0 (k+1) f fd ps sp:=by
 obtain⟨oc,od,kV,doc,pm,an,cdv,ct,osl,rfl,lk,hcd⟩:=F.ex
 refine QtZ lk hcd S len λA outer s H vs Q E hr hsp=>?_
 obtain⟨t,h,q⟩:=hbody cdv A outer s H vs Q E hr hsp
 exact⟨t,h.nox,q⟩
theorem Fun.binds{x qual:Str}{st:Stmt}{f:Addr}{fd:FuncData}{ps:List Str}(F:Fun K x qual st f fd)
  (h:∀(kV doc pm:Value) (an:Option Addr) (cdv ct:Value) (us:List Value),us.length=ps.length->bindArgs (PySem.W.fnOf x qual (Qdo st) (Qbd st) (Qo st) .none kV doc pm an cdv ct) ⟨us,[]⟩=pure (ps.zip us)):Binds K fd ps []:=by
 obtain⟨oc,od,kV,doc,pm,an,cdv,ct,osl,rfl,lk,hcd⟩:=F.ex
 exact .all (h kV doc pm an cdv ct)
theorem QsK{x qual:Str}{st:Stmt}{f:Addr}{oc:Value}{od an:Option Addr}{osl:Array (Option Value)}{kV doc pm cdv ct:Value}(l:K.lookup f=some ⟨oc,od,.func (PySem.W.fnOf x qual (Qdo st) (Qbd st) (Qo st) .none kV doc pm an cdv ct),osl⟩)
  (c:PySem.W.codeIn K cdv qual=true) (k:PySem.W.keepIn K (.ref f)=true):Fun K x qual st f (PySem.W.fnOf x qual (Qdo st) (Qbd st) (Qo st) .none kV doc pm an cdv ct):=⟨⟨oc,od,kV,doc,pm,an,cdv,ct,osl,rfl,l,c⟩,k⟩
end
section
variable {X:Cx}
theorem pv(i:Nat){x:Str}{pos:Pos}(hN:X.N[i]? =some x:=by rfl)(hv:Vis X.env.scope x:=by first | exact Or.inl rfl | exact Or.inr (Or.inl rfl) | exact Or.inr (Or.inr rfl))(hd:(x == ("__debug__" :Str))=false:=by decide)
  (hcd:(x == ("__classdict__" :Str))=false:=by decide):PE X (.Name x pos) (QjT i):=QmR hN hv hd hcd
end
theorem QsA{A B:Prop}(h:B):if false=true then A else B:=by
 rw[if_neg Zav]
 exact h
theorem QrQ{A B:Prop}(h:A):if true=true then A else B:=by
 rw[if_pos rfl]
 exact h
def Qz(H H':Hp):Prop:=∀b o,H b=some o->H' b=some o
theorem Qz.refl(H:Hp):Qz H H:=λ_ _ h=>h
theorem Qz.trans{H H1 H2:Hp}(a:Qz H H1)(b:Qz H1 H2):Qz H H2:=λc o h=>b c o (a c o h)
theorem Qz.free{H H':Hp}(e:Qz H H'){l:Addr}(h:H' l=Option.none):H l=Option.none:=by
 cases q:H l with
 | none=>rfl
 | some o=>
  rw[e l o q]at h
  cases h
theorem Qz.seq{K:PySem.W.Frag}{H H':Hp}{a:Addr}{xs:List V}(e:Qz H H')(h:SqL K H a xs):SqL K H' a xs:=by
 rcases h with(h | ⟨o,h⟩) | h
 ·exact .inl (.inl (e _ _ h))
 ·exact .inl (.inr ⟨o,e _ _ h⟩)
 ·exact .inr h
end L2
namespace L2
open PySem PySem.Spec PyProof.Rows
theorem QhE(env:Env)(body:Str×NameKind->List (Str×Addr)->Sem (ForInStep (List (Str×Addr))))
  (hb:∀n k cs,body (n,k) cs=if(k == NameKind.free)=true then(do let c ← cellOf env n;pure (ForInStep.yield ((n,c)::cs)))else pure (ForInStep.yield cs)):
  ∀(names:List (Str×NameKind)) (acc:List (Str×Addr)),(∀y∈names,y.2= .free->∃c,env.cells.lookup y.1=some c)->(∀x c,acc.lookup x=some c->env.cells.lookup x=some c)→
   ∃cl,forIn names acc body=(pure cl:Sem _)/\(∀x c,cl.lookup x=some c->env.cells.lookup x=some c)/\(∀x,acc.lookup x≠none->cl.lookup x≠none)/\∀y∈names,y.2= .free->cl.lookup y.1≠none
 | [],acc,_,ha=>⟨acc,rfl,ha,λ_ h=>h,λy hy=>by simp at hy⟩
 | (n,k)::r,acc,hn,ha=>by
  rw[List.forIn_cons,hb]
  have hr:∀y∈r,y.2= .free->∃c,env.cells.lookup y.1=some c:=λy hy=>hn y (Zc _ hy)
  by_cases hk:k= .free
  ·subst hk
   obtain⟨c,hc⟩:=hn (n,.free) Zj rfl
   have hce:cellOf env n=pure c:=by unfold cellOf;rw[show env.cells.lookup n=some c from hc]
   rw[if_pos (by rfl),hce]
   obtain⟨cl,e,h1,h2,h3⟩:=QhE env body hb r ((n,c)::acc) hr (λx c' e=>by
    rw[Zw]at e
    cases q:x == n with
    | true=>rw[q]at e;cases e;rw[beq_iff_eq]at q;rw[q];exact hc
    | false=>rw[q]at e;exact ha x c' e)
   have hcons:∀x,((n,c)::acc).lookup x≠none->cl.lookup x≠none:=h2
   refine⟨cl,by simpa using e,h1,λx hx=>hcons x ?_,λy hy hf=>?_⟩
   ·rw[Zw];cases x == n with
    | true=>simp
    | false=>exact hx
   ·rcases Zl.mp hy with rfl | hy
    ·exact hcons _ (by simp[Zw])
    ·exact h3 y hy hf
  ·rw[if_neg (by simpa using hk)]
   obtain⟨cl,e,h1,h2,h3⟩:=QhE env body hb r acc hr ha
   refine⟨cl,by simpa using e,h1,h2,λy hy hf=>?_⟩
   rcases Zl.mp hy with rfl | hy
   ·exact absurd hf hk
   ·exact h3 y hy hf
theorem Qp1(h:∀y∈scope.names,y.2= .free->∃c,env.cells.lookup y.1=some c):
  ∃cl,closureFor scope env=pure cl/\(∀x c,cl.lookup x=some c->env.cells.lookup x=some c)/\∀y∈scope.names,y.2= .free->∃c,cl.lookup y.1=some c:=by
 unfold closureFor
 obtain⟨cl,e,h1,_,h3⟩:=QhE env (λx cs=>match x with | (name,kind)=>if(kind == NameKind.free)=true then(do let c ← cellOf env name;pure (ForInStep.yield ((name,c)::cs)))else pure (ForInStep.yield cs)) (λ_ _ _=>rfl) scope.names [] h (λx c e=>by simp at e)
 refine⟨cl,?_,h1,λy hy hf=>Option.ne_none_iff_exists'.mp (h3 y hy hf)⟩
 show(forIn scope.names [] _ >>= λr=>pure r)=_
 rw[e];rfl
noncomputable def cxc(X:Cx)(N':List Str)(scope:Scope)(cl:List (Str×Addr))(C:Addr)(fp:List Addr)(s3:Shared)(H3:Hp):Cx:=
 {X with N:=N',s₀:=s3,H₀:=H3,env:=compEnvC scope cl C X.env,outer:=X.stack,ex:=fp,fn:=λx=>decide (scope.names.lookup x=some .cell),pn:=[],xe:=λ_ _=>False}
def PTs(X:Cx)(ifs:List Expr)(t:TT):Prop:=
 ∀(pins:List (Addr×Obj)) (s:Shared) (σ:St) (H:Hp) (Q:Bool->Hp->Prop),Inv X pins σ H s->t σ H Q→
  wpAny (model X.prog X.w) X.A (forIn ifs true λc r=>if r=true then do let ok ← isTrue c X.env (eval c X.env);pure (ForInStep.yield ok)else pure (ForInStep.yield r)) (TP X pins σ Q) X.xe s
noncomputable def Quo:TT:=λ_ H Q=>Q true H
theorem QpY:PTs X [] Quo:=λ_ _ _ H _ I h=>wpAny_tests_nil ⟨H,I,h⟩
theorem Qqn(h:PT X c t):PTs X [c] t:=λpins s σ H Q I q=>wpAny_tests_one (h pins s σ H Q I q)
def QgF(X:Cx)(N':List Str)(scope:Scope)(σ σ':St):Prop:=
 σ'.length=N'.length/\∀(j:Nat) (x:Str) (v:V),N'[j]? =some x->σ'[j]? =some (some v)->scope.names.lookup x=some .free/\∃i:Nat,X.N[i]? =some x/\σ[i]? =some (some v)/\(X.env.kindOf x=some .cell∨X.env.kindOf x=some .free)
noncomputable def QiM(wi:TI)(cap:St->St->Prop)(g:TG)(tc:TT)(te:TE):TE:=λσ H Q=>wi σ H λJ H1=>∃σc,cap σ σc/\∀D,H1 D=none->∃W:Nat->Nat->List V->Hp->Prop,
 (∃m,W 0 m [] (upd H1 D (.lst [])))/\∀i m acc H2,W i m acc H2->(J.stop i H2/\Q (.ref D) H2)∨
  (J.go i H2/\∀x H3,J.yld i H2 x H3->g x σc H3 λσ2 H4=>(∀(j:Nat) v,σc[j]? =some (some v)->σ2[j]? =some (some v))/\tc σ2 H4 λb H5=>if b=true then
   te σ2 H5 λy H6=>H6 D=some (.lst acc)/\acc.length<sizeLine/\∃m',m'<m/\W (i+1) m' (acc++[y]) (upd H6 D (.lst (acc++[y])))
   else ∃m',m'<m/\W (i+1) m' acc H5)
theorem QbG{env:Env}:∀{names:List (Str×NameKind)}{x:Str},names.lookup x=some .free→
  (names.map λ(n,k)=>if(k == NameKind.free && env.scope.kind == .function && env.kindOf n == some .cell)then(n,NameKind.cell)else(n,k)).lookup x=some .cell∨
  (names.map λ(n,k)=>if(k == NameKind.free && env.scope.kind == .function && env.kindOf n == some .cell)then(n,NameKind.cell)else(n,k)).lookup x=some .free
 | [],_,h=>by simp at h
 | (n,k)::r,x,h=>by
  have ih:= @QbG env r x
  rw[Zu]
  cases hx:x == n with
  | true=>
   simp only[Zw,hx]at h
   cases h
   dsimp only
   split
   ·left;simp[Zw,hx]
   ·right;simp[Zw,hx]
  | false=>
   simp only[Zw,hx]at h
   dsimp only
   split
   ·simp only[Zw,hx];exact ih h
   ·simp only[Zw,hx];exact ih h
theorem Qc1{env:Env}:∀{names:List (Str×NameKind)}{x:Str},
  ((names.map λ(n,k)=>if(k == NameKind.free && env.scope.kind == .function && env.kindOf n == some .cell)then(n,NameKind.cell)else(n,k)).lookup x=some .cell∨
  (names.map λ(n,k)=>if(k == NameKind.free && env.scope.kind == .function && env.kindOf n == some .cell)then(n,NameKind.cell)else(n,k)).lookup x=some .free)→
  ∃k,(x,k)∈names/\(k= .free∨k= .cell)
 | [],_,h=>by simp at h
 | (n,k)::r,x,h=>by
  have ih:= @Qc1 env r x
  rw[Zu]at h
  cases hx:x == n with
  | true=>
   have hn:x=n:=by simpa using hx
   subst hn
   dsimp only at h
   split at h
   ·rename_i hc
    simp only[Zk]at hc
    refine⟨k,Zj,.inl (by simpa using hc.1.1)⟩
   ·simp only[Zw,hx]at h
    refine⟨k,Zj,?_⟩
    rcases h with h | h
    ·exact .inr (Option.some.inj h)
    ·exact .inl (Option.some.inj h)
  | false=>
   dsimp only at h
   have:∃k,(x,k)∈r/\(k= .free∨k= .cell):=by
    apply ih
    split at h
    ·simpa only[Zw,hx]using h
    ·simpa only[Zw,hx]using h
   obtain⟨k',h1,h2⟩:=this
   exact⟨k',Zc _ h1,h2⟩
theorem Qep:∀(names:List (Str×NameKind)) (n:Nat) (acc:List (Str×Addr)) (x:Str) (c:Addr),(cellsFrom n names acc).lookup x=some c->acc.lookup x=some c∨(n<=c/\(x,NameKind.cell)∈names)
 | [],_,_,_,_,h=> .inl h
 | (nm,k)::r,n,acc,x,c,h=>by
  unfold cellsFrom at h
  split at h
  ·rename_i hk
   have hk:k= .cell:=by simpa using hk
   rcases Qep r (n+1) ((nm,n)::acc) x c h with h | ⟨h1,h2⟩
   ·rw[Zw]at h
    cases q:x == nm with
    | true=>
     rw[q]at h
     cases h
     have:x=nm:=by simpa using q
     exact .inr ⟨Zp _,by rw[this,hk];exact Zj⟩
    | false=>rw[q]at h;exact .inl h
   ·exact .inr ⟨by omega,Zc _ h2⟩
  ·rcases Qep r n acc x c h with h | ⟨h1,h2⟩
   ·exact .inl h
   ·exact .inr ⟨h1,Zc _ h2⟩
theorem Qkj:∀(names:List (Str×NameKind)) (n:Nat) (acc:List (Str×Addr)) (x:Str) (c:Addr),(x,NameKind.cell)∈names->(cellsFrom n names acc).lookup x=some c->n<=c
 | (nm,k)::r,n,acc,x,c,hm,h=>by
  unfold cellsFrom at h
  split at h
  ·by_cases hr:(x,NameKind.cell)∈r
   ·have:=Qkj r (n+1) _ x c hr h
    omega
   ·have hx:x=nm:=by
     rcases Zl.mp hm with e | e
     ·exact(Prod.mk.inj e).1
     ·exact absurd e hr
    rcases Qep r (n+1) ((nm,n)::acc) x c h with h | ⟨h1,_⟩
    ·rw[Zw,show(x == nm)=true by simpa using hx]at h
     cases h
     exact Zp _
    ·omega
  ·rename_i hk
   rcases Zl.mp hm with e | e
   ·exact absurd (by rw[← (Prod.mk.inj e).2];rfl) hk
   ·exact Qkj r n acc x c e h
theorem QkA:∀(names:List (Str×NameKind)) (n:Nat) (acc:List (Str×Addr)),(∀x y c,acc.lookup x=some c->acc.lookup y=some c->x=y)->(∀x c,acc.lookup x=some c->c<n)→
  ∀x y c,(cellsFrom n names acc).lookup x=some c->(cellsFrom n names acc).lookup y=some c->x=y
 | [],_,_,hi,_,x,y,c,h1,h2=>hi x y c h1 h2
 | (nm,k)::r,n,acc,hi,hb,x,y,c,h1,h2=>by
  unfold cellsFrom at h1 h2
  split at h1
  ·rename_i hk
   rw[if_pos hk]at h2
   refine QkA r (n+1) ((nm,n)::acc) (λx y c h1 h2=>?_) (λx c h=>?_) x y c h1 h2
   ·rw[Zw]at h1 h2
    cases qx:x == nm with
    | true=>
     rw[qx]at h1
     cases h1
     cases qy:y == nm with
     | true=>rw[show x=nm by simpa using qx,show y=nm by simpa using qy]
     | false=>rw[qy]at h2;exact absurd (hb y _ h2) (ZR _)
    | false=>
     rw[qx]at h1
     cases qy:y == nm with
     | true=>rw[qy]at h2;cases h2;exact absurd (hb x _ h1) (ZR _)
     | false=>rw[qy]at h2;exact hi x y c h1 h2
   ·rw[Zw]at h
    cases qx:x == nm with
    | true=>rw[qx]at h;cases h;exact ZaB _
    | false=>rw[qx]at h;exact Zad (hb x c h)
  ·rename_i hk
   rw[if_neg hk]at h2
   exact QkA r n acc hi hb x y c h1 h2
theorem Qem:∀(names:List (Str×NameKind)) (n:Nat) (acc:List (Str×Addr)) (x:Str),(∃c,acc.lookup x=some c)->∃c,(cellsFrom n names acc).lookup x=some c
 | [],_,_,_,h=>h
 | (nm,k)::r,n,acc,x,h=>by
  unfold cellsFrom
  split
  ·refine Qem r (n+1) _ x ?_
   rw[Zw]
   cases x == nm with
   | true=>exact⟨n,rfl⟩
   | false=>exact h
  ·exact Qem r n acc x h
theorem Qjd:∀(names:List (Str×NameKind)) (n:Nat) (acc:List (Str×Addr)) (x:Str),(x,NameKind.cell)∈names->∃c,(cellsFrom n names acc).lookup x=some c
 | (nm,k)::r,n,acc,x,hm=>by
  unfold cellsFrom
  rcases Zl.mp hm with e | e
  ·obtain⟨e1,e2⟩:=Prod.mk.inj e
   subst e1
   rw[← e2,if_pos (by rfl)]
   exact Qem r (n+1) _ x ⟨n,by simp[Zw]⟩
  ·split
   ·exact Qjd r (n+1) _ x e
   ·exact Qjd r n acc x e
theorem Qhv(lo:Nat):∀(names:List (Str×NameKind)) (h:Heap) (acc:List (Str×Addr)),(∀x c,acc.lookup x=some c->lo<=c->h.IsCell c none)->lo<=h.objs.size→
  ∀x c,(cellsFrom h.objs.size names acc).lookup x=some c->lo<=c->(pushCells h names).IsCell c none
 | [],_,_,ha,_,x,c,e,hl=>ha x c e hl
 | (nm,k)::r,h,acc,ha,hlo,x,c,e,hl=>by
  unfold cellsFrom at e
  unfold pushCells
  split at e
  ·rename_i hk
   rw[if_pos hk]
   have hs:=Zaf h {cls:= .type "cell",data:= .cell none}
   refine Qhv lo r (h.push {cls:= .type "cell",data:= .cell none}) ((nm,h.objs.size)::acc) (λx c e hl=>?_) (by rw[hs];omega) x c (by rw[hs];exact e) hl
   rw[Zw]at e
   cases q:x == nm with
   | true=>rw[q]at e;cases e;exact⟨_,Zx _ rfl,rfl⟩
   | false=>rw[q]at e;exact(ha x c e hl).keeps λb o e=>Zf _ e
  ·rename_i hk
   rw[if_neg hk]
   exact Qhv lo r h acc ha hlo x c e hl
theorem Qmg
  (hQ:∀h':Heap,h'.Ns s.heap.objs.size (λ_=>none)->(∀b o,s.heap.get? b=some o->h'.get? b=some o)->((∀x c,cl.lookup x=some c->c<s.heap.objs.size)->∀x c,(cellsFrom (s.heap.objs.size+1) scope.names cl).lookup x=some c->s.heap.objs.size+1<=c->h'.IsCell c none)→
   Q (newEnv scope s.heap.objs.size globals (cellsFrom (s.heap.objs.size+1) scope.names cl) qual none .none (some env) builtins) {s with heap:=h'}):
  wpAny M A (newFunctionEnv scope globals cl [] qual none .none (some env) builtins) Q E s:=by
 simp only[newFunctionEnv,Option.isSome_some,if_true]
 refine wpAny_bind (wpAny_alloc ?_)
 refine wpAny_bind (wpAny_layCells _ (λname kind cells=>by cases hkc:kind == NameKind.cell<;>simp[hkc]) _ _ _ _ ?_)
 have hs:=Zaf s.heap {cls:= .type "dict",data:= .dict #[]}
 rw[show({s with heap:=s.heap.push {cls:= .type "dict",data:= .dict #[]}}:Shared).heap.objs.size=s.heap.objs.size+1 from hs]
 refine wpAny_bind (wpAny_pure (wpAny_pure ?_))
 refine hQ _ ((Heap.Ns.new s.heap (.type "dict")).keeps (pushCells_keeps _ _)) (λb o e=>pushCells_keeps _ _ b o (Zf _ e)) λhb x c e hl=>?_
 refine Qhv (s.heap.objs.size+1) scope.names (s.heap.push {cls:= .type "dict",data:= .dict #[]}) cl (λx c e hl=>?_) (by rw[hs];exact Zp _) x c (by rw[hs];exact e) hl
 exact absurd (ZC (hb x c e) (ZH (ZaA _) hl)) (ZR _)
section
variable {X:Cx}{tg iter elt:Expr}{ifs:List Expr}{scope:Scope}{N':List Str}{pos:Pos}
structure Qc0 (X:Cx) (N':List Str) (scope:Scope):Prop where
 kind:scope.kind= .function
 own:∀y∈scope.names,y.2= .cell->scope.names.lookup y.1=some .cell
 loc:∀y∈scope.names,y.2= .local ->scope.names.lookup y.1=some .local
 free:∀y∈scope.names,y.2= .free->X.env.kindOf y.1=some .cell∨X.env.kindOf y.1=some .free
theorem QoJ{pins:List (Addr×Obj)}{σ σc:St}{H3:Hp}{s3:Shared}{fp:List Addr}{cl:List (Str×Addr)}{h':Heap}{tk:Nat}(S:Qc0 X N' scope)(I:Inv X pins σ H3 s3)
  (hf:∀b∈fp,Qcy X pins H3 b) (hfl:∀b∈fp,b<s3.heap.objs.size) (hc1:∀x c,cl.lookup x=some c->X.env.cells.lookup x=some c) (hc2:∀y∈scope.names,y.2= .free->∃c,cl.lookup y.1=some c) (cap:QgF X N' scope σ σc)
  (hns:h'.Ns s3.heap.objs.size (λ_=>none)) (hk:∀b o,s3.heap.get? b=some o->h'.get? b=some o)
  (hown:(∀x c,cl.lookup x=some c->c<s3.heap.objs.size)->∀x c,(cellsFrom (s3.heap.objs.size+1) scope.names cl).lookup x=some c->s3.heap.objs.size+1<=c->h'.IsCell c none):
  Inv (cxc X N' scope (cellsFrom (s3.heap.objs.size+1) scope.names cl) s3.heap.objs.size fp s3 H3) [] σc H3 {s3 with heap:=h',toks:=tk}:=by
 have nold:∀b,b∈fp->b≠s3.heap.objs.size:=λb hb e=>absurd (hfl b hb) (by rw[e];exact ZR _)
 have cellOld:∀x c,cl.lookup x=some c->∃v,s3.heap.IsCell c v:=λx c e=>I.cell x c (hc1 x c e)
 have cellLt:∀x c,cl.lookup x=some c->c<s3.heap.objs.size:=λx c e=>let ⟨v,q⟩:=cellOld x c e;q.lt
 have cellNew:∀c v,s3.heap.IsCell c v->h'.IsCell c v:=λc v ⟨o,ho,hd⟩=>⟨o,hk c o ho,hd⟩
 have hown:=hown cellLt
 have look:∀x c,(cellsFrom (s3.heap.objs.size+1) scope.names cl).lookup x=some c->cl.lookup x=some c∨(s3.heap.objs.size+1<=c/\(x,NameKind.cell)∈scope.names):=Qep scope.names _ cl
 refine⟨⟨I.ok.mod,S.kind,I.ok.glob,I.ok.blt,Zp _,QkA scope.names _ cl (λx y c h1 h2=>I.ok.inj x y c (hc1 x c h1) (hc1 y c h2)) (λx c e=>Zad (cellLt x c e)),λx hx=>?_,λx c e1 e2=>?_,I.ok.hd,I.ok.frames,.inl rfl,λb hb=>⟨nold b hb,λx c e=>?_⟩,
  I.bs,ZH I.ok.bsz I.sz,λb o e hb=>?_,λb hb hs=>?_,I.stack,I.Qlg⟩,rfl,I.bare,Un.kept hk,⟨_,hns,λj x v h1 h2 h3=>?_⟩,λx c e=>?_,I.hok.fresh (Zp _),λx c e=>?_,λp hp=>absurd (show p∈([]:List (Addr×Obj))from hp) (by simp),I.hok.kept hk,cap.1⟩
 ·obtain⟨k,hm,hk'⟩:=Qc1 hx
  rcases hk' with rfl | rfl
  ·exact Qem scope.names _ cl x (hc2 _ hm rfl)
  ·exact Qjd scope.names _ cl x hm
 ·have e1:decide (scope.names.lookup x=some .cell)=true:=e1
  have:=Qkj scope.names _ cl x c (Zag (of_decide_eq_true e1)) e2
  exact ZH (ZaA _) this
 ·rcases look x c e with e | ⟨e,_⟩
  ·exact(hf b hb).2.2.2.2.1 x c (hc1 x c e)
  ·intro z
   rw[z]at e
   exact absurd (ZC (hfl b hb) (ZH (ZaA _) e)) (ZR _)
 ·rcases(hf b hb).2.2.2.1 with z | z
  ·exact I.ok.noex b o e z
  ·exact absurd (ZC (Zn e) (ZH I.ok.bsz z)) (ZR _)
 ·rcases Zl.mp (I.QgJ b hs)with e | z
  ·exact(hf b hb).2.1 e
  ·exact(hf b hb).2.2.1 z
 ·obtain⟨hl,i,e1,e2,e3⟩:=cap.2 j x v h1 h2
  obtain⟨m,hn,look'⟩:=I.loc
  obtain⟨u,r,l⟩:=look' i x v e1 e2 (e3.elim (λz=> .inr (.inl z)) λz=> .inr (.inr z))
  refine⟨u,r,.inr ⟨QbG hl,?_⟩⟩
  rcases l with⟨k,_⟩ | ⟨_,c,ec,hcell⟩
  ·rcases e3 with z | z<;>(rw[k]at z;cases z)
  ·obtain⟨c',ec'⟩:=Qem scope.names (s3.heap.objs.size+1) cl x (hc2 (x,.free) (Zag hl) rfl)
   rcases look x c' ec' with q | ⟨_,q⟩
   ·have:=hc1 x c' q
    rw[ec]at this;cases this
    exact⟨c,ec',cellNew c _ hcell⟩
   ·have:=S.own _ q rfl
    rw[hl]at this
    cases this
 ·rcases look x c e with q | ⟨q,_⟩
  ·obtain⟨v,q⟩:=cellOld x c q
   exact⟨v,cellNew c v q⟩
  ·exact⟨none,hown x c e q⟩
 ·rcases look x c e with q | ⟨q,_⟩
  ·exact I.freeC x c (hc1 x c q)
  ·exact I.hok.fresh (by omega)
theorem QnL(J:Nat->Shared->Prop)
  (turn:∀n s,J n s->wpAny (model prog w) A (pyNext it) (λr s1=>match r with
   | none=>R (.ok .next) s1
   | some v=>wpAny (model prog w) A (letOwnedTupleGo tg it v) (λ_ s2=>wpAny (model prog w) A (assign tg env v) (λ_ s3=>
     wpAny (model prog w) A (forIn ifs true λc r=>if r=true then do let ok ← isTrue c env (eval c env);pure (ForInStep.yield ok)else pure (ForInStep.yield r)) (λok s4=>
      if ok=true then wpAny (model prog w) A (eval elt env) (λx s5=>wpAny (model prog w) A (call (.builtin "list.append") [acc,x]) (λ_ s6=>∃m,m<n/\J m s6) (λ_ _=>False) s5) (λ_ _=>False) s4
      else ∃m,m<n/\J m s4) (λ_ _=>False) s3) (λ_ _=>False) s2) (λ_ _=>False) s1) (λ_ _=>False) s)
  (n:Nat) (h:J n s0):codeAny (model prog w) A (.compLoop (.ListComp elt [⟨tg,iter,ifs,0⟩] scope pos) 0 it acc env) R s0:=by
 have up:∀{α:Type}{t:Sem α}{Q:α->Shared->Prop}{E:Value->Shared->Prop}{s:Shared},wpAny (model prog w) A t Q (λ_ _=>False) s->wpAny (model prog w) A t Q E s:=λh=>wpAny_mono h (λ_ _ q=>q) λ_ _ f=>f.elim
 refine codeAny_loop (by rfl) J (λk sk hk=>?_) n h
 show wpAny (model prog w) A ((compTurn (.ListComp elt [⟨tg,iter,ifs,0⟩] scope pos) 0 it acc env).onRaise (λx=>do noteFrame x env;theTreesLotGoes x)) _ _ sk
 refine wpAny_noted (up ?_)
 rw[compTurn_list]
 refine wpAny_bind (wpAny_standAt (wpAny_bind (thn (turn k sk hk) λr s1 h1=>?_)))
 cases r with
 | none=>exact wpAny_pure h1
 | some v=>
  refine wpAny_bind (thn h1 λ_ s2 h2=>wpAny_bind (thn h2 λ_ s3 h3=>wpAny_bind (thn h3 λok s4 h4=>?_)))
  cases ok with
  | false=>exact wpAny_pure ⟨rfl,h4⟩
  | true=>exact wpAny_bind (wpAny_bind (thn h4 λx s5 h5=>wpAny_bind (thn h5 λ_ s6 h6=>wpAny_pure (wpAny_pure ⟨rfl,h6⟩))))
theorem Qo4{it D C:Addr}{fp:List Addr}{tn:Nat->Heap->Prop}{J:It}{cl:List (Str×Addr)}{s3 s4:Shared}{H3:Hp}{σc:St}{g:TG}{tc:TT}{te:TE}{Q:Hp->Prop}(hcalm:X.calm=true)
  (T:Turn X.prog X.w X.K tg J fp it tn)
  (hg:PG (cxc X N' scope cl C fp s3 H3) tg g) (ht:PTs (cxc X N' scope cl C fp s3 H3) ifs tc) (he:PE (cxc X N' scope cl C fp s3 H3) elt te)
  (I:Inv (cxc X N' scope cl C fp s3 H3) [] σc H3 s4) (st:tn 0 s4.heap) (ff:∀b∈fp,Qcy (cxc X N' scope cl C fp s3 H3) [] H3 b)
  (W:Nat->Nat->List V->Hp->Prop) (hw:∃m,W 0 m [] H3)
  (turn:∀i m acc H2,W i m acc H2->(J.stop i H2/\Q H2)∨
   (J.go i H2/\∀x H5,J.yld i H2 x H5->g x σc H5 λσ2 H6=>(∀(j:Nat) v,σc[j]? =some (some v)->σ2[j]? =some (some v))/\tc σ2 H6 λb H7=>if b=true then
    te σ2 H7 λy H8=>H8 D=some (.lst acc)/\acc.length<sizeLine/\∃m',m'<m/\W (i+1) m' (acc++[y]) (upd H8 D (.lst (acc++[y])))
    else ∃m',m'<m/\W (i+1) m' acc H7))
  {R:Result->Shared->Prop}(hR:∀H' s',Inv (cxc X N' scope cl C fp s3 H3) [] σc H' s'->Q H'->R (.ok .next) s'):
  codeAny (model X.prog X.w) X.A (.compStart (.ListComp elt [⟨tg,iter,ifs,0⟩] scope pos) 0 (.ref it) (.ref D) (compEnvC scope cl C X.env)) R s4:=by
 obtain⟨m0,w0⟩:=hw
 have stat:∀{H':Hp},(∀b∈fp,H' b=none)->∀b∈fp,Qcy (cxc X N' scope cl C fp s3 H3) [] H' b:=λhn b hb=>⟨hn b hb,(ff b hb).2⟩
 have loop:codeAny (model X.prog X.w) X.A (.compLoop (.ListComp elt [⟨tg,iter,ifs,0⟩] scope pos) 0 (.ref it) (.ref D) (compEnvC scope cl C X.env)) R s4:=by
  refine QnL (λn s'=>∃i acc H',Inv (cxc X N' scope cl C fp s3 H3) [] σc H' s'/\tn i s'.heap/\(∀b∈fp,H' b=none)/\W i n acc H') ?_ m0 ⟨0,[],H3,I,st,λb hb=>(ff b hb).1,w0⟩
  rintro n s5 ⟨i,acc,H5,I5,st5,fr5,w5⟩
  rcases turn i n acc H5 w5 with⟨stop,q⟩ | ⟨go,step⟩
  ·refine thn (T.done (cxc X N' scope cl C fp s3 H3) rfl rfl rfl hcalm i [] s5 σc H5 _ I5 (stat fr5) st5 stop) λr s6 hpt=>?_
   obtain⟨hr,I6⟩:=hpt
   subst hr
   exact hR H5 s6 I6 q
  ·refine thn (T.item (cxc X N' scope cl C fp s3 H3) rfl rfl rfl hcalm i [] s5 σc H5 _ I5 (stat fr5) st5 go) λr s6 hpt=>?_
   obtain⟨u,hr,h6⟩:=hpt
   subst hr
   refine thn h6 λ_ s7 hpt=>?_
   obtain⟨x,H7,I7,r7,y7,st7,fr7⟩:=hpt
   have I7':=I7.pinned (stat fr7) (T.obj _ _ st7)
   refine thn (hg _ s7 σc H7 x u _ I7' r7 (step x H7 y7)) λ_ s8=>exJ λσ8 H8 I8 k8 q8=>?_
   refine thn (ht _ s8 σ8 H8 _ I8 q8) λok s9 hpt=>?_
   obtain⟨H9,I9,q9⟩:=hpt
   have again:∀{H':Hp}{s':Shared}{acc':List V},Inv (cxc X N' scope cl C fp s3 H3) ([]++Qfi fp s7.heap) σ8 H' s'->(∃m',m'<n/\W (i+1) m' acc' H')→
     ∃m,m<n/\∃i acc H',Inv (cxc X N' scope cl C fp s3 H3) [] σc H' s'/\tn i s'.heap/\(∀b∈fp,H' b=none)/\W i m acc H':=λ{H' s' acc'} I' ⟨m',hm,w'⟩=>by
    have pin:∀b∈fp,∀o,s7.heap.get? b=some o->s'.heap.get? b=some o/\H' b=none:=λb hb o e=>by
     have z:=I'.pin (b,o) (Zd _ (Zd _ (Qet hb e)))
     exact⟨z.1,z.2.1⟩
    refine⟨m',hm,i+1,acc',H',?_,T.keep _ _ _ st7 λb hb o e=>(pin b hb o e).1,λb hb=>?_,w'⟩
    ·exact I'.Qes.weak (I.len.trans I8.len.symm) k8
    ·obtain⟨o,e,_⟩:=T.obj _ _ st7 b hb
     exact(pin b hb o e).2
   cases ok with
   | false=>
    rw[if_neg Zav]at q9 ⊢
    exact again I9 q9
   | true=>
    rw[if_pos rfl]at q9 ⊢
    refine thn (he _ s9 σ8 H9 _ I9 q9) λyv s10 hpt=>?_
    obtain⟨y,H10,I10,r10,e10,l10,q10⟩:=hpt
    refine thn (Qif _ s10 σ8 H10 (.ref D) [y] (.ref D) [yv] (λv H11=>H11=upd H10 D (.lst (acc++[y]))) I10 rfl (.cons r10 .nil) ⟨D,acc,y,rfl,rfl,e10,l10,rfl⟩) λ_ s11 hpt=>?_
    obtain⟨_,H11,I11,_,e11⟩:=hpt
    subst e11
    exact again I11 q10
 exact codeAny_compStart_list loop (T.self _ 0 _ _ _ st loop)
theorem Qjh{wi:TI}{g:TG}{tc:TT}{te:TE}{cp:Pos}{use:Option (Value->Sem Unit)}{pins:List (Addr×Obj)}{s:Shared}{σ:St}{H:Hp}{QV:Value->Shared->Prop}{Q:VK}(hcalm:X.calm=true)(S:Qc0 X N' scope)(hi:PI X tg iter wi)
  (hin:∀cl C fp s3 H3,PG (cxc X N' scope cl C fp s3 H3) tg g/\PTs (cxc X N' scope cl C fp s3 H3) ifs tc/\PE (cxc X N' scope cl C fp s3 H3) elt te)
  (hs:∀x,foldedSetIterable iter X.env x=pure x) (I:Inv X pins σ H s) (h:QiM wi (QgF X N' scope) g tc te σ H Q)
  (fin:∀(D C:Addr) (H':Hp) (s':Shared),Inv X pins σ H' s'->H' C=none->C≠X.env.locals->X.s₀.heap.objs.size<=C->(∀x c,X.env.cells.lookup x=some c->c≠C)->(∀p∈X.pn++pins,p.1≠C)->(∃m,s'.heap.Ns C m)->Q (.ref D) H'→
   compPost (model X.prog X.w) X.A X.xe use QV (.ref D) C (.ok .next) s'):
  wpAny (model X.prog X.w) X.A (comprehension (.ListComp elt [⟨tg,iter,ifs,0⟩] scope pos) scope X.env cp (newList []) false (eval iter X.env) use) QV X.xe s:=by
 obtain⟨cl,hcl,hc1,hc2⟩:=Qp1 λy hy hf=>I.ok.has y.1 (S.free y hy hf)
 refine wpAny_comprehension_free rfl hs hcl S.kind S.loc ?_
 refine thn (hi pins s σ H _ I h) λv s1 h1=>thn h1 λitv s2 h2=>?_
 obtain⟨it,fp,tn,J,H2,e,I2,T,st2,f2,σc,cap,hw⟩:=h2
 subst e
 have hD0:H2 s2.heap.objs.size=none:=I2.hok.fresh (Zp _)
 obtain⟨W,hW0,turn⟩:=hw _ hD0
 have fpl:∀b∈fp,b<s2.heap.objs.size:=λb hb=>let ⟨o,e,_⟩:=T.obj _ _ st2 b hb;Zn e
 have hlist:∀D:Addr,D=s2.heap.objs.size->∃x,x=D:=λD _=>⟨D,rfl⟩
 refine wpAny_newObj_type ?_
 have I3:Inv X pins σ (upd H2 s2.heap.objs.size (.lst [])) {s2 with heap:=s2.heap.push {cls:= .type "list",dict:=none,data:= .seq ([]:List Value).toArray}}:=
  I2.laid (t':=s2.toks) (λb o e=>Zf _ e) (Zp _) ⟨ZZ _,[],0,.nil,Zx _ rfl⟩
 generalize hs3:({s2 with heap:=s2.heap.push {cls:= .type "list",dict:=none,data:= .seq ([]:List Value).toArray}}:Shared)=s3 at I3
 have hs3':s3.heap=s2.heap.push {cls:= .type "list",dict:=none,data:= .seq ([]:List Value).toArray}:=by rw[← hs3]
 have sz3:s3.heap.objs.size=s2.heap.objs.size+1:=by rw[hs3',Zaf]
 have old3:∀b o,s2.heap.get? b=some o->s3.heap.get? b=some o:=λb o e=>by rw[hs3'];exact Zf _ e
 have f3:∀b∈fp,Qcy X pins (upd H2 s2.heap.objs.size (.lst [])) b:=λb hb=>⟨by rw[QD (ZE (fpl b hb))];exact(f2 b hb).1,(f2 b hb).2⟩
 have fpl3:∀b∈fp,b<s3.heap.objs.size:=λb hb=>by rw[sz3];exact Zad (fpl b hb)
 refine Qmg (λh4 hns4' keep4 hown4=>?_)
 have I4:=QoJ (tk:=s3.toks) S I3 f3 fpl3 hc1 hc2 cap hns4' keep4 hown4
 have hout:∀H' s',Inv (cxc X N' scope (cellsFrom (s3.heap.objs.size+1) scope.names cl) s3.heap.objs.size fp s3 (upd H2 s2.heap.objs.size (.lst []))) [] σc H' s'->Inv X pins σ H' s':=λH' s' J'=>
  I3.Qtt J'.os J'.base J'.hok J'.bare λb hb=>⟨(f3 b hb).2.2.2.1,(f3 b hb).2.1,(f3 b hb).2.2.2.2.1,(f3 b hb).2.2.2.2.2⟩
 obtain⟨hg,ht,he⟩:=hin (cellsFrom (s3.heap.objs.size+1) scope.names cl) s3.heap.objs.size fp s3 (upd H2 s2.heap.objs.size (.lst []))
 have fc:∀b∈fp,Qcy (cxc X N' scope (cellsFrom (s3.heap.objs.size+1) scope.names cl) s3.heap.objs.size fp s3 (upd H2 s2.heap.objs.size (.lst []))) [] (upd H2 s2.heap.objs.size (.lst [])) b:=λb hb=>
  ⟨(f3 b hb).1,ZE (fpl3 b hb),λhs'=>(Zl.mp (I3.QgJ b hs')).elim (f3 b hb).2.1 (f3 b hb).2.2.1,.inl hb,λx c e=>(by
   rcases Qep scope.names _ cl x c e with e | ⟨e,_⟩
   ·exact(f3 b hb).2.2.2.2.1 x c (hc1 x c e)
   ·intro z
    rw[z]at e
    exact absurd (ZC (fpl3 b hb) (ZH (ZaA _) e)) (ZR _)),λp hp=>absurd (show p∈([]:List (Addr×Obj))from hp) (by simp)⟩
 have hC1:s3.heap.objs.size≠X.env.locals:=Ne.symm (ZE I3.lt)
 refine Qo4 (W:=W) hcalm T hg ht he I4 (T.keep _ _ _ st2 λb hb o e=>keep4 b o (old3 b o e)) fc hW0 turn λH' s' J' q=>?_
 have O:=hout H' s' J'
 refine fin _ _ H' s' O J'.free hC1 (ZH I3.sz (Zp _)) (λx c e z=>?_) (λp hp z=>?_) (let ⟨m,hn,_⟩:=J'.loc;⟨m,hn⟩) q
 ·obtain⟨v,o,ho,_⟩:=I3.cell x c e
  exact absurd (Zn ho) (by rw[z];exact ZR _)
 ·exact absurd (Zn (I3.pin p hp).1) (by rw[z];exact ZR _)
theorem Inv.Qpv(I:Inv X pins σ H s)(hs:Heap.SameBut C s.heap h')(hn:H C=none)(hL:C≠X.env.locals)(h1:X.s₀.heap.objs.size<=C)
  (h2:∀x c,X.env.cells.lookup x=some c->c≠C) (h3:∀p∈X.pn++pins,p.1≠C):Inv X pins σ H {s with heap:=h'}:=
 I.turned (t':=s.toks) (λb o hb e=>(hs.2 b hb).trans e) hn hL (.inr h1) h2 h3
theorem Qlk(hcalm:X.calm=true)(S:Qc0 X N' scope)(hi:PI X tg iter wi)
  (hin:∀cl C fp s3 H3,PG (cxc X N' scope cl C fp s3 H3) tg g/\PTs (cxc X N' scope cl C fp s3 H3) ifs tc/\PE (cxc X N' scope cl C fp s3 H3) elt te)
  (hs:∀x,foldedSetIterable iter X.env x=pure x:=by intro _;rfl):PE X (.ListComp elt [⟨tg,iter,ifs,0⟩] scope pos) (QiM wi (QgF X N' scope) g tc te):=by
 intro pins s σ H Q I h
 rw[eval_ListComp]
 refine Qjh hcalm S hi hin hs I h λD C H' s' O h1 h2 h3 h4 h5 hpt q=>?_
 obtain⟨m,hm⟩:=hpt
 exact⟨m,hm,λh' hs'=>⟨.ref D,H',O.Qpv hs' h1 h2 h3 h4 h5,rfl,q⟩⟩
theorem QqG(hN:X.N.Nodup)(hx1:X.N[i]? =some x)(hx:Loc X.env.scope x)(hf:X.fn x=true∨X.env.scope.names.lookup x=some .local)(hcalm:X.calm=true)(S:Qc0 X N' scope)(hi:PI X tg iter wi)
  (hin:∀cl C fp s3 H3,PG (cxc X N' scope cl C fp s3 H3) tg g/\PTs (cxc X N' scope cl C fp s3 H3) ifs tc/\PE (cxc X N' scope cl C fp s3 H3) elt te)
  (hs:∀x,foldedSetIterable iter X.env x=pure x:=by intro _;rfl):
  PS X (.Assign [.Name x pos'] (.ListComp elt [⟨tg,iter,ifs,0⟩] scope pos) spos) (Qi7 (QiM wi (QgF X N' scope) g tc te) (QfB i)):=by
 have hb:∃b,swapsWith (.ListComp elt [⟨tg,iter,ifs,0⟩] scope pos) (some (.Name x pos')) spos.line X.env=pure b:=⟨_,rfl⟩
 obtain⟨b,hb⟩:=hb
 cases b with
 | false=>exact Qjt hN hx1 hx (Qlk hcalm S hi hin hs) hb hf
 | true=>
  intro pins s σ H D I h
  rw[exec_Assign_Name_used _ _ _ _ hb]
  refine wpAny_bind (wpAny_standAt (wpAny_bind ?_))
  show wpAny _ X.A (do let _ ← comprehension (.ListComp elt [⟨tg,iter,ifs,0⟩] scope pos) scope X.env _ (newList []) false (eval iter X.env) (some (assign (.Name x pos') X.env))) _ _ s
  refine wpAny_bind (thn (Qjh hcalm S hi hin hs I h λDl C H' s' O h1 h2 h3 h4 h5 ⟨m,hm⟩ q=>?_) λ_ s' hq=>wpAny_pure (wpAny_pure hq))
  refine wpAny_assign_Name (Qid O hN hx1 hx (v:= .ref Dl) rfl (λs2 I2 hsb=>?_) hf)
  obtain⟨a,sb,ha⟩:=hsb
  have haC:C≠a:=by
   rcases ha with rfl | ha
   ·exact h2
   ·exact Ne.symm (h4 _ _ ha)
  exact⟨m,hm.sameBut sb haC,λh' hs'=>⟨_,H',I2.Qpv hs' h1 h2 h3 h4 h5,q⟩⟩
end
end L2
namespace L2
open PySem PySem.Spec PyProof.Rows
section
theorem Inv.Qpy{t':Nat}{ch:List Addr}{T:Addr}{ts:List V}(I:Inv X pins σ H s)(hf:∀b∈ch,Qcy X pins H b)(k:∀b o,b∉ch->s.heap.get? b=some o->h'.get? b=some o)(hp:∀b∈ch,∃o,h'.get? b=some o)
  (hT:s.heap.objs.size<=T) (hnew:ts.length<=sizeLine/\∃its:List Value,Qn ts its/\IsTup h' T its.toArray):Inv X pins σ (upd H T (.tup ts)) {s with heap:=h',toks:=t'}:=by
 have hn:H T=none:=I.hok.fresh hT
 have neT:∀b u,H b=some u->b≠T:=λb u e=>QaT e hn
 have nch:∀b u,H b=some u->b∉ch:=λb u e hb=>by rw[(hf b hb).1]at e;cases e
 have ltT:∀b o,s.heap.get? b=some o->b≠T:=λb o e=>ZE (ZC (Zn e) hT)
 refine I.step (g':=s.gens) (d':=s.drawn) (ch:=ch) (λb hb=>?_) (λb o _ _ hc e _=>k b o hc e) (λb o _ _ hc e _=>⟨o.slots,k b o hc e⟩) (λb o _ e n=>by rw[QD (ltT b o e)];exact n)
  (λb o hc e=>⟨o,k b o hc e⟩) (λb xs e=>by rw[QD (neT b _ e)];exact e) (λb o u e=>by rw[QD (neT b _ e)];exact e) (λb ps e=>⟨#[],by rw[QD (neT b _ e),e];simp⟩) (λm hm=>?_) (λb u e=>?_) I.bare
 ·obtain⟨f0,f1,f2,f3,f4,f5⟩:=hf b hb
  exact⟨f3,f1,f4,f5⟩
 ·obtain⟨o,es,ep,ho,r⟩:=hm
  exact⟨o,es,ep,k _ o (λz=>(hf _ z).2.1 rfl) ho,r⟩
 ·by_cases hb:b=T
  ·subst hb
   rw[Qam]at e
   cases e
   exact hnew
  ·rw[QD hb]at e
   refine(I.hok b u e).Qd7 (λc v hc q=>k c v ?_ q) (λc q=>by rw[QD (neT c _ q)];exact q) λc xs q=>by rw[QD (neT c _ q)];exact q
   rcases hc with z | z
   ·rw[z];exact nch b u e
   ·exact nch c _ z
theorem Inv.turns{t':Nat}{ch:List Addr}(I:Inv X pins σ H s)(hf:∀b∈ch,Qcy X pins H b)(k:∀b o,b∉ch->s.heap.get? b=some o->h'.get? b=some o):Inv X pins σ H {s with heap:=h',toks:=t'}:=by
 have nch:∀b u,H b=some u->b∉ch:=λb u e hb=>by rw[(hf b hb).1]at e;cases e
 refine I.step (g':=s.gens) (d':=s.drawn) (ch:=ch) (λb hb=>?_) (λb o _ _ hc e _=>k b o hc e) (λb o _ _ hc e _=>⟨o.slots,k b o hc e⟩) (λb o _ e n=>n)
  (λb o hc e=>⟨o,k b o hc e⟩) (λb xs e=>e) (λb o u e=>e) (λb ps e=>⟨#[],by rw[e];simp⟩) (λm hm=>?_) (λb u e=>?_) I.bare
 ·obtain⟨f0,f1,f2,f3,f4,f5⟩:=hf b hb
  exact⟨f3,f1,f4,f5⟩
 ·obtain⟨o,es,ep,ho,r⟩:=hm
  exact⟨o,es,ep,k _ o (λz=>(hf _ z).2.1 rfl) ho,r⟩
 ·refine(I.hok b u e).Qd7 (λc v hc q=>k c v ?_ q) (λc q=>q) λc xs q=>q
  rcases hc with z | z
  ·rw[z];exact nch b u e
  ·exact nch c _ z
end
noncomputable def Ite(K:PySem.W.Frag)(a:Addr):It:=
 ⟨λi H=>∃xs x,SqL K H a xs/\xs[i]? =some x,λi H v H'=>∃p x,v= .ref p/\H p=none/\H'=upd H p (.tup [.int i,x])/\∀xs,SqL K H a xs->xs[i]? =some x,λi H=>∃xs,SqL K H a xs/\xs.length<=i⟩
theorem mm0{a:Addr}{l:List Addr}:a∈a::l:= .head _
theorem mm1{a b:Addr}{l:List Addr}:a∈b::a::l:= .tail _ mm0
theorem mm2{a b c:Addr}{l:List Addr}:a∈b::c::a::l:= .tail _ mm1
theorem mm3{a b c d:Addr}{l:List Addr}:a∈b::c::d::a::l:= .tail _ mm2
theorem mm4{a b c d e:Addr}{l:List Addr}:a∈b::c::d::e::a::l:= .tail _ mm3
theorem nmm{a b:Addr}{l:List Addr}(hb:b∉l)(ha:a∈l):b≠a:=λe=>hb (e▸ha)
theorem fa1{p:Addr->Prop}{a:Addr}{l:List Addr}(h:p a)(t:∀x∈l,p x):∀x∈a::l,p x:=List.forall_mem_cons.2 ⟨h,t⟩
def NL(h:Heap)(b:Addr):Prop:=∃o,h.get? b=some o/\o.cls≠ .type "list" /\∀v,o.data≠ .cell v
theorem NL.it{h:Heap}(q:h.IsListIter b l k):NL h b:=by
 obtain⟨o,ho,hc,hd⟩:=q
 exact⟨o,ho,by rw[hc];simp,λv z=>by rw[hd]at z;cases z⟩
theorem NL.zip(hz:IsZip h z T1 T2 x):NL h z:=⟨_,hz,by simp,λv z=>by cases z⟩
theorem NL.tup{h:Heap}(q:h.get? b=some {cls:= .type "tuple",data:= .seq a}):NL h b:=⟨_,q,by simp,λv z=>by cases z⟩
theorem NL.obj(n:NL h b):∃o,h.get? b=some o/\∀v,o.data≠ .cell v:=let ⟨o,e,_,v⟩:=n;⟨o,e,v⟩
theorem NL.ex(n:NL h b):∃o,h.get? b=some o:=let ⟨o,e,_⟩:=n;⟨o,e⟩
theorem NL.lt(n:NL h b):b<h.objs.size:=let ⟨_,e⟩:=n.ex;Zn e
theorem NL.apart{X:Cx}{H:Hp}{s:Shared}(n:NL s.heap b)(I:Inv X pins σ H s)(hn:H b=none)(hq:SqL X.K H l ys):l≠b:=λe=>by
 subst e
 rcases hq with(hq | ⟨_,hq⟩) | ⟨o',its,k,hk,hc',_⟩
 ·rw[hn]at hq;cases hq
 ·rw[hn]at hq;cases hq
 ·obtain⟨o,ho,hc,_⟩:=n
  rw[I.kIn l o' hk]at ho
  exact hc (Option.some.inj ho▸hc')
theorem QmU{P:Program}{w:World}{K:PySem.W.Frag}{es:List Expr}{tk:Nat}{tpos:Pos}(a e it:Addr)(hne:e≠it):Turn P w K (.Tuple es tk tpos) (Ite K a) [e,it] e (λi h=>∃old,IsEnum h e it (i:Int) old/\h.IsListIter it a i) where
 mem:=mm0
 obj:=λi h st b hb=>by
  obtain⟨old,he,hi⟩:=st
  exact(fa1 (p:=NL h) ⟨_,he,by simp,λv z=>by cases z⟩ (fa1 (.it hi) (List.forall_mem_nil _)) b hb).obj
 keep:=λi h h' st k=>by
  obtain⟨old,he,hi⟩:=st
  exact⟨old,k e mm0 _ he,hi.at (k it mm1)⟩
 item:=by
  intro X hP hw hK hc i pins s σ H E I hf st hg
  subst hP hw hK
  obtain⟨old,he,hi⟩:=st
  obtain⟨xs,x,hq,hx⟩:=hg
  obtain⟨its,rv,p,hz⟩:=I.list hq
  obtain⟨u,hu,ru⟩:=rv.get hx
  refine wpAny_pyNext_enum_item he hi p.isList (x:=u) (by simpa using hu) hne λh1 heo hi1 ht1 hz1 hk1=>?_
  refine⟨.ref s.heap.objs.size,rfl,wpAny_letOwnedTupleGo_enum heo λh2 he2 hs2=>?_⟩
  replace hs2:Heap.SameBut e h1 h2:=hs2
  have helt:e<s.heap.objs.size:=Zn he
  have hilt:it<s.heap.objs.size:=by obtain⟨o,ho,_⟩:=hi;exact Zn ho
  have ht2:IsTup h2 s.heap.objs.size [Value.int i s.toks,u].toArray:=⟨_,(hs2.2 _ (Zbc helt)).trans ht1,rfl,_,rfl⟩
  have hi2:h2.IsListIter it a (i+1):=hi1.extBut hs2.extBut (Ne.symm hne)
  have kk:∀b o,b∉[e,it]->s.heap.get? b=some o->h2.get? b=some o:=λb o hb q=>by
   have h1:b≠e:=λz=>hb (by simp[z])
   have h2:b≠it:=λz=>hb (by simp[z])
   exact hs2.extBut b o h1 (hk1 b o h1 h2 q)
  refine⟨.ref s.heap.objs.size,upd H s.heap.objs.size (.tup [.int i,x]),I.Qpy (t':=s.toks+1) hf kk (λb hb=>?_) (Zp _) ⟨by show 2<=sizeLine;decide,_,.cons ⟨_,rfl⟩ (.cons ru .nil),ht2⟩,rfl,
   ⟨_,x,rfl,I.hok.fresh (Zp _),rfl,λys hy=>by rw[I.Qex hy hq];exact hx⟩,⟨u,?_,hi2⟩,λb hb=>?_⟩
  ·have hb:b=e∨b=it:=by simpa using hb
   rcases hb with rfl | rfl
   ·exact⟨_,he2⟩
   ·obtain⟨o,ho,_⟩:=hi2;exact⟨o,ho⟩
  ·have:((i+1:Nat):Int)=(i:Int)+1:=by push_cast;rfl
   rw[this];exact he2
  ·have hb':b=e∨b=it:=by simpa using hb
   have:b≠s.heap.objs.size:=by
    rcases hb' with rfl | rfl
    ·exact ZE helt
    ·exact ZE hilt
   rw[QD this];exact(hf b hb).1
 done:=by
  intro X hP hw hK hc i pins s σ H E I hf st hg
  subst hP hw hK
  obtain⟨old,he,hi⟩:=st
  obtain⟨xs,hq,hx⟩:=hg
  obtain⟨its,rv,p,hz⟩:=I.list hq
  have hl:=rv.length
  refine wpAny_pyNext_enum_end (I.ok.hd hc) he hi p.isList (by simp;omega) λh1 eb=>⟨rfl,?_⟩
  exact I.turns (t':=s.toks) hf λb o hb q=>eb b o (λz=>hb (by simp[z])) q
 self:=λ_ _ _ _ _ st h=>by
  obtain⟨old,he,hi⟩:=st
  exact wpAny_pyIter_enum he h
section
noncomputable def Qt3(K:PySem.W.Frag)(ta:TA):TI:=λσ H R=>ta σ H λvs H1=>∃a,vs=[.ref a]/\(∃xs,SqL K H1 a xs)/\R (Ite K a) H1
theorem Qqh{a:Expr}{ta:TA}{p pos:Pos}{es:List Expr}{tk:Nat}{tpos:Pos}(hg:Gl X "enumerate")(hm:X.mg "enumerate" =none)(ha:PA X [a] ta)(hs:starEach [a] X.env=[(false,eval a X.env)]):
  PI X (.Tuple es tk tpos) (.Call (.Name "enumerate" p) [a] [] pos) (Qt3 X.K ta):=by
 intro pins s σ H R I h
 refine Call_ (QbM I hg hm PyProof.Rows.boot_enumerate (ZU (thn (ha pos pins s σ H _ I h) λus s1 ⟨vs,H1,I1,r1,q1⟩=>?_) hs rfl))
 obtain⟨l,e,⟨xs,hq⟩,q⟩:=q1
 subst e
 obtain⟨u,rfl,ru⟩:=vals1 r1
 cases ru
 obtain⟨its,rv,pl,hz⟩:=I1.list hq
 refine call_enumerate_list pl.isList λh2 he2 hi2 hz2 hk2=>?_
 have I2:Inv X pins σ H1 {s1 with heap:=h2}:=I1.kept (t':=s1.toks) hk2
 refine wpAny_pyIter_enum he2 ⟨_,[s1.heap.objs.size+1,s1.heap.objs.size],_,_,H1,rfl,I2,QmU l _ _ (Nat.succ_ne_self _),⟨_,he2,hi2⟩,λb hb=>?_,q⟩
 have hb:b=s1.heap.objs.size+1∨b=s1.heap.objs.size:=by simpa using hb
 have hle:s1.heap.objs.size<=b:=by rcases hb with rfl | rfl<;>omega
 exact I1.Qji hle (I1.hok.fresh hle)
end
noncomputable def Itz(K:PySem.W.Frag)(a b:Addr):It:=
 ⟨λi H=>∃xs ys x y,SqL K H a xs/\SqL K H b ys/\xs[i]? =some x/\ys[i]? =some y,λi H v H'=>∃p x y,v= .ref p/\H p=none/\H'=upd H p (.tup [x,y])/\(∀xs,SqL K H a xs->xs[i]? =some x)/\∀ys,SqL K H b ys->ys[i]? =some y,
  λi H=>∃xs ys,SqL K H a xs/\SqL K H b ys/\(xs.length<=i∨ys.length<=i)⟩
structure QlE (z TI TO i1 i2:Addr):Prop where
 a:TI≠z
 b:TO≠z
 c:i1≠z
 d:i2≠z
 e:TI≠TO
 f:TI≠i1
 g:TI≠i2
 h:TO≠i1
 i:TO≠i2
 j:i1≠i2
theorem QgX{h:Heap}(hz:IsZip h z T1 T2 x)(hA:IsPair h T1 a b)(hB:IsPair h T2 c d)(h1:h.IsListIter i1 l1 k)(h2:h.IsListIter i2 l2 k):∀b∈[z,T1,T2,i1,i2],NL h b:=
 fa1 (.zip hz) (fa1 (.tup hA) (fa1 (.tup hB) (fa1 (.it h1) (fa1 (.it h2) λ_ h=>nomatch h))))
theorem QnH{X:Cx}{s:Shared}(D:QlE z T1 T2 i1 i2)(I:Inv X pins σ H s)(hf:∀b∈[z,T1,T2,i1,i2],Qcy X pins H b)(O:∀b∈[z,T1,T2,i1,i2],NL s.heap b)(hq1:SqL X.K H l1 xs)(hq2:SqL X.K H l2 ys):ZipApart z T1 T2 i1 i2 l1 l2:=by
 have A1:=λb hb=>(O b hb).apart I (hf b hb).1 hq1
 have A2:=λb hb=>(O b hb).apart I (hf b hb).1 hq2
 exact⟨D.a,D.b,D.c,D.d,D.e,D.f,D.g,D.h,D.i,D.j,A1 z mm0,A1 T2 mm2,A1 i1 mm3,A1 i2 mm4,A2 z mm0,A2 T2 mm2,A2 i1 mm3,A2 i2 mm4⟩
theorem Qoq{P:Program}{w:World}{K:PySem.W.Frag}{es:List Expr}{tk:Nat}{tpos:Pos}(l1 l2 z TI TO i1 i2:Addr)(D:QlE z TI TO i1 i2):
  Turn P w K (.Tuple es tk tpos) (Itz K l1 l2) [z,TI,TO,i1,i2] z (λi h=>IsZip h z TI TO .none/\IsPair h TI (.ref i1) (.ref i2)/\(∃a b,IsPair h TO a b)/\h.IsListIter i1 l1 i/\h.IsListIter i2 l2 i) where
 mem:=mm0
 obj:=λi h st b hb=>by
  obtain⟨hz,hTI,⟨p,q,hTO⟩,h1,h2⟩:=st
  exact(QgX hz hTI hTO h1 h2 b hb).obj
 keep:=λi h h' st k=>by
  obtain⟨hz,hTI,⟨p,q,hTO⟩,h1,h2⟩:=st
  exact⟨k z mm0 _ hz,k TI mm1 _ hTI,⟨p,q,k TO mm2 _ hTO⟩,h1.at (k i1 mm3),h2.at (k i2 mm4)⟩
 item:=by
  intro X hP hw hK hc i pins s σ H E I hf st hg
  subst hP hw hK
  obtain⟨hz,hTI,⟨a0,b0,hTO⟩,h1,h2⟩:=st
  obtain⟨xs,ys,x,y,hq1,hq2,hx,hy⟩:=hg
  obtain⟨its,rv,p,hzz⟩:=I.list hq1
  obtain⟨its2,rv2,p2,hzz2⟩:=I.list hq2
  obtain⟨u,hu,ru⟩:=rv.get hx
  obtain⟨u2,hu2,ru2⟩:=rv2.get hy
  have O:=QgX hz hTI hTO h1 h2
  refine wpAny_pyNext_zip_item (QnH D I hf O hq1 hq2) hz hTI hTO h1 h2 p.isList p2.isList (x:=u) (y:=u2) (by simpa using hu) (by simpa using hu2) λh3 z3 TO3 a3 b3 T3 sz3 k3=>?_
  refine⟨.ref s.heap.objs.size,rfl,wpAny_letOwnedTupleGo_zip z3 λh4 z4 hs4=>?_⟩
  replace hs4:Heap.SameBut z h3 h4:=hs4
  have kk:∀b o,b∉[z,TI,TO,i1,i2]->s.heap.get? b=some o->h4.get? b=some o:=λb o hb q=>
   hs4.extBut b o (nmm hb mm0) (k3 b o (nmm hb mm0) (nmm hb mm2) (nmm hb mm3) (nmm hb mm4) q)
  have TI4:IsPair h4 TI (.ref i1) (.ref i2):=hs4.extBut _ _ D.a (k3 _ _ D.a D.e D.f D.g hTI)
  have TO4:IsPair h4 TO u u2:=hs4.extBut _ _ D.b TO3
  have a4:h4.IsListIter i1 l1 (i+1):=a3.extBut hs4.extBut D.c
  have b4:h4.IsListIter i2 l2 (i+1):=b3.extBut hs4.extBut D.d
  exact⟨.ref s.heap.objs.size,upd H s.heap.objs.size (.tup [x,y]),I.Qpy (t':=s.toks) hf kk (λb hb=>(QgX z4 TI4 TO4 a4 b4 b hb).ex) (Zp _) ⟨by show 2<=sizeLine;decide,_,.cons ru (.cons ru2 .nil),_,(hs4.2 _ (Zbc (O z mm0).lt)).trans T3,rfl,_,rfl⟩,rfl,
   ⟨_,x,y,rfl,I.hok.fresh (Zp _),rfl,λzs hy'=>by rw[I.Qex hy' hq1];exact hx,λzs hy'=>by rw[I.Qex hy' hq2];exact hy⟩,⟨z4,TI4,⟨_,_,TO4⟩,a4,b4⟩,λb hb=>by rw[QD (ZE (O b hb).lt)];exact(hf b hb).1⟩
 done:=by
  intro X hP hw hK hc i pins s σ H E I hf st hg
  subst hP hw hK
  obtain⟨hz,hTI,⟨a0,b0,hTO⟩,h1,h2⟩:=st
  obtain⟨xs,ys,hq1,hq2,hx⟩:=hg
  obtain⟨its,rv,p,hzz⟩:=I.list hq1
  obtain⟨its2,rv2,p2,hzz2⟩:=I.list hq2
  have hl:=rv.length
  have hl2:=rv2.length
  refine wpAny_pyNext_zip_end (I.ok.hd hc) (QnH D I hf (QgX hz hTI hTO h1 h2) hq1 hq2) hz hTI hTO h1 h2 p.isList p2.isList (by rcases hx with hx | hx;(left;simp;omega);(right;simp;omega)) λh3 k3=>⟨rfl,?_⟩
  exact I.turns (t':=s.toks) hf λb o hb q=>k3 b o (nmm hb mm0) (nmm hb mm2) (nmm hb mm3) (nmm hb mm4) q
 self:=λ_ _ _ _ _ st h=>wpAny_pyIter_zip st.1 h
section
noncomputable def QuK(K:PySem.W.Frag)(ta:TA):TI:=λσ H R=>ta σ H λvs H1=>∃a b,vs=[.ref a,.ref b]/\(∃xs,SqL K H1 a xs)/\(∃ys,SqL K H1 b ys)/\R (Itz K a b) H1
theorem Qsm{a b:Expr}{ta:TA}{p pos:Pos}{es:List Expr}{tk:Nat}{tpos:Pos}(hg:Gl X "zip")(hm:X.mg "zip" =none)(ha:PA X [a,b] ta)(hs:starEach [a,b] X.env=[(false,eval a X.env),(false,eval b X.env)])(hs2:starEach [b] X.env=[(false,eval b X.env)]):
  PI X (.Tuple es tk tpos) (.Call (.Name "zip" p) [a,b] [] pos) (QuK X.K ta):=by
 intro pins s σ H R I h
 refine Call_ (QbM I hg hm PyProof.Rows.boot_zip (ZU (thn (ha pos pins s σ H _ I h) λus s1 ⟨vs,H1,I1,r1,q1⟩=>?_) (by rw[hs,hs2]) (by rw[hs2];rfl)))
 obtain⟨l,l2,e,⟨xs,hq⟩,⟨ys,hq2⟩,q⟩:=q1
 subst e
 obtain⟨u,u2,rfl,ru,ru2⟩:=vals2 r1
 cases ru
 cases ru2
 obtain⟨its,rv,pl,hz⟩:=I1.list hq
 obtain⟨its2,rv2,pl2,hz2⟩:=I1.list hq2
 refine call_zip_2 pl.isList pl2.isList λh2 hz hTI hTO h1 h2' hsz hk2=>?_
 have I2:Inv X pins σ H1 {s1 with heap:=h2}:=I1.kept (t':=s1.toks) hk2
 refine wpAny_pyIter_zip hz ⟨_,[s1.heap.objs.size+4,s1.heap.objs.size+2,s1.heap.objs.size+3,s1.heap.objs.size,s1.heap.objs.size+1],_,_,H1,rfl,I2,Qoq l l2 _ _ _ _ _ ⟨?_,?_,?_,?_,?_,?_,?_,?_,?_,?_⟩,⟨hz,hTI,⟨_,_,hTO⟩,h1,h2'⟩,λb hb=>?_,q⟩
 iterate 10 (exact(by intro e;first | (have e':(s1.heap.objs.size:Nat)+_=_:=e;omega) | (have e':(s1.heap.objs.size:Nat)=_:=e;omega)))
 have hle:s1.heap.objs.size<=b:=by
  simp only[Zl,ZbL,or_false]at hb
  rcases hb with rfl | rfl | rfl | rfl | rfl<;>first | exact Zp _ | exact Nat.le_add_right _ _
 exact I1.Qji hle (I1.hok.fresh hle)
end
end L2
namespace L2
open PySem PySem.Spec
section
variable {prog:Program}{w:World}{A:Around}{E:Value->Shared->Prop}{s:Shared}
structure Six (z TI TO i1 i2 i3:Addr):Prop where
 TIz:TI≠z
 TOz:TO≠z
 i1z:i1≠z
 i2z:i2≠z
 i3z:i3≠z
 TITO:TI≠TO
 TIi1:TI≠i1
 TIi2:TI≠i2
 TIi3:TI≠i3
 TOi1:TO≠i1
 TOi2:TO≠i2
 TOi3:TO≠i3
 i12:i1≠i2
 i13:i1≠i3
 i23:i2≠i3
end
section
variable {prog:Program}{w:World}{A:Around}{E:Value->Shared->Prop}{s:Shared}
end
open PyProof.Rows
section
end
end L2
namespace HS
open PySem PySem.Spec PyProof.Rows L2
inductive D where
 | non | bl (b:Bool) | int (i:Int) | str (x:Str) | tup (xs:List D) | lst (xs:List D) | exc (x:Str)
mutual
noncomputable def D.flat:D->Bool
 | .lst _=>false
 | .tup xs=>QJ xs
 | .non=>true
 | .bl _=>true
 | .int _=>true
 | .str _=>true
 | .exc _=>true
noncomputable def QJ:List D->Bool
 | []=>true
 | d::ds=>d.flat && QJ ds
end
mutual
noncomputable def D.nl:D->Nat
 | .lst xs=>nls xs+1
 | .tup xs=>nls xs
 | .non=>0
 | .bl _=>0
 | .int _=>0
 | .str _=>0
 | .exc _=>0
noncomputable def nls:List D->Nat
 | []=>0
 | d::ds=>d.nl+nls ds
end
mutual
theorem QcJ:∀(d:D),d.flat=true->d.nl=0
 | .non,_=>rfl
 | .bl _,_=>rfl
 | .int _,_=>rfl
 | .str _,_=>rfl
 | .exc _,_=>rfl
 | .tup xs,h=>by simp only[D.nl];simp only[D.flat]at h;exact QeB xs h
 | .lst xs,h=>by simp[D.flat]at h
theorem QeB:∀(ds:List D),QJ ds=true->nls ds=0
 | [],_=>rfl
 | d::ds,h=>by simp only[QJ,Zk]at h;simp only[nls,QcJ d h.1,QeB ds h.2]
end
def Fix(K:PySem.W.Frag)(H:Hp)(a:Addr)(vs:List V):Prop:=
 (∃o,H a=some (.frz o (.lst vs)))∨
  ∃(its:List Value) (n:Nat),K.lookup a=some {cls:= .type "list",data:= .seq its.toArray n}/\vs.length<=sizeLine/\Qn vs its
def QuS(a C:Addr)(h:Heap):Prop:=∃o vs,h.get? a=some o/\o.cls= .ref C/\o.data= .fields vs
def ExcAt(K:PySem.W.Frag)(H:Hp)(a:Addr)(x:Str):Prop:=∃C,PySem.W.nsIn K mainGlobals x=some (some (.ref C))/\H a=some (.ext (QuS a C))
theorem Qmq{K:PySem.W.Frag}{H H':Hp}{a:Addr}{x:Str}(s:Qz H H')(h:ExcAt K H a x):ExcAt K H' a x:=by
 obtain⟨C,h1,h2⟩:=h
 exact⟨C,h1,s _ _ h2⟩
theorem QnQ{K:PySem.W.Frag}{H:Hp}{a p:Addr}{x:Str}{zs ys:List V}(hp:H p=some (.lst zs))(h:ExcAt K H a x):ExcAt K (upd H p (.lst ys)) a x:=by
 obtain⟨C,h1,h2⟩:=h
 exact⟨C,h1,by rw[QD (QiK h2 hp (by intro z;cases z))];exact h2⟩
mutual
noncomputable def Rp(K:PySem.W.Frag)(H:Hp):D->V->List Addr->Prop
 | .non,v,F=>v= .non/\F=[]
 | .bl b,v,F=>v= .bl b/\F=[]
 | .int i,v,F=>v= .int i/\F=[]
 | .str x,v,F=>v= .str x/\F=[]
 | .exc x,v,F=>(∃a,v= .ref a/\ExcAt K H a x)/\F=[]
 | .tup ds,v,F=>∃a vs,v= .ref a/\SqT K H a vs/\Rps K H ds vs F
 | .lst ds,v,F=>ds.length<=sizeLine/\∃a vs,v= .ref a/\((∃G,F=a::G/\H a=some (.lst vs)/\Rps K H ds vs G)∨(Fix K H a vs/\Rps K H ds vs F))
noncomputable def Rps(K:PySem.W.Frag)(H:Hp):List D->List V->List Addr->Prop
 | [],vs,F=>vs=[]/\F=[]
 | d::ds,vs,F=>∃v ws F1 F2,vs=v::ws/\F=F1++F2/\Rp K H d v F1/\Rps K H ds ws F2
end
theorem Qka{K:PySem.W.Frag}{H H':Hp}{a:Addr}{vs:List V}(s:Qz H H')(h:SqT K H a vs):SqT K H' a vs:=by
 rcases h with(h | ⟨o,h⟩) | h
 ·exact .inl (.inl (s _ _ h))
 ·exact .inl (.inr ⟨o,s _ _ h⟩)
 ·exact .inr h
theorem Qjo{K:PySem.W.Frag}{H H':Hp}{a:Addr}{vs:List V}(s:Qz H H')(h:Fix K H a vs):Fix K H' a vs:=by
 rcases h with⟨o,h⟩ | h
 ·exact .inl ⟨o,s _ _ h⟩
 ·exact .inr h
theorem Qk9{K:PySem.W.Frag}{H:Hp}{a p:Addr}{vs zs ys:List V}(hp:H p=some (.lst zs))(h:SqT K H a vs):SqT K (upd H p (.lst ys)) a vs:=by
 rcases h with(h | ⟨o,h⟩) | h
 ·exact .inl (.inl (by rw[QD (QiK h hp (by intro z;cases z))];exact h))
 ·exact .inl (.inr ⟨o,by rw[QD (QiK h hp (by intro z;cases z))];exact h⟩)
 ·exact .inr h
theorem QqY{K:PySem.W.Frag}{H:Hp}{a p:Addr}{vs zs ys:List V}(hp:H p=some (.lst zs))(h:Fix K H a vs):Fix K (upd H p (.lst ys)) a vs:=by
 rcases h with⟨o,h⟩ | h
 ·exact .inl ⟨o,by rw[QD (QiK h hp (by intro z;cases z))];exact h⟩
 ·exact .inr h
section
variable {K:PySem.W.Frag}{H H':Hp}
mutual
theorem Rp.same(s:Qz H H'):∀{d:D}{v:V}{F:List Addr},Rp K H d v F->Rp K H' d v F
 | .exc _,_,_,h=>by
  simp only[Rp]at h ⊢
  obtain⟨⟨a,e,q⟩,z⟩:=h
  exact⟨⟨a,e,Qmq s q⟩,z⟩
 | .non,_,_,h=>h
 | .bl _,_,_,h=>h
 | .int _,_,_,h=>h
 | .str _,_,_,h=>h
 | .tup ds,_,_,h=>by
  simp only[Rp]at h ⊢
  obtain⟨a,vs,e,q,r⟩:=h
  exact⟨a,vs,e,Qka s q,Rps.same s r⟩
 | .lst ds,_,_,h=>by
  simp only[Rp]at h ⊢
  obtain⟨hz,a,vs,e,⟨G,eF,q,r⟩ | ⟨q,r⟩⟩:=h
  ·exact⟨hz,a,vs,e,.inl ⟨G,eF,s _ _ q,Rps.same s r⟩⟩
  ·exact⟨hz,a,vs,e,.inr ⟨Qjo s q,Rps.same s r⟩⟩
theorem Rps.same(s:Qz H H'):∀{ds:List D}{vs:List V}{F:List Addr},Rps K H ds vs F->Rps K H' ds vs F
 | [],_,_,h=>h
 | d::ds,_,_,h=>by
  simp only[Rps]at h ⊢
  obtain⟨v,ws,F1,F2,e,eF,r,q⟩:=h
  exact⟨v,ws,F1,F2,e,eF,Rp.same s r,Rps.same s q⟩
end
mutual
theorem Rp.upd{p:Addr}{zs ys:List V}(hp:H p=some (.lst zs)):∀{d:D}{v:V}{F:List Addr},Rp K H d v F->p∉F->Rp K (upd H p (.lst ys)) d v F
 | .exc _,_,_,h,_=>by
  simp only[Rp]at h ⊢
  obtain⟨⟨a,e,q⟩,z⟩:=h
  exact⟨⟨a,e,QnQ hp q⟩,z⟩
 | .non,_,_,h,_=>h
 | .bl _,_,_,h,_=>h
 | .int _,_,_,h,_=>h
 | .str _,_,_,h,_=>h
 | .tup ds,_,_,h,hn=>by
  simp only[Rp]at h ⊢
  obtain⟨a,vs,e,q,r⟩:=h
  exact⟨a,vs,e,Qk9 hp q,Rps.upd hp r hn⟩
 | .lst ds,_,_,h,hn=>by
  simp only[Rp]at h ⊢
  obtain⟨hz,a,vs,e,⟨G,eF,q,r⟩ | ⟨q,r⟩⟩:=h
  ·subst eF
   have h1:a≠p:=λz=>hn (by rw[z];exact Zj)
   exact⟨hz,a,vs,e,.inl ⟨G,rfl,by rw[QD h1];exact q,Rps.upd hp r λz=>hn (Zc _ z)⟩⟩
  ·exact⟨hz,a,vs,e,.inr ⟨QqY hp q,Rps.upd hp r hn⟩⟩
theorem Rps.upd{p:Addr}{zs ys:List V}(hp:H p=some (.lst zs)):∀{ds:List D}{vs:List V}{F:List Addr},Rps K H ds vs F->p∉F->Rps K (upd H p (.lst ys)) ds vs F
 | [],_,_,h,_=>h
 | d::ds,_,_,h,hn=>by
  simp only[Rps]at h ⊢
  obtain⟨v,ws,F1,F2,e,eF,r,q⟩:=h
  subst eF
  exact⟨v,ws,F1,F2,e,rfl,Rp.upd hp r λz=>hn (Zg _ z),Rps.upd hp q λz=>hn (Zd _ z)⟩
end
mutual
theorem Rp.mem:∀{d:D}{v:V}{F:List Addr},Rp K H d v F->∀a∈F,∃vs,H a=some (.lst vs)
 | .non,_,_,h,a,ha=>by simp only[Rp]at h;rw[h.2]at ha;simp at ha
 | .bl _,_,_,h,a,ha=>by simp only[Rp]at h;rw[h.2]at ha;simp at ha
 | .int _,_,_,h,a,ha=>by simp only[Rp]at h;rw[h.2]at ha;simp at ha
 | .str _,_,_,h,a,ha=>by simp only[Rp]at h;rw[h.2]at ha;simp at ha
 | .exc _,_,_,h,a,ha=>by simp only[Rp]at h;rw[h.2]at ha;simp at ha
 | .tup ds,_,_,h,a,ha=>by
  simp only[Rp]at h
  obtain⟨_,vs,e,q,r⟩:=h
  exact Rps.mem r a ha
 | .lst ds,_,_,h,a,ha=>by
  simp only[Rp]at h
  obtain⟨_,b,vs,e,⟨G,eF,q,r⟩ | ⟨q,r⟩⟩:=h
  ·subst eF
   rcases Zl.mp ha with z | z
   ·exact⟨vs,by rw[z];exact q⟩
   ·exact Rps.mem r a z
  ·exact Rps.mem r a ha
theorem Rps.mem:∀{ds:List D}{vs:List V}{F:List Addr},Rps K H ds vs F->∀a∈F,∃vs,H a=some (.lst vs)
 | [],_,_,h,a,ha=>by simp only[Rps]at h;rw[h.2]at ha;simp at ha
 | d::ds,_,_,h,a,ha=>by
  simp only[Rps]at h
  obtain⟨v,ws,F1,F2,e,eF,r,q⟩:=h
  subst eF
  rcases ZJ.mp ha with z | z
  ·exact Rp.mem r a z
  ·exact Rps.mem q a z
end
mutual
theorem Rp.Qa7:∀{d:D}{v:V}{F:List Addr},Rp K H d v F->d.flat=true->F=[]
 | .non,_,_,h,_=>by simp only[Rp]at h;exact h.2
 | .bl _,_,_,h,_=>by simp only[Rp]at h;exact h.2
 | .int _,_,_,h,_=>by simp only[Rp]at h;exact h.2
 | .str _,_,_,h,_=>by simp only[Rp]at h;exact h.2
 | .exc _,_,_,h,_=>by simp only[Rp]at h;exact h.2
 | .tup ds,_,_,h,hf=>by
  simp only[Rp]at h
  simp only[D.flat]at hf
  obtain⟨_,vs,e,q,r⟩:=h
  exact Rps.Qa7 r hf
 | .lst ds,_,_,h,hf=>by simp[D.flat]at hf
theorem Rps.Qa7:∀{ds:List D}{vs:List V}{F:List Addr},Rps K H ds vs F->QJ ds=true->F=[]
 | [],_,_,h,_=>by simp only[Rps]at h;exact h.2
 | d::ds,_,_,h,hf=>by
  simp only[Rps]at h
  simp only[QJ,Zk]at hf
  obtain⟨v,ws,F1,F2,e,eF,r,q⟩:=h
  rw[eF,Rp.Qa7 r hf.1,Rps.Qa7 q hf.2];rfl
end
mutual
theorem Rp.Qad:∀{d:D}{v:V}{F:List Addr},Rp K H d v F->F.length<=d.nl
 | .non,_,_,h=>by simp only[Rp]at h;rw[h.2];exact ZZ _
 | .bl _,_,_,h=>by simp only[Rp]at h;rw[h.2];exact ZZ _
 | .int _,_,_,h=>by simp only[Rp]at h;rw[h.2];exact ZZ _
 | .str _,_,_,h=>by simp only[Rp]at h;rw[h.2];exact ZZ _
 | .exc _,_,_,h=>by simp only[Rp]at h;rw[h.2];exact ZZ _
 | .tup ds,_,_,h=>by
  simp only[Rp]at h
  obtain⟨_,vs,e,q,r⟩:=h
  simp only[D.nl]
  exact Rps.Qad r
 | .lst ds,_,_,h=>by
  simp only[Rp]at h
  simp only[D.nl]
  obtain⟨_,b,vs,e,⟨G,eF,q,r⟩ | ⟨q,r⟩⟩:=h
  ·rw[eF,Zq];have:=Rps.Qad r;omega
  ·have:=Rps.Qad r;omega
theorem Rps.Qad:∀{ds:List D}{vs:List V}{F:List Addr},Rps K H ds vs F->F.length<=nls ds
 | [],_,_,h=>by simp only[Rps]at h;rw[h.2];exact ZZ _
 | d::ds,_,_,h=>by
  simp only[Rps]at h
  obtain⟨v,ws,F1,F2,e,eF,r,q⟩:=h
  simp only[nls]
  rw[eF,Zr]
  have:=Rp.Qad r
  have:=Rps.Qad q
  omega
end
theorem Rps.length:∀{ds:List D}{vs:List V}{F:List Addr},Rps K H ds vs F->ds.length=vs.length
 | [],_,_,h=>by simp only[Rps]at h;rw[h.1];rfl
 | d::ds,_,_,h=>by
  simp only[Rps]at h
  obtain⟨v,ws,F1,F2,e,eF,r,q⟩:=h
  rw[e,Zq,Zq,Rps.length q]
theorem Rps.append:∀{ds es:List D}{vs ws:List V}{F G:List Addr},Rps K H ds vs F->Rps K H es ws G->Rps K H (ds++es) (vs++ws) (F++G)
 | [],_,_,_,_,_,h,g=>by simp only[Rps]at h;rw[h.1,h.2];exact g
 | d::ds,_,_,_,_,_,h,g=>by
  simp only[Rps,Zbj]at h ⊢
  obtain⟨v,ws,F1,F2,e,eF,r,q⟩:=h
  subst e eF
  exact⟨v,_,F1,_,rfl,by rw[Zat],r,Rps.append q g⟩
theorem Rps.get:∀{ds:List D}{vs:List V}{F:List Addr}{i:Nat}{d:D},Rps K H ds vs F->ds[i]? =some d->∃v F1 G F2,vs[i]? =some v/\F=F1++(G++F2)/\Rp K H d v G/\(F.length=nls ds->G.length=d.nl)
 | [],_,_,_,_,_,e=>by simp at e
 | d::ds,_,_,0,_,h,e=>by
  simp only[Rps]at h
  obtain⟨v,ws,F1,F2,e1,eF,r,q⟩:=h
  simp at e;subst e e1 eF
  refine⟨v,[],F1,F2,by simp,rfl,r,λhl=>?_⟩
  simp only[nls,Zr]at hl
  have:=Rp.Qad r
  have:=Rps.Qad q
  omega
 | d::ds,_,_,i+1,_,h,e=>by
  simp only[Rps]at h
  obtain⟨v,ws,F1,F2,e1,eF,r,q⟩:=h
  obtain⟨v',G1,G,G2,h1,h2,h3,h4⟩:=Rps.get q (by simpa using e)
  have l1:=Rp.Qad r
  have l2:=Rps.Qad q
  subst e1 eF
  refine⟨v',F1++G1,G,G2,by simpa using h1,by rw[h2,Zat],h3,λhl=>h4 ?_⟩
  simp only[nls,Zr]at hl
  omega
theorem Fix.sq{K:PySem.W.Frag}{H:Hp}{a:Addr}{vs:List V}(h:Fix K H a vs):SqL K H a vs:=by
 rcases h with⟨o,h⟩ | ⟨its,n,h,hz,r⟩
 ·exact .inl (.inr ⟨o,h⟩)
 ·exact .inr ⟨_,its.toArray,n,h,rfl,rfl,rfl,by rw[Zs,← r.length];exact hz,by simpa using r⟩
theorem _root_.L2.Inv.Qkc(I:Inv X pins σ H s)(h:H a=some (.lst vs)∨Fix X.K H a vs):
  vs.length<=sizeLine/\∃(its:List Value) (n:Nat),Qn vs its/\vs.length=its.length/\s.heap.get? a=some {cls:= .type "list",data:= .seq its.toArray n}:=by
 rcases h with h | ⟨o,h⟩ | ⟨its,n,h,hz,r⟩
 ·exact I.QoE h
 ·obtain⟨e,hz,its,n,r,e2⟩:=I.hok a _ h
  exact⟨hz,its,n,r,r.length,e2⟩
 ·exact⟨hz,its,n,r,r.length,I.kIn _ _ h⟩
theorem Rp.lst_inv{K:PySem.W.Frag}{H:Hp}{ds:List D}{v:V}{F:List Addr}(h:Rp K H (.lst ds) v F):
  ∃a vs G,v= .ref a/\(H a=some (.lst vs)∨Fix K H a vs)/\Rps K H ds vs G/\ds.length<=sizeLine/\(F=a::G∨F=G):=by
 simp only[Rp]at h
 obtain⟨hz,a,vs,e,⟨G,eF,q,r⟩ | ⟨q,r⟩⟩:=h
 ·exact⟨a,vs,G,e,.inl q,r,hz,.inl eF⟩
 ·exact⟨a,vs,F,e,.inr q,r,hz,.inr rfl⟩
theorem QI{K:PySem.W.Frag}{H:Hp}{a:Addr}{vs:List V}(h:H a=some (.lst vs)∨Fix K H a vs):SqL K H a vs:=h.elim (λh=>SqL.of h) Fix.sq
theorem Rp.Qaf{K:PySem.W.Frag}{H:Hp}{ds:List D}{v:V}{F:List Addr}(h:Rp K H (.tup ds) v F):∃a vs,v= .ref a/\SqT K H a vs/\Rps K H ds vs F:=by
 simp only[Rp]at h
 exact h
theorem Rp.Qeb{K:PySem.W.Frag}{H:Hp}{ds:List D}{a:Addr}{vs:List V}{G:List Addr}(h:H a=some (.lst vs))(r:Rps K H ds vs G)(hz:ds.length<=sizeLine):Rp K H (.lst ds) (.ref a) (a::G):=by
 simp only[Rp]
 exact⟨hz,a,vs,rfl,.inl ⟨G,rfl,h,r⟩⟩
theorem Rp.Qi9{K:PySem.W.Frag}{H:Hp}{ds:List D}{a:Addr}{vs:List V}{G:List Addr}(h:H a=some (.tup vs))(r:Rps K H ds vs G):Rp K H (.tup ds) (.ref a) G:=by
 simp only[Rp]
 exact⟨a,vs,rfl,SqT.of h,r⟩
theorem Rp.int_inv{K:PySem.W.Frag}{H:Hp}{i:Int}{v:V}{F:List Addr}(h:Rp K H (.int i) v F):v= .int i:=by simp only[Rp]at h;exact h.1
theorem Rp.Qeg{K:PySem.W.Frag}{H:Hp}{i:Bool}{v:V}{F:List Addr}(h:Rp K H (.bl i) v F):v= .bl i:=by simp only[Rp]at h;exact h.1
theorem Rp.QhG{K:PySem.W.Frag}{H:Hp}{v:V}{F:List Addr}(h:Rp K H .non v F):v= .non:=by simp only[Rp]at h;exact h.1
theorem Rp.str_inv{K:PySem.W.Frag}{H:Hp}{i:Str}{v:V}{F:List Addr}(h:Rp K H (.str i) v F):v= .str i:=by simp only[Rp]at h;exact h.1
theorem Rp.int_mk{K:PySem.W.Frag}{H:Hp}{i:Int}:Rp K H (.int i) (.int i) []:=by simp[Rp]
theorem Rp.Qcd{K:PySem.W.Frag}{H:Hp}{i:Bool}:Rp K H (.bl i) (.bl i) []:=by simp[Rp]
theorem Rp.Qj5{K:PySem.W.Frag}{H:Hp}:Rp K H .non .non []:=by simp[Rp]
theorem Rp.str_mk{K:PySem.W.Frag}{H:Hp}{i:Str}:Rp K H (.str i) (.str i) []:=by simp[Rp]
theorem QbQ(h:H p=none):Qz H (L2.upd H p o):=λb u e=>by rw[QD (QaT e h)];exact e
end
end HS
namespace HS
open PySem PySem.Spec L2
noncomputable abbrev En:=List (Option (D×Bool))
structure R where
 d:D
 fr:Bool
 M:List Nat
structure RA where
 ds:List D
 fr:Bool
 M:List Nat
noncomputable abbrev DE:=En->Option R
noncomputable abbrev DA:=En->Option RA
noncomputable abbrev DT:=En->Option Bool
structure Rel (K:PySem.W.Frag) (H0:Hp) (A0:List Addr) (hs:List (V×D×List Addr)) (ρ:En) (F:Nat->List Addr) (σ:St) (H:Hp):Prop where
 len:ρ.length=σ.length
 val:∀(i:Nat) d b,ρ[i]? =some (some (d,b))->∃v,σ[i]? =some (some v)/\Rp K H d v (F i)
 own:∀(i:Nat) d,ρ[i]? =some (some (d,true))->(F i).length=d.nl/\(F i).Nodup/\(∀a∈F i,H0 a=none)/\(∀(j:Nat) d' b',j≠i->ρ[j]? =some (some (d',b'))->∀a∈F i,a∉F j)/\∀t∈hs,∀a∈F i,a∉t.2.2
 src:∀(i:Nat) d b,ρ[i]? =some (some (d,b))->∀a∈F i,H0 a=none∨a∈A0
 held:∀t∈hs,Rp K H t.2.1 t.1 t.2.2/\∀a∈t.2.2,H0 a=none∨a∈A0
 same:Qz H0 H
def Src(ρ:En)(F:Nat->List Addr)(H:Hp)(M:List Nat)(G:List Addr):Prop:=
 ∀a∈G,H a=none∨∃(i:Nat) (d:D) (b:Bool),ρ[i]? =some (some (d,b))/\a∈F i/\(b=true->i∈M)
noncomputable def nw(H:Hp)(a:Addr):Nat:=match H a with | none=>1 | some _=>0
def Cnt(F:Nat->List Addr)(H:Hp)(M:List Nat)(G:List Addr):Prop:=
 ∀a,G.count a<=nw H a+((M.map F).flatten).count a
def Qan(ρ:En)(M:List Nat):Prop:=∀i∈M,∃d,ρ[i]? =some (some (d,true))
structure QK (K:PySem.W.Frag) (ρ:En) (F:Nat->List Addr) (H H':Hp) (r:R) (v:V) (G:List Addr):Prop where
 same:Qz H H'
 rp:Rp K H' r.d v G
 src:Src ρ F H r.M G
 cnt:r.fr=true->Cnt F H r.M G/\G.length=r.d.nl
 own:Qan ρ r.M
structure Qtp (K:PySem.W.Frag) (ρ:En) (F:Nat->List Addr) (H H':Hp) (r:RA) (vs:List V) (G:List Addr):Prop where
 same:Qz H H'
 rp:Rps K H' r.ds vs G
 src:Src ρ F H r.M G
 cnt:r.fr=true->Cnt F H r.M G/\G.length=nls r.ds
 own:Qan ρ r.M
noncomputable def tV(K:PySem.W.Frag)(H0:Hp)(A0:List Addr)(f:DE):TE:=λσ H Q=>∃ρ hs F r,Rel K H0 A0 hs ρ F σ H/\f ρ=some r/\∀v H' G,QK K ρ F H H' r v G->Q v H'
noncomputable def tVA(K:PySem.W.Frag)(H0:Hp)(A0:List Addr)(f:DA):TA:=λσ H Q=>∃ρ hs F r,Rel K H0 A0 hs ρ F σ H/\f ρ=some r/\∀v H' G,Qtp K ρ F H H' r v G->Q v H'
noncomputable def tVT(K:PySem.W.Frag)(H0:Hp)(A0:List Addr)(f:DT):TT:=λσ H Q=>∃ρ hs F b,Rel K H0 A0 hs ρ F σ H/\f ρ=some b/\∀H',Qz H H'->Q b H'
def SE(X:Cx)(e:Expr)(f:DE):Prop:=∀H0 A0,PE X e (tV X.K H0 A0 f)
def SA(X:Cx)(es:List Expr)(f:DA):Prop:=∀H0 A0,PA X es (tVA X.K H0 A0 f)
def ST(X:Cx)(e:Expr)(f:DT):Prop:=∀H0 A0,PT X e (tVT X.K H0 A0 f)
theorem _root_.L2.PE.mono(h:PE X e t)(m:∀σ H Q,t' σ H Q->t σ H Q):PE X e t':=λpins s σ H Q I q=>h pins s σ H Q I (m σ H Q q)
theorem _root_.L2.PT.mono(h:PT X e t)(m:∀σ H Q,t' σ H Q->t σ H Q):PT X e t':=λpins s σ H Q I q=>h pins s σ H Q I (m σ H Q q)
theorem _root_.L2.PA.mono(h:PA X e t)(m:∀σ H Q,t' σ H Q->t σ H Q):PA X e t':=λpos pins s σ H Q I q=>h pos pins s σ H Q I (m σ H Q q)
section
theorem Rel.ext(r:Rel K H0 A0 hs ρ F σ H)(s:Qz H H'):Rel K H0 A0 hs ρ F σ H' where
 len:=r.len
 val:=λi d b e=>let ⟨v,h1,h2⟩:=r.val i d b e;⟨v,h1,h2.same s⟩
 own:=r.own
 src:=r.src
 held:=λt ht=>⟨(r.held t ht).1.same s,(r.held t ht).2⟩
 same:=r.same.trans s
theorem Rel.mem(r:Rel K H0 A0 hs ρ F σ H)(e:ρ[i]? =some (some (d,b)))(h:a∈F i):∃vs,H a=some (.lst vs):=
 let ⟨_,_,h2⟩:=r.val i d b e;h2.mem a h
theorem QcF(h:H a=some o):nw H a=0:=by simp[nw,h]
theorem QaA(h:H a=none):nw H a=1:=by simp[nw,h]
theorem Rel.fl0(r:Rel K H0 A0 hs ρ F σ H)(ow:Qan ρ M)(h:H a=none):((M.map F).flatten).count a=0:=by
 rw[ZW]
 intro hm
 obtain⟨l,hl,ha⟩:=Zbk.mp hm
 obtain⟨i,hi,rfl⟩:=ZI.mp hl
 obtain⟨d,e⟩:=ow i hi
 obtain⟨vs,q⟩:=r.mem e ha
 rw[h]at q;cases q
theorem Cnt.append(r:Rel K H0 A0 hs ρ F σ H)(c1:Cnt F H M1 G1)(c2:Cnt F H1 M2 G2)(s:Qz H H1)(m1:∀a∈G1,∃vs,H1 a=some (.lst vs)):Cnt F H (M1++M2) (G1++G2):=λa=>by
 rw[Zam,ZT,List.flatten_append,Zam]
 have h1:=c1 a
 have h2:=c2 a
 cases q:H1 a with
 | some o=>rw[QcF q]at h2;omega
 | none=>
  rw[QaA q]at h2
  have h3:H a=none:=s.free q
  rw[QaA h3]at h1 ⊢
  have h4:G1.count a=0:=ZW.mpr λhm=>by obtain⟨vs,z⟩:=m1 a hm;rw[q]at z;cases z
  omega
theorem Src.append(c1:Src ρ F H M1 G1)(c2:Src ρ F H1 M2 G2)(s:Qz H H1):Src ρ F H (M1++M2) (G1++G2):=λa ha=>by
 rcases ZJ.mp ha with h | h
 ·rcases c1 a h with z | ⟨i,d,b,e,m,w⟩
  ·exact .inl z
  ·exact .inr ⟨i,d,b,e,m,λhb=>Zg _ (w hb)⟩
 ·rcases c2 a h with z | ⟨i,d,b,e,m,w⟩
  ·exact .inl (s.free z)
  ·exact .inr ⟨i,d,b,e,m,λhb=>Zd _ (w hb)⟩
theorem Qan.append(h1:Qan ρ M1)(h2:Qan ρ M2):Qan ρ (M1++M2):=λi hi=>(ZJ.mp hi).elim (h1 i) (h2 i)
theorem Qan.nil:Qan ρ []:=λi hi=>by simp at hi
theorem Src.nil:Src ρ F H M []:=λa ha=>by simp at ha
theorem Cnt.nil:Cnt F H M []:=λa=>by simp
theorem QK.flat(s:Qz H H')(r:Rp K H' d v [])(hf:d.flat=true:=by rfl):QK K ρ F H H' ⟨d,true,[]⟩ v []:=⟨s,r,Src.nil,λ_=>⟨Cnt.nil,(QcJ d hf).symm⟩,Qan.nil⟩
theorem QK.sub(p:QK K ρ F H H1 r v G)(rp:Rp K H1 d u G')(hs:∀a,G'.count a<=G.count a)(hn:G.length=r.d.nl->G'.length=d.nl):QK K ρ F H H1 ⟨d,r.fr,r.M⟩ u G' where
 same:=p.same
 rp:=rp
 src:=λa ha=>p.src a (by
  have:=hs a
  have h1:0<G'.count a:=Zar.mpr ha
  exact Zar.mp (by omega))
 cnt:=λh=>⟨λa=>ZH (hs a) ((p.cnt h).1 a),hn (p.cnt h).2⟩
 own:=p.own
noncomputable def R.norm(r:R):R:=if r.d.flat then⟨r.d,true,[]⟩else r
theorem R.Qco(r:R):r.norm.d=r.d:=by unfold R.norm;split<;>rfl
theorem QK.norm(p:QK K ρ F H H' r v G):QK K ρ F H H' r.norm v G:=by
 unfold R.norm
 split
 ·rename_i h
  have:=p.rp.Qa7 h
  subst this
  exact .flat p.same p.rp h
 ·exact p
end
noncomputable def Qa(i:Nat):DE:=λρ=>match ρ[i]? with
 | some (some (d,b))=>if d.flat then some ⟨d,true,[]⟩else if b then some ⟨d,true,[i]⟩else some ⟨d,false,[]⟩
 | _=>none
noncomputable def dC(d:D):DE:=λ_=>some ⟨d,true,[]⟩
section
theorem Qr1(h:PE X (.Name x pos) (QjT i)):SE X (.Name x pos) (Qa i):=λH0 A0=>h.mono λσ H Q=>exK λρ hs F r rel e q=>by
 unfold Qa at e
 split at e
 ·rename_i d b q1
  obtain⟨v,h1,h2⟩:=rel.val i d b q1
  refine⟨v,h1,q v H (F i) ?_⟩
  split at e
  ·rename_i hf
   cases e
   have:=h2.Qa7 hf
   rw[this]at h2 ⊢
   exact .flat (Qz.refl _) h2 hf
  ·split at e
   ·rename_i hb
    cases e
    subst hb
    exact⟨Qz.refl _,h2,λa ha=> .inr ⟨i,d,true,q1,ha,λ_=>by simp⟩,λ_=>⟨λa=>(by simp),(rel.own i d q1).1⟩,λj hj=>by simp at hj;subst hj;exact⟨d,q1⟩⟩
   ·rename_i hb
    cases e
    simp at hb
    subst hb
    exact⟨Qz.refl _,h2,λa ha=> .inr ⟨i,d,false,q1,ha,λz=>by cases z⟩,λz=>(by cases z),Qan.nil⟩
 ·cases e
theorem QjA(h:PE X e (tC v))(r:∀K H,Rp K H d v [])(hf:d.flat=true):SE X e (dC d):=λH0 A0=>h.mono λσ H Q=>exK λρ hs F r' rel e q=>by
 cases e
 exact q v H [] (.flat (Qz.refl _) (r _ _) hf)
theorem two{K:PySem.W.Frag}{H0:Hp}{A0:List Addr}{fa fb:DE}{σ:St}{H:Hp}{hs:List (V×D×List Addr)}{ρ:En}{F:Nat->List Addr}{ra rb:R}{Rr:V->V->Hp->Prop}(rel:Rel K H0 A0 hs ρ F σ H)(ea:fa ρ=some ra)(eb:fb ρ=some rb)
  (k:∀x y H1 H2 G1 G2,QK K ρ F H H1 ra x G1->QK K ρ F H1 H2 rb y G2->Rr x y H2):tV K H0 A0 fa σ H λx H1=>tV K H0 A0 fb σ H1 λy H2=>Rr x y H2:=
 ⟨ρ,hs,F,ra,rel,ea,λx H1 G1 p1=>⟨ρ,hs,F,rb,rel.ext p1.same,eb,λy H2 G2 p2=>k x y H1 H2 G1 G2 p1 p2⟩⟩
noncomputable def dOp(g:D->D->Option D)(fa fb:DE):DE:=λρ=>(fa ρ).bind λra=>(fb ρ).bind λrb=>(g ra.d rb.d).map λd=>⟨d,true,[]⟩
theorem Qht(e:dOp g fa fb ρ=some r):∃ra rb d,fa ρ=some ra/\fb ρ=some rb/\g ra.d rb.d=some d/\r=⟨d,true,[]⟩:=by
 unfold dOp at e
 cases h1:fa ρ with
 | none=>rw[h1]at e;cases e
 | some ra=>
  cases h2:fb ρ with
  | none=>rw[h1,h2]at e;cases e
  | some rb=>
   rw[h1,h2]at e
   cases h3:g ra.d rb.d with
   | none=>simp[h3]at e
   | some d=>simp[h3]at e;exact⟨ra,rb,d,rfl,rfl,h3,e.symm⟩
def QbL(K:PySem.W.Frag)(g:D->D->Option D)(r:R2):Prop:=∀a b d,g a b=some d->d.flat=true/\∀H x y F G (Q:VK),Rp K H a x F->Rp K H b y G->(∀v,(∀H',Rp K H' d v [])->Q v H)->r x y H Q
theorem Qme(ho:OpR X (binaryOp op) r)(hg:QbL X.K g r)(ha:SE X a fa)(hb:SE X b fb):SE X (.BinOp a op b pos) (dOp g fa fb):=λH0 A0=>
 (QlV ho (ha H0 A0) (hb H0 A0)).mono λσ H Q=>exK λρ hs F r' rel e q=>by
  obtain⟨ra,rb,d,ea,eb,eg,rfl⟩:=Qht e
  refine two rel ea eb λx y H1 H2 G1 G2 p1 p2=>(hg _ _ _ eg).2 H2 x y G1 G2 Q (p1.rp.same p2.same) p2.rp λv hv=>?_
  exact q v H2 [] (.flat (p1.same.trans p2.same) (hv H2) (hg _ _ _ eg).1)
theorem Qs0(ho:OpR X (compareOp op) r)(hg:QbL X.K g r)(ha:SE X a fa)(hb:SE X b fb)(hm:behindInMarks op b=false):SE X (.Compare a [op] [b] pos) (dOp g fa fb):=λH0 A0=>
 (QpS ho (ha H0 A0) (hb H0 A0) hm).mono λσ H Q=>exK λρ hs F r' rel e q=>by
  obtain⟨ra,rb,d,ea,eb,eg,rfl⟩:=Qht e
  refine two rel ea eb λx y H1 H2 G1 G2 p1 p2=>(hg _ _ _ eg).2 H2 x y G1 G2 Q (p1.rp.same p2.same) p2.rp λv hv=>?_
  exact q v H2 [] (.flat (p1.same.trans p2.same) (hv H2) (hg _ _ _ eg).1)
end
noncomputable def Qfa(i j:Int):Int:=if 0<=j then i / j else i.fdiv j
noncomputable def Qfl(i j:Int):Int:=if 0<=j then i % j else i.fmod j
theorem Qry(i j:Int):Qfa i j=i.fdiv j:=by
 unfold Qfa;split
 ·rw[Int.fdiv_eq_ediv_of_nonneg _ (by assumption)]
 ·rfl
theorem Qrz(i j:Int):Qfl i j=i.fmod j:=by
 unfold Qfl;split
 ·rw[Int.fmod_eq_emod_of_nonneg _ (by assumption)]
 ·rfl
noncomputable def Qdh(i j:Int):Bool:=decide (i.natAbs<2^64) || decide (j.natAbs<2^64) || (decide (Builtin.Int.intBits i<=2^20) && decide (Builtin.Int.intBits j<=2^20))
noncomputable def QeG(j:Int):Bool:=decide (j≠0) && decide (j.natAbs<2^8000)
noncomputable def gI(f:Int->Int->Option D)(a b:D):Option D:=match a,b with
 | .int i,.int j=>f i j
 | _,_=>none
noncomputable def QbK:=gI λi j=>some (.int (i-j))
noncomputable def QlX:=gI λi j=>if QeG j then some (.int (Qfa i j))else none
noncomputable def QaY:=gI λi j=>if j≠0 then some (.int (Qfl i j))else none
noncomputable def gLt:=gI λi j=>some (.bl (decide (i<j)))
noncomputable def gLe:=gI λi j=>some (.bl (decide (i<=j)))
noncomputable def gGt:=gI λi j=>some (.bl (decide (j<i)))
noncomputable def gGe:=gI λi j=>some (.bl (decide (j<=i)))
theorem Qnk(h:gI f a b=some d):∃i j,a= .int i/\b= .int j/\f i j=some d:=by
 unfold gI at h
 split at h
 ·exact⟨_,_,rfl,rfl,h⟩
 ·cases h
section
theorem Qfm(hf:∀i j d,f i j=some d->d.flat=true)(h:∀i j d,f i j=some d->∀H (Q:VK),(∀v,(∀H',Rp K H' d v [])->Q v H)->r (.int i) (.int j) H Q):QbL K (gI f) r:=λa b d e=>by
 obtain⟨i,j,rfl,rfl,ef⟩:=Qnk e
 refine⟨hf i j d ef,λH x y F G Q ha hb q=>?_⟩
 rw[ha.int_inv,hb.int_inv]
 exact h i j d ef H Q q
theorem QnM:QbL K QbK (rI0 λi j=> .int (i-j)):=Qfm (λi j d e=>by cases e;rfl) λi j d e H Q q=>by cases e;exact⟨i,j,rfl,rfl,q _ λ_=> .int_mk⟩
theorem Qpf(h:Qdh i j=true):IntMulOk i j:=by
 have small:∀k:Int,k.natAbs<2^64->Builtin.Int.intBits k<=64:=λk hk=>by
  unfold Builtin.Int.intBits
  split
  ·omega
  ·rename_i h0;have h0':k.natAbs≠0:=λz=>by simp_all
   have:=(Nat.log2_lt h0').mpr hk;omega
 unfold Qdh at h
 simp only[ZaX,Zk,decide_eq_true_eq]at h
 rcases h with(h | h) | ⟨h1,h2⟩
 ·exact .of_left (small i h)
 ·exact .of_right (small j h)
 ·exact .of_bits h1 h2
theorem Qp5:OpR X (binaryOp .Mult) (rI (λi j=>Qdh i j=true) λi j=> .int (i*j)):=opI λ_ _ _ _ _ _ _ hc q=>PyProof.Rows.mul_int q (Qpf hc)
theorem QpQ:OpR X (binaryOp .FloorDiv) (rI (λi j=>QeG j=true) λi j=> .int (Qfa i j)):=opI λi j _ _ _ _ _ hc q=>by
 unfold QeG at hc
 simp only[Zk,decide_eq_true_eq]at hc
 rw[Qry]at q
 refine PyProof.Rows.floordiv_int hc.1 q (.inl (PyProof.noPylong_of_log2 ?_))
 have h0:j.natAbs≠0:=by omega
 exact Nat.lt_trans ((Nat.log2_lt h0).mpr hc.2) (by decide)
theorem QpW:OpR X (binaryOp .Mod) (rI (λi j=>j≠0) λi j=> .int (Qfl i j)):=opI λi j _ _ _ _ _ hc q=>by
 rw[Qrz]at q
 exact PyProof.Rows.mod_int' hc q
theorem Qs1:QbL K QlX (rI (λi j=>QeG j=true) λi j=> .int (Qfa i j)):=Qfm (λi j d e=>by split at e<;>cases e;rfl) λi j d e H Q q=>by
 split at e
 ·cases e;exact⟨i,j,rfl,rfl,by assumption,q _ λ_=> .int_mk⟩
 ·cases e
theorem Qr7:QbL K QaY (rI (λi j=>j≠0) λi j=> .int (Qfl i j)):=Qfm (λi j d e=>by split at e<;>cases e;rfl) λi j d e H Q q=>by
 split at e
 ·cases e;exact⟨i,j,rfl,rfl,by assumption,q _ λ_=> .int_mk⟩
 ·cases e
theorem Qt6:QbL K gLt (rI0 λi j=> .bl (decide (i<j))):=Qfm (λi j d e=>by cases e;rfl) λi j d e H Q q=>by cases e;exact⟨i,j,rfl,rfl,q _ λ_=> .Qcd⟩
theorem QtE:QbL K gLe (rI0 λi j=> .bl (decide (i<=j))):=Qfm (λi j d e=>by cases e;rfl) λi j d e H Q q=>by cases e;exact⟨i,j,rfl,rfl,q _ λ_=> .Qcd⟩
theorem QtN:QbL K gGt (rI0 λi j=> .bl (decide (j<i))):=Qfm (λi j d e=>by cases e;rfl) λi j d e H Q q=>by cases e;exact⟨i,j,rfl,rfl,q _ λ_=> .Qcd⟩
theorem QtD:QbL K gGe (rI0 λi j=> .bl (decide (j<=i))):=Qfm (λi j d e=>by cases e;rfl) λi j d e H Q q=>by cases e;exact⟨i,j,rfl,rfl,q _ λ_=> .Qcd⟩
end
theorem Qcp:∀(xs ys:List D),QJ (xs++ys)=(QJ xs && QJ ys)
 | [],ys=>by simp[QJ]
 | x::xs,ys=>by simp[QJ,Qcp xs ys,Bool.and_assoc]
noncomputable def QT(ds:List D)(M:List Nat):R:=if QJ ds then⟨.lst ds,true,[]⟩else⟨.lst ds,false,M⟩
section
variable {K:PySem.W.Frag}{H0 H H':Hp}{A0:List Addr}{hs:List (V×D×List Addr)}{ρ:En}{F:Nat->List Addr}{σ:L2.St}
theorem QK.QT(s:Qz H H1)(hp:H1 p=none)(r:Rps K H1 ds vs G)(hz:ds.length<=sizeLine)(src:Src ρ F H M G)(ow:Qan ρ M):
  QK K ρ F H (upd H1 p (.lst vs)) (QT ds M) (.ref p) (p::G):=by
 have s2:Qz H1 (upd H1 p (.lst vs)):=QbQ hp
 have rp:Rp K (upd H1 p (.lst vs)) (.lst ds) (.ref p) (p::G):=Rp.Qeb Qam (r.same s2) hz
 have hH:H p=none:=s.free hp
 unfold HS.QT
 split
 ·rename_i hf
  have:=r.Qa7 hf
  subst this
  refine⟨s.trans s2,rp,λa ha=>?_,λ_=>⟨λa=>?_,by simp only[D.nl,QeB ds hf];rfl⟩,Qan.nil⟩
  ·have:a=p:=by simpa using ha
   subst this;exact .inl hH
  ·rw[List.count_singleton]
   split
   ·rename_i e;have e':p=a:=by simpa using e
    subst e';rw[QaA hH];omega
   ·omega
 ·refine⟨s.trans s2,rp,λa ha=>?_,λz=>(by cases z),ow⟩
  rcases Zl.mp ha with rfl | h
  ·exact .inl hH
  ·exact src a h
end
noncomputable def QE(fa fb:DE):DE:=λρ=>(fa ρ).bind λra=>(fb ρ).bind λrb=>match ra.d,rb.d with
 | .int i,.int j=>some ⟨.int (i+j),true,[]⟩
 | .lst xs,.lst ys=>if xs.length+ys.length<=sizeLine then some (QT (xs++ys) (ra.M++rb.M))else none
 | _,_=>none
noncomputable def Qar(fa fb:DE):DE:=λρ=>(fa ρ).bind λra=>(fb ρ).bind λrb=>match ra.d,rb.d with
 | .int i,.int j=>if Qdh i j then some ⟨.int (i*j),true,[]⟩else none
 | .lst xs,.int j=>if xs.length*j.toNat<=sizeLine/\ -(2^63)<=j/\j<2^63/\QJ xs=true then some ⟨.lst (List.replicate j.toNat xs).flatten,true,[]⟩else none
 | _,_=>none
theorem QlR{fa fb:DE}{ρ:En}{k:R->R->Option R}{r:R}(e:((fa ρ).bind λra=>(fb ρ).bind λrb=>k ra rb)=some r):∃ra rb,fa ρ=some ra/\fb ρ=some rb/\k ra rb=some r:=by
 cases h1:fa ρ with
 | none=>rw[h1]at e;cases e
 | some ra=>
  cases h2:fb ρ with
  | none=>rw[h1,h2]at e;cases e
  | some rb=>rw[h1,h2]at e;exact⟨ra,rb,rfl,rfl,e⟩
theorem bind1{α β:Type}{x:Option α}{k:α->Option β}{r:β}(e:x.bind k=some r):∃a,x=some a/\k a=some r:=by
 cases x with
 | none=>cases e
 | some a=>exact⟨a,rfl,e⟩
section
noncomputable def QtC(K:PySem.W.Frag):R2:=λx y H Q=>∃l c xs zs,x= .ref l/\y= .ref c/\(H l=some (.lst xs)∨Fix K H l xs)/\(H c=some (.lst zs)∨Fix K H c zs)/\xs.length+zs.length<=sizeLine/\∀p,H p=none->Q (.ref p) (upd H p (.lst (xs++zs)))
theorem mapR{α γ:Type}{x:Option α}{f:α->γ}{r:γ}{M:γ->Prop}(e:x.map f=some r)(g:∀a,x=some a->M (f a)):M r:=by
 obtain⟨a,h,rfl⟩:=Ze.mp e
 exact g a h
theorem Qh{α β:Type}{x:Option α}{k:α->Option β}{r:β}{G:Prop}(e:x.bind k=some r)(g:∀a,x=some a->k a=some r->G):G:=let ⟨a,h1,h2⟩:=bind1 e;g a h1 h2
theorem QpZ:OpR X (binaryOp .Add) (QtC X.K):=by
 intro pins s σ H x y v u Q I rx ry h
 obtain⟨l,c,xs,zs,rfl,rfl,hH,hB,hz,q⟩:=h
 cases rx
 cases ry
 obtain⟨z,its,n,r,hl,e⟩:=I.Qkc hH
 obtain⟨z2,its2,n2,r2,hl2,e2⟩:=I.Qkc hB
 refine PySem.P.add_list e e2 ?_ (by rw[Zs,Zs];omega)
 have ea:its.toArray++its2.toArray=(its++its2).toArray:=by simp
 rw[ea]
 exact⟨.ref _,_,I.Qsg (t':=s.toks) (r.append r2) (by rw[Zr];omega),rfl,q _ I.fresh⟩
theorem QsC(ha:SE X a fa)(hb:SE X b fb):SE X (.BinOp a .Add b pos) (QE fa fb):=λH0 A0=>
 (QlV (QsJ.or QpZ) (ha H0 A0) (hb H0 A0)).mono λσ H Q=>exK λρ hs F r' rel e q=>by
  obtain⟨ra,rb,ea,eb,ek⟩:=QlR e
  refine two rel ea eb λx y H1 H2 G1 G2 p1 p2=>?_
  have p1':=p1.rp.same p2.same
  have p2':=p2.rp
  have c1:=p1.src.append p2.src p1.same
  have o1:=p1.own.append p2.own
  revert ek
  revert p1' p2'
  cases ra.d<;>cases rb.d<;>intro p1' p2' ek<;>first | (cases ek;done) | skip
  ·cases ek
   rw[p1'.int_inv,p2'.int_inv]
   exact .inl ⟨_,_,rfl,rfl,q _ H2 [] (.flat (p1.same.trans p2.same) .int_mk)⟩
  ·rename_i xs ys
   dsimp only at ek
   split at ek
   ·rename_i hz
    cases ek
    obtain⟨l,vs,L1,rfl,hl,rl,zl,el⟩:=p1'.lst_inv
    obtain⟨c,ws,L2',rfl,hc,rc,zc,ec⟩:=p2'.lst_inv
    have n1:=rl.length
    have n2:=rc.length
    refine .inr ⟨l,c,vs,ws,rfl,rfl,hl,hc,by omega,λp hp=>?_⟩
    refine q _ _ (p::(L1++L2')) (QK.QT (p1.same.trans p2.same) hp (rl.append rc) (by rw[Zr];exact hz) (λa ha=>c1 a ?_) o1)
    rcases ZJ.mp ha with h | h
    ·refine Zg _ ?_
     rcases el with rfl | rfl
     ·exact Zc _ h
     ·exact h
    ·refine Zd _ ?_
     rcases ec with rfl | rfl
     ·exact Zc _ h
     ·exact h
   ·cases ek
noncomputable def QtL(K:PySem.W.Frag):R2:=λx y H Q=>∃l k xs,x= .ref l/\y= .int k/\(H l=some (.lst xs)∨Fix K H l xs)/\ -(2^63)<=k/\k<2^63/\xs.length*k.toNat<=sizeLine∧
 ∀p,H p=none->Q (.ref p) (upd H p (.lst (List.replicate k.toNat xs).flatten))
theorem QqV:OpR X (binaryOp .Mult) (QtL X.K):=by
 intro pins s σ H x y v u Q I rx ry h
 obtain⟨l,k,xs,rfl,rfl,hH,h1,h2,hz,q⟩:=h
 cases rx
 obtain⟨t,rfl⟩:=ry
 obtain⟨z,its,n,r,hl,e⟩:=I.Qkc hH
 have hlen:its.toArray.size*k.toNat<=sizeLine:=by rw[Zs,← hl];exact hz
 have hcap:¬its.toArray.size*k.toNat>(2^63-1) / 8:=by
  have:(sizeLine:Nat)<=(2^63-1) / 8:=by decide
  omega
 have hfit:¬(!Builtin.List.listFitsIndex k)=true:=by
  rw[fitsIndex_both h1 h2]
  exact Zav
 have hlong:¬Builtin.List.listTooLong (its.toArray.size*k.toNat)=true:=by
  rw[Qoj hlen]
  exact Zav
 have hnew:List.foldl (λx1 x2=>x1++x2) #[] (List.replicate (if its.toArray.isEmpty=true then 0 else k.toNat) its.toArray)=(List.replicate k.toNat its).flatten.toArray:=by
  have f0:∀m:Nat,List.foldl (λx1 x2=>x1++x2) #[] (List.replicate m its.toArray)=(List.replicate m its).flatten.toArray:=λm=>by
   have:=foldl_rep its m []
   rw[List.nil_append]at this
   exact this
  rw[f0]
  cases its with
  | nil=>simp
  | cons a r'=>rw[if_neg (by simp)]
 open PyProof.Rows in
 refine wpAny_binaryOp_repeat_ref (by decide) ⟨_,e,rfl⟩ (λs'=>typeIs_int s' k t) noFill_list_mul F.fills_int_mul F.slot_int_rmul repeat_list F.slot_int_index.lookup
  (call_meets F.slot_int_rmul (typeIs_int s k t) F.entry_int_rmul (F.args_int_rmul_2 _ _) (int___rmul___int_list k t l its.toArray n)
   ⟨e,rfl,⟨_,e,rfl⟩,call_meets F.slot_list_mul ⟨_,e,rfl⟩ F.entry_list_mul (F.args_list_mul_2 _ _) (AutoListH.list___mul___list_int_3 l its.toArray n k t hfit hcap hlong) ⟨e,?_⟩⟩)
 rw[hnew]
 exact⟨.ref _,_,I.Qsg (t':=s.toks) (r.rep k.toNat) (by rw[len_rep,Nat.mul_comm];exact hz),rfl,q _ I.fresh⟩
theorem Qin(h:QJ xs=true):∀n:Nat,QJ (List.replicate n xs).flatten=true
 | 0=>by simp[QJ]
 | n+1=>by rw[Zah,Zal,Qcp,h,Qin h n];rfl
theorem Rps.rep(h:Rps K H ds vs []):∀n:Nat,Rps K H (List.replicate n ds).flatten (List.replicate n vs).flatten []
 | 0=>by simp[Rps]
 | n+1=>by rw[Zah,Zal,Zah,Zal];exact h.append (Rps.rep h n)
theorem QrL(ha:SE X a fa)(hb:SE X b fb):SE X (.BinOp a .Mult b pos) (Qar fa fb):=λH0 A0=>
 (QlV (Qp5.or QqV) (ha H0 A0) (hb H0 A0)).mono λσ H Q=>exK λρ hs F r' rel e q=>by
  obtain⟨ra,rb,ea,eb,ek⟩:=QlR e
  refine two rel ea eb λx y H1 H2 G1 G2 p1 p2=>?_
  have p1':=p1.rp.same p2.same
  have p2':=p2.rp
  revert ek
  revert p1' p2'
  cases ra.d<;>cases rb.d<;>intro p1' p2' ek<;>first | (cases ek;done) | skip
  ·dsimp only at ek
   split at ek
   ·rename_i hm
    cases ek
    rw[p1'.int_inv,p2'.int_inv]
    exact .inl ⟨_,_,rfl,rfl,hm,q _ H2 [] (.flat (p1.same.trans p2.same) .int_mk)⟩
   ·cases ek
  ·rename_i xs j
   dsimp only at ek
   split at ek
   ·rename_i hz
    cases ek
    obtain⟨hz1,hz2,hz3,hf⟩:=hz
    obtain⟨l,vs,L1,rfl,hl,rl,zl,el⟩:=p1'.lst_inv
    have n1:=rl.length
    have e0:=rl.Qa7 hf
    subst e0
    rw[p2'.int_inv]
    refine .inr ⟨l,j,vs,rfl,rfl,hl,hz2,hz3,by rw[← n1];exact hz1,λp hp=>?_⟩
    have w:HS.QT (List.replicate j.toNat xs).flatten []=⟨.lst (List.replicate j.toNat xs).flatten,true,[]⟩:=by
     unfold HS.QT;rw[if_pos (Qin hf _)]
    rw[← w]at q
    exact q _ _ (p::[]) (QK.QT (p1.same.trans p2.same) hp (rl.rep _) (by rw[len_rep,Nat.mul_comm];exact hz1) Src.nil Qan.nil)
   ·cases ek
end
end HS
namespace HS
open PySem PySem.Spec L2
noncomputable def Qf:DA:=λ_=>some ⟨[],true,[]⟩
noncomputable def Qb(fa:DE)(fr:DA):DA:=λρ=>(fa ρ).bind λr=>(fr ρ).bind λrs=>some ⟨r.d::rs.ds,r.fr && rs.fr,r.M++rs.M⟩
noncomputable def Qa1(fa:DA):DE:=λρ=>(fa ρ).bind λr=>if r.ds.length<=64 then some ⟨.tup r.ds,r.fr,r.M⟩else none
noncomputable def Q3(fa:DA):DE:=λρ=>(fa ρ).bind λr=>if r.ds.length<=64 then some ⟨.lst r.ds,r.fr,r.M⟩else none
section
variable {X:Cx}{a b e:Expr}{es:List Expr}{fa fb:DE}{fs:DA}{pos:Pos}
theorem QkC:SA X [] Qf:=λH0 A0=>Qb8.mono λσ H Q=>exK λρ hs F r' rel e q=>by
 cases e
 exact q [] H [] ⟨Qz.refl _,by simp[Rps],Src.nil,λ_=>⟨Cnt.nil,rfl⟩,Qan.nil⟩
theorem QfE(ha:SE X e fa)(hr:SA X es fs)(hs:starEach (e::es) X.env=(false,eval e X.env)::starEach es X.env):SA X (e::es) (Qb fa fs):=λH0 A0=>
 (Qav (ha H0 A0) (hr H0 A0) hs).mono λσ H Q=>exK λρ hs F r' rel e q=>by
  refine Qh e λr e1 e=>?_
  refine Qh e λrs e2 e=>?_
  cases e
  refine⟨ρ,hs,F,r,rel,e1,λx H1 G1 p1=>⟨ρ,hs,F,rs,rel.ext p1.same,e2,λxs H2 G2 p2=>?_⟩⟩
  refine q _ H2 (G1++G2) ⟨p1.same.trans p2.same,?_,p1.src.append p2.src p1.same,λh=>?_,p1.own.append p2.own⟩
  ·simp only[Rps]
   exact⟨x,xs,G1,G2,rfl,rfl,p1.rp.same p2.same,p2.rp⟩
  ·simp only[Zk]at h
   exact⟨(p1.cnt h.1).1.append rel (p2.cnt h.2).1 p1.same p1.rp.mem,by simp only[nls,Zr,(p1.cnt h.1).2,(p2.cnt h.2).2]⟩
theorem QeM{n:Nat}(h:n<=64):n<=sizeLine:=ZH h (by decide)
theorem Qsn{k:Nat}(ha:SA X es fs):SE X (.Tuple es k pos) (Qa1 fs):=λH0 A0=>
 (Qss (ha H0 A0)).mono λσ H Q=>exK λρ hs F r' rel e q=>by
  refine Qh e λr e1 e=>?_
  split at e
  ·rename_i hz
   cases e
   refine⟨ρ,hs,F,r,rel,e1,λxs H1 G p=>⟨by rw[← p.rp.length];exact QeM hz,λc hc=>q _ _ G ⟨p.same.trans (QbQ hc),Rp.Qi9 Qam (p.rp.same (QbQ hc)),p.src,λh=>⟨(p.cnt h).1,by simp only[D.nl];exact(p.cnt h).2⟩,p.own⟩⟩⟩
  ·cases e
theorem QrW(ha:SA X es fs):SE X (.List es pos) (Q3 fs):=λH0 A0=>
 (QrS (ha H0 A0)).mono λσ H Q=>exK λρ hs F r' rel e q=>by
  refine Qh e λr e1 e=>?_
  split at e
  ·rename_i hz
   cases e
   refine⟨ρ,hs,F,r,rel,e1,λxs H1 G p=>⟨by rw[← p.rp.length];exact QeM hz,λc hc=>?_⟩⟩
   have hH:H c=none:=p.same.free hc
   refine q _ _ (c::G) ⟨p.same.trans (QbQ hc),Rp.Qeb Qam (p.rp.same (QbQ hc)) (QeM hz),λz hz'=>?_,λh=>⟨λz=>?_,by simp only[D.nl,Zq,(p.cnt h).2]⟩,p.own⟩
   ·rcases Zl.mp hz' with rfl | h
    ·exact .inl hH
    ·exact p.src z h
   ·rw[Zaz]
    have:=(p.cnt h).1 z
    split
    ·rename_i e'
     have e':c=z:=by simpa using e'
     subst e'
     have h0:G.count c=0:=ZW.mpr λhm=>by obtain⟨vs,w⟩:=p.rp.mem c hm;rw[hc]at w;cases w
     rw[QaA hH];omega
    ·exact this
  ·cases e
noncomputable def D.items:D->Option (List D)
 | .lst xs=>some xs
 | .tup xs=>some xs
 | _=>none
noncomputable def Qm(fa fb:DE):DE:=λρ=>(fa ρ).bind λra=>(fb ρ).bind λrb=>match rb.d with
 | .int i=>(ra.d.items).bind λxs=>(atI xs i).map λd=>(R.norm ⟨d,ra.fr,ra.M⟩)
 | _=>none
theorem Qrn{α β:Type}{xs:List α}{i:Int}{d:α}(h:atI xs i=some d):∃j:Nat,xs[j]? =some d/\∀(ys:List β),ys.length=xs.length->∀y,ys[j]? =some y->atI ys i=some y:=by
 unfold atI at h
 cases e:ixN xs.length i with
 | none=>rw[e]at h;cases h
 | some j=>
  rw[e]at h
  refine⟨j,h,λys hl y hy=>?_⟩
  unfold atI
  rw[hl,e]
  exact hy
theorem QrZ(ha:SE X a fa)(hb:SE X b fb)(hs:QfJ b):SE X (.Subscript a b pos) (Qm fa fb):=λH0 A0=>
 (QpK (Qlx.or Qnp) (ha H0 A0) (hb H0 A0) hs).mono λσ H Q=>exK λρ hs F r' rel e q=>by
  obtain⟨ra,rb,ea,eb,ek⟩:=QlR e
  refine two rel ea eb λx y H1 H2 G1 G2 p1 p2=>?_
  have p1':=p1.rp.same p2.same
  have p2':=p2.rp
  have pp:QK X.K ρ F H H2 ra x G1:=⟨p1.same.trans p2.same,p1',p1.src,p1.cnt,p1.own⟩
  cases hb':rb.d with
  | int i=>
   rw[hb']at ek p2'
   rw[p2'.int_inv]
   refine Qh ek λxs ex ek=>?_
   obtain⟨d,ed,ek⟩:=Ze.mp ek
   subst ek
   obtain⟨j,hj,hm⟩:=Qrn ed
   have fin:∀(L:List Addr) (vs:List V),Rps X.K H2 xs vs L->(∀z,L.count z<=G1.count z)->(G1.length=ra.d.nl->L.length=nls xs)->∃v,atI vs i=some v/\Q v H2:=λL vs rl hc hn=>by
    obtain⟨v,F1,G,F2,hv,eF,rv,hx⟩:=rl.get hj
    refine⟨v,hm vs rl.length.symm v hv,q v H2 G (QK.norm (QK.sub pp rv (λz=>ZH ?_ (hc z)) λz=>hx (hn z)))⟩
    rw[eF,Zam,Zam];omega
   cases hra:ra.d with
   | lst ys=>
    rw[hra]at ex p1'
    cases ex
    obtain⟨l,vs,L,rfl,hl,rl,zl,el⟩:=p1'.lst_inv
    have hn:G1.length=ra.d.nl->L.length=nls xs:=λhz=>by
     have:=rl.Qad
     simp only[hra,D.nl]at hz
     rcases el with rfl | rfl
     ·rw[Zq]at hz;omega
     ·omega
    have hc:∀z,L.count z<=G1.count z:=λz=>by
     rcases el with rfl | rfl
     ·rw[Zaz];omega
     ·exact Zp _
    obtain⟨v,h1,h2⟩:=fin L vs rl hc hn
    exact .inl ⟨l,vs,i,v,rfl,rfl,QI hl,h1,h2⟩
   | tup ys=>
    rw[hra]at ex p1'
    cases ex
    obtain⟨l,vs,rfl,hl,rl⟩:=p1'.Qaf
    obtain⟨v,h1,h2⟩:=fin G1 vs rl (λz=>Zp _) λz=>(by simpa only[hra,D.nl]using z)
    exact .inr ⟨l,vs,i,v,rfl,rfl,hl,h1,h2⟩
   | _=>rw[hra]at ex;cases ex
  | _=>rw[hb']at ek;cases ek
noncomputable abbrev DO:=En->Option (Option Int)
noncomputable def Qdf:DO:=λ_=>some none
noncomputable def QbI(f:DE):DO:=λρ=>(f ρ).bind λr=>match r.d with
 | .int i=>some (some i)
 | _=>none
noncomputable def tVO(K:PySem.W.Frag)(H0:Hp)(A0:List Addr)(f:DO):TO:=λσ H Q=>∃ρ hs F o,Rel K H0 A0 hs ρ F σ H/\f ρ=some o/\∀H',Qz H H'->Q o H'
def SO(X:Cx)(e:Option Expr)(f:DO):Prop:=∀H0 A0,PO X e (tVO X.K H0 A0 f)
theorem _root_.L2.PO.mono{X:Cx}{e:Option Expr}{t t':TO}(h:PO X e t)(m:∀σ H Q,t' σ H Q->t σ H Q):PO X e t':=by
 intro pins s σ H Q I q
 exact h pins s σ H Q I (m σ H Q q)
theorem QqW:SO X none Qdf:=λH0 A0=>Qqy.mono λσ H Q=>exK λρ hs F o rel e q=>by
 cases e
 exact q H (Qz.refl _)
theorem Qrw(h:SE X a fa):SO X (some a) (QbI fa):=λH0 A0=>(Qqg (h H0 A0)).mono λσ H Q=>exK λρ hs F o rel e q=>by
 refine Qh e λr e1 e=>?_
 refine⟨ρ,hs,F,r,rel,e1,λv H1 G p=>?_⟩
 have rp:=p.rp
 cases hr:r.d with
 | int i=>
  rw[hr]at e rp
  cases e
  exact⟨i,rp.int_inv,q H1 p.same⟩
 | _=>rw[hr]at e;cases e
noncomputable def cutD(xs:List D)(lo hi:Option Int):List D:=(xs.drop (HT.sIx xs.length 0 lo)).take (HT.sIx xs.length xs.length hi-HT.sIx xs.length 0 lo)
noncomputable def Qc4(fa:DE)(lo hi:DO):DE:=λρ=>(fa ρ).bind λra=>(lo ρ).bind λl=>(hi ρ).bind λh=>match ra.d with
 | .lst xs=>some (QT (cutD xs l h) ra.M)
 | _=>none
theorem Rps.drop:∀{ds:List D}{vs:List V}{F:List Addr}{K:PySem.W.Frag}{H:Hp}(n:Nat),Rps K H ds vs F->∃G,Rps K H (ds.drop n) (vs.drop n) G/\∀a∈G,a∈F
 | [],vs,F,K,H,n,h=>by simp only[Rps]at h;rw[h.1,h.2];exact⟨[],by simp[Rps],λ_ h=>h⟩
 | d::ds,vs,F,K,H,0,h=>⟨F,by simpa using h,λ_ h=>h⟩
 | d::ds,vs,F,K,H,n+1,h=>by
  simp only[Rps]at h
  obtain⟨v,ws,F1,F2,e,eF,r,q⟩:=h
  subst e eF
  obtain⟨G,h1,h2⟩:=Rps.drop n q
  exact⟨G,by simpa using h1,λa ha=>Zd _ (h2 a ha)⟩
theorem Rps.take:∀{ds:List D}{vs:List V}{F:List Addr}{K:PySem.W.Frag}{H:Hp}(n:Nat),Rps K H ds vs F->∃G,Rps K H (ds.take n) (vs.take n) G/\∀a∈G,a∈F
 | [],vs,F,K,H,n,h=>by simp only[Rps]at h;rw[h.1,h.2];exact⟨[],by simp[Rps],λ_ h=>h⟩
 | d::ds,vs,F,K,H,0,h=>⟨[],by simp[Rps],λ_ h=>by simp at h⟩
 | d::ds,vs,F,K,H,n+1,h=>by
  simp only[Rps]at h
  obtain⟨v,ws,F1,F2,e,eF,r,q⟩:=h
  subst e eF
  obtain⟨G,h1,h2⟩:=Rps.take n q
  refine⟨F1++G,?_,λa ha=>?_⟩
  ·simp only[List.take_succ_cons,Rps]
   exact⟨v,_,F1,G,rfl,rfl,r,h1⟩
  ·rcases ZJ.mp ha with h | h
   ·exact Zg _ h
   ·exact Zd _ (h2 a h)
theorem QsL{lo hi:Option Expr}{fl fh:DO}{p2:Pos}(ha:SE X a fa)(hl:SO X lo fl)(hh:SO X hi fh):SE X (.Subscript a (.Slice lo hi none p2) pos) (Qc4 fa fl fh):=λH0 A0=>
 (Qpk QpT (ha H0 A0) (hl H0 A0) (hh H0 A0)).mono λσ H Q=>exK λρ hs F r' rel e q=>by
  refine Qh e λra e1 e=>?_
  refine Qh e λl e2 e=>?_
  refine Qh e λh e3 e=>?_
  refine⟨ρ,hs,F,ra,rel,e1,λx H1 G1 p1=>⟨ρ,hs,F,l,rel.ext p1.same,e2,λH2 s2=>⟨ρ,hs,F,h,(rel.ext p1.same).ext s2,e3,λH3 s3=>?_⟩⟩⟩
  have rp:=p1.rp.same (s2.trans s3)
  cases hra:ra.d with
  | lst xs=>
   rw[hra]at e rp
   cases e
   obtain⟨c,vs,L,rfl,hc,rl,zl,el⟩:=rp.lst_inv
   refine⟨c,vs,rfl,QI hc,λp hp=>?_⟩
   obtain⟨G2,h2,m2⟩:=rl.drop (HT.sIx xs.length 0 l)
   obtain⟨G3,h3,m3⟩:=h2.take (HT.sIx xs.length xs.length h-HT.sIx xs.length 0 l)
   have n1:=rl.length
   rw[show QhN vs l h=(vs.drop (HT.sIx xs.length 0 l)).take (HT.sIx xs.length xs.length h-HT.sIx xs.length 0 l) by unfold QhN;rw[n1]]
   refine q _ _ (p::G3) (QK.QT (p1.same.trans (s2.trans s3)) hp h3 ?_ (λz hz=>p1.src z ?_) p1.own)
   ·unfold cutD;rw[ZaC,ZaO];omega
   ·have:=m2 z (m3 z hz)
    rcases el with rfl | rfl
    ·exact Zc _ this
    ·exact this
  | _=>rw[hra]at e;cases e
noncomputable def dBf(g:List D->Option D)(fs:DA):DE:=λρ=>(fs ρ).bind λr=>(g r.ds).map λd=>⟨d,true,[]⟩
def QcB(K:PySem.W.Frag)(g:List D->Option D)(r:List V->Hp->VK->Prop):Prop:=∀ds d,g ds=some d->d.flat=true/\∀H vs F (Q:VK),Rps K H ds vs F->(∀v,(∀H',Rp K H' d v [])->Q v H)->r vs H Q
theorem Qfs{x:Str}{id:String}{g:List D->Option D}{r:List V->Hp->VK->Prop}{p:Pos}(hc:QaJ X (.builtin id) r)(hk:QcB X.K g r)(hg:Gl X x)(hm:X.mg x=none)(hv:bootBuiltins x=some (.builtin id))(ha:SA X (e::es) fs)(hn:x≠ "__name__")(hdb:(x == ("__debug__" :Str))=false)
  (he:starEach (e::es) X.env=(false,eval e X.env)::starEach es X.env) (hpl:(backTo pos (starEach es X.env)).any (·.1)=false):SE X (.Call (.Name x p) (e::es) [] pos) (dBf g fs):=λH0 A0=>
 (Qf5 hc hg hm hv (ha H0 A0) hn hdb he hpl).mono λσ H Q=>exK λρ hs F r' rel e q=>by
  refine Qh e λra e1 e=>?_
  obtain⟨d,ed,e⟩:=Ze.mp e
  subst e
  exact⟨ρ,hs,F,ra,rel,e1,λvs H1 G p1=>(hk _ _ ed).2 H1 vs G Q p1.rp λv hv=>q v H1 [] (.flat p1.same (hv _) (hk _ _ ed).1)⟩
theorem Rps.one{K:PySem.W.Frag}{H:Hp}{d:D}{vs:List V}{F:List Addr}(h:Rps K H [d] vs F):∃v,vs=[v]/\Rp K H d v F:=by
 simp only[Rps]at h
 obtain⟨v,ws,F1,F2,rfl,rfl,r,rfl,rfl⟩:=h
 exact⟨v,rfl,by simpa using r⟩
theorem Rps.two{K:PySem.W.Frag}{H:Hp}{d e:D}{vs:List V}{F:List Addr}(h:Rps K H [d,e] vs F):∃v w F1 F2,vs=[v,w]/\Rp K H d v F1/\Rp K H e w F2:=by
 simp only[Rps]at h
 obtain⟨v,ws,F1,F2,rfl,rfl,r,w,ws',F3,F4,rfl,rfl,r2,rfl,rfl⟩:=h
 exact⟨v,w,F1,F3,rfl,r,r2⟩
noncomputable def QbF:List D->Option D
 | [.lst xs]=>some (.int xs.length)
 | [.tup xs]=>some (.int xs.length)
 | _=>none
theorem Qtf{K:PySem.W.Frag}:QcB K QbF (λxs H Q=>∃p ys,xs=[.ref p]/\(SqL K H p ys∨SqT K H p ys)/\Q (.int ys.length) H):=λds d e=>by
 unfold QbF at e
 split at e
 ·cases e
  refine⟨rfl,λH vs F Q r q=>?_⟩
  obtain⟨v,rfl,rp⟩:=r.one
  obtain⟨l,ws,L,rfl,hl,rl,zl,el⟩:=rp.lst_inv
  exact⟨l,ws,rfl,.inl (QI hl),by rw[← rl.length];exact q _ λ_=> .int_mk⟩
 ·cases e
  refine⟨rfl,λH vs F Q r q=>?_⟩
  obtain⟨v,rfl,rp⟩:=r.one
  obtain⟨l,ws,rfl,hl,rl⟩:=rp.Qaf
  exact⟨l,ws,rfl,.inr hl,by rw[← rl.length];exact q _ λ_=> .int_mk⟩
 ·cases e
noncomputable def QdP:List D->Option D
 | [.int i,.int j]=>some (.int (if j<i then j else i))
 | _=>none
theorem Qq9{K:PySem.W.Frag}:QcB K QdP (λxs H Q=>∃i j,xs=[.int i,.int j]/\Q (.int (if j<i then j else i)) H):=λds d e=>by
 unfold QdP at e
 split at e
 ·cases e
  refine⟨rfl,λH vs F Q r q=>?_⟩
  obtain⟨v,w,F1,F2,rfl,r1,r2⟩:=r.two
  exact⟨_,_,by rw[r1.int_inv,r2.int_inv],q _ λ_=> .int_mk⟩
 ·cases e
noncomputable def dList(fs:DA):DE:=λρ=>(fs ρ).bind λr=>match r.ds with
 | [.lst xs]=>some (QT xs r.M)
 | [.tup xs]=>if xs.length<=sizeLine then some (QT xs r.M)else none
 | _=>none
theorem QqX{p:Pos}(hg:Gl X "list")(hm:X.mg "list" =none)(ha:SA X (e::es) fs)(he:starEach (e::es) X.env=(false,eval e X.env)::starEach es X.env)(hpl:(backTo pos (starEach es X.env)).any (·.1)=false):
  SE X (.Call (.Name "list" p) (e::es) [] pos) (dList fs):=λH0 A0=>
 (QhR Qkb hg hm ZbR (ha H0 A0) (by decide) (by decide) he hpl).mono λσ H Q=>exK λρ hs F r' rel e q=>by
  refine Qh e λra e1 e=>?_
  refine⟨ρ,hs,F,ra,rel,e1,λvs H1 G p1=>?_⟩
  have rp:=p1.rp
  have src:=p1.src
  split at e
  ·rename_i xs hds
   cases e
   rw[hds]at rp
   obtain⟨v,rfl,rq⟩:=rp.one
   obtain⟨l,ws,L,rfl,hl,rl,zl,el⟩:=rq.lst_inv
   refine⟨l,ws,rfl,.inl (QI hl),λc hc=>q _ _ (c::L) (QK.QT p1.same hc rl zl (λz hz=>src z ?_) p1.own)⟩
   rcases el with rfl | rfl
   ·exact Zc _ hz
   ·exact hz
  ·rename_i xs hds
   split at e
   ·rename_i hz
    cases e
    rw[hds]at rp
    obtain⟨v,rfl,rq⟩:=rp.one
    obtain⟨l,ws,rfl,hl,rl⟩:=rq.Qaf
    exact⟨l,ws,rfl,.inr hl,λc hc=>q _ _ (c::G) (QK.QT p1.same hc rl hz src p1.own)⟩
   ·cases e
  ·cases e
end
end HS
namespace HS
open PySem PySem.Spec L2
mutual
noncomputable def D.py:D->PyData
 | .non=> .none
 | .bl b=> .bool b
 | .int i=> .int i
 | .str x=> .str x
 | .tup xs=> .tuple (pys xs)
 | .lst xs=> .list (pys xs)
 | .exc _=> .none
noncomputable def pys:List D->List PyData
 | []=>[]
 | d::ds=>d.py::pys ds
end
theorem Qls:∀ds:List D,pys ds=ds.map D.py
 | []=>rfl
 | d::ds=>by simp[pys,Qls ds]
noncomputable def D.sim:Nat->D->Bool
 | _,.non=>true
 | _,.bl _=>true
 | _,.int _=>true
 | _,.str x=>PyData.canLay0 (.str x)
 | 0,.tup xs=>xs.isEmpty
 | 0,.lst xs=>xs.isEmpty
 | n+1,.tup xs=>xs.all (D.sim n)
 | n+1,.lst xs=>xs.all (D.sim n)
 | _,.exc _=>false
theorem Qdw:∀{ds:List D},(∀d∈ds,d.py.canLay0=true)->PyData.canLayAll0 (pys ds)=true
 | [],_=>rfl
 | d::ds,h=>by
  simp only[pys,PyData.canLayAll0,Zk]
  exact⟨h d Zj,Qdw λe he=>h e (Zc _ he)⟩
theorem QdY:∀{ds:List D},(∀d∈ds,d.py.depth<=n)->PyData.depthAll (pys ds)<=n
 | [],_=>ZZ _
 | d::ds,h=>by
  simp only[pys,PyData.depthAll]
  exact Nat.max_le.mpr ⟨h d Zj,QdY λe he=>h e (Zc _ he)⟩
theorem Qa9:∀(n:Nat) (d:D),d.sim n=true->d.py.canLay0=true/\d.py.depth<=n+1
 | n,.exc _,h=>by cases n<;>cases h
 | n,.non,_=>by simp[D.py,PyData.canLay0,PyData.depth]
 | n,.bl _,_=>by simp[D.py,PyData.canLay0,PyData.depth]
 | n,.int _,_=>by simp[D.py,PyData.canLay0,PyData.depth]
 | n,.str x,h=>by
  simp only[D.py,PyData.depth]
  refine⟨?_,ZZ _⟩
  cases n<;>exact h
 | 0,.tup xs,h=>by
  have:xs=[]:=by simpa[D.sim]using h
  subst this
  simp[D.py,pys,PyData.canLay0,PyData.canLayAll0,PyData.depth,PyData.depthAll]
 | 0,.lst xs,h=>by
  have:xs=[]:=by simpa[D.sim]using h
  subst this
  simp[D.py,pys,PyData.canLay0,PyData.canLayAll0,PyData.depth,PyData.depthAll]
 | n+1,.tup xs,h=>by
  simp only[D.sim,ZV]at h
  simp only[D.py,PyData.canLay0,PyData.depth]
  exact⟨Qdw λd hd=>(Qa9 n d (h d hd)).1,Zbo (QdY λd hd=>(Qa9 n d (h d hd)).2) 1⟩
 | n+1,.lst xs,h=>by
  simp only[D.sim,ZV]at h
  simp only[D.py,PyData.canLay0,PyData.depth]
  exact⟨Qdw λd hd=>(Qa9 n d (h d hd)).1,Zbo (QdY λd hd=>(Qa9 n d (h d hd)).2) 1⟩
noncomputable def deq(a b:D):Bool:=PyData.eqv a.py b.py
theorem Qj8(h:d.sim n=true):deq d d=true:=SeqAt.eqv_refl _ (Qa9 n d h).1
mutual
noncomputable def D.noX:D->Bool
 | .exc _=>false
 | .tup xs=>Qgm xs
 | .lst xs=>Qgm xs
 | .non=>true
 | .bl _=>true
 | .int _=>true
 | .str _=>true
noncomputable def Qgm:List D->Bool
 | []=>true
 | d::ds=>d.noX && Qgm ds
end
theorem Qha:∀{ds:List D},(∀d∈ds,d.noX=true)->Qgm ds=true
 | [],_=>rfl
 | d::ds,h=>by
  simp only[Qgm,Zk]
  exact⟨h d Zj,Qha λe he=>h e (Zc _ he)⟩
theorem QbC:∀(n:Nat) (d:D),d.sim n=true->d.noX=true
 | n,.exc _,h=>by cases n<;>cases h
 | n,.non,_=>rfl
 | n,.bl _,_=>rfl
 | n,.int _,_=>rfl
 | n,.str x,_=>rfl
 | 0,.tup xs,h=>by
  have:xs=[]:=by simpa[D.sim]using h
  subst this;rfl
 | 0,.lst xs,h=>by
  have:xs=[]:=by simpa[D.sim]using h
  subst this;rfl
 | n+1,.tup xs,h=>by
  simp only[D.sim,ZV]at h
  simp only[D.noX]
  exact Qha λd hd=>QbC n d (h d hd)
 | n+1,.lst xs,h=>by
  simp only[D.sim,ZV]at h
  simp only[D.noX]
  exact Qha λd hd=>QbC n d (h d hd)
section
variable {X:Cx}{pins:List (Addr×Obj)}{σ:L2.St}{H:Hp}{s:Shared}
mutual
theorem Rp.reads(I:Inv X pins σ H s):∀{d:D}{v:V}{F:List Addr}{u:Value},d.noX=true->Rp X.K H d v F->RelV v u->∃as,Reads s.heap u d.py as
 | .exc _,v,_,u,hx,h,r=>by cases hx
 | .non,v,_,u,hx,h,r=>by
  rw[h.QhG]at r
  cases(show u=Value.none from r)
  exact⟨_,.none⟩
 | .bl b,v,_,u,hx,h,r=>by
  rw[h.Qeg]at r
  cases(show u=Value.bool b from r)
  exact⟨_,.bool b⟩
 | .int i,v,_,u,hx,h,r=>by
  rw[h.int_inv]at r
  obtain⟨t,rfl⟩:=(show ∃t,u=Value.int i t from r)
  exact⟨_,.int i t⟩
 | .str i,v,_,u,hx,h,r=>by
  rw[h.str_inv]at r
  obtain⟨t,rfl⟩:=(show ∃t,u=Value.str i t from r)
  exact⟨_,.str i t⟩
 | .tup ds,v,_,u,hx,h,r=>by
  obtain⟨a,vs,rfl,hq,rs⟩:=h.Qaf
  cases(show u=Value.ref a from r)
  obtain⟨its,rv,⟨o,h1,h2,n,h3⟩,_⟩:=I.tuple hq
  obtain⟨as,ra⟩:=Rps.reads I (by simpa only[D.noX]using hx) rs rv
  exact⟨_,.tuple h1 h2 h3 (by simpa using ra)⟩
 | .lst ds,v,_,u,hx,h,r=>by
  simp only[Rp]at h
  obtain⟨hz,a,vs,rfl,h⟩:=h
  have key:∃G,(H a=some (.lst vs)∨Fix X.K H a vs)/\Rps X.K H ds vs G:=by
   rcases h with⟨G,_,q,rs⟩ | ⟨q,rs⟩
   ·exact⟨G,.inl q,rs⟩
   ·exact⟨_,.inr q,rs⟩
  obtain⟨G,hq,rs⟩:=key
  cases(show u=Value.ref a from r)
  obtain⟨_,its,n,rv,_,e⟩:=I.Qkc hq
  obtain⟨as,ra⟩:=Rps.reads I (by simpa only[D.noX]using hx) rs rv
  exact⟨_,.list e rfl rfl (by simpa using ra)⟩
theorem Rps.reads(I:Inv X pins σ H s):∀{ds:List D}{vs:List V}{F:List Addr}{us:List Value},Qgm ds=true->Rps X.K H ds vs F->Qn vs us->∃as,ReadsAll s.heap us (pys ds) as
 | [],vs,_,us,_,h,r=>by
  simp only[Rps]at h
  rw[h.1]at r
  cases r
  exact⟨_,.nil⟩
 | d::ds,vs,_,us,hx,h,r=>by
  simp only[Qgm,Zk]at hx
  simp only[Rps]at h
  obtain⟨v,ws,F1,F2,rfl,rfl,h1,h2⟩:=h
  cases r with
  | cons r rr=>
   obtain⟨as,ra⟩:=Rp.reads I hx.1 h1 r
   obtain⟨bs,rb⟩:=Rps.reads I hx.2 h2 rr
   exact⟨_,.cons ra rb⟩
end
end
noncomputable def gEq(a b:D):Option D:=if a.sim 8 && b.sim 8 then some (.bl (deq a b))else none
noncomputable def gNe(a b:D):Option D:=if a.sim 8 && b.sim 8 then some (.bl (!deq a b))else none
noncomputable def gIn(neg:Bool)(a b:D):Option D:=match b with
 | .lst xs=>if a.sim 8 && b.sim 8 then some (.bl (if neg then !(xs.any λy=>deq y a)else xs.any λy=>deq y a))else none
 | .tup xs=>if a.sim 8 && b.sim 8 then some (.bl (if neg then !(xs.any λy=>deq y a)else xs.any λy=>deq y a))else none
 | _=>none
noncomputable def Qsa(K:PySem.W.Frag):R2:=λx y H Q=>∃a b F G,Rp K H a x F/\Rp K H b y G/\a.sim 8=true/\b.sim 8=true/\Q (.bl (deq a b)) H
noncomputable def Qr2(K:PySem.W.Frag):R2:=λx y H Q=>∃a b F G,Rp K H a x F/\Rp K H b y G/\a.sim 8=true/\b.sim 8=true/\Q (.bl (!deq a b)) H
section
variable {X:Cx}
theorem QsX(hu:X.A.units+64<cLine):OpR X (compareOp .Eq) (Qsa X.K):=by
 intro pins s σ H x y v u Q I rx ry h
 obtain⟨a,b,F,G,ha,hb,sa,sb,q⟩:=h
 obtain⟨as,ra⟩:=Rp.reads I (QbC 8 _ sa) ha rx
 obtain⟨bs,rb⟩:=Rp.reads I (QbC 8 _ sb) hb ry
 have h1:=Qa9 8 a sa
 have h2:=Qa9 8 b sb
 exact SeqAt.compareEq_reads ra rb h1.1 h2.1 (by have:=Nat.min_le_left a.py.depth b.py.depth;omega) ⟨.bl _,H,I,rfl,q⟩
theorem QrM(hu:X.A.units+64<cLine):OpR X (compareOp .NotEq) (Qr2 X.K):=by
 intro pins s σ H x y v u Q I rx ry h
 obtain⟨a,b,F,G,ha,hb,sa,sb,q⟩:=h
 obtain⟨as,ra⟩:=Rp.reads I (QbC 8 _ sa) ha rx
 obtain⟨bs,rb⟩:=Rp.reads I (QbC 8 _ sb) hb ry
 have h1:=Qa9 8 a sa
 have h2:=Qa9 8 b sb
 exact SeqAt.compareNe_reads ra rb h1.1 h2.1 (by have:=Nat.min_le_left a.py.depth b.py.depth;omega) ⟨.bl _,H,I,rfl,q⟩
theorem Qug:QbL K gEq (Qsa K):=λa b d e=>by
 unfold gEq at e
 split at e
 ·rename_i h
  simp only[Zk]at h
  cases e
  exact⟨rfl,λH x y F G Q ha hb q=>⟨a,b,F,G,ha,hb,h.1,h.2,q _ λ_=> .Qcd⟩⟩
 ·cases e
theorem QtY:QbL K gNe (Qr2 K):=λa b d e=>by
 unfold gNe at e
 split at e
 ·rename_i h
  simp only[Zk]at h
  cases e
  exact⟨rfl,λH x y F G Q ha hb q=>⟨a,b,F,G,ha,hb,h.1,h.2,q _ λ_=> .Qcd⟩⟩
 ·cases e
noncomputable def Qn3(K:PySem.W.Frag)(neg:Bool):R2:=λx y H Q=>∃a b F G xs,Rp K H a x F/\Rp K H b y G/\a.sim 8=true/\b.sim 8=true/\(b= .lst xs∨b= .tup xs)/\Q (.bl (if neg then !(xs.any λy=>deq y a)else xs.any λy=>deq y a)) H
theorem QnJ(xs:List D)(a:D):((pys xs).any λy=>PyData.eqv y a.py)=xs.any λy=>deq y a:=by
 rw[Qls,List.any_map];rfl
theorem QsT(hu:X.A.units+64<cLine):OpR X (compareOp .In) (Qn3 X.K false):=by
 intro pins s σ H x y v u Q I rx ry h
 obtain⟨a,b,F,G,xs,ha,hb,sa,sb,hk,q⟩:=h
 obtain⟨as,ra⟩:=Rp.reads I (QbC 8 _ sa) ha rx
 obtain⟨bs,rb⟩:=Rp.reads I (QbC 8 _ sb) hb ry
 have h1:=Qa9 8 a sa
 have h2:=Qa9 8 b sb
 have q':Q (.bl ((pys xs).any λy=>PyData.eqv y a.py)) H:=by rw[QnJ];exact q
 rcases hk with rfl | rfl
 ·exact SeqAt.in_list_reads rb ra h2.1 h1.1 (by have:=Zbl (PyData.depthAll (pys xs)) a.py.depth;omega) ⟨.bl _,H,I,rfl,q'⟩
 ·exact SeqAt.in_tuple_reads rb ra h2.1 h1.1 (by have:=Zbl (PyData.depthAll (pys xs)) a.py.depth;omega) ⟨.bl _,H,I,rfl,q'⟩
theorem Qmx(hu:X.A.units+64<cLine):OpR X (compareOp .NotIn) (Qn3 X.K true):=by
 intro pins s σ H x y v u Q I rx ry h
 obtain⟨a,b,F,G,xs,ha,hb,sa,sb,hk,q⟩:=h
 obtain⟨as,ra⟩:=Rp.reads I (QbC 8 _ sa) ha rx
 obtain⟨bs,rb⟩:=Rp.reads I (QbC 8 _ sb) hb ry
 have h1:=Qa9 8 a sa
 have h2:=Qa9 8 b sb
 have q':Q (.bl (!(pys xs).any λy=>PyData.eqv y a.py)) H:=by rw[QnJ];exact q
 rcases hk with rfl | rfl
 ·exact SeqAt.notIn_list_reads rb ra h2.1 h1.1 (by have:=Zbl (PyData.depthAll (pys xs)) a.py.depth;omega) ⟨.bl _,H,I,rfl,q'⟩
 ·exact SeqAt.notIn_tuple_reads rb ra h2.1 h1.1 (by have:=Zbl (PyData.depthAll (pys xs)) a.py.depth;omega) ⟨.bl _,H,I,rfl,q'⟩
theorem Qpx:QbL K (gIn neg) (Qn3 K neg):=λa b d e=>by
 unfold gIn at e
 split at e
 ·split at e
  ·rename_i h
   simp only[Zk]at h
   cases e
   exact⟨rfl,λH x y F G Q ha hb q=>⟨a,_,F,G,_,ha,hb,h.1,h.2,.inl rfl,q _ λ_=> .Qcd⟩⟩
  ·cases e
 ·split at e
  ·rename_i h
   simp only[Zk]at h
   cases e
   exact⟨rfl,λH x y F G Q ha hb q=>⟨a,_,F,G,_,ha,hb,h.1,h.2,.inr rfl,q _ λ_=> .Qcd⟩⟩
  ·cases e
 ·cases e
noncomputable def D.tyN:D->String
 | .non=> "NoneType" | .bl _=> "bool" | .int _=> "int" | .str _=> "str" | .tup _=> "tuple" | .lst _=> "list" | .exc _=> "?"
noncomputable def D.isE:D->Bool
 | .exc _=>true
 | _=>false
noncomputable def D.isa(T:String)(d:D):Option Bool:=if(T == "int" || T == "bool" || T == "list" || T == "tuple" || T == "str") && !d.isE then some (d.tyN == T || (d.tyN == "bool" && T == "int"))else none
theorem QrF(I:Inv X pins σ H s)(rp:Rp X.K H d v F)(rx:RelV v u)(e:d.isa T=some b)(h:∀tk,Q (.bool b) {s with toks:=tk}):
  wpAny (model X.prog X.w) A (call (.builtin "isinstance") [u,.type T]) Q E s:=by
 have kit:PySem.W.kitOne X.K (.type d.tyN) (.type T)=some b:=by
  unfold D.isa at e
  split at e
  ·rename_i hT
   cases e
   simp only[Zk,ZaX,beq_iff_eq]at hT
   obtain⟨hT,hE⟩:=hT
   rcases hT with(((rfl | rfl) | rfl) | rfl) | rfl<;>cases d<;>first | rfl | (cases hE)
  ·cases e
 cases d with
 | exc x=>unfold D.isa at e;split at e;(rename_i hT;exfalso;simp only[Zk]at hT;exact nomatch hT.2);cases e
 | non=>rw[rp.QhG]at rx;cases(show u=Value.none from rx);exact ZaJ PySem.W.kitx_none I.kIn True.intro kit (λz=>nomatch z) h
 | bl y=>rw[rp.Qeg]at rx;cases(show u=Value.bool y from rx);exact ZaJ PySem.W.kitx_bool I.kIn True.intro kit (λz=>nomatch z) h
 | int i=>rw[rp.int_inv]at rx;obtain⟨t,q⟩:=(show ∃t,u=Value.int i t from rx);cases q;exact ZaJ PySem.W.kitx_int I.kIn True.intro kit (λz=>nomatch z) h
 | str y=>rw[rp.str_inv]at rx;obtain⟨t,q⟩:=(show ∃t,u=Value.str y t from rx);cases q;exact ZaJ PySem.W.kitx_str I.kIn True.intro kit (λz=>nomatch z) h
 | tup ds=>
  obtain⟨a,vs,rfl,hq,_⟩:=rp.Qaf
  cases(show u=Value.ref a from rx)
  obtain⟨its,rv,⟨o,h1,h2,n,h3⟩,_⟩:=I.tuple hq
  exact ZaJ PySem.W.kitx_tuple I.kIn ⟨o,h1,h2⟩ kit (λz=>nomatch z) h
 | lst ds=>
  obtain⟨a,vs,G,rfl,hq,_⟩:=rp.lst_inv
  cases(show u=Value.ref a from rx)
  obtain⟨_,its,n,rv,_,e1⟩:=I.Qkc hq
  exact ZaJ PySem.W.kitx_list I.kIn ⟨_,e1,rfl⟩ kit (λz=>nomatch z) h
noncomputable def QuY(K:PySem.W.Frag):List V->Hp->VK->Prop:=λxs H Q=>∃x T d F b,xs=[x,.ty T]/\Rp K H d x F/\d.isa T=some b/\Q (.bl b) H
theorem QnW:QaJ X (.builtin "isinstance") (QuY X.K):=by
 intro pins s σ H xs us Q I r h
 obtain⟨x,T,d,F,b,rfl,rp,e,q⟩:=h
 obtain⟨u,w,rfl,ru,rw'⟩:=vals2 r
 cases(show w=Value.type T from rw')
 exact QrF I rp ru e λtk=>⟨.bl b,H,I.tok _,rfl,q⟩
noncomputable def Qg5(T:String)(fa:DE):DE:=λρ=>(fa ρ).bind λr=>(r.d.isa T).map λb=>⟨.bl b,true,[]⟩
theorem Qsl(hg:Gl X "isinstance")(hm:X.mg "isinstance" =none)(ha:SE X a fa)(hT:PE X (.Name x p2) (tC (.ty T)))
  (he:starEach [a,.Name x p2] X.env=(false,eval a X.env)::starEach [.Name x p2] X.env):SE X (.Call (.Name "isinstance" p) [a,.Name x p2] [] pos) (Qg5 T fa):=λH0 A0=>
 (Qf5 QnW hg hm PyProof.Rows.boot_isinstance (Qav (ha H0 A0) (Qav hT Qb8) he) (by decide) (by decide) he (by rfl)).mono λσ H Q=>exK λρ hs F r' rel e q=>by
  refine Qh e λr e1 e=>?_
  obtain⟨b,eb,e⟩:=Ze.mp e
  subst e
  exact⟨ρ,hs,F,r,rel,e1,λv H1 G p=>⟨v,T,r.d,G,b,rfl,p.rp,eb,q _ H1 [] (.flat p.same .Qcd)⟩⟩
noncomputable def D.tru:D->Option Bool
 | .non=>some false
 | .bl b=>some b
 | .int i=>some (i != 0)
 | .lst xs=>some (!xs.isEmpty)
 | .tup xs=>some (!xs.isEmpty)
 | .str _=>none
 | .exc _=>none
theorem QiQ(h:Rp K H d v F)(e:d.tru=some b):Qn0 K v H b:=by
 have emp:∀{ds:List D}{vs:List V}{G:List Addr},Rps K H ds vs G->(!ds.isEmpty)= !vs.isEmpty:=λ{ds vs G} r=>by
  have:=r.length
  cases ds<;>cases vs<;>simp_all
 cases d with
 | non=>rw[h.QhG];cases e;exact rfl
 | bl c=>rw[h.Qeg];cases e;exact rfl
 | int i=>rw[h.int_inv];cases e;exact rfl
 | str i=>cases e
 | exc i=>cases e
 | tup ds=>cases e;obtain⟨a,vs,rfl,hq,r⟩:=h.Qaf;exact .inr (.inl ⟨vs,hq,emp r⟩)
 | lst ds=>cases e;obtain⟨a,vs,G,rfl,hq,r,_⟩:=h.lst_inv;exact .inl ⟨vs,QI hq,emp r⟩
noncomputable def QC(fa:DE):DT:=λρ=>(fa ρ).bind λr=>r.d.tru
noncomputable def Qd4(f g:DT):DT:=λρ=>(f ρ).bind λb=>if b=true then g ρ else some false
noncomputable def bOr(f g:DT):DT:=λρ=>(f ρ).bind λb=>if b=true then some true else g ρ
noncomputable def Qc9(f:DT):DT:=λρ=>(f ρ).bind λb=>some (!b)
def SW(X:Cx)(e:Expr)(f:DT):Prop:=∀H0 A0,PW X e (tVT X.K H0 A0 f)
theorem _root_.L2.PW.mono(h:PW X e t)(m:∀σ H Q,t' σ H Q->t σ H Q):PW X e t':=λwh pins s σ H Q I q=>h wh pins s σ H Q I (m σ H Q q)
variable {a b e:Expr}{fa fb:DE}{ga gb gc:DT}{pos:Pos}{rest:List Expr}
theorem QsV(ha:SE X a fa)(he:∀whole,isTrue a X.env whole=(do let v ← whole;standAt a.pos;holding [v] (truthy v))):ST X a (QC fa):=λH0 A0=>
 (QnV (ha H0 A0) he).mono λσ H Q=>exK λρ hs F b rel e q=>by
  refine Qh e λr e1 e=>?_
  exact⟨ρ,hs,F,r,rel,e1,λv H1 G p=>⟨b,QiQ p.rp e,q H1 p.same⟩⟩
theorem Qs4(ho:OpR X (compareOp op) r)(hg:QbL X.K g r)(hbl:∀a b d,g a b=some d->∃k,d= .bl k)(ha:SE X a fa)(hb:SE X b fb)(hm:behindInMarks op b=false):ST X (.Compare a [op] [b] pos) (QC (dOp g fa fb)):=λH0 A0=>
 (QqF ho (ha H0 A0) (hb H0 A0) hm).mono λσ H Q=>exK λρ hs F k rel e q=>by
  refine Qh e λr' e0 e=>?_
  obtain⟨ra,rb,d,ea,eb,eg,rfl⟩:=Qht e0
  obtain⟨k',rfl⟩:=hbl _ _ _ eg
  cases e
  refine two rel ea eb λx y H1 H2 G1 G2 p1 p2=>(hg _ _ _ eg).2 H2 x y G1 G2 _ (p1.rp.same p2.same) p2.rp λv hv=>?_
  exact⟨_,(hv H2).Qeg,q H2 (p1.same.trans p2.same)⟩
theorem QsM(ha:ST X a ga):ST X (.UnaryOp .Not a pos) (Qc9 ga):=λH0 A0=>
 (QsI (ha H0 A0)).mono λσ H Q=>exK λρ hs F b rel e q=>by
  refine Qh e λc e1 e=>?_
  cases e
  exact⟨ρ,hs,F,c,rel,e1,λH1 s1=>q H1 s1⟩
theorem Qrr(ha:ST X a ga):SW X (.BoolOp .And [a] pos) ga:=λH0 A0=>Qrf (ha H0 A0)
theorem Qtb(ha:ST X a ga):SW X (.BoolOp .Or [a] pos) ga:=λH0 A0=>Qst (ha H0 A0)
theorem Qsh(ha:ST X a ga)(hb:SW X (.BoolOp .And (b::rest) pos) gb):SW X (.BoolOp .And (a::b::rest) pos) (Qd4 ga gb):=λH0 A0=>
 (Qsk (ha H0 A0) (hb H0 A0)).mono λσ H Q=>exK λρ hs F c rel e q=>by
  refine Qh e λd e1 e=>?_
  refine⟨ρ,hs,F,d,rel,e1,λH1 s1=>?_⟩
  cases d with
  | true=>exact⟨ρ,hs,F,c,rel.ext s1,e,λH2 s2=>q H2 (s1.trans s2)⟩
  | false=>cases e;exact q H1 s1
theorem QtT(ha:ST X a ga)(hb:SW X (.BoolOp .Or (b::rest) pos) gb):SW X (.BoolOp .Or (a::b::rest) pos) (bOr ga gb):=λH0 A0=>
 (Qts (ha H0 A0) (hb H0 A0)).mono λσ H Q=>exK λρ hs F c rel e q=>by
  refine Qh e λd e1 e=>?_
  refine⟨ρ,hs,F,d,rel,e1,λH1 s1=>?_⟩
  cases d with
  | true=>cases e;exact q H1 s1
  | false=>exact⟨ρ,hs,F,c,rel.ext s1,e,λH2 s2=>q H2 (s1.trans s2)⟩
theorem SW.st(h:SW X e ga):ST X e ga:=λH0 A0=>(h H0 A0).pt
noncomputable def Qga(fa fb:DE):DE:=λρ=>(fa ρ).bind λra=>(ra.d.tru).bind λb=>if b=true then fb ρ else some ra
noncomputable def dOr(fa fb:DE):DE:=λρ=>(fa ρ).bind λra=>(ra.d.tru).bind λb=>if b=true then some ra else fb ρ
noncomputable def QoW(fa:DE):DE:=λρ=>(fa ρ).bind λra=>(ra.d.tru).bind λb=>some ⟨.bl (!b),true,[]⟩
theorem QnI{op}(h:SE X a fa):SE X (.BoolOp op [a] pos) fa:=λH0 A0=>Qta (h H0 A0)
theorem QK.ext(s:Qz H H1)(p:QK K ρ F H1 H2 r v G)(rel:Rel K H0 A0 hs ρ F σ H):QK K ρ F H H2 r v G where
 same:=s.trans p.same
 rp:=p.rp
 src:=λa ha=>(p.src a ha).elim (λz=> .inl (s.free z)) .inr
 cnt:=λh=>⟨λa=>ZH ((p.cnt h).1 a) (Zbo (by
  cases q:H1 a with
  | none=>rw[QaA q,QaA (s.free q)];exact Zp _
  | some o=>rw[QcF q];exact ZZ _) _),(p.cnt h).2⟩
 own:=p.own
theorem Qs8(ha:SE X a fa)(hb:SE X (.BoolOp .And (b::rest) pos) fb):SE X (.BoolOp .And (a::b::rest) pos) (Qga fa fb):=λH0 A0=>by
 intro pins s σ H Q I ⟨ρ,hs,F,r,rel,e,q⟩
 refine Qh e λra e1 e=>?_
 refine Qh e λc e2 e=>?_
 refine PyProof.Rows.BoolOp_and (thn (ha H0 A0 pins s σ H _ I ⟨ρ,hs,F,ra,rel,e1,λv H' G p=>(⟨G,p⟩:∃G,QK X.K ρ F H H' ra v G)⟩) λv s1 hpt=>?_)
 obtain⟨x,H1,I1,r1,G,p⟩:=hpt
 refine thn (QgA pins s1 σ H1 x v (λk H2=>k=c/\H2=H1) I1 r1 ⟨c,QiQ p.rp e2,rfl,rfl⟩) λk s2 hpt=>?_
 obtain⟨H2,I2,e3,e4⟩:=hpt
 subst e3 e4
 cases k with
 | true=>exact hb H0 A0 pins s2 σ _ Q I2 ⟨ρ,hs,F,r,rel.ext p.same,e,λw H3 G3 p3=>q w H3 G3 (p3.ext p.same rel)⟩
 | false=>cases e;exact⟨x,_,I2,r1,q x _ G p⟩
theorem Qud(ha:SE X a fa)(hb:SE X (.BoolOp .Or (b::rest) pos) fb):SE X (.BoolOp .Or (a::b::rest) pos) (dOr fa fb):=λH0 A0=>by
 intro pins s σ H Q I ⟨ρ,hs,F,r,rel,e,q⟩
 refine Qh e λra e1 e=>?_
 refine Qh e λc e2 e=>?_
 refine PyProof.Rows.BoolOp_or (thn (ha H0 A0 pins s σ H _ I ⟨ρ,hs,F,ra,rel,e1,λv H' G p=>(⟨G,p⟩:∃G,QK X.K ρ F H H' ra v G)⟩) λv s1 hpt=>?_)
 obtain⟨x,H1,I1,r1,G,p⟩:=hpt
 refine thn (QgA pins s1 σ H1 x v (λk H2=>k=c/\H2=H1) I1 r1 ⟨c,QiQ p.rp e2,rfl,rfl⟩) λk s2 hpt=>?_
 obtain⟨H2,I2,e3,e4⟩:=hpt
 subst e3 e4
 cases k with
 | false=>exact hb H0 A0 pins s2 σ _ Q I2 ⟨ρ,hs,F,r,rel.ext p.same,e,λw H3 G3 p3=>q w H3 G3 (p3.ext p.same rel)⟩
 | true=>cases e;exact⟨x,_,I2,r1,q x _ G p⟩
theorem Qsy(ha:SE X a fa):SE X (.UnaryOp .Not a pos) (QoW fa):=λH0 A0=>by
 intro pins s σ H Q I ⟨ρ,hs,F,r,rel,e,q⟩
 refine Qh e λra e1 e=>?_
 refine Qh e λc e2 e=>?_
 cases e
 refine PyProof.Rows.UnaryOp_ (thn (ha H0 A0 pins s σ H _ I ⟨ρ,hs,F,ra,rel,e1,λv H' G p=>(⟨G,p⟩:∃G,QK X.K ρ F H H' ra v G)⟩) λv s1 hpt=>?_)
 obtain⟨x,H1,I1,r1,G,p⟩:=hpt
 refine PyProof.Rows.not_of (thn (QgA pins s1 σ H1 x v (λk H2=>k=c/\H2=H1) I1 r1 ⟨c,QiQ p.rp e2,rfl,rfl⟩) λk s2 hpt=>?_)
 obtain⟨H2,I2,e3,e4⟩:=hpt
 subst e3 e4
 exact⟨.bl (!k),_,I2,rfl,q _ _ [] (.flat p.same .Qcd)⟩
noncomputable def QdM(fa:DE):DE:=λρ=>(fa ρ).bind λra=>match ra.d with
 | .int i=>some ⟨.int (-i),true,[]⟩
 | _=>none
theorem QrC(ha:SE X a fa):SE X (.UnaryOp .USub a pos) (QdM fa):=λH0 A0=>
 (Qt8 QrR (ha H0 A0)).mono λσ H Q=>exK λρ hs F r rel e q=>by
  refine Qh e λra e1 e=>?_
  refine⟨ρ,hs,F,ra,rel,e1,λv H1 G p=>?_⟩
  have rp:=p.rp
  cases hr:ra.d with
  | int i=>
   rw[hr]at e rp
   cases e
   exact⟨i,rp.int_inv,q _ H1 [] (.flat p.same .int_mk)⟩
  | _=>rw[hr]at e;cases e
end
end HS
namespace HS
open PySem PySem.Spec L2
section
def QbJ(ρ ρ':En):Prop:=ρ'.length=ρ.length/\∀(i:Nat) d b,ρ'[i]? =some (some (d,b))->∃b',ρ[i]? =some (some (d,b'))/\(b=true->b'=true)
theorem QbJ.refl:QbJ ρ ρ:=⟨rfl,λi d b h=>⟨b,h,id⟩⟩
theorem QbJ.trans(a:QbJ ρ ρ')(b:QbJ ρ' ρ''):QbJ ρ ρ'':=⟨b.1.trans a.1,λi d c h=>by
 obtain⟨c',h1,h2⟩:=b.2 i d c h
 obtain⟨c'',h3,h4⟩:=a.2 i d c' h1
 exact⟨c'',h3,λz=>h4 (h2 z)⟩⟩
theorem Rel.weak(r:Rel K H0 A0 hs ρ F σ H)(w:QbJ ρ ρ'):Rel K H0 A0 hs ρ' F σ H where
 len:=w.1.trans r.len
 val:=λi d b e=>let ⟨b',h,_⟩:=w.2 i d b e;r.val i d b' h
 own:=λi d e=>by
  obtain⟨b',h,hb⟩:=w.2 i d true e
  have:b'=true:=hb rfl
  subst this
  obtain⟨h1,h2,h3,h4,h5⟩:=r.own i d h
  exact⟨h1,h2,h3,λj d' b' hj e'=>let ⟨b'',h',_⟩:=w.2 j d' b' e';h4 j d' b'' hj h',h5⟩
 src:=λi d b e=>let ⟨b',h,_⟩:=w.2 i d b e;r.src i d b' h
 held:=r.held
 same:=r.same
noncomputable def kill:List Nat->En->En
 | [],ρ=>ρ
 | i::M,ρ=>kill M (ρ.set i none)
noncomputable def QbP:List Nat->En->En
 | [],ρ=>ρ
 | i::M,ρ=>QbP M (match ρ[i]? with
  | some (some (d,_))=>ρ.set i (some (d,false))
  | _=>ρ)
theorem Qnw(i:Nat):QbJ ρ (ρ.set i none):=⟨by simp,λj d b h=>by
 by_cases hj:i=j
 ·subst hj
  by_cases hl:i<ρ.length
  ·rw[ZF hl]at h;cases h
  ·rw[Zv (by simp;omega)]at h;cases h
 ·rw[Zt hj]at h
  exact⟨b,h,id⟩⟩
theorem QbO:∀(M:List Nat) (ρ:En),QbJ ρ (kill M ρ)
 | [],ρ=> .refl
 | i::M,ρ=>(Qnw i).trans (QbO M _)
theorem Qfg:∀(M:List Nat) (ρ:En) (i:Nat) (d:D) (b:Bool),i∈M->(kill M ρ)[i]? =some (some (d,b))->False
 | [],ρ,i,d,b,h,_=>by simp at h
 | j::M,ρ,i,d,b,h,e=>by
  rcases Zl.mp h with rfl | h
  ·obtain⟨b',e',_⟩:=(QbO M (ρ.set i none)).2 i d b e
   by_cases hl:i<ρ.length
   ·rw[ZF hl]at e';cases e'
   ·rw[Zv (by simp;omega)]at e';cases e'
  ·exact Qfg M _ i d b h e
theorem Qph(i:Nat):QbJ ρ (match ρ[i]? with
  | some (some (d,_))=>ρ.set i (some (d,false))
  | _=>ρ):=by
 split
 ·rename_i d b e
  refine⟨by simp,λj d' b' h=>?_⟩
  by_cases hj:i=j
  ·subst hj
   have hl:i<ρ.length:=(Zb.mp e).1
   rw[ZF hl]at h
   cases h
   exact⟨b,e,λz=>by cases z⟩
  ·rw[Zt hj]at h
   exact⟨b',h,id⟩
 ·exact .refl
theorem Qbx:∀(M:List Nat) (ρ:En),QbJ ρ (QbP M ρ)
 | [],ρ=> .refl
 | i::M,ρ=>(Qph i).trans (Qbx M _)
theorem QgM:∀(M:List Nat) (ρ:En) (i:Nat) (d:D),i∈M->(QbP M ρ)[i]? =some (some (d,true))->False
 | [],ρ,i,d,h,_=>by simp at h
 | j::M,ρ,i,d,h,e=>by
  rcases Zl.mp h with rfl | h
  ·obtain⟨b',e',hb⟩:=(Qbx M _).2 i d true e
   have:b'=true:=hb rfl
   subst this
   split at e'
   ·rename_i d' b e1
    have hl:i<ρ.length:=(Zb.mp e1).1
    rw[ZF hl]at e'
    cases e'
   ·rename_i h1
    exact h1 d true e'
  ·exact QgM M _ i d h e
def Shr(H0:Hp)(A0:List Addr)(ρ:En)(F:Nat->List Addr)(G:List Addr):Prop:=
 ∀a∈G,(H0 a=none∨a∈A0)/\∀(i:Nat) d,ρ[i]? =some (some (d,true))->a∉F i
theorem Shr.of(r:Rel K H0 A0 hs ρ F σ H)(s:Src ρ F H M G):Shr H0 A0 (QbP M ρ) F G:=λa ha=>by
 have w:=Qbx M ρ
 rcases s a ha with h | ⟨i,d,b,e,m,hm⟩
 ·refine⟨.inl (r.same.free h),λj d' e' hj=>?_⟩
  obtain⟨b',e2,_⟩:=w.2 j d' true e'
  obtain⟨vs,q⟩:=r.mem e2 hj
  rw[h]at q;cases q
 ·refine⟨r.src i d b e a m,λj d' e' hj=>?_⟩
  obtain⟨b',e2,hb⟩:=w.2 j d' true e'
  have:b'=true:=hb rfl
  subst this
  by_cases hij:i=j
  ·subst hij
   rw[e]at e2
   cases e2
   exact QgM M ρ i _ (hm rfl) e'
  ·exact(r.own j d' e2).2.2.2.1 i d b hij e a hj m
theorem Rel.Qn4(r:Rel K H0 A0 hs ρ F σ H)(rp:Rp K H d v G)(sh:Shr H0 A0 ρ F G):
  Rel K H0 A0 hs (ρ.set i (some (d,d.flat))) (λj=>if j=i then G else F j) (σ.set i (some v)) H where
 len:=by simp[r.len]
 val:=λj d' b e=>by
  by_cases hj:j=i
  ·subst hj
   have hl:j<ρ.length:=by
    by_cases hl:j<ρ.length
    ·exact hl
    ·rw[Zv (by simp;omega)]at e;cases e
   rw[ZF hl]at e
   cases e
   exact⟨v,by rw[ZF (by rw[← r.len];exact hl)],by rw[if_pos rfl];exact rp⟩
  ·rw[Zt (Ne.symm hj)]at e
   obtain⟨w,h1,h2⟩:=r.val j d' b e
   exact⟨w,by rw[Zt (Ne.symm hj)];exact h1,by rw[if_neg hj];exact h2⟩
 own:=λj d' e=>by
  by_cases hj:j=i
  ·subst hj
   have hl:j<ρ.length:=by
    by_cases hl:j<ρ.length
    ·exact hl
    ·rw[Zv (by simp;omega)]at e;cases e
   rw[ZF hl]at e
   have e1:=Option.some.inj (Option.some.inj e)
   have ed:d=d':=congrArg Prod.fst e1
   have ef:d.flat=true:=congrArg Prod.snd e1
   subst ed
   have:=rp.Qa7 ef
   subst this
   rw[if_pos rfl]
   exact⟨(QcJ d ef).symm,ZaD,λa ha=>by simp at ha,λ_ _ _ _ _ a ha=>by simp at ha,λ_ _ a ha=>by simp at ha⟩
  ·rw[Zt (Ne.symm hj)]at e
   obtain⟨h1,h2,h3,h4,h5⟩:=r.own j d' e
   rw[if_neg hj]
   refine⟨h1,h2,h3,λk d'' b hk ek a ha=>?_,h5⟩
   by_cases hki:k=i
   ·subst hki
    rw[if_pos rfl]
    exact λhG=>(sh a hG).2 j d' e ha
   ·rw[Zt (Ne.symm hki)]at ek
    rw[if_neg hki]
    exact h4 k d'' b hk ek a ha
 src:=λj d' b e a ha=>by
  by_cases hj:j=i
  ·subst hj
   rw[if_pos rfl]at ha
   exact(sh a ha).1
  ·rw[Zt (Ne.symm hj)]at e
   rw[if_neg hj]at ha
   exact r.src j d' b e a ha
 held:=r.held
 same:=r.same
theorem Qt7(r:Rel K H0 A0 hs ρ F σ H)(ow:Qan ρ M)(nd:M.Nodup)(a:Addr):((M.map F).flatten).count a<=1:=by
 induction M with
 | nil=>simp
 | cons i M ih=>
  rw[Zu,Zal,Zam]
  obtain⟨h1,h2⟩:=Zak.mp nd
  have ih':=ih (λj hj=>ow j (Zc _ hj)) h2
  obtain⟨d,e⟩:=ow i Zj
  obtain⟨_,nd1,_,apart,_⟩:=r.own i d e
  by_cases ha:a∈F i
  ·have c1:(F i).count a<=1:=Zas.mp nd1 a
   have c2:((M.map F).flatten).count a=0:=ZW.mpr λhm=>by
    obtain⟨l,hl,hal⟩:=Zbk.mp hm
    obtain⟨j,hj,rfl⟩:=ZI.mp hl
    obtain⟨d',e'⟩:=ow j (Zc _ hj)
    exact apart j d' true (λz=>h1 (z▸hj)) e' a ha hal
   omega
  ·have:(F i).count a=0:=ZW.mpr ha
   omega
theorem QK.fresh(r:Rel K H0 A0 hs ρ F σ H)(p:QK K ρ F H H' rr v G)(hf:rr.fr=true)(nd:rr.M.Nodup):
  G.Nodup/\∀a∈G,H0 a=none/\(H a=none∨∃i d,i∈rr.M/\ρ[i]? =some (some (d,true))/\a∈F i):=by
 obtain⟨c,_⟩:=p.cnt hf
 refine⟨Zas.mpr λa=>?_,λa ha=>?_⟩
 ·have h1:=c a
  have h2:=Qt7 r p.own nd a
  cases q:H a with
  | none=>rw[QaA q,r.fl0 p.own q]at h1;omega
  | some o=>rw[QcF q]at h1;omega
 ·cases q:H a with
  | none=>exact⟨r.same.free q,.inl rfl⟩
  | some o=>
   have h1:=c a
   rw[QcF q]at h1
   have h2:0<G.count a:=Zar.mpr ha
   obtain⟨l,hl,hal⟩:=Zbk.mp (Zar.mp (by omega:0<((rr.M.map F).flatten).count a))
   obtain⟨i,hi,rfl⟩:=ZI.mp hl
   obtain⟨d,e⟩:=p.own i hi
   exact⟨(r.own i d e).2.2.1 a hal,.inr ⟨i,d,hi,e,hal⟩⟩
theorem Rel.Qc6(r:Rel K H0 A0 hs ρ F σ H)(p:QK K ρ F H H' rr v G)(hf:rr.fr=true)(nd:rr.M.Nodup):
  Rel K H0 A0 hs ((kill rr.M ρ).set i (some (rr.d,true))) (λj=>if j=i then G else F j) (σ.set i (some v)) H':=by
 have r1:=(r.ext p.same).weak (QbO rr.M ρ)
 obtain⟨gn,gs⟩:=p.fresh r hf nd
 have gl:=(p.cnt hf).2
 have apart:∀(j:Nat) d b,(kill rr.M ρ)[j]? =some (some (d,b))->∀a∈G,a∉F j:=λj d b e a ha hj=>by
  obtain⟨b',e',_⟩:=(QbO rr.M ρ).2 j d b e
  rcases(gs a ha).2 with q | ⟨k,d',hk,ek,hak⟩
  ·obtain⟨vs,w⟩:=r.mem e' hj
   rw[q]at w;cases w
  ·have hjk:j≠k:=λz=>by subst z;exact Qfg rr.M ρ j d b hk e
   exact(r.own k d' ek).2.2.2.1 j d b' hjk e' a hak hj
 have apartH:∀t∈hs,∀a∈G,a∉t.2.2:=λt ht a ha hj=>by
  rcases(gs a ha).2 with q | ⟨k,d',hk,ek,hak⟩
  ·obtain⟨vs,w⟩:=(r.held t ht).1.mem a hj
   rw[q]at w;cases w
  ·exact(r.own k d' ek).2.2.2.2 t ht a hak hj
 have lt:∀{j:Nat}{x:Option (D×Bool)}{y:D×Bool},((kill rr.M ρ).set j x)[j]? =some (some y)->j<(kill rr.M ρ).length:=λ{j x y} e=>by
  by_cases hl:j<(kill rr.M ρ).length
  ·exact hl
  ·rw[Zv (by simp;omega)]at e;cases e
 refine⟨by simp[r1.len],λj d b e=>?_,λj d e=>?_,λj d b e a ha=>?_,r1.held,r1.same⟩
 ·by_cases hj:j=i
  ·subst hj
   have hl:=lt e
   rw[ZF hl]at e
   cases e
   exact⟨v,by rw[ZF (by rw[← r1.len];exact hl)],by rw[if_pos rfl];exact p.rp⟩
  ·rw[Zt (Ne.symm hj)]at e
   obtain⟨w,h1,h2⟩:=r1.val j d b e
   exact⟨w,by rw[Zt (Ne.symm hj)];exact h1,by rw[if_neg hj];exact h2⟩
 ·by_cases hj:j=i
  ·subst hj
   have hl:=lt e
   rw[ZF hl]at e
   cases e
   rw[if_pos rfl]
   refine⟨gl,gn,λa ha=>(gs a ha).1,λk d' b hk ek a ha=>?_,apartH⟩
   rw[Zt (Ne.symm hk)]at ek
   rw[if_neg hk]
   exact apart k d' b ek a ha
  ·rw[Zt (Ne.symm hj)]at e
   obtain⟨h1,h2,h3,h4,h5⟩:=r1.own j d e
   rw[if_neg hj]
   refine⟨h1,h2,h3,λk d' b hk ek a ha=>?_,h5⟩
   by_cases hki:k=i
   ·subst hki
    rw[if_pos rfl]
    exact λhG=>apart j d true e a hG ha
   ·rw[Zt (Ne.symm hki)]at ek
    rw[if_neg hki]
    exact h4 k d' b hk ek a ha
 ·by_cases hj:j=i
  ·subst hj
   rw[if_pos rfl]at ha
   exact .inl (gs a ha).1
  ·rw[Zt (Ne.symm hj)]at e
   rw[if_neg hj]at ha
   exact r1.src j d b e a ha
noncomputable def asg(i:Nat)(r:R)(ρ:En):En:=
 if r.norm.fr && decide r.norm.M.Nodup then(kill r.norm.M ρ).set i (some (r.d,true))else(QbP r.norm.M ρ).set i (some (r.d,r.d.flat))
theorem Rel.asg(r:Rel K H0 A0 hs ρ F σ H)(p:QK K ρ F H H' rr v G):∃F',Rel K H0 A0 hs (asg i rr ρ) F' (σ.set i (some v)) H':=by
 have p':=p.norm
 unfold HS.asg
 split
 ·rename_i h
  simp only[Zk,decide_eq_true_eq]at h
  have:=r.Qc6 (i:=i) p' h.1 h.2
  rw[rr.Qco]at this
  exact⟨_,this⟩
 ·have r1:=(r.ext p'.same).weak (Qbx rr.norm.M ρ)
  have rp:=p'.rp
  rw[rr.Qco]at rp
  have sh:=Shr.of r p'.src
  exact⟨_,r1.Qn4 rp sh⟩
theorem Rel.hold(r:Rel K H0 A0 hs ρ F σ H)(h:∀t∈ts,Rp K H t.2.1 t.1 t.2.2/\Shr H0 A0 ρ F t.2.2):Rel K H0 A0 (ts++hs) ρ F σ H where
 len:=r.len
 val:=r.val
 own:=λi d e=>by
  obtain⟨h1,h2,h3,h4,h5⟩:=r.own i d e
  refine⟨h1,h2,h3,h4,λt ht a ha hm=>?_⟩
  rcases ZJ.mp ht with z | z
  ·exact((h t z).2 a hm).2 i d e ha
  ·exact h5 t z a ha hm
 src:=r.src
 held:=λt ht=>by
  rcases ZJ.mp ht with z | z
  ·exact⟨(h t z).1,λa ha=>((h t z).2 a ha).1⟩
  ·exact r.held t z
 same:=r.same
theorem Rel.Qne(r:Rel K H0 A0 (ts++hs) ρ F σ H):Rel K H0 A0 hs ρ F σ H where
 len:=r.len
 val:=r.val
 own:=λi d e=>let ⟨h1,h2,h3,h4,h5⟩:=r.own i d e;⟨h1,h2,h3,h4,λt ht=>h5 t (Zd _ ht)⟩
 src:=r.src
 held:=λt ht=>r.held t (Zd _ ht)
 same:=r.same
end
structure Ret (K:PySem.W.Frag) (H0:Hp) (A0:List Addr) (d:D) (fr:Bool) (v:V) (H':Hp) (G:List Addr):Prop where
 same:Qz H0 H'
 rp:Rp K H' d v G
 src:∀a∈G,H0 a=none∨a∈A0
 cnt:fr=true->G.Nodup/\G.length=d.nl/\∀a∈G,H0 a=none
noncomputable abbrev Den:=List D->Option (D×Bool)
noncomputable def spV(K:PySem.W.Frag)(n:Nat)(den:Den):Sp:=λvs H Q _=>∃ds F d fr,Rps K H ds vs F/\ds.length=n/\den ds=some (d,fr)/\∀v H' G,Ret K H F d fr v H' G->Q v H'
theorem Qrb{K:PySem.W.Frag}{n:Nat}{den:Den}{ps:List Str}(hn:ps.length=n):∀vs H Q E,spV K n den vs H Q E->vs.length=ps.length:=λvs H Q E ⟨ds,F,d,fr,r,hl,_⟩=>by rw[hn,← hl,r.length]
noncomputable def Qv(n:Nat)(den:Den)(dfl:List D)(fs:DA):DE:=λρ=>(fs ρ).bind λr=>if r.ds.length+dfl.length=n then(den (r.ds++dfl)).map λq=>if q.2=true then⟨q.1,true,[]⟩else R.norm ⟨q.1,false,r.M⟩else none
section
variable {X:Cx}{e:Expr}{es:List Expr}{fs:DA}{pos p:Pos}{x:Str}{n k:Nat}{f:Addr}{fd:FuncData}{ps:List Str}{den:Den}{dfl:List D}{dvs:List V}{ds:List Value}
theorem QhS{σ:L2.St}{H H0:Hp}{A0:List Addr}{Q:VK}(hdf:∀H,Rps X.K H dfl dvs []):tV X.K H0 A0 (Qv n den dfl fs) σ H Q->Ql4 (spV X.K n den) dvs E0 (tVA X.K H0 A0 fs) σ H Q:=exK λρ hs F r rel e q=>by
 refine Qh e λra e1 e=>?_
 split at e
 ·rename_i hl
  obtain⟨⟨d,fr⟩,e2,e⟩:=Ze.mp e
  refine⟨ρ,hs,F,ra,rel,e1,λvs H1 G p1=>⟨ra.ds++dfl,G++[],d,fr,p1.rp.append (hdf H1),by rw[Zr];exact hl,e2,λv H2 G2 rt=>?_⟩⟩
  subst e
  have src:Src ρ F H ra.M G2:=λa ha=>by
   rcases rt.src a ha with z | z
   ·exact .inl (p1.same.free z)
   ·rw[Zaj]at z
    exact p1.src a z
  split at q
  ·rename_i hf
   have hf:fr=true:=hf
   obtain⟨nd,hn,fresh⟩:=rt.cnt hf
   have hH:∀a∈G2,H a=none:=λa ha=>p1.same.free (fresh a ha)
   refine q v H2 G2 ⟨p1.same.trans rt.same,rt.rp,λa ha=> .inl (hH a ha),λ_=>⟨λa=>?_,hn⟩,Qan.nil⟩
   by_cases ha:a∈G2
   ·rw[QaA (hH a ha)];have:=Zas.mp nd a;omega
   ·rw[ZW.mpr ha];exact ZZ _
  ·refine q v H2 G2 (QK.norm ⟨p1.same.trans rt.same,rt.rp,src,λz=>(by cases z),p1.own⟩)
 ·cases e
theorem QqU(Fk:Qbe X.prog X.w X.K X.mg X.base CX0 k f fd ps (spV X.K n den))(hr:Q4 k X.A)(hg:Gl X x)(hm:X.mg x=some (.ref f))(hk:PySem.W.keepIn X.K (.ref f)=true)(hb:Binds X.K fd ps ds)(hd:Qn dvs ds)(hdf:∀H,Rps X.K H dfl dvs [])
  (ha:SA X (e::es) fs) (hdb:(x == ("__debug__" :Str))=false) (he:starEach (e::es) X.env=(false,eval e X.env)::starEach es X.env) (hpl:(backTo pos (starEach es X.env)).any (·.1)=false):
  SE X (.Call (.Name x p) (e::es) [] pos) (Qv n den dfl fs):=λH0 A0=>
 (QpN Fk hr hg hm hk hb hd QpI (ha H0 A0) hdb he hpl).mono λσ H Q h=>QhS hdf h
theorem Qoe(Fk:Qbe X.prog X.w X.K X.mg X.base CX0 k f fd ps (spV X.K n den))(hr:Q4 k X.A)(hg:Gl X x)(hm:X.mg x=some (.ref f))(hk:PySem.W.keepIn X.K (.ref f)=true)(hb:Binds X.K fd ps ds)(hd:Qn dvs ds)(hdf:∀H,Rps X.K H dfl dvs [])
  (hdb:(x == ("__debug__" :Str))=false):SE X (.Call (.Name x p) [] [] pos) (Qv n den dfl Qf):=λH0 A0=>
 (Qoz Fk hr hg hm hk hb hd QpI hdb).mono λσ H Q h=>by
  have h':=QhS hdf h
  obtain⟨ρ,hs,F,r,rel,e,q⟩:=h'
  cases e
  exact q [] H [] ⟨Qz.refl _,by simp[Rps],Src.nil,λ_=>⟨Cnt.nil,rfl⟩,Qan.nil⟩
end
structure IR where
 items:List D
 M:List Nat
noncomputable abbrev DI:=En->Option IR
def Qjq(K:PySem.W.Frag)(H:Hp)(ts:List (V×D×List Addr)):Prop:=∀t∈ts,Rp K H t.2.1 t.1 t.2.2
structure Walk (K:PySem.W.Frag) (J:It) (ts:List (V×D×List Addr)) (ds:List D):Prop where
 stop:∀H,Qjq K H ts->J.stop ds.length H
 go:∀i H,i<ds.length->Qjq K H ts->J.go i H
 yld:∀(i:Nat) d H x H',ds[i]? =some d->Qjq K H ts->J.yld i H x H'->Qz H H'/\∃G,Rp K H' d x G/\∀a∈G,∃t∈ts,a∈t.2.2
noncomputable def tI(K:PySem.W.Frag)(H0:Hp)(A0:List Addr)(f:DI):TI:=λσ H Rr=>∃ρ hs F ir,Rel K H0 A0 hs ρ F σ H/\f ρ=some ir∧
 ∀J H1 ts,Qz H H1->Walk K J ts ir.items->(∀t∈ts,Rp K H1 t.2.1 t.1 t.2.2/\Src ρ F H ir.M t.2.2)->Qan ρ ir.M->ir.items.length<=sizeLine->Rr J H1
def SI(X:Cx)(tg e:Expr)(f:DI):Prop:=∀H0 A0,PI X tg e (tI X.K H0 A0 f)
theorem _root_.L2.PI.mono(h:PI X tg e t)(m:∀σ H Q,t' σ H Q->t σ H Q):PI X tg e t':=λpins s σ H Q I q=>h pins s σ H Q I (m σ H Q q)
section
variable {X:Cx}{tg a b:Expr}{fa fb:DE}{fs:DA}{pos p:Pos}
theorem Rps.nth{K:PySem.W.Frag}{H:Hp}{ds:List D}{vs:List V}{F:List Addr}{i:Nat}{d:D}(h:Rps K H ds vs F)(e:ds[i]? =some d):∃v G,vs[i]? =some v/\Rp K H d v G/\∀a∈G,a∈F:=by
 obtain⟨v,F1,G,F2,h1,h2,h3,_⟩:=h.get e
 exact⟨v,G,h1,h3,λa ha=>by rw[h2];exact Zd _ (Zg _ ha)⟩
noncomputable def QuL(K:PySem.W.Frag)(tl:TE):TI:=λσ H Rr=>tl σ H λx H1=>(∃a,x= .ref a/\(∃xs,SqL K H1 a xs)/\Rr (Itl K a) H1)∨(∃a,x= .ref a/\(∃xs,SqT K H1 a xs)/\Rr (Itt K a) H1)
theorem QsE(hl:PE X l tl):PI X tg l (QuL X.K tl):=by
 intro pins s σ H Rr I h
 refine thn (hl pins s σ H _ I h) λv s1=>exJ λx H1 I1 r1 q1=>?_
 rcases q1 with⟨a,e,⟨xs,hq⟩,q⟩ | ⟨a,e,⟨xs,hq⟩,q⟩
 ·subst e
  cases r1
  obtain⟨its,rv,pl,hz⟩:=I1.list hq
  refine wpAny_pyIter_list pl.isList ⟨s1.heap.objs.size,[s1.heap.objs.size],_,_,H1,rfl,I1.kept (t':=s1.toks) λb o e=>Zf _ e,Qny a _,⟨_,Zx _ rfl,rfl,rfl⟩,λb hb=>?_,q⟩
  have e:b=s1.heap.objs.size:=by simpa using hb
  subst e
  exact I1.Qji (Zp _) (I1.hok.fresh (Zp _))
 ·subst e
  cases r1
  obtain⟨its,rv,pl,hz⟩:=I1.tuple hq
  refine wpAny_pyIter_tuple (show s1.heap.IsTuple a its.toArray from pl) ⟨s1.heap.objs.size,[s1.heap.objs.size],_,_,H1,rfl,I1.kept (t':=s1.toks) λb o e=>Zf _ e,QlM a _,⟨_,Zx _ rfl,rfl,rfl⟩,λb hb=>?_,q⟩
  have e:b=s1.heap.objs.size:=by simpa using hb
  subst e
  exact I1.Qji (Zp _) (I1.hok.fresh (Zp _))
noncomputable def QX(fa:DE):DI:=λρ=>(fa ρ).bind λr=>match r.d with
 | .lst xs=>some ⟨xs,r.M⟩
 | .tup xs=>if xs.length<=sizeLine then some ⟨xs,r.M⟩else none
 | _=>none
theorem QmS{K:PySem.W.Frag}{c:Addr}{ds:List D}{G:List Addr}:Walk K (Itl K c) [(.ref c,.lst ds,G)] ds where
 stop:=λH h=>by
  obtain⟨l,vs,L,e,hl,rl,zl,el⟩:=(h _ (ZG.mpr rfl)).lst_inv
  cases e
  exact⟨vs,QI hl,by rw[rl.length];exact Zp _⟩
 go:=λi H hi h=>by
  obtain⟨l,vs,L,e,hl,rl,zl,el⟩:=(h _ (ZG.mpr rfl)).lst_inv
  cases e
  have:i<vs.length:=by rw[← rl.length];exact hi
  exact⟨vs,vs[i],QI hl,by simp[this]⟩
 yld:=λi d H x H' e h y=>by
  obtain⟨l,vs,L,e1,hl,rl,zl,el⟩:=(h _ (ZG.mpr rfl)).lst_inv
  cases e1
  obtain⟨rfl,y⟩:=y
  obtain⟨v,G',h1,h2,h3⟩:=rl.nth e
  have:=y vs (QI hl)
  rw[h1]at this
  cases this
  refine⟨Qz.refl _,G',h2,λz hz=>⟨_,ZG.mpr rfl,?_⟩⟩
  have:=h3 z hz
  rcases el with rfl | rfl
  ·exact Zc _ this
  ·exact this
theorem Qpj{K:PySem.W.Frag}{c:Addr}{ds:List D}{G:List Addr}:Walk K (Itt K c) [(.ref c,.tup ds,G)] ds where
 stop:=λH h=>by
  obtain⟨l,vs,e,hl,rl⟩:=(h _ (ZG.mpr rfl)).Qaf
  cases e
  exact⟨vs,hl,by rw[rl.length];exact Zp _⟩
 go:=λi H hi h=>by
  obtain⟨l,vs,e,hl,rl⟩:=(h _ (ZG.mpr rfl)).Qaf
  cases e
  have:i<vs.length:=by rw[← rl.length];exact hi
  exact⟨vs,vs[i],hl,by simp[this]⟩
 yld:=λi d H x H' e h y=>by
  obtain⟨l,vs,e1,hl,rl⟩:=(h _ (ZG.mpr rfl)).Qaf
  cases e1
  obtain⟨rfl,y⟩:=y
  obtain⟨v,G',h1,h2,h3⟩:=rl.nth e
  have:=y vs hl
  rw[h1]at this
  cases this
  exact⟨Qz.refl _,G',h2,λz hz=>⟨_,ZG.mpr rfl,h3 z hz⟩⟩
theorem Qs5(ha:SE X a fa):SI X tg a (QX fa):=λH0 A0=>(QsE (ha H0 A0)).mono λσ H Rr=>exK λρ hs F ir rel e q=>by
 refine Qh e λr e1 e=>?_
 refine⟨ρ,hs,F,r,rel,e1,λv H1 G p=>?_⟩
 have rp:=p.rp
 cases hr:r.d with
 | lst xs=>
  rw[hr]at e rp
  cases e
  obtain⟨c,vs,L,rfl,hl,rl,zl,el⟩:=rp.lst_inv
  refine .inl ⟨c,rfl,⟨vs,QI hl⟩,q _ H1 [(.ref c,.lst xs,G)] p.same QmS (λt ht=>?_) p.own zl⟩
  rw[ZG.mp ht]
  exact⟨rp,p.src⟩
 | tup xs=>
  rw[hr]at e rp
  dsimp only at e
  split at e
  ·rename_i hz
   cases e
   obtain⟨c,vs,rfl,hl,rl⟩:=rp.Qaf
   refine .inr ⟨c,rfl,⟨vs,hl⟩,q _ H1 [(.ref c,.tup xs,G)] p.same Qpj (λt ht=>?_) p.own hz⟩
   rw[ZG.mp ht]
   exact⟨rp,p.src⟩
  ·cases e
 | _=>rw[hr]at e;cases e
noncomputable def Qfc(lo:Int)(n:Nat):List D:=(List.range n).map λ(k:Nat)=> .int (lo+(k:Int))
theorem Qez:(Qfc lo n).length=n:=by simp[Qfc]
theorem QoQ(h:(Qfc lo n)[i]? =some d):i<n/\d= .int (lo+i):=by
 unfold Qfc at h
 rw[Zo]at h
 cases q:(List.range n)[i]? with
 | none=>rw[q]at h;cases h
 | some k=>
  rw[q]at h
  obtain⟨h1,h2⟩:=Zb.mp q
  simp at h1 h2
  subst h2
  exact⟨h1,(Option.some.inj h).symm⟩
theorem QgD:Walk K (Itr lo n) [] (Qfc lo n) where
 stop:=λH _=>by rw[Qez];exact Zp _
 go:=λi H hi _=>by rw[Qez]at hi;exact hi
 yld:=λi d H x H' e _ y=>by
  obtain⟨h1,rfl⟩:=QoQ e
  obtain⟨rfl,rfl⟩:=y
  exact⟨Qz.refl _,[],.int_mk,λz hz=>by simp at hz⟩
noncomputable def Qbf(fa:DE):DI:=λρ=>(fa ρ).bind λr=>match r.d with
 | .int j=>if j<=16777216/\ -(2^62)<=j then some ⟨Qfc 0 j.toNat,[]⟩else none
 | _=>none
noncomputable def Qd8(fa fb:DE):DI:=λρ=>(fa ρ).bind λr=>(fb ρ).bind λr'=>match r.d,r'.d with
 | .int i,.int j=>if j-i<=16777216/\ -(2^62)<=i/\i<2^62/\ -(2^62)<=j/\j<2^62 then some ⟨Qfc i (j-i).toNat,[]⟩else none
 | _,_=>none
theorem QbT:(sizeLine:Nat)=16777216:=sizeLine_eq
theorem QmL(hg:Gl X "range")(hm:X.mg "range" =none)(ha:SE X a fa)(hs:starEach [a] X.env=[(false,eval a X.env)]):SI X tg (.Call (.Name "range" p) [a] [] pos) (Qbf fa):=λH0 A0=>
 (Qnj hg hm (Qav (ha H0 A0) Qb8 hs) hs).mono λσ H Rr=>exK λρ hs F ir rel e q=>by
  refine Qh e λr e1 e=>?_
  refine⟨ρ,hs,F,r,rel,e1,λv H1 G pp=>?_⟩
  have rp:=pp.rp
  cases hr:r.d with
  | int j=>
   rw[hr]at e rp
   dsimp only at e
   split at e
   ·rename_i hz
    cases e
    rw[rp.int_inv]
    refine⟨j,rfl,hz.2,by omega,q _ H1 [] pp.same QgD (λt ht=>by simp at ht) Qan.nil ?_⟩
    rw[Qez,QbT];omega
   ·cases e
  | _=>rw[hr]at e;cases e
theorem Qmz(hg:Gl X "range")(hm:X.mg "range" =none)(ha:SE X a fa)(hb:SE X b fb)(hs:starEach [a,b] X.env=[(false,eval a X.env),(false,eval b X.env)])(hs2:starEach [b] X.env=[(false,eval b X.env)]):
  SI X tg (.Call (.Name "range" p) [a,b] [] pos) (Qd8 fa fb):=λH0 A0=>
 (QmC hg hm (Qav (ha H0 A0) (Qav (hb H0 A0) Qb8 hs2) (by rw[hs,hs2])) hs hs2).mono λσ H Rr=>exK λρ hs F ir rel e q=>by
  refine Qh e λr e1 e=>?_
  refine Qh e λr' e2 e=>?_
  refine⟨ρ,hs,F,r,rel,e1,λv H1 G pp=>⟨ρ,hs,F,r',rel.ext pp.same,e2,λv' H2 G' pp'=>?_⟩⟩
  have rp:=pp.rp.same pp'.same
  have rp':=pp'.rp
  cases hr:r.d with
  | int i=>
   cases hr':r'.d with
   | int j=>
    rw[hr,hr']at e
    rw[hr]at rp
    rw[hr']at rp'
    dsimp only at e
    split at e
    ·rename_i hz
     cases e
     rw[rp.int_inv,rp'.int_inv]
     refine⟨i,j,rfl,hz.2,q _ H2 [] (pp.same.trans pp'.same) QgD (λt ht=>by simp at ht) Qan.nil ?_⟩
     rw[Qez,QbT];omega
    ·cases e
   | _=>rw[hr,hr']at e;cases e
  | _=>rw[hr]at e;cases e
noncomputable def Qce(ds:List D):List D:=ds.zipIdx.map λq=> .tup [.int q.2,q.1]
theorem Qfd:(Qce ds).length=ds.length:=by simp[Qce]
theorem QmZ{ds:List D}{i:Nat}{d:D}(h:(Qce ds)[i]? =some d):∃e,ds[i]? =some e/\d= .tup [.int i,e]:=by
 unfold Qce at h
 rw[Zo,Zbp]at h
 cases q:ds[i]? with
 | none=>rw[q]at h;cases h
 | some e=>rw[q]at h;simp at h;exact⟨e,rfl,h.symm⟩
theorem QnD{K:PySem.W.Frag}{c:Addr}{ds:List D}{G:List Addr}:Walk K (Ite K c) [(.ref c,.lst ds,G)] (Qce ds) where
 stop:=λH h=>by
  obtain⟨l,vs,L,e,hl,rl,zl,el⟩:=(h _ (ZG.mpr rfl)).lst_inv
  cases e
  exact⟨vs,QI hl,by rw[Qfd,rl.length];exact Zp _⟩
 go:=λi H hi h=>by
  obtain⟨l,vs,L,e,hl,rl,zl,el⟩:=(h _ (ZG.mpr rfl)).lst_inv
  cases e
  rw[Qfd]at hi
  have:i<vs.length:=by rw[← rl.length];exact hi
  exact⟨vs,vs[i],QI hl,by simp[this]⟩
 yld:=λi d H x H' e h y=>by
  obtain⟨l,vs,L,e1,hl,rl,zl,el⟩:=(h _ (ZG.mpr rfl)).lst_inv
  cases e1
  obtain⟨d',e',rfl⟩:=QmZ e
  obtain⟨pp,u,rfl,hp,rfl,y⟩:=y
  obtain⟨v,G',h1,h2,h3⟩:=rl.nth e'
  have:=y vs (QI hl)
  rw[h1]at this
  cases this
  have s:=QbQ (o:= .tup [.int i,u]) hp
  refine⟨s,G',Rp.Qi9 Qam ?_,λz hz=>⟨_,ZG.mpr rfl,?_⟩⟩
  ·simp only[Rps]
   exact⟨.int i,[u],[],G',rfl,rfl,.int_mk,u,[],G',[],rfl,by simp,h2.same s,rfl,rfl⟩
  ·have:=h3 z hz
   rcases el with rfl | rfl
   ·exact Zc _ this
   ·exact this
noncomputable def Qb2(fa:DE):DI:=λρ=>(fa ρ).bind λr=>match r.d with
 | .lst xs=>some ⟨Qce xs,r.M⟩
 | _=>none
theorem Qp4(hg:Gl X "enumerate")(hm:X.mg "enumerate" =none)(ha:SE X a fa)(hs:starEach [a] X.env=[(false,eval a X.env)]):SI X (.Tuple es tk tpos) (.Call (.Name "enumerate" p) [a] [] pos) (Qb2 fa):=λH0 A0=>
 (Qqh hg hm (Qav (ha H0 A0) Qb8 hs) hs).mono λσ H Rr=>exK λρ hs F ir rel e q=>by
  refine Qh e λr e1 e=>?_
  refine⟨ρ,hs,F,r,rel,e1,λv H1 G pp=>?_⟩
  have rp:=pp.rp
  cases hr:r.d with
  | lst xs=>
   rw[hr]at e rp
   cases e
   obtain⟨c,vs,L,rfl,hl,rl,zl,el⟩:=rp.lst_inv
   refine⟨c,rfl,⟨vs,QI hl⟩,q _ H1 [(.ref c,.lst xs,G)] pp.same QnD (λt ht=>?_) pp.own (by rw[Qfd];exact zl)⟩
   rw[ZG.mp ht]
   exact⟨rp,pp.src⟩
  | _=>rw[hr]at e;cases e
noncomputable def Qfe(xs ys:List D):List D:=(xs.zip ys).map λq=> .tup [q.1,q.2]
theorem Qf7:(Qfe xs ys).length=min xs.length ys.length:=by simp[Qfe]
theorem Qpp{xs ys:List D}{i:Nat}{d:D}(h:(Qfe xs ys)[i]? =some d):∃e f,xs[i]? =some e/\ys[i]? =some f/\d= .tup [e,f]:=by
 unfold Qfe at h
 rw[Zo]at h
 cases q:(xs.zip ys)[i]? with
 | none=>rw[q]at h;cases h
 | some e=>
  rw[q]at h
  obtain⟨h1,h2⟩:=List.getElem?_zip_eq_some.mp q
  exact⟨e.1,e.2,h1,h2,(Option.some.inj h).symm⟩
theorem Qpr{K:PySem.W.Frag}{c c':Addr}{xs ys:List D}{G G':List Addr}:Walk K (Itz K c c') [(.ref c,.lst xs,G),(.ref c',.lst ys,G')] (Qfe xs ys) where
 stop:=λH h=>by
  obtain⟨l,vs,L,e,hl,rl,zl,el⟩:=(h _ (Zj)).lst_inv
  obtain⟨l',vs',L',e',hl',rl',zl',el'⟩:=(h _ (Zc _ Zj)).lst_inv
  cases e
  cases e'
  refine⟨vs,vs',QI hl,QI hl',?_⟩
  rw[Qf7,← rl.length,← rl'.length];omega
 go:=λi H hi h=>by
  obtain⟨l,vs,L,e,hl,rl,zl,el⟩:=(h _ (Zj)).lst_inv
  obtain⟨l',vs',L',e',hl',rl',zl',el'⟩:=(h _ (Zc _ Zj)).lst_inv
  cases e
  cases e'
  rw[Qf7]at hi
  have h1:i<vs.length:=by rw[← rl.length];omega
  have h2:i<vs'.length:=by rw[← rl'.length];omega
  exact⟨vs,vs',vs[i],vs'[i],QI hl,QI hl',by simp[h1],by simp[h2]⟩
 yld:=λi d H x H' e h y=>by
  obtain⟨l,vs,L,e1,hl,rl,zl,el⟩:=(h _ (Zj)).lst_inv
  obtain⟨l',vs',L',e1',hl',rl',zl',el'⟩:=(h _ (Zc _ Zj)).lst_inv
  cases e1
  cases e1'
  obtain⟨d1,d2,ea,eb,rfl⟩:=Qpp e
  obtain⟨pp,u,u',rfl,hp,rfl,y,y'⟩:=y
  obtain⟨v,G1,h1,h2,h3⟩:=rl.nth ea
  obtain⟨v',G2,h1',h2',h3'⟩:=rl'.nth eb
  have:=y vs (QI hl)
  rw[h1]at this
  cases this
  have:=y' vs' (QI hl')
  rw[h1']at this
  cases this
  have s:=QbQ (o:= .tup [u,u']) hp
  refine⟨s,G1++G2,Rp.Qi9 Qam ?_,λz hz=>?_⟩
  ·simp only[Rps]
   exact⟨u,[u'],G1,G2,rfl,rfl,h2.same s,u',[],G2,[],rfl,by simp,h2'.same s,rfl,rfl⟩
  ·rcases ZJ.mp hz with hz | hz
   ·refine⟨_,Zj,?_⟩
    have:=h3 z hz
    rcases el with rfl | rfl
    ·exact Zc _ this
    ·exact this
   ·refine⟨_,Zc _ Zj,?_⟩
    have:=h3' z hz
    rcases el' with rfl | rfl
    ·exact Zc _ this
    ·exact this
noncomputable def Qfu(fa fb:DE):DI:=λρ=>(fa ρ).bind λr=>(fb ρ).bind λr'=>match r.d,r'.d with
 | .lst xs,.lst ys=>some ⟨Qfe xs ys,r.M++r'.M⟩
 | _,_=>none
theorem Qso(hg:Gl X "zip")(hm:X.mg "zip" =none)(ha:SE X a fa)(hb:SE X b fb)(hs:starEach [a,b] X.env=[(false,eval a X.env),(false,eval b X.env)])(hs2:starEach [b] X.env=[(false,eval b X.env)]):
  SI X (.Tuple es tk tpos) (.Call (.Name "zip" p) [a,b] [] pos) (Qfu fa fb):=λH0 A0=>
 (Qsm hg hm (Qav (ha H0 A0) (Qav (hb H0 A0) Qb8 hs2) (by rw[hs,hs2])) hs hs2).mono λσ H Rr=>exK λρ hs F ir rel e q=>by
  refine Qh e λr e1 e=>?_
  refine Qh e λr' e2 e=>?_
  refine⟨ρ,hs,F,r,rel,e1,λv H1 G pp=>⟨ρ,hs,F,r',rel.ext pp.same,e2,λv' H2 G' pp'=>?_⟩⟩
  have rp:=pp.rp.same pp'.same
  have rp':=pp'.rp
  cases hr:r.d with
  | lst xs=>
   cases hr':r'.d with
   | lst ys=>
    rw[hr,hr']at e
    rw[hr]at rp
    rw[hr']at rp'
    cases e
    obtain⟨c,vs,L,rfl,hl,rl,zl,el⟩:=rp.lst_inv
    obtain⟨c',vs',L',rfl,hl',rl',zl',el'⟩:=rp'.lst_inv
    refine⟨c,c',rfl,⟨vs,QI hl⟩,⟨vs',QI hl'⟩,q _ H2 [(.ref c,.lst xs,G),(.ref c',.lst ys,G')] (pp.same.trans pp'.same) Qpr (λt ht=>?_) (pp.own.append pp'.own) (by rw[Qf7];omega)⟩
    have sa:=pp.src.append pp'.src pp.same
    rcases Zl.mp ht with rfl | ht
    ·exact⟨rp,λz hz=>sa z (Zg _ hz)⟩
    ·rw[ZG.mp ht]
     exact⟨rp',λz hz=>sa z (Zd _ hz)⟩
   | _=>rw[hr,hr']at e;cases e
  | _=>rw[hr]at e;cases e
end
end HS
namespace HS
open PySem L2
section
end
end HS
namespace HS
open PySem PySem.Spec L2
inductive Tg where
 | nm (i:Nat)
 | tp (is:List Nat)
noncomputable def Tg.slots:Tg->List Nat
 | .nm i=>[i]
 | .tp is=>is
noncomputable def Qcu:List Nat->List D->En->En
 | i::is,d::ds,ρ=>Qcu is ds (ρ.set i (some (d,d.flat)))
 | _,_,ρ=>ρ
noncomputable def Qa5:Tg->D->En->Option En
 | .nm i,d,ρ=>some (ρ.set i (some (d,d.flat)))
 | .tp is,.tup xs,ρ=>if xs.length=is.length then some (Qcu is xs ρ)else none
 | .tp is,.lst xs,ρ=>if xs.length=is.length then some (Qcu is xs ρ)else none
 | .tp _,_,_=>none
noncomputable def tG(K:PySem.W.Frag)(H0:Hp)(A0:List Addr)(t:Tg):TG:=λv σ H Q=>∃ρ hs F d G ρ',Rel K H0 A0 hs ρ F σ H/\Rp K H d v G/\Shr H0 A0 ρ F G/\Qa5 t d ρ=some ρ'∧
 ∀σ' F',Rel K H0 A0 hs ρ' F' σ' H->(∀j,j∉t.slots->σ'[j]? =σ[j]?)->(∀j a,a∈F' j->a∈F j∨a∈G)->Q σ' H
def SG(X:Cx)(tg:Expr)(t:Tg):Prop:=∀H0 A0,PG X tg (tG X.K H0 A0 t)
theorem _root_.L2.PG.mono{X:Cx}{tg:Expr}{t t':TG}(h:PG X tg t)(m:∀v σ H Q,t' v σ H Q->t v σ H Q):PG X tg t':=λpins s σ H v u Q I r q=>h pins s σ H v u Q I r (m v σ H Q q)
noncomputable def QgK:List Nat->TGs
 | []=>Qtk
 | i::is=>QpA (QfB i) (QgK is)
theorem Shr.set{H0:Hp}{A0:List Addr}{ρ:En}{F:Nat->List Addr}{G G1:List Addr}{i:Nat}{d:D}(h:Shr H0 A0 ρ F G)(hf:d.flat=true->G1=[]):Shr H0 A0 (ρ.set i (some (d,d.flat))) (λj=>if j=i then G1 else F j) G:=λa ha=>by
 refine⟨(h a ha).1,λj d' e=>?_⟩
 by_cases hj:j=i
 ·subst hj
  show ¬a∈(if j=j then G1 else F j)
  rw[if_pos rfl]
  have hl:j<ρ.length:=by
   by_cases hl:j<ρ.length
   ·exact hl
   ·rw[Zv (by simp;omega)]at e;cases e
  rw[ZF hl]at e
  have e1:=Option.some.inj (Option.some.inj e)
  rw[hf (congrArg Prod.snd e1)]
  simp
 ·rw[Zt (Ne.symm hj)]at e
  show ¬a∈(if j=i then G1 else F j)
  rw[if_neg hj]
  exact(h a ha).2 j d' e
theorem Qgb{K:PySem.W.Frag}{H0:Hp}{A0:List Addr}{hs:List (V×D×List Addr)}:∀(is:List Nat) (ds:List D) (vs:List V) (ρ:En) (F:Nat->List Addr) (σ:L2.St) (H:Hp) (G:List Addr) (Q:L2.St->Hp->Prop),
  Rel K H0 A0 hs ρ F σ H->Rps K H ds vs G->Shr H0 A0 ρ F G->ds.length=is.length→
  (∀σ' F',Rel K H0 A0 hs (Qcu is ds ρ) F' σ' H->(∀j,j∉is->σ'[j]? =σ[j]?)->(∀j a,a∈F' j->a∈F j∨a∈G)->Q σ' H)->QgK is vs σ H Q
 | [],ds,vs,ρ,F,σ,H,G,Q,rel,rp,sh,hl,q=>by
  have:ds=[]:=by simpa using hl
  subst this
  simp only[Rps]at rp
  exact⟨rp.1,q σ F rel (λ_ _=>rfl) λ_ _ h=> .inl h⟩
 | i::is,[],vs,ρ,F,σ,H,G,Q,rel,rp,sh,hl,q=>by simp at hl
 | i::is,d::ds,vs,ρ,F,σ,H,G,Q,rel,rp,sh,hl,q=>by
  simp only[Rps]at rp
  obtain⟨v,ws,G1,G2,rfl,rfl,r1,r2⟩:=rp
  refine⟨v,ws,rfl,?_⟩
  have sh1:Shr H0 A0 ρ F G1:=λa ha=>sh a (Zg _ ha)
  have sh2:Shr H0 A0 ρ F G2:=λa ha=>sh a (Zd _ ha)
  refine Qgb is ds ws _ _ _ H G2 Q (rel.Qn4 r1 sh1) r2 (sh2.set r1.Qa7) (by simpa using hl) λσ' F' rel' k m=>q σ' F' rel' (λj hj=>?_) λj a ha=>?_
  ·have h1:j≠i:=λz=>hj (by rw[z];exact Zj)
   rw[k j λz=>hj (Zc _ z),Zt (Ne.symm h1)]
  ·rcases m j a ha with z | z
   ·by_cases hj:j=i
    ·rw[if_pos hj]at z;exact .inr (Zg _ z)
    ·rw[if_neg hj]at z;exact .inl z
   ·exact .inr (Zd _ z)
section
variable {X:Cx}{tg:Expr}{pos:Pos}
theorem Qqv{i:Nat}{x:Str}(h:PG X (.Name x pos) (QfB i)):SG X (.Name x pos) (.nm i):=λH0 A0=>h.mono λv σ H Q hpt=>by
 obtain⟨ρ,hs,F,d,G,ρ',rel,rp,sh,e,q⟩:=hpt
 cases e
 refine q _ _ (rel.Qn4 rp sh) (λj hj=>?_) λj a ha=>?_
 ·have:j≠i:=λz=>hj (by simp[Tg.slots,z])
  rw[Zt (Ne.symm this)]
 ·by_cases hj:j=i
  ·rw[if_pos hj]at ha;exact .inr ha
  ·rw[if_neg hj]at ha;exact .inl ha
theorem Qq1{es:List Expr}{k:Nat}{t:TGs}{n:Nat}(hc:X.calm=true)(h:PGs X es t)
  (hn:(assignEach es X.env).length=n) (hst:(assignEach es X.env).findIdx? (·.1)=none):PG X (.Tuple es k pos) (λv σ H Q=>∃a xs,v= .ref a/\SqL X.K H a xs/\xs.length=n/\t xs σ H Q):=by
 intro pins s σ H v u Q I r hw
 obtain⟨a,xs,e1,hq,hl,hw⟩:=hw
 subst e1
 cases r
 obtain⟨its,rv,ht,hz⟩:=I.list hq
 rw[PyProof.Rows.assign_Tuple]
 refine wpAny_bind (wpAny_standAt ?_)
 unfold unpack
 rw[hn,hst,show n=its.toArray.size by simp[← hl,rv.length]]
 refine wpAny_bind (wpAny_holding (PySem.W.kun_itemsOf (I.ok.hd hc) ht.isList λh' hx=>?_))
 have I1:Inv X pins σ H {s with heap:=h'}:=I.kept (t':=s.toks) λb o e=>hx b o (ZE (Zn e)) e
 exact h pins _ σ H xs _ Q I1 (by simpa using rv) hw
theorem Qsc{es:List Expr}{k:Nat}{is:List Nat}(hc:X.calm=true)(h:PGs X es (QgK is))(hn:(assignEach es X.env).length=is.length)(hst:(assignEach es X.env).findIdx? (·.1)=none):SG X (.Tuple es k pos) (.tp is):=λH0 A0=>
 λpins s σ H v u Q I r hpt=>by
  obtain⟨ρ,hs,F,d,G,ρ',rel,rp,sh,e,q⟩:=hpt
  cases d with
  | tup xs=>
   simp only[Qa5]at e
   split at e
   ·rename_i hl
    cases e
    obtain⟨a,vs,rfl,hq,rs⟩:=rp.Qaf
    exact Qsi hc h hn hst pins s σ H _ u Q I r ⟨a,vs,rfl,hq,by rw[← rs.length];exact hl,Qgb is xs vs ρ F σ H G Q rel rs sh hl q⟩
   ·cases e
  | lst xs=>
   simp only[Qa5]at e
   split at e
   ·rename_i hl
    cases e
    obtain⟨a,vs,L,rfl,hq,rs,_,eG⟩:=rp.lst_inv
    have sub:∀b∈L,b∈G:=λb hb=>by
     rcases eG with rfl | rfl
     ·exact Zc _ hb
     ·exact hb
    exact Qq1 hc h hn hst pins s σ H _ u Q I r ⟨a,vs,rfl,QI hq,by rw[← rs.length];exact hl,Qgb is xs vs ρ F σ H L Q rel rs (λb hb=>sh b (sub b hb)) hl λσ' F' rel' k m=>q σ' F' rel' k λj b hb=>(m j b hb).imp id (sub b)⟩
   ·cases e
  | _=>simp only[Qa5]at e;cases e
end
noncomputable def Qdg(cap:List (Option Nat))(ρ:En):En:=cap.map λo=>o.bind λi=>match ρ[i]? with
 | some (some (d,_))=>some (d,d.flat)
 | _=>none
noncomputable def QlH(cap:List (Option Nat))(ρ:En):List Nat:=cap.filterMap λo=>o.bind λi=>match ρ[i]? with
 | some (some (d,b))=>if b && !d.flat then some i else none
 | _=>none
noncomputable def QdT(t:Tg)(ft:DT)(fe:DE)(ρc:En)(acc:List D×Bool)(d:D):Option (List D×Bool):=
 (Qa5 t d ρc).bind λρ1=>(ft ρ1).bind λc=>if c=true then(fe ρ1).map λr=>(acc.1++[r.d],acc.2 && r.norm.fr)else some acc
noncomputable def Qab(fi:DI)(t:Tg)(cap:List (Option Nat))(ft:DT)(fe:DE):DE:=λρ=>(fi ρ).bind λir=>
 (ir.items.foldlM (QdT t ft fe (Qdg cap ρ)) ([],true)).map λq=>if q.2=true then⟨.lst q.1,true,[]⟩else⟨.lst q.1,false,ir.M++QlH cap ρ⟩
def QbV(ρ:En):Prop:=∀(j:Nat) d,ρ[j]? =some (some (d,true))->d.flat=true
theorem QbV.set{ρ:En}(h:QbV ρ)(i:Nat)(d:D):QbV (ρ.set i (some (d,d.flat))):=λj d' e=>by
 by_cases hj:j=i
 ·subst hj
  have hl:j<ρ.length:=by
   by_cases hl:j<ρ.length
   ·exact hl
   ·rw[Zv (by simp;omega)]at e;cases e
  rw[ZF hl]at e
  have e1:=Option.some.inj (Option.some.inj e)
  have h1:d=d':=congrArg Prod.fst e1
  have h2:d.flat=true:=congrArg Prod.snd e1
  rw[← h1];exact h2
 ·rw[Zt (Ne.symm hj)]at e
  exact h j d' e
theorem QbV.Qcu:∀(is:List Nat) (ds:List D) {ρ:En},QbV ρ->QbV (Qcu is ds ρ)
 | [],_,_,h=>h
 | _::_,[],_,h=>h
 | i::is,d::ds,_,h=>QbV.Qcu is ds (h.set i d)
theorem QbV.bind{t:Tg}{d:D}{ρ ρ':En}(h:QbV ρ)(e:Qa5 t d ρ=some ρ'):QbV ρ':=by
 cases t with
 | nm i=>cases e;exact h.set i d
 | tp is=>
  cases d with
  | tup xs=>
   simp only[Qa5]at e
   split at e
   ·cases e;exact h.Qcu is xs
   ·cases e
  | lst xs=>
   simp only[Qa5]at e
   split at e
   ·cases e;exact h.Qcu is xs
   ·cases e
  | _=>simp only[Qa5]at e;cases e
theorem Qgc(cap:List (Option Nat))(ρ:En):QbV (Qdg cap ρ):=λj d e=>by
 unfold Qdg at e
 rw[Zo]at e
 cases q:cap[j]? with
 | none=>rw[q]at e;cases e
 | some o=>
  rw[q]at e
  cases o with
  | none=>cases e
  | some i=>
   simp only[ZO,Za,Option.some.injEq]at e
   split at e
   ·have e1:=Option.some.inj e
    have h1:=congrArg Prod.fst e1
    have h2:=congrArg Prod.snd e1
    dsimp only at h1 h2
    rw[← h1];exact h2
   ·cases e
theorem Qie{cap:List (Option Nat)}{ρ:En}{j:Nat}{d:D}{b:Bool}(e:(Qdg cap ρ)[j]? =some (some (d,b))):∃i b',cap[j]? =some (some i)/\ρ[i]? =some (some (d,b')):=by
 unfold Qdg at e
 rw[Zo]at e
 cases q:cap[j]? with
 | none=>rw[q]at e;cases e
 | some o=>
  rw[q]at e
  cases o with
  | none=>cases e
  | some i=>
   simp only[ZO,Za,Option.some.injEq]at e
   split at e
   ·rename_i d' b' hi
    have e1:=Option.some.inj e
    have h1:d'=d:=congrArg Prod.fst e1
    subst h1
    exact⟨i,b',rfl,hi⟩
   ·cases e
def Qku(X:Cx)(ifs:List Expr)(f:DT):Prop:=∀H0 A0,PTs X ifs (tVT X.K H0 A0 f)
noncomputable def QcT:DT:=λ_=>some true
theorem QoF{X:Cx}:Qku X [] QcT:=λH0 A0 pins s σ H Q I=>exK λρ hs F b rel e q=>by
 cases e
 exact QpY pins s σ H Q I (q H (Qz.refl _))
theorem Qn8{X:Cx}{c:Expr}{f:DT}(h:ST X c f):Qku X [c] f:=λH0 A0=>Qqn (h H0 A0)
structure QiT (X:Cx) (N':List Str) (scope:Scope) (cap:List (Option Nat)) (tgs:List Nat):Prop where
 len:cap.length=N'.length
 get:∀(j i:Nat),cap[j]? =some (some i)->∃x,N'[j]? =some x/\scope.names.lookup x=some .free/\X.N[i]? =some x/\(X.env.kindOf x=some .cell∨X.env.kindOf x=some .free)
 apart:∀(j i:Nat),cap[j]? =some (some i)->j∉tgs
theorem join_some{α:Type}{o:Option (Option α)}{v:α}(h:o.join=some v):o=some (some v):=by
 cases o with
 | none=>cases h
 | some p=>cases p with
  | none=>cases h
  | some x=>exact h▸rfl
theorem Qh7{X:Cx}{N':List Str}{scope:Scope}{fi:DI}{t:Tg}{cap:List (Option Nat)}{ft:DT}{fe:DE}{H0:Hp}{A0:List Addr}{σ:L2.St}{H:Hp}{Q:VK}(hc:QiT X N' scope cap t.slots):
  tV X.K H0 A0 (Qab fi t cap ft fe) σ H Q->QiM (tI X.K H0 A0 fi) (QgF X N' scope) (tG X.K (λ_=>none) [] t) (tVT X.K (λ_=>none) [] ft) (tV X.K (λ_=>none) [] fe) σ H Q:=exK λρ hs F r rel e q=>by
 refine Qh e λir e1 e=>?_
 obtain⟨⟨xs,f⟩,ef,e⟩:=Ze.mp e
 subst e
 refine⟨ρ,hs,F,ir,rel,e1,λJ H1 ts s1 wk hts ow hz=>?_⟩
 refine⟨cap.map λo=>o.bind λi=>σ[i]?.join,⟨by simp[hc.len],λj x v hN hv=>?_⟩,λDl hD=>?_⟩
 ·rw[Zo]at hv
  cases qc:cap[j]? with
  | none=>rw[qc]at hv;cases hv
  | some o=>
   rw[qc]at hv
   cases o with
   | none=>cases hv
   | some i=>
    simp only[ZO,Za,Option.some.injEq]at hv
    obtain⟨y,h1,h2,h3,h4⟩:=hc.get j i qc
    rw[hN]at h1;cases h1
    exact⟨h2,i,h3,join_some hv,h4⟩
 generalize hσc:(cap.map λo=>o.bind λi=>σ[i]?.join)=σc
 generalize hρc:Qdg cap ρ=ρc at ef
 have hF0:∃Fc:Nat->List Addr,Fc=λj=>match cap[j]? with
  | some (some i)=>(match ρ[i]? with
   | some (some _)=>F i
   | _=>[])
  | _=>[]:=⟨_,rfl⟩
 obtain⟨Fc,hFc⟩:=hF0
 have rel1:=rel.ext s1
 have relC:∀H2,Qz H1 H2->Rel X.K (λ_=>none) [] [] ρc Fc σc H2:=λH2 s2=>by
  refine⟨by rw[← hρc,← hσc];simp[Qdg],λj d b e=>?_,λj d e=>?_,λj d b e a ha=> .inl rfl,λt ht=>(by simp at ht),λb o z=>(by cases z)⟩
  ·rw[← hρc]at e
   obtain⟨i,b',h1,h2⟩:=Qie e
   obtain⟨v,h3,h4⟩:=(rel1.ext s2).val i d b' h2
   refine⟨v,?_,?_⟩
   ·rw[← hσc,Zo,h1]
    simp only[ZO,Za,h3,Option.join_some]
   ·rw[hFc];simp only[h1,h2];exact h4
  ·have hf:d.flat=true:=Qgc cap ρ j d (by rw[hρc];exact e)
   have:Fc j=[]:=by
    rw[← hρc]at e
    obtain⟨i,b',h1,h2⟩:=Qie e
    obtain⟨v,h3,h4⟩:=rel1.val i d b' h2
    rw[hFc];simp only[h1,h2];exact h4.Qa7 hf
   rw[this]
   exact⟨(QcJ d hf).symm,ZaD,λa ha=>(by simp at ha),λ_ _ _ _ _ a ha=>(by simp at ha),λt ht=>(by simp at ht)⟩
 have shC:∀G,Shr (λ_=>none) [] ρc Fc G:=λG a ha=>⟨.inl rfl,λj d e hj=>by
  have h0:=(relC H1 (Qz.refl _)).own j d e
  have hf:d.flat=true:=Qgc cap ρ j d (by rw[hρc];exact e)
  have:(Fc j).length=0:=by rw[h0.1,QcJ d hf]
  rw[Zae this]at hj
  simp at hj⟩
 have hSh:QbV ρc:=by rw[← hρc];exact Qgc cap ρ
 have heldOf:∀H2,Qz H1 H2->Qjq X.K H2 ts:=λH2 s2 t ht=>(hts t ht).1.same s2
 have oldOf:∀a,((∃t∈ts,a∈t.2.2)∨∃j,a∈Fc j)->(∃vs,H1 a=some (.lst vs))/\(H a=none∨∃(i:Nat) (d:D) (b:Bool),ρ[i]? =some (some (d,b))/\a∈F i/\(b=true->i∈ir.M++QlH cap ρ)):=λa ha=>by
  rcases ha with⟨t,ht,ha⟩ | ⟨j,ha⟩
  ·refine⟨(hts t ht).1.mem a ha,?_⟩
   rcases(hts t ht).2 a ha with z | ⟨i,d,b,e,m,w⟩
   ·exact .inl z
   ·exact .inr ⟨i,d,b,e,m,λhb=>Zg _ (w hb)⟩
  ·have ha0:=ha
   rw[hFc]at ha
   dsimp only at ha
   split at ha
   ·rename_i i hi
    split at ha
    ·rename_i db hdb
     obtain⟨d,b⟩:=db
     obtain⟨v,h3,h4⟩:=rel1.val i d b hdb
     refine⟨h4.mem a ha,.inr ⟨i,d,b,hdb,ha,λhb=>Zd _ ?_⟩⟩
     unfold QlH
     refine ZaY.mpr ⟨some i,ZD hi,?_⟩
     simp only[Za,hdb]
     have hnf:d.flat=false:=by
      cases hf:d.flat with
      | false=>rfl
      | true=>rw[h4.Qa7 hf]at ha;simp at ha
     rw[hb,hnf];rfl
    ·simp at ha
   ·simp at ha
 have fresh5:∀H2,Qz H1 H2->∀a,H2 a=none->H1 a=none:=λH2 s2 a h=>s2.free h
 refine⟨λi m acc H2=>m=ir.items.length-i/\i<=ir.items.length/\Qz H1 H2/\H2 Dl=some (.lst acc)/\∃(ys:List D) (g:Bool) (G:List Addr),(ir.items.drop i).foldlM (QdT t ft fe ρc) (ys,g)=some (xs,f)/\Rps X.K H2 ys acc G/\ys.length<=i∧
  (∀a∈G,a≠Dl/\(H1 a=none∨(∃t∈ts,a∈t.2.2)∨∃j,a∈Fc j))/\(g=true->G.length=nls ys/\∀a,G.count a<=nw H1 a),⟨ir.items.length,rfl,ZZ _,QbQ hD,Qam,[],true,[],by simpa using ef,by simp[Rps],Zp _,λa ha=>(by simp at ha),λ_=>⟨rfl,λa=>by simp⟩⟩,?_⟩
 rintro i m acc H2 ⟨rfl,hi,s2,eD,ys,g,G,hfold,rps,hlen,hG,hcnt⟩
 by_cases hlt:i<ir.items.length
 ·refine .inr ⟨wk.go i H2 hlt (heldOf H2 s2),λx H3 hy=>?_⟩
  obtain⟨s3,G0,rp0,hG0⟩:=wk.yld i ir.items[i] H2 x H3 (by simp[hlt]) (heldOf H2 s2) hy
  rw[Zaq hlt,ZbM]at hfold
  refine Qh hfold λacc1 hstep hrest=>?_
  unfold QdT at hstep
  refine Qh hstep λρ1 eb hstep=>?_
  refine Qh hstep λc ec hstep=>?_
  have sh1:QbV ρ1:=hSh.bind eb
  refine⟨ρc,[],Fc,ir.items[i],G0,ρ1,relC H3 (s2.trans s3),rp0,shC G0,eb,λσ2 F2 rel2 keep mem2=>⟨λj v hv=>?_,ρ1,[],F2,c,rel2,ec,λH5 s5=>?_⟩⟩
  ·have hj:j∉t.slots:=λhj=>by
    rw[← hσc,Zo]at hv
    cases qc:cap[j]? with
    | none=>rw[qc]at hv;cases hv
    | some o=>
     cases o with
     | none=>rw[qc]at hv;cases hv
     | some k=>exact hc.apart j k qc hj
   rw[keep j hj];exact hv
  have s15:Qz H1 H5:=(s2.trans s3).trans s5
  have eD5:H5 Dl=some (.lst acc):=s5 _ _ (s3 _ _ eD)
  cases c with
  | false=>
   rw[if_neg Zav]at hstep
   refine QsA ?_
   cases hstep
   exact⟨_,by omega,rfl,hlt,s15,eD5,ys,g,G,hrest,rps.same (s3.trans s5),by omega,hG,hcnt⟩
  | true=>
   rw[if_pos rfl]at hstep
   refine QrQ ?_
   obtain⟨rr,er,hstep⟩:=Ze.mp hstep
   subst hstep
   refine⟨ρ1,[],F2,rr,rel2.ext s5,er,λy H6 Ge pe=>?_⟩
   have eD6:H6 Dl=some (.lst acc):=pe.same _ _ eD5
   have s16:=s15.trans pe.same
   refine⟨eD6,?_,_,by omega,rfl,hlt,?_⟩
   ·rw[← rps.length];exact Nat.lt_of_le_of_lt hlen (ZC hlt hz)
   have hGe:∀a∈Ge,a≠Dl/\(H1 a=none∨(∃t∈ts,a∈t.2.2)∨∃j,a∈Fc j):=λa ha=>by
    rcases pe.src a ha with z | ⟨j,d,b,ej,hj,_⟩
    ·exact⟨λw=>(by rw[w,eD5]at z;cases z),.inl (s15.free z)⟩
    ·have h1:(∃t∈ts,a∈t.2.2)∨∃j,a∈Fc j:=by
      rcases mem2 j a hj with w | w
      ·exact .inr ⟨j,w⟩
      ·exact .inl (hG0 a w)
     obtain⟨⟨vs,w⟩,_⟩:=oldOf a h1
     exact⟨λw'=>(by rw[w',hD]at w;cases w),.inr h1⟩
   have nD:Dl∉G:=λh=>(hG _ h).1 rfl
   have nDe:Dl∉Ge:=λh=>(hGe _ h).1 rfl
   have sU:Qz H1 (L2.upd H6 Dl (.lst (acc++[y]))):=λb o hb=>by rw[QD (QaT hb hD)];exact s16 b o hb
   refine⟨sU,Qam,ys++[rr.d],g && rr.norm.fr,G++Ge,hrest,?_,by rw[Zr,Zbh];omega,λa ha=>?_,λhg=>?_⟩
   ·refine Rps.append ((rps.same ((s3.trans s5).trans pe.same)).upd eD6 nD) ?_
    simp only[Rps]
    exact⟨y,[],Ge,[],rfl,by simp,pe.rp.upd eD6 nDe,rfl,rfl⟩
   ·rcases ZJ.mp ha with h | h
    ·exact hG a h
    ·exact hGe a h
   ·simp only[Zk]at hg
    obtain⟨l1,c1⟩:=hcnt hg.1
    have pn:=pe.norm
    obtain⟨c2,l2⟩:=pn.cnt hg.2
    rw[rr.Qco]at l2
    have nlapp:∀(as bs:List D),nls (as++bs)=nls as+nls bs:=λas bs=>by
     induction as with
     | nil=>simp[nls]
     | cons a as ih=>simp only[Zbj,nls,ih];omega
    refine⟨by rw[Zr,l1,l2,nlapp];simp[nls],λa=>?_⟩
    have fl:((rr.norm.M.map F2).flatten).count a=0:=by
     rw[ZW]
     intro hm
     obtain⟨l,hl,hal⟩:=Zbk.mp hm
     obtain⟨j,hj,rfl⟩:=ZI.mp hl
     obtain⟨d,ej⟩:=pn.own j hj
     have hf:=sh1 j d ej
     obtain⟨v,_,rv⟩:=rel2.val j d true ej
     rw[rv.Qa7 hf]at hal
     simp at hal
    have h1:=c1 a
    have h2:=c2 a
    rw[fl]at h2
    rw[Zam]
    cases q5:H5 a with
    | some o=>rw[QcF q5]at h2;omega
    | none=>
     rw[QaA q5]at h2
     have h0:G.count a=0:=ZW.mpr λhm=>by
      obtain⟨vs,w⟩:=rps.mem a hm
      rw[s5 _ _ (s3 _ _ w)]at q5;cases q5
     rw[QaA (s15.free q5)]
     omega
 ·have hn:i=ir.items.length:=by omega
  subst hn
  refine .inl ⟨wk.stop H2 (heldOf H2 s2),?_⟩
  rw[List.drop_length]at hfold
  have:(ys,g)=(xs,f):=Option.some.inj hfold
  cases this
  have rp:Rp X.K H2 (.lst xs) (.ref Dl) (Dl::G):=Rp.Qeb eD rps (ZH hlen hz)
  have hHD:H Dl=none:=s1.free hD
  split at q
  ·rename_i hg
   have hg:f=true:=hg
   obtain⟨l1,c1⟩:=hcnt hg
   have hn:∀a∈G,H1 a=none:=λa ha=>by
    have:=c1 a
    have h2:0<G.count a:=Zar.mpr ha
    cases w:H1 a with
    | none=>rfl
    | some o=>rw[QcF w]at this;omega
   refine q _ H2 (Dl::G) ⟨s1.trans s2,rp,λa ha=>?_,λ_=>⟨λa=>?_,by simp only[D.nl,Zq,l1]⟩,Qan.nil⟩
   ·rcases Zl.mp ha with rfl | h
    ·exact .inl hHD
    ·exact .inl (s1.free (hn a h))
   ·rw[Zaz]
    have h1:=c1 a
    split
    ·rename_i w
     have w:Dl=a:=by simpa using w
     subst w
     have h0:G.count Dl=0:=ZW.mpr λh=>(hG _ h).1 rfl
     rw[QaA hHD];omega
    ·cases w:H1 a with
     | none=>rw[QaA w]at h1;rw[QaA (s1.free w)];omega
     | some o=>rw[QcF w]at h1;omega
  ·refine q _ H2 (Dl::G) ⟨s1.trans s2,rp,λa ha=>?_,λz=>(by cases z),?_⟩
   ·rcases Zl.mp ha with rfl | h
    ·exact .inl hHD
    ·rcases(hG a h).2 with z | z
     ·exact .inl (s1.free z)
     ·exact(oldOf a z).2
   ·refine ow.append λi hi=>?_
    unfold QlH at hi
    obtain⟨o,_,ho⟩:=ZaY.mp hi
    cases o with
    | none=>cases ho
    | some k=>
     simp only[Za]at ho
     split at ho
     ·rename_i d b hk
      split at ho
      ·rename_i hb
       cases ho
       simp only[Zk]at hb
       rw[hb.1]at hk
       exact⟨d,hk⟩
      ·cases ho
     ·cases ho
section
variable {X:Cx}{tg iter elt:Expr}{ifs:List Expr}{scope:Scope}{N':List Str}{pos:Pos}{fi:DI}{t:Tg}{cap:List (Option Nat)}{ft:DT}{fe:DE}
theorem QqO(hcalm:X.calm=true)(S:Qc0 X N' scope)(hi:SI X tg iter fi)(hcap:QiT X N' scope cap t.slots)
  (hin:∀cl C fp s3 H3,SG (cxc X N' scope cl C fp s3 H3) tg t/\Qku (cxc X N' scope cl C fp s3 H3) ifs ft/\SE (cxc X N' scope cl C fp s3 H3) elt fe) (hs:∀x,foldedSetIterable iter X.env x=pure x):
  SE X (.ListComp elt [⟨tg,iter,ifs,0⟩] scope pos) (Qab fi t cap ft fe):=λH0 A0=>
 (Qlk hcalm S (hi H0 A0) (λcl C fp s3 H3=>⟨(hin cl C fp s3 H3).1 _ _,(hin cl C fp s3 H3).2.1 _ _,(hin cl C fp s3 H3).2.2 _ _⟩) hs).mono λσ H Q h=>Qh7 hcap h
end
end HS
namespace HS
open PySem PySem.Spec L2
inductive Out where
 | nx (ρ:En)
 | bk (ρ:En)
 | ct (ρ:En)
 | rt (d:D) (fr:Bool)
noncomputable abbrev DS:=En->Option Out
noncomputable def Fits(K:PySem.W.Frag)(H0:Hp)(A0:List Addr)(hs:List (V×D×List Addr))(E:Ends):Out->Prop
 | .nx ρ=>∀σ H F,Rel K H0 A0 hs ρ F σ H->E.nx σ H
 | .bk ρ=>∀σ H F,Rel K H0 A0 hs ρ F σ H->E.bk σ H
 | .ct ρ=>∀σ H F,Rel K H0 A0 hs ρ F σ H->E.ct σ H
 | .rt d fr=>∀v H G,Ret K H0 A0 d fr v H G->E.rt v H
noncomputable def tS(K:PySem.W.Frag)(H0:Hp)(A0:List Addr)(f:DS):TS:=λE σ H=>∃ρ hs F o,Rel K H0 A0 hs ρ F σ H/\f ρ=some o/\Fits K H0 A0 hs E o
def S1(X:Cx)(st:Stmt)(f:DS):Prop:=∀H0 A0,PS X st (tS X.K H0 A0 f)
def SS(X:Cx)(sts:List Stmt)(f:DS):Prop:=∀H0 A0,PSs X sts (tS X.K H0 A0 f)
theorem _root_.L2.PS.mono(h:PS X st t)(m:∀D σ H,t' D σ H->t D σ H):PS X st t':=λpins s σ H D I q=>h pins s σ H D I (m D σ H q)
theorem _root_.L2.PSs.mono(h:PSs X st t)(m:∀D σ H,t' D σ H->t D σ H):PSs X st t':=λpins s σ H D I q=>h pins s σ H D I (m D σ H q)
noncomputable def Qp:DS:=λρ=>some (.nx ρ)
noncomputable def Qe(f g:DS):DS:=λρ=>(f ρ).bind λo=>match o with
 | .nx ρ'=>g ρ'
 | .bk ρ'=>some (.bk ρ')
 | .ct ρ'=>some (.ct ρ')
 | .rt d fr=>some (.rt d fr)
noncomputable def Qo1:DS:=λρ=>some (.bk ρ)
noncomputable def Qot:DS:=λρ=>some (.ct ρ)
noncomputable def Qy(i:Nat)(fa:DE):DS:=λρ=>(fa ρ).bind λr=>some (.nx (asg i r ρ))
noncomputable def QcZ(fa:DE):DE:=λρ=>(fa ρ).map λr=>⟨r.d,false,r.M⟩
noncomputable def QS(fa:DE):DS:=λρ=>(fa ρ).bind λr=>some (.rt r.d (r.norm.fr && decide r.norm.M.Nodup))
noncomputable def QdQ(fa:DE):DS:=λρ=>(fa ρ).bind λ_=>some (.nx ρ)
noncomputable def sIf(g:DT)(f1 f2:DS):DS:=λρ=>(g ρ).bind λb=>if b=true then f1 ρ else f2 ρ
noncomputable def Qcc(t:Tg)(fb:DS):List D->DS
 | [],ρ=>some (.nx ρ)
 | d::ds,ρ=>(Qa5 t d ρ).bind λρ1=>(fb ρ1).bind λo=>match o with
  | .nx ρ2=>Qcc t fb ds ρ2
  | .ct ρ2=>Qcc t fb ds ρ2
  | .bk ρ2=>some (.nx ρ2)
  | .rt d fr=>some (.rt d fr)
noncomputable def QaZ(fi:DI)(t:Tg)(fb:DS):DS:=λρ=>(fi ρ).bind λir=>Qcc t fb ir.items (QbP ir.M ρ)
section
theorem QsR:SS X [] Qp:=λH0 A0=>Qq5.mono λE σ H=>exK λρ hs F o rel e q=>by
 cases e
 exact q σ H F rel
theorem QqZ(h1:S1 X st f)(h2:SS X sts g):SS X (st::sts) (Qe f g):=λH0 A0=>(QoI (h1 H0 A0) (h2 H0 A0)).mono λE σ H=>exK λρ hs F o rel e q=>by
 refine Qh e λo1 e1 e=>?_
 refine⟨ρ,hs,F,o1,rel,e1,?_⟩
 cases o1 with
 | nx ρ'=>exact λσ' H' F' rel'=>⟨ρ',hs,F',o,rel',e,q⟩
 | bk ρ'=>cases e;exact q
 | ct ρ'=>cases e;exact q
 | rt d fr=>cases e;exact q
theorem QqM:S1 X (.Pass pos) Qp:=λH0 A0=>Qp3.mono λE σ H=>exK λρ hs F o rel e q=>by
 cases e
 exact q σ H F rel
theorem Qor:S1 X (.Break pos) Qo1:=λH0 A0=>Qog.mono λE σ H=>exK λρ hs F o rel e q=>by
 cases e
 exact q σ H F rel
theorem Qq8:S1 X (.Continue pos) Qot:=λH0 A0=>QkV.mono λE σ H=>exK λρ hs F o rel e q=>by
 cases e
 exact q σ H F rel
theorem QoX(h:SE X e fa):SE X e (QcZ fa):=λH0 A0=>(h H0 A0).mono λσ H Q=>exK λρ hs F r rel e q=>by
 obtain⟨r',e1,rfl⟩:=Ze.mp e
 exact⟨ρ,hs,F,r',rel,e1,λv H' G p=>q v H' G ⟨p.same,p.rp,p.src,λz=>(by cases z),p.own⟩⟩
theorem Qja(h:∀H0 A0,PS X st (Qi7 (tV X.K H0 A0 fa) (QfB i))):S1 X st (Qy i fa):=λH0 A0=>(h H0 A0).mono λE σ H=>exK λρ hs F o rel e q=>by
 refine Qh e λr e1 e=>?_
 cases e
 refine⟨ρ,hs,F,r,rel,e1,λv H' G p=>?_⟩
 obtain⟨F',rel'⟩:=rel.asg (i:=i) p
 exact q _ _ F' rel'
theorem QrB(h:PS X st (QiI (tV X.K H0 A0 fa))):PS X st (tS X.K H0 A0 (QdQ fa)):=h.mono λE σ H=>exK λρ hs F o rel e q=>by
 refine Qh e λr e1 e=>?_
 cases e
 exact⟨ρ,hs,F,r,rel,e1,λv H' G p=>q σ H' F (rel.ext p.same)⟩
theorem Rel.ret(rel:Rel K H0 A0 hs ρ F σ H)(p:QK K ρ F H H' r v G):Ret K H0 A0 r.d (r.norm.fr && decide r.norm.M.Nodup) v H' G where
 same:=rel.same.trans p.same
 rp:=p.rp
 src:=λa ha=>by
  rcases p.src a ha with z | ⟨i,d,b,e,m,_⟩
  ·exact .inl (rel.same.free z)
  ·exact rel.src i d b e a m
 cnt:=λh=>by
  simp only[Zk,decide_eq_true_eq]at h
  have p':=p.norm
  obtain⟨h1,h2⟩:=p'.fresh rel h.1 h.2
  have h3:=(p'.cnt h.1).2
  rw[r.Qco]at h3
  exact⟨h1,h3,λa ha=>(h2 a ha).1⟩
theorem QsB(he:SE X e fa):S1 X (.Return (some e) pos) (QS fa):=λH0 A0=>(Qr9 (he H0 A0)).mono λE σ H=>exK λρ hs F o rel e q=>by
 refine Qh e λr e1 e=>?_
 cases e
 exact⟨ρ,hs,F,r,rel,e1,λv H' G p=>q v H' G (rel.ret p)⟩
theorem QtJ(hc:ST X c gc)(ha:SS X a f)(hb:SS X b g):S1 X (.If c a b pos) (sIf gc f g):=λH0 A0=>(Qt4 (hc H0 A0) (ha H0 A0) (hb H0 A0)).mono λE σ H=>exK λρ hs F o rel e q=>by
 refine Qh e λc e1 e=>?_
 refine⟨ρ,hs,F,c,rel,e1,λH1 s1=>?_⟩
 cases c with
 | true=>exact QrQ ⟨ρ,hs,F,o,rel.ext s1,e,q⟩
 | false=>exact QsA ⟨ρ,hs,F,o,rel.ext s1,e,q⟩
theorem QrD(hp:PassesOwn (model X.prog X.w) X.A X.env X.xe)(hc:X.calm=true)(hi:SI X tg iter fi)(hg:SG X tg t)(hb:SS X body f)(hs:∀x,foldedSetIterable iter X.env x=pure x):
  S1 X (.For tg iter body [] pos) (QaZ fi t f):=λH0 A0=>(Qs2 hp hc (hi H0 A0) (hg H0 A0) (hb H0 A0) hs).mono λE σ H=>exK λρ hs F o rel e q=>by
 refine Qh e λir e1 e=>?_
 refine⟨ρ,hs,F,ir,rel,e1,λJ H1 ts s1 wk hts ow hz=>?_⟩
 have rel1:Rel X.K H0 A0 (ts++hs) (QbP ir.M ρ) F σ H1:=((rel.ext s1).weak (Qbx ir.M ρ)).hold λt ht=>⟨(hts t ht).1,Shr.of rel (hts t ht).2⟩
 refine⟨λi m σ' H'=>m=ir.items.length-i/\i<=ir.items.length/\∃ρi Fi,Rel X.K H0 A0 (ts++hs) ρi Fi σ' H'/\Qcc t f (ir.items.drop i) ρi=some o,⟨_,rfl,ZZ _,_,F,rel1,by simpa using e⟩,?_⟩
 rintro i m σ' H' ⟨rfl,hi',ρi,Fi,reli,ei⟩
 have held:Qjq X.K H' ts:=λt ht=>(reli.held t (Zg _ ht)).1
 by_cases hlt:i<ir.items.length
 ·rw[Zaq hlt]at ei
  unfold Qcc at ei
  refine Qh ei λρ1 eb ei=>?_
  refine Qh ei λo1 eo ei=>?_
  refine .inr ⟨wk.go i H' hlt held,λσ2 H2=>∃ρ2 F2,Rel X.K H0 A0 (ts++hs) ρ2 F2 σ2 H2/\Qcc t f (ir.items.drop (i+1)) ρ2=some o,λσ2 H2 ⟨ρ2,F2,rel2,e2⟩=>⟨_,by omega,rfl,hlt,ρ2,F2,rel2,e2⟩,λx H2 hy=>?_⟩
  obtain⟨s2,G0,rp0,hG0⟩:=wk.yld i ir.items[i] H' x H2 (by simp[hlt]) held hy
  have shr:Shr H0 A0 ρi Fi G0:=λa ha=>by
   obtain⟨t,ht,hat⟩:=hG0 a ha
   exact⟨(reli.held t (Zg _ ht)).2 a hat,λj d ej hj=>(reli.own j d ej).2.2.2.2 t (Zg _ ht) a hj hat⟩
  refine⟨ρi,ts++hs,Fi,ir.items[i],G0,ρ1,reli.ext s2,rp0,shr,eb,λσ3 F3 rel3 _ _=>⟨ρ1,ts++hs,F3,o1,rel3,eo,?_⟩⟩
  cases o1 with
  | nx ρ2=>exact λσ4 H4 F4 rel4=>⟨ρ2,F4,rel4,ei⟩
  | ct ρ2=>exact λσ4 H4 F4 rel4=>⟨ρ2,F4,rel4,ei⟩
  | bk ρ2=>cases ei;exact λσ4 H4 F4 rel4=>q σ4 H4 F4 rel4.Qne
  | rt d fr=>cases ei;exact q
 ·have hn:i=ir.items.length:=by omega
  subst hn
  rw[List.drop_length]at ei
  cases ei
  exact .inl ⟨wk.stop H' held,q σ' H' Fi reli.Qne⟩
end
section
variable {K:PySem.W.Frag}{H H':Hp}
theorem Rps.split:∀{ds:List D}{vs:List V}{F:List Addr}{j:Nat}{d:D},Rps K H ds vs F->ds[j]? =some d→
  ∃F1 G F2 v,F=F1++(G++F2)/\vs[j]? =some v/\Rps K H (ds.take j) (vs.take j) F1/\Rp K H d v G/\Rps K H (ds.drop (j+1)) (vs.drop (j+1)) F2
 | [],_,_,_,_,_,e=>by simp at e
 | d::ds,_,_,0,_,h,e=>by
  simp only[Rps]at h
  obtain⟨v,ws,F1,F2,rfl,rfl,r,q⟩:=h
  simp at e;subst e
  exact⟨[],F1,F2,v,rfl,by simp,by simp[Rps],r,by simpa using q⟩
 | d::ds,_,_,j+1,_,h,e=>by
  simp only[Rps]at h
  obtain⟨v,ws,F1,F2,rfl,rfl,r,q⟩:=h
  obtain⟨G1,G,G2,v',h1,h2,h3,h4,h5⟩:=Rps.split q (by simpa using e)
  refine⟨F1++G1,G,G2,v',by rw[h1,Zat],by simpa using h2,?_,h4,by simpa using h5⟩
  simp only[List.take_succ_cons,Rps]
  exact⟨v,_,F1,G1,rfl,rfl,r,h3⟩
theorem Rps.join{ds:List D}{vs:List V}{F1 G F2:List Addr}{j:Nat}{d:D}{v:V}(h1:Rps K H (ds.take j) (vs.take j) F1)(hd:Rp K H d v G)(h2:Rps K H (ds.drop (j+1)) (vs.drop (j+1)) F2)(hj:j<ds.length)(hv:vs[j]? =some v):
  Rps K H (ds.set j d) vs (F1++(G++F2)):=by
 have e1:ds.set j d=ds.take j++d::ds.drop (j+1):=Zay .. |>.trans (by rw[if_pos hj])
 have hjv:j<vs.length:=(Zb.mp hv).1
 have hve:vs[j]=v:=(Zb.mp hv).2
 have e2:vs=vs.take j++v::vs.drop (j+1):=by
  rw[← hve,← Zaq hjv,ZaK]
 rw[e1,e2]
 refine h1.append ?_
 simp only[Rps]
 refine⟨v,_,G,F2,rfl,rfl,hd,h2⟩
theorem Rps.Qt1{ds:List D}{vs:List V}{F1 G F2:List Addr}{j:Nat}{d:D}{v:V}(h1:Rps K H (ds.take j) (vs.take j) F1)(hd:Rp K H d v G)(h2:Rps K H (ds.drop (j+1)) (vs.drop (j+1)) F2)(hj:j<ds.length)(hv:j<vs.length):
  Rps K H (ds.set j d) (vs.set j v) (F1++(G++F2)):=by
 have e1:ds.set j d=ds.take j++d::ds.drop (j+1):=Zay .. |>.trans (by rw[if_pos hj])
 have e2:vs.set j v=vs.take j++v::vs.drop (j+1):=Zay .. |>.trans (by rw[if_pos hv])
 rw[e1,e2]
 refine h1.append ?_
 simp only[Rps]
 exact⟨v,_,G,F2,rfl,rfl,hd,h2⟩
noncomputable def Focus(K:PySem.W.Frag)(H:Hp):List Int->D->V->List Addr->D->V->List Addr->Prop
 | [],d,v,F,dm,w,Gm=>dm=d/\w=v/\Gm=F/\Rp K H d v F
 | i::is,d,v,F,dm,w,Gm=>∃(ds:List D) (a:Addr) (vs:List V) (j:Nat) (F1 G F2:List Addr) (d':D) (v':V),v= .ref a/\ixN ds.length i=some j∧
   ((d= .lst ds/\ds.length<=sizeLine/\((F=a::(F1++(G++F2))/\H a=some (.lst vs))∨(F=F1++(G++F2)/\Fix K H a vs)))∨(d= .tup ds/\F=F1++(G++F2)/\SqT K H a vs))∧
   Rps K H (ds.take j) (vs.take j) F1/\Rps K H (ds.drop (j+1)) (vs.drop (j+1)) F2/\ds[j]? =some d'/\vs[j]? =some v'/\ds.length=vs.length/\Focus K H is d' v' G dm w Gm
theorem Focus.same(s:Qz H H'):∀{is:List Int}{d:D}{v:V}{F:List Addr}{dm:D}{w:V}{Gm:List Addr},Focus K H is d v F dm w Gm->Focus K H' is d v F dm w Gm
 | [],_,_,_,_,_,_,h=>⟨h.1,h.2.1,h.2.2.1,h.2.2.2.same s⟩
 | i::is,_,_,_,_,_,_,h=>by
  obtain⟨ds,a,vs,j,F1,G,F2,d',v',h1,h2,h3,h4,h5,h6,h7,h8,h9⟩:=h
  refine⟨ds,a,vs,j,F1,G,F2,d',v',h1,h2,?_,h4.same s,h5.same s,h6,h7,h8,h9.same s⟩
  rcases h3 with⟨e,z,q⟩ | ⟨e,eF,q⟩
  ·refine .inl ⟨e,z,?_⟩
   rcases q with⟨eF,q⟩ | ⟨eF,q⟩
   ·exact .inl ⟨eF,s _ _ q⟩
   ·exact .inr ⟨eF,Qjo s q⟩
  ·exact .inr ⟨e,eF,Qka s q⟩
theorem Focus.rp:∀{is:List Int}{d:D}{v:V}{F:List Addr}{dm:D}{w:V}{Gm:List Addr},Focus K H is d v F dm w Gm->Rp K H dm w Gm
 | [],_,_,_,_,_,_,h=>by
  obtain⟨rfl,rfl,rfl,r⟩:=h
  exact r
 | i::is,_,_,_,_,_,_,h=>by
  obtain⟨ds,a,vs,j,F1,G,F2,d',v',h1,h2,h3,h4,h5,h6,h7,h8,h9⟩:=h
  exact h9.rp
theorem Focus.Qna:∀{is:List Int}{d:D}{v:V}{F:List Addr}{dm:D}{w:V}{Gm:List Addr},Focus K H is d v F dm w Gm->Rp K H d v F
 | [],_,_,_,_,_,_,h=>h.2.2.2
 | i::is,_,_,_,_,_,_,h=>by
  obtain⟨ds,a,vs,j,F1,G,F2,d',v',rfl,h2,h3,h4,h5,h6,h7,h8,h9⟩:=h
  have hjl:j<ds.length:=(Zb.mp h6).1
  have hdj:ds[j]=d':=(Zb.mp h6).2
  have j1:=Rps.join h4 h9.Qna h5 hjl h7
  rw[show ds.set j d'=ds by rw[← hdj];exact List.set_getElem_self hjl]at j1
  rcases h3 with⟨rfl,hz,⟨rfl,q⟩ | ⟨rfl,q⟩⟩ | ⟨rfl,rfl,q⟩
  ·exact Rp.Qeb q j1 hz
  ·simp only[Rp]
   exact⟨hz,a,vs,rfl,.inr ⟨q,j1⟩⟩
  ·simp only[Rp]
   exact⟨a,vs,rfl,q,j1⟩
theorem Focus.one(r:Rp K H d v F)(hd:d.items=some ds)(hi:atI ds i=some d'):
  ∃a vs v' G,v= .ref a/\((d= .lst ds/\SqL K H a vs)∨(d= .tup ds/\SqT K H a vs))/\atI vs i=some v'/\Focus K H [i] d v F d' v' G:=by
 unfold atI at hi
 cases hj:ixN ds.length i with
 | none=>rw[hj]at hi;cases hi
 | some j=>
  rw[hj]at hi
  have hdj:ds[j]? =some d':=hi
  have fin:∀(vs:List V) (L:List Addr),Rps K H ds vs L->∃v' G F1 F2,L=F1++(G++F2)/\vs[j]? =some v'/\atI vs i=some v'/\Rps K H (ds.take j) (vs.take j) F1/\Rp K H d' v' G/\Rps K H (ds.drop (j+1)) (vs.drop (j+1)) F2/\ds.length=vs.length:=λvs L rl=>by
   obtain⟨F1,G,F2,v',h1,h2,h3,h4,h5⟩:=rl.split hdj
   refine⟨v',G,F1,F2,h1,h2,?_,h3,h4,h5,rl.length⟩
   unfold atI
   rw[← rl.length,hj]
   exact h2
  cases d with
  | lst xs=>
   cases hd
   simp only[Rp]at r
   obtain⟨hz,a,vs,rfl,⟨L,rfl,q,rl⟩ | ⟨q,rl⟩⟩:=r
   ·obtain⟨v',G,F1,F2,h1,h2,h3,h4,h5,h6,h7⟩:=fin vs L rl
    exact⟨a,vs,v',G,rfl,.inl ⟨rfl,SqL.of q⟩,h3,ds,a,vs,j,F1,G,F2,d',v',rfl,hj,.inl ⟨rfl,hz,.inl ⟨by rw[h1],q⟩⟩,h4,h6,hdj,h2,h7,rfl,rfl,rfl,h5⟩
   ·obtain⟨v',G,F1,F2,h1,h2,h3,h4,h5,h6,h7⟩:=fin vs _ rl
    exact⟨a,vs,v',G,rfl,.inl ⟨rfl,q.sq⟩,h3,ds,a,vs,j,F1,G,F2,d',v',rfl,hj,.inl ⟨rfl,hz,.inr ⟨h1,q⟩⟩,h4,h6,hdj,h2,h7,rfl,rfl,rfl,h5⟩
  | tup xs=>
   cases hd
   obtain⟨a,vs,rfl,q,rl⟩:=r.Qaf
   obtain⟨v',G,F1,F2,h1,h2,h3,h4,h5,h6,h7⟩:=fin vs _ rl
   exact⟨a,vs,v',G,rfl,.inr ⟨rfl,q⟩,h3,ds,a,vs,j,F1,G,F2,d',v',rfl,hj,.inr ⟨rfl,h1,q⟩,h4,h6,hdj,h2,h7,rfl,rfl,rfl,h5⟩
  | _=>cases hd
theorem Focus.snoc:∀{is:List Int}{d:D}{v:V}{F:List Addr}{dm:D}{w:V}{Gm:List Addr}{i:Int}{d':D}{v':V}{G:List Addr},Focus K H is d v F dm w Gm->Focus K H [i] dm w Gm d' v' G->Focus K H (is++[i]) d v F d' v' G
 | [],_,_,_,_,_,_,_,_,_,_,h,g=>by
  obtain⟨rfl,rfl,rfl,r⟩:=h
  exact g
 | k::is,_,_,_,_,_,_,_,_,_,_,h,g=>by
  obtain⟨ds,a,vs,j,F1,G,F2,d',v',h1,h2,h3,h4,h5,h6,h7,h8,h9⟩:=h
  exact⟨ds,a,vs,j,F1,G,F2,d',v',h1,h2,h3,h4,h5,h6,h7,h8,h9.snoc g⟩
noncomputable def Qa3:D->List Int->Option D
 | d,[]=>some d
 | d,i::is=>(d.items).bind λds=>(atI ds i).bind λd'=>Qa3 d' is
theorem QgE:∀{is:List Int}{d:D}{i:Int}{d':D},Qa3 d (is++[i])=some d'->∃dm ds,Qa3 d is=some dm/\dm.items=some ds/\atI ds i=some d'
 | [],d,i,d',h=>by
  refine Qh h λds h1 h=>?_
  refine Qh h λd'' h2 h=>?_
  cases h
  exact⟨d,ds,rfl,h1,h2⟩
 | k::is,d,i,d',h=>by
  refine Qh h λds h1 h=>?_
  refine Qh h λd'' h2 h=>?_
  obtain⟨dm,es,h3,h4,h5⟩:=QgE h
  refine⟨dm,es,?_,h4,h5⟩
  simp only[Qa3,h1,h2,Za,h3]
noncomputable def Qao:List Int->D->D->D
 | [],_,new=>new
 | i::is,.lst ds,new=>match ixN ds.length i with
  | some j=> .lst (ds.set j (Qao is (ds.getD j .non) new))
  | none=> .lst ds
 | i::is,.tup ds,new=>match ixN ds.length i with
  | some j=> .tup (ds.set j (Qao is (ds.getD j .non) new))
  | none=> .tup ds
 | _::_,d,_=>d
theorem QfC:∀{ds:List D}{j:Nat}{d e:D},ds[j]? =some d->nls (ds.set j e)+d.nl=nls ds+e.nl
 | [],_,_,_,h=>by simp at h
 | x::ds,0,d,e,h=>by simp at h;subst h;simp only[List.set_cons_zero,nls];omega
 | x::ds,j+1,d,e,h=>by
  have:=QfC (e:=e) (by simpa using h)
  simp only[List.set_cons_succ,nls];omega
theorem Qdc:∀(as bs:List D),nls (as++bs)=nls as+nls bs
 | [],bs=>by simp[nls]
 | a::as,bs=>by simp only[Zbj,nls,Qdc as bs];omega
theorem Focus.mut:∀{is:List Int}{d:D}{v:V}{F:List Addr}{Gm:List Addr},Focus K H is d v F (.lst dsm) (.ref p) Gm->F.Nodup->F.length=d.nl→
  ∃vsm Gp,H p=some (.lst vsm)/\Gm=p::Gp/\Rps K H dsm vsm Gp/\Gp.length=nls dsm/\p∈F/\(∀a∈Gp,a∈F)/\p∉Gp∧
   (Rps K (upd H p (.lst vs')) ds' vs' G'->ds'.length<=sizeLine->G'.length=nls ds'→
    ∃F',Rp K (upd H p (.lst vs')) (Qao is d (.lst ds')) v F'/\F'.length=(Qao is d (.lst ds')).nl/\∀a,F'.count a+Gp.count a=F.count a+G'.count a)
 | [],d,v,F,Gm,h,nd,hl=>by
  obtain⟨rfl,rfl,rfl,r⟩:=h
  simp only[Rp]at r
  obtain⟨hz,a,vs,e,h⟩:=r
  cases e
  rcases h with⟨L,rfl,q,rl⟩ | ⟨q,rl⟩
  ·obtain⟨n1,n2⟩:=Zak.mp nd
   have hl':L.length=nls dsm:=by simp only[D.nl,Zq]at hl;omega
   refine⟨vs,L,q,rfl,rl,hl',Zj,λa ha=>Zc _ ha,n1,λr' hz' hl2=>⟨p::G',Rp.Qeb Qam r' hz',?_,λa=>?_⟩⟩
   ·simp only[Qao,D.nl,Zq,hl2]
   ·rw[Zaz,Zaz];omega
  ·have:=rl.Qad
   simp only[D.nl]at hl
   omega
 | i::is,d,v,F,Gm,h,nd,hl=>by
  obtain⟨ds,a,vs,j,F1,G,F2,d',v',rfl,hj,h3,h4,h5,h6,h7,h8,h9⟩:=h
  have hjl:j<ds.length:=(Zb.mp h6).1
  have gd:ds.getD j .non=d':=by rw[ZK,h6];rfl
  have l1:=h4.Qad
  have l2:=h5.Qad
  have l3:=h9.Qna.Qad
  have nlsplit:nls (ds.take j)+(d'.nl+nls (ds.drop (j+1)))=nls ds:=by
   have e1:ds=ds.take j++d'::ds.drop (j+1):=by
    have:ds[j]=d':=(Zb.mp h6).2
    rw[← this,← Zaq hjl,ZaK]
   have e2:=congrArg nls e1
   rw[Qdc]at e2
   simp only[nls]at e2
   exact e2.symm
  have core:(F1++(G++F2)).Nodup->(F1++(G++F2)).length=nls ds->_:=λnd' hl'=>by
   simp only[Zr]at hl'
   have hG:G.length=d'.nl:=by omega
   have ndG:G.Nodup:=(Zan.mp (Zan.mp nd').2.1).1
   exact(h9.mut (vs':=vs') (ds':=ds') (G':=G') ndG hG)
  have apart:(F1++(G++F2)).Nodup->p∈G->p∉F1/\p∉F2:=λnd' hp=>by
   have n1:=Zan.mp nd'
   have n2:=Zan.mp n1.2.1
   exact⟨λh=>n1.2.2 p h p (Zg _ hp) rfl,λh=>n2.2.2 p hp p h rfl⟩
  have cnt:∀(G'' Gp:List Addr),(∀a,G''.count a+Gp.count a=G.count a+G'.count a)->∀a,(F1++(G''++F2)).count a+Gp.count a=(F1++(G++F2)).count a+G'.count a:=λG'' Gp hc a=>by
   have:=hc a
   simp only[Zam];omega
  rcases h3 with⟨rfl,hz,⟨rfl,q⟩ | ⟨rfl,q⟩⟩ | ⟨rfl,rfl,q⟩
  ·
   obtain⟨n1,n2⟩:=Zak.mp nd
   have hl':(F1++(G++F2)).length=nls ds:=by simp only[D.nl,Zq]at hl;omega
   obtain⟨vsm,Gp,e1,e2,e3,e4,e5,e6,e7,e8⟩:=core n2 hl'
   have ap:=apart n2 e5
   have hap:a≠p:=λz=>n1 (by rw[z];exact Zd _ (Zg _ e5))
   refine⟨vsm,Gp,e1,e2,e3,e4,Zc _ (Zd _ (Zg _ e5)),λb hb=>Zc _ (Zd _ (Zg _ (e6 b hb))),e7,λr' hz' hl2=>?_⟩
   obtain⟨G'',f1,f2,f3⟩:=e8 r' hz' hl2
   have j1:=Rps.join (h4.upd e1 ap.1) f1 (h5.upd e1 ap.2) hjl h7
   refine⟨a::(F1++(G''++F2)),?_,?_,λb=>?_⟩
   ·simp only[Qao,hj,gd]
    exact Rp.Qeb (by rw[QD hap];exact q) j1 (by rw[Zbu];exact hz)
   ·have:=QfC (e:=Qao is d' (.lst ds')) h6
    simp only[Qao,hj,gd,D.nl,Zq,Zr,f2]at hl' ⊢
    omega
   ·have:=cnt G'' Gp f3 b
    rw[Zaz,Zaz];omega
  ·have:(F1++(G++F2)).length<=nls ds:=by simp only[Zr];omega
   simp only[D.nl]at hl
   omega
  ·
   have hl':(F1++(G++F2)).length=nls ds:=by simpa only[D.nl]using hl
   obtain⟨vsm,Gp,e1,e2,e3,e4,e5,e6,e7,e8⟩:=core nd hl'
   have ap:=apart nd e5
   refine⟨vsm,Gp,e1,e2,e3,e4,Zd _ (Zg _ e5),λb hb=>Zd _ (Zg _ (e6 b hb)),e7,λr' hz' hl2=>?_⟩
   obtain⟨G'',f1,f2,f3⟩:=e8 r' hz' hl2
   have j1:=Rps.join (h4.upd e1 ap.1) f1 (h5.upd e1 ap.2) hjl h7
   refine⟨F1++(G''++F2),?_,?_,cnt G'' Gp f3⟩
   ·simp only[Qao,hj,gd,Rp]
    exact⟨a,vs,rfl,Qk9 e1 q,j1⟩
   ·have:=QfC (e:=Qao is d' (.lst ds')) h6
    simp only[Qao,hj,gd,D.nl,Zr,f2]at hl' ⊢
    omega
end
end HS
namespace HS
open PySem PySem.Spec L2
section
theorem Rel.mut(rel:Rel K H0 A0 hs ρ F σ H)(p:QK K ρ F H H1 r vn Gn)(hf:r.fr=true)(nd:r.M.Nodup)(s12:Qz H1 H2)(hx:ρ[x]? =some (some (d,true)))(hxM:x∉r.M)(hv0:σ[x]? =some (some v0))
  {dnew:D}{q:Addr}{F':List Addr}{vsm vs':List V}(e1:H2 q=some (.lst vsm)) (e5:q∈F x) (f1:Rp K (upd H2 q (.lst vs')) dnew v0 F') (f2:F'.length=dnew.nl) (cF:∀a,F'.count a<=(F x).count a+Gn.count a):
  ∃F',Rel K H0 A0 hs ((kill r.M ρ).set x (some (dnew,true))) F' σ (upd H2 q (.lst vs')):=by
 obtain⟨ol,on,o0,oap,oh⟩:=rel.own x d hx
 obtain⟨gn,gs⟩:=p.fresh rel hf nd
 have rel2:=(rel.ext p.same).ext s12
 have relk:=rel2.weak (QbO r.M ρ)
 have apn:∀a∈Gn,a∉F x:=λa ha hax=>by
  rcases(gs a ha).2 with z | ⟨k,d',hk,ek,hak⟩
  ·obtain⟨vs,w⟩:=rel.mem hx hax
   rw[z]at w;cases w
  ·have:k≠x:=λz=>hxM (z▸hk)
   exact oap k d' true this ek a hax hak
 have memF:∀a∈F',a∈F x∨a∈Gn:=λa ha=>by
  have h1:=cF a
  have h2:0<F'.count a:=Zar.mpr ha
  by_cases h:a∈F x
  ·exact .inl h
  ·rw[ZW.mpr h]at h1
   exact .inr (Zar.mp (by omega))
 have apart:∀(j:Nat) d' b,j≠x->(kill r.M ρ)[j]? =some (some (d',b))->∀a∈F',a∉F j:=λj d' b hj e a ha haj=>by
  obtain⟨b',e',_⟩:=(QbO r.M ρ).2 j d' b e
  rcases memF a ha with h | h
  ·exact oap j d' b' hj e' a h haj
  ·rcases(gs a h).2 with z | ⟨k,d'',hk,ek,hak⟩
   ·obtain⟨vs,w⟩:=rel.mem e' haj
    rw[z]at w;cases w
   ·have hjk:j≠k:=λz=>by subst z;exact Qfg r.M ρ j d' b hk e
    exact(rel.own k d'' ek).2.2.2.1 j d' b' hjk e' a hak haj
 have apartH:∀t∈hs,∀a∈F',a∉t.2.2:=λt ht a ha hat=>by
  rcases memF a ha with h | h
  ·exact oh t ht a h hat
  ·rcases(gs a h).2 with z | ⟨k,d'',hk,ek,hak⟩
   ·obtain⟨vs,w⟩:=(rel.held t ht).1.mem a hat
    rw[z]at w;cases w
   ·exact(rel.own k d'' ek).2.2.2.2 t ht a hak hat
 have nqj:∀(j:Nat) d' b,j≠x->ρ[j]? =some (some (d',b))->q∉F j:=λj d' b hj e h=>oap j d' b hj e q e5 h
 have nF':F'.Nodup:=Zas.mpr λa=>by
  have h1:=cF a
  have h2:=Zas.mp on a
  have h3:=Zas.mp gn a
  by_cases h:a∈Gn
  ·rw[ZW.mpr (apn a h)]at h1;omega
  ·rw[ZW.mpr h]at h1;omega
 have lt:∀{j:Nat}{z:Option (D×Bool)}{y:D×Bool},((kill r.M ρ).set j z)[j]? =some (some y)->j<(kill r.M ρ).length:=λ{j z y} e=>by
  by_cases hl:j<(kill r.M ρ).length
  ·exact hl
  ·rw[Zv (by simp;omega)]at e;cases e
 refine⟨λj=>if j=x then F' else F j,by simp[relk.len],λj d' b e=>?_,λj d' e=>?_,λj d' b e a ha=>?_,λt ht=>⟨(relk.held t ht).1.upd e1 λh=>oh t ht q e5 h,(relk.held t ht).2⟩,λb o hb=>?_⟩
 ·by_cases hj:j=x
  ·subst hj
   have hl:=lt e
   rw[ZF hl]at e
   cases e
   exact⟨v0,hv0,by rw[if_pos rfl];exact f1⟩
  ·rw[Zt (Ne.symm hj)]at e
   obtain⟨w,h1,h2⟩:=relk.val j d' b e
   obtain⟨b',e',_⟩:=(QbO r.M ρ).2 j d' b e
   exact⟨w,h1,by rw[if_neg hj];exact h2.upd e1 (nqj j d' b' hj e')⟩
 ·by_cases hj:j=x
  ·subst hj
   have hl:=lt e
   rw[ZF hl]at e
   cases e
   rw[if_pos rfl]
   refine⟨f2,nF',λa ha=>?_,λk d'' b hk ek a ha=>?_,apartH⟩
   ·rcases memF a ha with h | h
    ·exact o0 a h
    ·exact(gs a h).1
   ·rw[Zt (Ne.symm hk)]at ek
    rw[if_neg hk]
    exact apart k d'' b hk ek a ha
  ·rw[Zt (Ne.symm hj)]at e
   obtain⟨h1,h2,h3,h4,h5⟩:=relk.own j d' e
   rw[if_neg hj]
   refine⟨h1,h2,h3,λk d'' b hk ek a ha=>?_,h5⟩
   by_cases hki:k=x
   ·subst hki
    rw[if_pos rfl]
    exact λhG=>apart j d' true hj e a hG ha
   ·rw[Zt (Ne.symm hki)]at ek
    rw[if_neg hki]
    exact h4 k d'' b hk ek a ha
 ·by_cases hj:j=x
  ·subst hj
   rw[if_pos rfl]at ha
   rcases memF a ha with h | h
   ·exact .inl (o0 a h)
   ·exact .inl (gs a h).1
  ·rw[Zt (Ne.symm hj)]at e
   rw[if_neg hj]at ha
   exact relk.src j d' b e a ha
 ·have hbq:b≠q:=λz=>by rw[z,o0 q e5]at hb;cases hb
  rw[QD hbq]
  exact relk.same b o hb
end
noncomputable abbrev DP:=En->Option (List Int)
noncomputable def Q1:DP:=λ_=>some []
noncomputable def Qdi(p:DP)(fb:DE):DP:=λρ=>(p ρ).bind λis=>(fb ρ).bind λr=>match r.d with
 | .int i=>some (is++[i])
 | _=>none
noncomputable def tP(K:PySem.W.Frag)(H0:Hp)(A0:List Addr)(x:Nat)(pf:DP):TE:=λσ H Q=>∃ρ hs F d b is dm,Rel K H0 A0 hs ρ F σ H/\ρ[x]? =some (some (d,b))/\pf ρ=some is/\Qa3 d is=some dm∧
 ∀v0 v H' Gm,Qz H H'->σ[x]? =some (some v0)->Focus K H' is d v0 (F x) dm v Gm->Q v H'
def SPa(X:Cx)(e:Expr)(x:Nat)(pf:DP):Prop:=∀H0 A0,PE X e (tP X.K H0 A0 x pf)
section
theorem Qob(h:PE X (.Name y pos) (QjT x)):SPa X (.Name y pos) x Q1:=λH0 A0=>h.mono λσ H Q hpt=>by
 obtain⟨ρ,hs,F,d,b,is,dm,rel,hx,hp,hd,q⟩:=hpt
 cases hp
 cases hd
 obtain⟨v,h1,h2⟩:=rel.val x d b hx
 exact⟨v,h1,q v v H (F x) (Qz.refl _) h1 ⟨rfl,rfl,rfl,h2⟩⟩
theorem Qqw(ha:SPa X a x pf)(hb:SE X b fb)(hs:QfJ b):SPa X (.Subscript a b pos) x (Qdi pf fb):=λH0 A0=>
 (QpK (Qlx.or Qnp) (ha H0 A0) (hb H0 A0) hs).mono λσ H Q hpt=>by
  obtain⟨ρ,hs,F,d,b',is,dm,rel,hx,hp,hd,q⟩:=hpt
  refine Qh hp λis' e1 hp=>?_
  refine Qh hp λr e2 hp=>?_
  cases hr:r.d with
  | int i=>
   rw[hr]at hp
   cases hp
   obtain⟨dn,ds,g1,g2,g3⟩:=QgE hd
   refine⟨ρ,hs,F,d,b',is',dn,rel,hx,e1,g1,λv0 w H1 Gm s1 hv fo=>⟨ρ,hs,F,r,rel.ext s1,e2,λu H2 G p2=>?_⟩⟩
   have rp:=p2.rp
   rw[hr]at rp
   rw[rp.int_inv]
   have fo2:=fo.same p2.same
   obtain⟨c,vs,v',G',rfl,hc,h3,h4⟩:=Focus.one fo2.rp g2 g3
   have fin:=q v0 v' H2 G' (s1.trans p2.same) hv (fo2.snoc h4)
   rcases hc with⟨_,hc⟩ | ⟨_,hc⟩
   ·exact .inl ⟨c,vs,i,v',rfl,rfl,hc,h3,fin⟩
   ·exact .inr ⟨c,vs,i,v',rfl,rfl,hc,h3,fin⟩
  | _=>rw[hr]at hp;cases hp
noncomputable def QcA(x:Nat)(pf:DP)(fi fa:DE):DS:=λρ=>(fa ρ).bind λr0=>match ρ[x]? with
 | some (some (d,true))=>(pf ρ).bind λis=>(fi ρ).bind λri=>match ri.d,Qa3 d is with
  | .int k,some (.lst ds)=>(ixN ds.length k).bind λj=>if r0.norm.fr && decide r0.norm.M.Nodup && !r0.norm.M.contains x then some (.nx ((kill r0.norm.M ρ).set x (some (Qao is d (.lst (ds.set j r0.d)),true))))else
   none
  | _,_=>none
 | _=>none
theorem set_mk(hq:H2 q=some (.lst vsm))(rs:Rps K H2 dsm vsm Gp)(hl:Gp.length=nls dsm)(nq:q∉Gp)(nqn:q∉Gn)(hn:Rp K H2 dn vn Gn)(hnl:Gn.length=dn.nl)(hj:j<dsm.length):
  ∃G',Rps K (upd H2 q (.lst (vsm.set j vn))) (dsm.set j dn) (vsm.set j vn) G'/\G'.length=nls (dsm.set j dn)/\∀a,G'.count a<=Gp.count a+Gn.count a:=by
 obtain⟨F1,G,F2,v,e1,e2,h1,h2,h3⟩:=rs.split (j:=j) (d:=dsm[j]) (by simp[hj])
 subst e1
 have hjv:j<vsm.length:=by rw[← rs.length];exact hj
 have n1:q∉F1:=λh=>nq (Zg _ h)
 have n2:q∉F2:=λh=>nq (Zd _ (Zd _ h))
 refine⟨F1++(Gn++F2),Rps.Qt1 (h1.upd hq n1) (hn.upd hq nqn) (h3.upd hq n2) hj hjv,?_,λa=>?_⟩
 ·have:=QfC (ds:=dsm) (j:=j) (d:=dsm[j]) (e:=dn) (by simp[hj])
  have l1:=h1.Qad
  have l2:=h2.Qad
  have l3:=h3.Qad
  have e1:nls (dsm.take j)+((dsm[j]).nl+nls (dsm.drop (j+1)))=nls dsm:=by
   have e2:=congrArg nls (ZaK j dsm)
   rw[Qdc,Zaq hj]at e2
   simpa only[nls]using e2
  simp only[Zr]at hl ⊢
  omega
 ·simp only[Zam];omega
theorem QK.QpC(p:QK K ρ F H H1 r v G)(s:Qz H1 H2):QK K ρ F H H2 r v G:=⟨p.same.trans s,p.rp.same s,p.src,p.cnt,p.own⟩
theorem QrE(hv:SE X e fa)(ho:SPa X a x pf)(hi:SE X i fi)
  (h:∀te to ti,PE X e te->PE X a to->PE X i ti->PS X (.Assign [.Subscript a i pos'] e pos) (Qi7 te (L2.QbK to ti QpB))):S1 X (.Assign [.Subscript a i pos'] e pos) (QcA x pf fi fa):=λH0 A0=>
 (h _ _ _ (hv H0 A0) (ho H0 A0) (hi H0 A0)).mono λE σ H=>exK λρ hs F o rel e q=>by
  refine Qh e λr0 e1 e=>?_
  split at e
  ·rename_i d hx
   refine Qh e λis e2 e=>?_
   refine Qh e λri e3 e=>?_
   split at e
   ·rename_i k ds hk hp
    refine Qh e λj e4 e=>?_
    split at e
    ·rename_i hc
     cases e
     simp only[Zk,decide_eq_true_eq,Zau]at hc
     obtain⟨⟨c1,c2⟩,c3⟩:=hc
     have c3:x∉r0.norm.M:=λh=>by rw[List.contains_iff_mem.mpr h]at c3;cases c3
     refine⟨ρ,hs,F,r0,rel,e1,λvn H1 Gn p=>⟨ρ,hs,F,d,true,is,.lst ds,rel.ext p.same,hx,e2,hp,λv0 w H2 Gm s2 hv0 fo=>⟨ρ,hs,F,ri,(rel.ext p.same).ext s2,e3,λu H3 Gi pi=>?_⟩⟩⟩
     have p':=(p.norm.QpC s2).QpC pi.same
     have fo3:=fo.same pi.same
     have rpi:=pi.rp
     rw[hk]at rpi
     rw[rpi.int_inv]
     obtain⟨l,ws,L,rfl,_⟩:=fo3.rp.lst_inv
     obtain⟨ol,on,_,oap,_⟩:=rel.own x d hx
     have hjl:=(Qft e4).2.1
     obtain⟨gn,gs⟩:=p'.fresh rel c1 c2
     have rn:=p'.rp
     rw[r0.Qco]at rn
     have hnl:=(p'.cnt c1).2
     rw[r0.Qco]at hnl
     obtain⟨vsm,_,f1,_⟩:=fo3.mut (vs':=[]) (ds':=[]) (G':=[]) on ol
     obtain⟨_,_,_,_,_,_,zl,_⟩:=fo3.rp.lst_inv
     have key:∃F',Rp X.K (upd H3 l (.lst (vsm.set j vn))) (Qao is d (.lst (ds.set j r0.d))) v0 F'/\F'.length=(Qao is d (.lst (ds.set j r0.d))).nl/\l∈F x/\ds.length=vsm.length/\∀a,F'.count a<=(F x).count a+Gn.count a:=by
      have own5:∀G',_:=λG'=>fo3.mut (vs':=vsm.set j vn) (ds':=ds.set j r0.d) (G':=G') on ol
      obtain⟨vs1,Gp,g1,g2,g3,g4,g5,g6,g7,_⟩:=own5 []
      rw[f1]at g1;cases g1
      have hq:l∉Gn:=λh=>by
       rcases(gs l h).2 with z | ⟨k',d',hk',ek,hak⟩
       ·obtain⟨vs,w⟩:=rel.mem hx g5
        rw[z]at w;cases w
       ·exact oap k' d' true (λz=>c3 (z▸hk')) ek l g5 hak
      obtain⟨G',m1,m2,m3⟩:=set_mk f1 g3 g4 g7 hq rn hnl hjl
      obtain⟨vs2,Gp2,k1,k2,k3,k4,k5,k6,k7,k8⟩:=own5 G'
      have eG:Gp2=Gp:=by rw[g2]at k2;exact(List.cons.inj k2).2.symm
      subst eG
      obtain⟨F',h1,h2,h3⟩:=k8 m1 (by rw[Zbu];exact zl) m2
      exact⟨F',h1,h2,g5,g3.length,λa=>by have:=h3 a;have:=m3 a;omega⟩
     obtain⟨F',k1,k2,k3,k4,k5⟩:=key
     refine⟨l,vsm,k,j,rfl,rfl,f1,by rw[← k4];exact e4,?_⟩
     obtain⟨F'',rel'⟩:=rel.mut p' c1 c2 (Qz.refl _) hx c3 hv0 f1 k3 k1 k2 k5
     exact q _ _ F'' rel'
    ·
      cases e
   ·cases e
  ·cases e
end
section
variable {K:PySem.W.Frag}{H0 H H1 H2 H3:Hp}{A0:List Addr}{hs:List (V×D×List Addr)}{ρ:En}{F:Nat->List Addr}{σ:L2.St}
theorem Rel.write(rel:Rel K H0 A0 hs ρ F σ H)(p:QK K ρ F H H3 r vn Gn)(hf:r.fr=true)(nd:r.M.Nodup)(hx:ρ[x]? =some (some (d,true)))(hxM:x∉r.M)(hv0:σ[x]? =some (some v0))
  {is:List Int}{ds:List D}{Gm:List Addr}(fo:Focus K H3 is d v0 (F x) (.lst ds) w Gm):
  ∃l vsm Gp,w= .ref l/\H3 l=some (.lst vsm)/\Rps K H3 ds vsm Gp/\Gp.length=nls ds/\l∉Gp/\l∉Gn/\ds.length<=sizeLine∧
   ∀ds' vs' G',Rps K (upd H3 l (.lst vs')) ds' vs' G'->ds'.length<=sizeLine->G'.length=nls ds'->(∀a,G'.count a<=Gp.count a+Gn.count a)→
    ∃F',Rel K H0 A0 hs ((kill r.M ρ).set x (some (Qao is d (.lst ds'),true))) F' σ (upd H3 l (.lst vs')):=by
 obtain⟨l,ws,L,rfl,_,_,zl,_⟩:=fo.rp.lst_inv
 obtain⟨ol,on,_,oap,_⟩:=rel.own x d hx
 obtain⟨gn,gs⟩:=p.fresh rel hf nd
 obtain⟨vsm,Gp,g1,g2,g3,g4,g5,g6,g7,_⟩:=fo.mut (vs':=[]) (ds':=[]) (G':=[]) on ol
 have hq:l∉Gn:=λh=>by
  rcases(gs l h).2 with z | ⟨k',d',hk',ek,hak⟩
  ·obtain⟨vs,w⟩:=rel.mem hx g5
   rw[z]at w;cases w
  ·exact oap k' d' true (λz=>hxM (z▸hk')) ek l g5 hak
 refine⟨l,vsm,Gp,rfl,g1,g3,g4,g7,hq,zl,λds' vs' G' m1 m2 m3 m4=>?_⟩
 obtain⟨vs2,Gp2,k1,k2,k3,k4,k5,k6,k7,k8⟩:=fo.mut (vs':=vs') (ds':=ds') (G':=G') on ol
 have eG:Gp2=Gp:=by rw[g2]at k2;exact(List.cons.inj k2).2.symm
 subst eG
 obtain⟨F',h1,h2,h3⟩:=k8 m1 m2 m3
 exact rel.mut p hf nd (Qz.refl _) hx hxM hv0 g1 g5 h1 h2 λa=>by have:=h3 a;have:=m4 a;omega
end
section
variable {X:Cx}{a b e:Expr}{fa fb:DE}{pf:DP}{x:Nat}{pos apos:Pos}
noncomputable def QiR(r:R)(x:Nat):Bool:=r.norm.fr && decide r.norm.M.Nodup && !r.norm.M.contains x
theorem Qm5(h:QiR r x=true):r.norm.fr=true/\r.norm.M.Nodup/\x∉r.norm.M:=by
 unfold QiR at h
 simp only[Zk,decide_eq_true_eq,Zau]at h
 exact⟨h.1.1,h.1.2,λz=>by rw[List.contains_iff_mem.mpr z]at h;cases h.2⟩
noncomputable def Qch(x:Nat)(pf:DP)(fa:DE):DS:=λρ=>match ρ[x]? with
 | some (some (d,true))=>(pf ρ).bind λis=>(fa ρ).bind λr0=>match Qa3 d is with
  | some (.lst ds)=>if QiR r0 x && decide (ds.length<sizeLine)then some (.nx ((kill r0.norm.M ρ).set x (some (Qao is d (.lst (ds++[r0.d])),true))))else none
  | _=>none
 | _=>none
theorem Qol{H0:Hp}{A0:List Addr}{E:Ends}{σ:L2.St}{H:Hp}:tS X.K H0 A0 (Qch x pf fa) E σ H->QiI (tBM X.K "list" Qk3 (tP X.K H0 A0 x pf) (QgV (tV X.K H0 A0 fa) Qg4)) E σ H:=exK λρ hs F o rel e q=>by
 unfold Qch at e
 split at e
 ·rename_i d hx
  refine Qh e λis e2 e=>?_
  refine Qh e λr0 e1 e=>?_
  split at e
  ·rename_i ds hp
   split at e
   ·rename_i hc
    simp only[Zk,decide_eq_true_eq]at hc
    obtain⟨c1,c2,c3⟩:=Qm5 hc.1
    cases e
    refine⟨ρ,hs,F,d,true,is,.lst ds,rel,hx,e2,hp,λv0 w H2 Gm s2 hv0 fo=>?_⟩
    have ty:tyV X.K "list" w H2:=by
     obtain⟨l,ws,L,rfl,hl,_⟩:=fo.rp.lst_inv
     exact .inl ⟨rfl,ws,QI hl⟩
    refine⟨ty,ρ,hs,F,r0,rel.ext s2,e1,λvn H3 Gn p=>?_⟩
    have p':=p.norm
    obtain⟨l,vsm,Gp,rfl,g1,g2,g3,g4,g5,g6,g7⟩:=(rel.ext s2).write p' c1 c2 hx c3 hv0 (fo.same p.same)
    refine⟨l,vsm,vn,rfl,rfl,g1,by rw[← g2.length];exact hc.2,?_⟩
    have rn:=p'.rp
    rw[r0.Qco]at rn
    have hnl:=(p'.cnt c1).2
    rw[r0.Qco]at hnl
    have rw1:Rps X.K (upd H3 l (.lst (vsm++[vn]))) [r0.d] [vn] Gn:=by
     simp only[Rps]
     exact⟨vn,[],Gn,[],rfl,by simp,rn.upd g1 g5,rfl,rfl⟩
    obtain⟨F',rel'⟩:=g7 (ds++[r0.d]) (vsm++[vn]) (Gp++Gn) ((g2.upd g1 g4).append rw1) (by rw[Zr,Zbh];omega) (by rw[Zr,Qdc,g3,hnl];simp[nls]) (λa=>by rw[Zam];omega)
    exact q _ _ F' rel'
   ·cases e
  ·cases e
 ·cases e
open PyProof.Rows in
theorem QnB:QsH X (QrI X.K):=by
 intro pins s σ H o i ov iv Q I ro ri h
 obtain⟨p,xs,k,v,rfl,rfl,hq,ha,q⟩:=h
 cases ro
 obtain⟨t,rfl⟩:=ri
 obtain⟨its,r,pl,hz⟩:=I.list hq
 obtain⟨j,h1,h2,h3,h4,h5⟩:=Qhe ha
 obtain⟨w,ew,rw'⟩:=r.get h2
 have hl:=r.length
 have hn:=Qec
 by_cases h0:0<=k
 ·refine wpAny_getItem_list pl.isList h0 (by omega) (x:=w) ?_ ⟨v,H,I,rw',q⟩
  have:k.toNat=j:=by
   rw[seqIndex_of h0 h5]at h1
   exact Option.some.inj h1
  rw[this];simpa using ew
 ·refine wpAny_getItem_list_neg pl.isList (by omega) (by rw[Zs]<;>omega) (by omega) (x:=w) ?_ ⟨v,H,I,rw',q⟩
  have hj:(k+(its.toArray.size:Int)).toNat=j:=by
   rw[seqIndex_neg (by omega) h4]at h1
   rw[Zs,← hl]
   exact Option.some.inj h1
  rw[hj];simpa using ew
noncomputable def QdS(g:D->D->Option D)(x:Nat)(pf:DP)(fi fa:DE):DS:=λρ=>match ρ[x]? with
 | some (some (d,true))=>(pf ρ).bind λis=>(fi ρ).bind λri=>match ri.d,Qa3 d is with
  | .int k,some (.lst ds)=>(ixN ds.length k).bind λj=>(ds[j]?).bind λold=>(fa ρ).bind λr=>(g old r.d).map λnew=> .nx (ρ.set x (some (Qao is d (.lst (ds.set j new)),true)))
  | _,_=>none
 | _=>none
theorem Qrm(ho:OpR X (inplaceOp op) r)(hg:QbL X.K g r)(hv:SE X e fa)(hp:SPa X a x pf)(hi:SE X i fi)
  (ha:∀ov iv new,augStore i ov iv new=(do holding [new,ov,iv] (setItem ov iv new);release [new,ov,iv] [];pure .next)):S1 X (.AugAssign (.Subscript a i pos') op e pos) (QdS g x pf fi fa):=λH0 A0=>
 (QqD (hp H0 A0) (hi H0 A0) QnB (hv H0 A0) (λpins s σ H x y v u Q I rx ry q=>Quv ho I rx ry q) set_list ha).mono λE σ H=>exK λρ hs F o rel e q=>by
  unfold QdS at e
  split at e
  ·rename_i d hx
   refine Qh e λis e2 e=>?_
   refine Qh e λri e3 e=>?_
   split at e
   ·rename_i k ds hk hp'
    refine Qh e λj e4 e=>?_
    refine Qh e λold e5 e=>?_
    refine Qh e λrv e6 e=>?_
    obtain⟨new,e7,e⟩:=Ze.mp e
    subst e
    have hjl:=(Qft e4).2.1
    refine⟨ρ,hs,F,d,true,is,.lst ds,rel,hx,e2,hp',λv0 w H2 Gm s2 hv0 fo=>⟨ρ,hs,F,ri,rel.ext s2,e3,λu H3 Gi pi=>?_⟩⟩
    have fo3:=fo.same pi.same
    have rpi:=pi.rp
    rw[hk]at rpi
    rw[rpi.int_inv]
    have at3:atI ds k=some old:=by unfold atI;rw[e4];exact e5
    obtain⟨l,vs,v',Go,rfl,hc,h3,h4⟩:=Focus.one fo3.rp rfl at3
    have hc:SqL X.K H3 l vs:=by
     rcases hc with⟨_,hc⟩ | ⟨hc,_⟩
     ·exact hc
     ·cases hc
    refine⟨l,vs,k,v',rfl,rfl,hc,h3,ρ,hs,F,rv,(rel.ext s2).ext pi.same,e6,λy H4 G4 p4=>?_⟩
    have fo4:=fo3.same p4.same
    have ro:=h4.rp.same p4.same
    refine(hg _ _ _ e7).2 H4 v' y Go G4 _ ro p4.rp λz hz=>?_
    have rel4:=((rel.ext s2).ext pi.same).ext p4.same
    have pz:QK X.K ρ F H4 H4 ⟨new,true,[]⟩ z []:= .flat (Qz.refl _) (hz H4) (hg _ _ _ e7).1
    obtain⟨l',vsm,Gp,el,g1,g2,g3,g4,g5,g6,g7⟩:=rel4.write pz rfl ZaD hx (by simp) hv0 fo4
    cases el
    refine⟨l,vsm,k,j,rfl,rfl,g1,by rw[← g2.length];exact e4,?_⟩
    obtain⟨G',m1,m2,m3⟩:=set_mk g1 g2 g3 g4 g5 (hz H4) (QcJ new (hg _ _ _ e7).1).symm hjl
    obtain⟨F',rel'⟩:=g7 _ _ G' m1 (by rw[Zbu];exact g6) m2 m3
    exact q _ _ F' rel'
   ·cases e
  ·cases e
end
end HS
namespace HS
open PySem PySem.Spec L2 PyProof.Rows
noncomputable def D.QpJ:D->Option Int
 | .int i=>some i
 | _=>none
noncomputable def QaI:List D->Option (List Int)
 | []=>some []
 | d::ds=>(d.QpJ).bind λi=>(QaI ds).map λr=>i::r
theorem Qas:∀{ds:List D}{ns:List Int},QaI ds=some ns->ds=ns.map .int
 | [],_,h=>by cases h;rfl
 | d::ds,ns,h=>by
  unfold QaI at h
  refine Qh h λi h1 h=>?_
  obtain⟨r,h2,rfl⟩:=Ze.mp h
  cases d with
  | int j=>cases h1;rw[Qas h2];rfl
  | _=>cases h1
theorem Qci:∀(ns:List Int),QaI (ns.map D.int)=some ns
 | []=>rfl
 | n::ns=>by simp[QaI,Qci ns,D.QpJ]
theorem Rps.ints{K:PySem.W.Frag}{H:Hp}:∀{ns:List Int}{vs:List V}{F:List Addr},Rps K H (ns.map .int) vs F->vs=ns.map .int
 | [],_,_,h=>by simp only[ZaN,Rps]at h;rw[h.1];rfl
 | n::ns,_,_,h=>by
  simp only[Zu,Rps]at h
  obtain⟨v,ws,F1,F2,rfl,rfl,r,q⟩:=h
  rw[r.int_inv,Rps.ints q];rfl
theorem QY(h:Qn (ns.map V.int) us):IntsAre us ns:=intsAre_of h
noncomputable def Qhg:List D->Option (List Bool)
 | []=>some []
 | d::ds=>(match d with | .bl b=>some b | _=>none).bind λi=>(Qhg ds).map λr=>i::r
theorem QjQ:∀{ds:List D}{ns:List Bool},Qhg ds=some ns->ds=ns.map .bl
 | [],_,h=>by cases h;rfl
 | d::ds,ns,h=>by
  unfold Qhg at h
  refine Qh h λi h1 h=>?_
  obtain⟨r,h2,rfl⟩:=Ze.mp h
  cases d with
  | bl j=>cases h1;rw[QjQ h2];rfl
  | _=>cases h1
theorem Rps.bls{K:PySem.W.Frag}{H:Hp}:∀{ns:List Bool}{vs:List V}{F:List Addr},Rps K H (ns.map .bl) vs F->vs=ns.map .bl
 | [],_,_,h=>by simp only[ZaN,Rps]at h;rw[h.1];rfl
 | n::ns,_,_,h=>by
  simp only[Zu,Rps]at h
  obtain⟨v,ws,F1,F2,rfl,rfl,r,q⟩:=h
  rw[Rps.bls q]
  simp only[Rp]at r
  rw[r.1];rfl
theorem QjD:∀{ns:List Bool}{us:List Value},Qn (ns.map V.bl) us->LSm.BoolsAre us ns
 | [],_,.nil=> .nil
 | n::ns,_,.cons r h=>by cases r;exact .cons n (QjD h)
section
variable {X:Cx}{a b e:Expr}{es:List Expr}{fa fb:DE}{fs:DA}{pos p2:Pos}
theorem Qr8(he:PE X e te)(hk:PE X k tk):PE X (.Subscript e (.Slice none none (some k) p2) pos)
  (λσ H Q=>te σ H λx H1=>tk σ H1 λy H2=>∃a xs,x= .ref a/\y= .int (-1)/\SqL X.K H2 a xs/\∀p,H2 p=none->Q (.ref p) (upd H2 p (.lst xs.reverse))):=by
 intro pins s σ H Q I h
 refine PyProof.Rows.Subscript_ (thn (he pins s σ H _ I h) λv s1=>exJ λx H1 I1 r1 q1=>?_)
 refine wpAny_Slice ?_
 rw[evalPart_none]
 refine wpAny_pure (wpAny_pure ?_)
 rw[evalPart_some]
 refine thn (hk pins s1 σ H1 _ I1 q1) λvk s3=>exJ λy H3 I3 r3 q3=>?_
 obtain⟨c,xs,rfl,rfl,hq,q⟩:=q3
 cases r1
 obtain⟨t,rfl⟩:=r3
 have I4:Inv X pins σ H3 {s3 with heap:=s3.heap.push {cls:= .type "slice",data:= .fields #[.none,.none,.int (-1) t]}}:=I3.kept (t':=s3.toks) λb ob q=>Zf _ q
 obtain⟨its,r,ht,hz⟩:=I4.list hq
 have hlen:=r.length
 refine tail_any ht.isList.typeIs slot_list_getitem.lookup ?_ (by with_unfolding_all rfl)
 refine wpAny_getItem_list_slice ht.isList (Heap.IsSliceOf.new ..) .none .none (.int (-1) t) (by simp) ?_ (by rw[Zs]<;>omega)
 rw[PySem.W.krv_pick]
 refine⟨.ref _,_,I4.laid (t':=s3.toks) (λb ob q=>Zf _ q) (Zp _) ?_,rfl,q _ (I4.hok.fresh (Zp _))⟩
 exact⟨by rw[Zbw];exact hz,its.reverse,0,r.reverse,Zx _ rfl⟩
theorem Rps.rev{K:PySem.W.Frag}{H:Hp}:∀{ds:List D}{vs:List V}{F:List Addr},Rps K H ds vs F->∃G,Rps K H ds.reverse vs.reverse G/\∀a∈G,a∈F
 | [],_,_,h=>by simp only[Rps]at h;rw[h.1,h.2];exact⟨[],by simp[Rps],λ_ h=>h⟩
 | d::ds,_,_,h=>by
  simp only[Rps]at h
  obtain⟨v,ws,F1,F2,rfl,rfl,r,q⟩:=h
  obtain⟨G,h1,h2⟩:=Rps.rev q
  refine⟨G++F1,?_,λa ha=>?_⟩
  ·rw[Zbd,Zbd]
   refine h1.append ?_
   simp only[Rps]
   exact⟨v,[],F1,[],rfl,by simp,r,rfl,rfl⟩
  ·rcases ZJ.mp ha with z | z
   ·exact Zd _ (h2 a z)
   ·exact Zg _ z
noncomputable def QjE(fa fk:DE):DE:=λρ=>(fa ρ).bind λra=>(fk ρ).bind λrk=>match ra.d,rk.d with
 | .lst xs,.int (-1)=>some (QT xs.reverse ra.M)
 | _,_=>none
theorem Qtl{k:Expr}{fk:DE}(ha:SE X a fa)(hk:SE X k fk):SE X (.Subscript a (.Slice none none (some k) p2) pos) (QjE fa fk):=λH0 A0=>
 (Qr8 (ha H0 A0) (hk H0 A0)).mono λσ H Q=>exK λρ hs F r' rel e q=>by
  refine Qh e λra e1 e=>?_
  refine Qh e λrk e2 e=>?_
  refine two rel e1 e2 λx y H1 H2 G1 G2 p1 p2=>?_
  split at e
  ·rename_i xs hra hrk
   cases e
   have rp:=p1.rp.same p2.same
   have rk':=p2.rp
   rw[hra]at rp
   rw[hrk]at rk'
   obtain⟨c,vs,L,rfl,hc,rl,zl,el⟩:=rp.lst_inv
   refine⟨c,vs,rfl,rk'.int_inv,QI hc,λp hp=>?_⟩
   obtain⟨G,h1,h2⟩:=rl.rev
   refine q _ _ (p::G) (QK.QT (p1.same.trans p2.same) hp h1 (by rw[Zbw];exact zl) (λz hz=>p1.src z ?_) p1.own)
   rcases el with rfl | rfl
   ·exact Zc _ (h2 z hz)
   ·exact h2 z hz
  ·cases e
noncomputable def Ql6(K:PySem.W.Frag)(C:List Int->Int->Prop):List V->Hp->VK->Prop:=λxs H Q=>∃(p:Addr) (ns:List Int),xs=[.ref p]/\(SqL K H p (ns.map V.int)∨SqT K H p (ns.map V.int))/\ns≠[]/\∀M,C ns M->Q (.int M) H
def QgS(ns:List Int)(M:Int):Prop:=M∈ns/\∀a∈ns,M<=a
def isMax(ns:List Int)(M:Int):Prop:=M∈ns/\∀a∈ns,a<=M
theorem QbW(hi:IntsAre us ns):∃xs:Array (Int×Tok),us.toArray=intItems xs/\ns=xs.toList.map (·.1):=by
 obtain⟨xs,e⟩:=hi.allInts.items
 exact⟨xs,e,by rw[← hi.numsOf,← nums_intItems,← e]⟩
theorem Qj9(hh:A.handled=none)(hl:s.heap.IsTuple l (intItems xs))(hne:0<xs.size)
  (h:∀v h' tk,(intItems xs)[argBest (λi j=>decide (numAt xs i<numAt xs j)) (xs.size-1)]? =some v->(∀b o,s.heap.get? b=some o->h'.get? b=some o)->Q v {s with heap:=h',toks:=tk}):
  wpAny (model prog w) A (call (.builtin "min") [.ref l]) Q E s:=by
 have hlt:l<s.heap.objs.size:=by obtain⟨_,e,_⟩:=hl;exact Zn e
 refine call_min_walk (wpAny_pyIter_tuple hl ?_)
 refine⟨_,[_,l],[_],_,_,_,_,rfl,Walks.tuple (A:=A.in1) hh _ l (ZE hlt) (intItems xs),⟨⟨_,Zx _ rfl,rfl,rfl⟩,hl.push _⟩,λb hb=>?_,by simpa[intItems]using hne,CmpOf.ints_lt (numAt xs) (λ_ _=>intItems_at),λv h' tk hP hk=>?_⟩
 ·show b<(s.heap.push _).objs.size
  rw[Zaf]
  rcases Zl.mp hb with rfl | hb
  ·exact ZaB _
  ·rcases Zl.mp hb with rfl | hb
   ·exact Zad hlt
   ·cases hb
 ·refine h v h' tk (by simpa[intItems]using hP) λb o e=>?_
  refine hk b o (λhm=>?_) (Zf _ e)
  rcases Zl.mp hm with e1 | hm
  ·exact absurd (e1▸Zn e) (ZR _)
  ·cases hm
theorem QnN(hc:X.calm=true):QaJ X (.builtin "min") (Ql6 X.K QgS):=by
 intro pins s σ H xs us Q I r h
 obtain⟨p,ns,rfl,hq,hne,q⟩:=h
 obtain⟨u,rfl,rx⟩:=vals1 r
 cases rx
 rcases hq with hq | hq
 ·obtain⟨its,r',pl,hz⟩:=I.list hq
  obtain⟨ys,e,hns⟩:=QbW (QY r')
  have hl:=pl.isList
  rw[e]at hl
  have hsz:0<ys.size:=by
   rcases ZaZ ys.size with z | z
   ·exact absurd (by rw[hns,ZaS];exact Zae (by simpa using z)) hne
   ·exact z
  refine min_intList (I.ok.hd hc) hl hsz λv h' tk hv hk=>?_
  obtain⟨t,rfl⟩:=intItems_at hv
  obtain⟨h1,h2⟩:=argBest_lt (numAt ys) (ys.size-1)
  refine⟨.int _,H,I.kept hk,⟨t,rfl⟩,q _ ⟨?_,λa ha=>?_⟩⟩
  ·rw[hns,numAt_eq];exact getD_mem (by rw[Zi,Zm];omega)
  ·rw[hns]at ha
   obtain⟨j,hj,rfl⟩:=mem_getD ha
   rw[Zi,Zm]at hj
   rw[← numAt_eq];exact h2 j (by omega)
 ·obtain⟨its,r',pl,hz⟩:=I.tuple hq
  obtain⟨ys,e,hns⟩:=QbW (QY r')
  have hl:=pl
  rw[e]at hl
  have hsz:0<ys.size:=by
   rcases ZaZ ys.size with z | z
   ·exact absurd (by rw[hns,ZaS];exact Zae (by simpa using z)) hne
   ·exact z
  refine Qj9 (I.ok.hd hc) hl hsz λv h' tk hv hk=>?_
  obtain⟨t,rfl⟩:=intItems_at hv
  obtain⟨h1,h2⟩:=argBest_lt (numAt ys) (ys.size-1)
  refine⟨.int _,H,I.kept hk,⟨t,rfl⟩,q _ ⟨?_,λa ha=>?_⟩⟩
  ·rw[hns,numAt_eq];exact getD_mem (by rw[Zi,Zm];omega)
  ·rw[hns]at ha
   obtain⟨j,hj,rfl⟩:=mem_getD ha
   rw[Zi,Zm]at hj
   rw[← numAt_eq];exact h2 j (by omega)
theorem Qju(hh:A.handled=none)(hl:s.heap.IsTuple l (intItems xs))(hne:0<xs.size)
  (h:∀v h' tk,(intItems xs)[argBest (λi j=>decide (numAt xs i>numAt xs j)) (xs.size-1)]? =some v->(∀b o,s.heap.get? b=some o->h'.get? b=some o)->Q v {s with heap:=h',toks:=tk}):
  wpAny (model prog w) A (call (.builtin "max") [.ref l]) Q E s:=by
 have hlt:l<s.heap.objs.size:=by obtain⟨_,e,_⟩:=hl;exact Zn e
 refine call_max_walk (wpAny_pyIter_tuple hl ?_)
 refine⟨_,[_,l],[_],_,_,_,_,rfl,Walks.tuple (A:=A.in1) hh _ l (ZE hlt) (intItems xs),⟨⟨_,Zx _ rfl,rfl,rfl⟩,hl.push _⟩,λb hb=>?_,by simpa[intItems]using hne,CmpOf.ints_gt (numAt xs) (λ_ _=>intItems_at),λv h' tk hP hk=>?_⟩
 ·show b<(s.heap.push _).objs.size
  rw[Zaf]
  rcases Zl.mp hb with rfl | hb
  ·exact ZaB _
  ·rcases Zl.mp hb with rfl | hb
   ·exact Zad hlt
   ·cases hb
 ·refine h v h' tk (by simpa[intItems]using hP) λb o e=>?_
  refine hk b o (λhm=>?_) (Zf _ e)
  rcases Zl.mp hm with e1 | hm
  ·exact absurd (e1▸Zn e) (ZR _)
  ·cases hm
theorem QmH(hc:X.calm=true):QaJ X (.builtin "max") (Ql6 X.K isMax):=by
 intro pins s σ H xs us Q I r h
 obtain⟨p,ns,rfl,hq,hne,q⟩:=h
 obtain⟨u,rfl,rx⟩:=vals1 r
 cases rx
 rcases hq with hq | hq
 ·obtain⟨its,r',pl,hz⟩:=I.list hq
  obtain⟨ys,e,hns⟩:=QbW (QY r')
  have hl:=pl.isList
  rw[e]at hl
  have hsz:0<ys.size:=by
   rcases ZaZ ys.size with z | z
   ·exact absurd (by rw[hns,ZaS];exact Zae (by simpa using z)) hne
   ·exact z
  refine max_intList (I.ok.hd hc) hl hsz λv h' tk hv hk=>?_
  obtain⟨t,rfl⟩:=intItems_at hv
  obtain⟨h1,h2⟩:=argBest_gt (numAt ys) (ys.size-1)
  refine⟨.int _,H,I.kept hk,⟨t,rfl⟩,q _ ⟨?_,λa ha=>?_⟩⟩
  ·rw[hns,numAt_eq];exact getD_mem (by rw[Zi,Zm];omega)
  ·rw[hns]at ha
   obtain⟨j,hj,rfl⟩:=mem_getD ha
   rw[Zi,Zm]at hj
   rw[← numAt_eq];exact h2 j (by omega)
 ·obtain⟨its,r',pl,hz⟩:=I.tuple hq
  obtain⟨ys,e,hns⟩:=QbW (QY r')
  have hl:=pl
  rw[e]at hl
  have hsz:0<ys.size:=by
   rcases ZaZ ys.size with z | z
   ·exact absurd (by rw[hns,ZaS];exact Zae (by simpa using z)) hne
   ·exact z
  refine Qju (I.ok.hd hc) hl hsz λv h' tk hv hk=>?_
  obtain⟨t,rfl⟩:=intItems_at hv
  obtain⟨h1,h2⟩:=argBest_gt (numAt ys) (ys.size-1)
  refine⟨.int _,H,I.kept hk,⟨t,rfl⟩,q _ ⟨?_,λa ha=>?_⟩⟩
  ·rw[hns,numAt_eq];exact getD_mem (by rw[Zi,Zm];omega)
  ·rw[hns]at ha
   obtain⟨j,hj,rfl⟩:=mem_getD ha
   rw[Zi,Zm]at hj
   rw[← numAt_eq];exact h2 j (by omega)
theorem Qkr(hh:A.handled=none)(hl:s.heap.IsTuple l (intItems xs))
  (h:∀h' tk t',(∀b o,s.heap.get? b=some o->h'.get? b=some o)->Q (.int (preSum (numAt xs) xs.size) t') {s with heap:=h',toks:=tk}):
  wpAny (model prog w) A (call (.builtin "sum") [.ref l]) Q E s:=by
 have hlt:l<s.heap.objs.size:=by obtain⟨_,e,_⟩:=hl;exact Zn e
 refine call_sum_walkG (wpAny_pyIter_tuple hl ?_)
 refine⟨_,[_,l],[_],_,_,_,numAt xs,rfl,Walks.tuple (A:=A.in1) hh _ l (ZE hlt) (intItems xs),⟨⟨_,Zx _ rfl,rfl,rfl⟩,hl.push _⟩,λb hb=>?_,(λ_ _=>intItems_at),λh' tk t' hk=>?_⟩
 ·show b<(s.heap.push _).objs.size
  rw[Zaf]
  rcases Zl.mp hb with rfl | hb
  ·exact ZaB _
  ·rcases Zl.mp hb with rfl | hb
   ·exact Zad hlt
   ·cases hb
 ·have:=h h' tk t' λb o e=>by
   refine hk b o (λhm=>?_) (Zf _ e)
   rcases Zl.mp hm with e1 | hm
   ·exact absurd (e1▸Zn e) (ZR _)
   ·cases hm
  simpa[intItems]using this
noncomputable def QrP(K:PySem.W.Frag):List V->Hp->VK->Prop:=λxs H Q=>∃(p:Addr) (ns:List Int),xs=[.ref p]/\(SqL K H p (ns.map V.int)∨SqT K H p (ns.map V.int))/\Q (.int ns.sum) H
theorem QmN(hc:X.calm=true):QaJ X (.builtin "sum") (QrP X.K):=by
 intro pins s σ H xs us Q I r h
 obtain⟨p,ns,rfl,hq,q⟩:=h
 obtain⟨u,rfl,rx⟩:=vals1 r
 cases rx
 rcases hq with hq | hq
 ·obtain⟨its,r',pl,hz⟩:=I.list hq
  obtain⟨ys,e,hns⟩:=QbW (QY r')
  have hl:=pl.isList
  rw[e]at hl
  refine sum_intListG (I.ok.hd hc) hl λh' tk t' hk=>?_
  refine⟨.int ns.sum,H,I.kept hk,⟨t',?_⟩,q⟩
  rw[preSum_eq,ZaH (by simp),hns]
 ·obtain⟨its,r',pl,hz⟩:=I.tuple hq
  obtain⟨ys,e,hns⟩:=QbW (QY r')
  have hl:=pl
  rw[e]at hl
  refine Qkr (I.ok.hd hc) hl λh' tk t' hk=>?_
  refine⟨.int ns.sum,H,I.kept hk,⟨t',?_⟩,q⟩
  rw[preSum_eq,ZaH (by simp),hns]
theorem QmY(hc:X.calm=true):QaJ X (.builtin "all") (λxs H Q=>∃(p:Addr) (ns:List Bool),xs=[.ref p]/\SqL X.K H p (ns.map V.bl)/\Q (.bl (ns.all id)) H):=by
 intro pins s σ H xs us Q I r h
 obtain⟨p,ns,rfl,hq,q⟩:=h
 obtain⟨u,rfl,rx⟩:=vals1 r
 cases rx
 obtain⟨its,r',pl,hz⟩:=I.list hq
 have hb:=QjD r'
 have hl:=pl.isList
 have hlt:p<s.heap.objs.size:=by obtain⟨_,e,_⟩:=hl;exact Zn e
 refine call_all_walk (wpAny_pyIter_list hl ?_)
 refine⟨s.heap.objs.size,[s.heap.objs.size,p],[s.heap.objs.size],its.toArray.size,_,_,λi=>(ns[i]?).getD true,rfl,Walks.list (A:=X.A.in1) (I.ok.hd hc) _ p (ZE hlt) its.toArray,
  ⟨⟨_,Zx _ rfl,rfl,rfl⟩,hl.push _⟩,λi v s' Q' E' hP hQ=>?_,λh' tk hk=>?_⟩
 ·obtain⟨b,e,rfl⟩:=hb.get i v (by simpa using hP)
  simp only[e,Option.getD_some]at hQ
  exact wpAny_truthy_bool hQ
 ·have e:((List.range its.toArray.size).all λi=>(ns[i]?).getD true)=ns.all id:=by
   rw[Zs,hb.length];exact LSm.range_all ns
  rw[e]
  exact⟨.bl (ns.all id),H,I.kept (LSm.kept_iter hk),rfl,q⟩
noncomputable def Qgf:List Int->Option Int
 | []=>none
 | [n]=>some n
 | n::r=>(Qgf r).map λm=>if m<n then m else n
noncomputable def Qgg:List Int->Option Int
 | []=>none
 | [n]=>some n
 | n::r=>(Qgg r).map λm=>if n<m then m else n
theorem Qfv:∀{ns:List Int}{m:Int},Qgf ns=some m->QgS ns m
 | [],_,h=>by cases h
 | [n],_,h=>by cases h;exact⟨by simp,λa ha=>by simp at ha;omega⟩
 | n::k::r,m,h=>by
  simp only[Qgf]at h
  obtain⟨m',h1,rfl⟩:=Ze.mp h
  obtain⟨h2,h3⟩:=Qfv h1
  constructor
  ·split
   ·exact Zc _ h2
   ·exact Zj
  ·intro a ha
   rcases Zl.mp ha with rfl | ha
   ·split<;>omega
   ·have:=h3 a ha;split<;>omega
theorem QfF:∀{ns:List Int}{m:Int},Qgg ns=some m->isMax ns m
 | [],_,h=>by cases h
 | [n],_,h=>by cases h;exact⟨by simp,λa ha=>by simp at ha;omega⟩
 | n::k::r,m,h=>by
  simp only[Qgg]at h
  obtain⟨m',h1,rfl⟩:=Ze.mp h
  obtain⟨h2,h3⟩:=QfF h1
  constructor
  ·split
   ·exact Zc _ h2
   ·exact Zj
  ·intro a ha
   rcases Zl.mp ha with rfl | ha
   ·split<;>omega
   ·have:=h3 a ha;split<;>omega
theorem QhX{ns:List Int}{a b:Int}(h:QgS ns a)(g:QgS ns b):a=b:=by have:=h.2 b g.1;have:=g.2 a h.1;omega
theorem Qh4{ns:List Int}{a b:Int}(h:isMax ns a)(g:isMax ns b):a=b:=by have:=h.2 b g.1;have:=g.2 a h.1;omega
noncomputable def QcS:List D->Option D
 | [.lst xs]=>(QaI xs).bind λns=>(Qgf ns).map .int
 | [.tup xs]=>(QaI xs).bind λns=>(Qgf ns).map .int
 | _=>none
noncomputable def QcU:List D->Option D
 | [.lst xs]=>(QaI xs).bind λns=>(Qgg ns).map .int
 | [.tup xs]=>(QaI xs).bind λns=>(Qgg ns).map .int
 | _=>none
noncomputable def Qct:List D->Option D
 | [.lst xs]=>(QaI xs).map λns=> .int ns.sum
 | [.tup xs]=>(QaI xs).map λns=> .int ns.sum
 | _=>none
theorem QqT{K:PySem.W.Frag}:QcB K QcS (Ql6 K QgS):=λds d e=>by
 unfold QcS at e
 split at e
 ·refine Qh e λns h1 e=>?_
  obtain⟨m,h2,rfl⟩:=Ze.mp e
  refine⟨rfl,λH vs F Q r q=>?_⟩
  obtain⟨v,rfl,rp⟩:=r.one
  obtain⟨l,ws,L,rfl,hl,rl,zl,el⟩:=rp.lst_inv
  rw[Qas h1]at rl
  rw[rl.ints]at hl
  exact⟨l,ns,rfl,.inl (QI hl),λz=>(by rw[z]at h2;cases h2),λM hM=>by rw[QhX hM (Qfv h2)];exact q _ λ_=> .int_mk⟩
 ·refine Qh e λns h1 e=>?_
  obtain⟨m,h2,rfl⟩:=Ze.mp e
  refine⟨rfl,λH vs F Q r q=>?_⟩
  obtain⟨v,rfl,rp⟩:=r.one
  obtain⟨l,ws,rfl,hl,rl⟩:=rp.Qaf
  rw[Qas h1]at rl
  rw[rl.ints]at hl
  exact⟨l,ns,rfl,.inr hl,λz=>(by rw[z]at h2;cases h2),λM hM=>by rw[QhX hM (Qfv h2)];exact q _ λ_=> .int_mk⟩
 ·cases e
theorem Qrg{K:PySem.W.Frag}:QcB K QcU (Ql6 K isMax):=λds d e=>by
 unfold QcU at e
 split at e
 ·refine Qh e λns h1 e=>?_
  obtain⟨m,h2,rfl⟩:=Ze.mp e
  refine⟨rfl,λH vs F Q r q=>?_⟩
  obtain⟨v,rfl,rp⟩:=r.one
  obtain⟨l,ws,L,rfl,hl,rl,zl,el⟩:=rp.lst_inv
  rw[Qas h1]at rl
  rw[rl.ints]at hl
  exact⟨l,ns,rfl,.inl (QI hl),λz=>(by rw[z]at h2;cases h2),λM hM=>by rw[Qh4 hM (QfF h2)];exact q _ λ_=> .int_mk⟩
 ·refine Qh e λns h1 e=>?_
  obtain⟨m,h2,rfl⟩:=Ze.mp e
  refine⟨rfl,λH vs F Q r q=>?_⟩
  obtain⟨v,rfl,rp⟩:=r.one
  obtain⟨l,ws,rfl,hl,rl⟩:=rp.Qaf
  rw[Qas h1]at rl
  rw[rl.ints]at hl
  exact⟨l,ns,rfl,.inr hl,λz=>(by rw[z]at h2;cases h2),λM hM=>by rw[Qh4 hM (QfF h2)];exact q _ λ_=> .int_mk⟩
 ·cases e
theorem Qrc{K:PySem.W.Frag}:QcB K Qct (QrP K):=λds d e=>by
 unfold Qct at e
 split at e
 ·obtain⟨ns,h1,rfl⟩:=Ze.mp e
  refine⟨rfl,λH vs F Q r q=>?_⟩
  obtain⟨v,rfl,rp⟩:=r.one
  obtain⟨l,ws,L,rfl,hl,rl,zl,el⟩:=rp.lst_inv
  rw[Qas h1]at rl
  rw[rl.ints]at hl
  exact⟨l,ns,rfl,.inl (QI hl),q _ λ_=> .int_mk⟩
 ·obtain⟨ns,h1,rfl⟩:=Ze.mp e
  refine⟨rfl,λH vs F Q r q=>?_⟩
  obtain⟨v,rfl,rp⟩:=r.one
  obtain⟨l,ws,rfl,hl,rl⟩:=rp.Qaf
  rw[Qas h1]at rl
  rw[rl.ints]at hl
  exact⟨l,ns,rfl,.inr hl,q _ λ_=> .int_mk⟩
 ·cases e
noncomputable def QfD:List D->Option D
 | [.lst xs]=>(Qhg xs).map λns=> .bl (ns.all id)
 | _=>none
theorem Qq6{K:PySem.W.Frag}:QcB K QfD (λxs H Q=>∃(p:Addr) (ns:List Bool),xs=[.ref p]/\SqL K H p (ns.map V.bl)/\Q (.bl (ns.all id)) H):=λds d e=>by
 unfold QfD at e
 split at e
 ·obtain⟨ns,h1,rfl⟩:=Ze.mp e
  refine⟨rfl,λH vs F Q r q=>?_⟩
  obtain⟨v,rfl,rp⟩:=r.one
  obtain⟨l,ws,L,rfl,hl,rl,zl,el⟩:=rp.lst_inv
  rw[QjQ h1]at rl
  rw[rl.bls]at hl
  exact⟨l,ns,rfl,QI hl,q _ λ_=> .Qcd⟩
 ·cases e
noncomputable def Ql7:List D->Option D
 | [.int i]=>some (.int i)
 | [.bl k]=>some (.int (if k then 1 else 0))
 | _=>none
theorem QrH{K:PySem.W.Frag}:QcB K Ql7 (λxs H Q=>(∃i,xs=[.int i]/\Q (.int i) H)∨∃k,xs=[.bl k]/\Q (.int (if k then 1 else 0)) H):=λds d e=>by
 unfold Ql7 at e
 split at e
 ·cases e
  refine⟨rfl,λH vs F Q r q=>?_⟩
  obtain⟨v,rfl,rp⟩:=r.one
  exact .inl ⟨_,by rw[rp.int_inv],q _ λ_=> .int_mk⟩
 ·cases e
  refine⟨rfl,λH vs F Q r q=>?_⟩
  obtain⟨v,rfl,rp⟩:=r.one
  exact .inr ⟨_,by rw[rp.Qeg],q _ λ_=> .int_mk⟩
 ·cases e
theorem QrT(hc:QaJ X (.type T) r)(hk:QcB X.K g r)(hg:Gl X x)(hm:X.mg x=none)(hv:bootBuiltins x=some (.type T))(ha:SA X (e::es) fs)(hn:x≠ "__name__")(hdb:(x == ("__debug__" :Str))=false)
  (he:starEach (e::es) X.env=(false,eval e X.env)::starEach es X.env) (hpl:(backTo pos (starEach es X.env)).any (·.1)=false):SE X (.Call (.Name x p) (e::es) [] pos) (dBf g fs):=λH0 A0=>
 (QhR hc hg hm hv (ha H0 A0) hn hdb he hpl).mono λσ H Q=>exK λρ hs F r' rel e q=>by
  refine Qh e λra e1 e=>?_
  obtain⟨d,ed,e⟩:=Ze.mp e
  subst e
  exact⟨ρ,hs,F,ra,rel,e1,λvs H1 G p1=>(hk _ _ ed).2 H1 vs G Q p1.rp λv hv=>q v H1 [] (.flat p1.same (hv _) (hk _ _ ed).1)⟩
end
end HS
namespace HS
open PySem PySem.Spec L2 PyProof.Rows
theorem QfN:∀{vs:List V}{us:List Value},us.length=vs.length->(∀(k:Nat) (v:V),vs[k]? =some v->∃u,us[k]? =some u/\RelV v u)->Qn vs us
 | [],[],_,_=> .nil
 | [],_::_,h,_=>by simp at h
 | _::_,[],h,_=>by simp at h
 | v::vs,u::us,h,g=>by
  obtain⟨u',e,r⟩:=g 0 v rfl
  cases e
  exact .cons r (QfN (by simpa using h) λk v hk=>g (k+1) v hk)
section
variable {X:Cx}{a b c e tg:Expr}{es:List Expr}{fa fb fc:DE}{fs:DA}{pos p2:Pos}
theorem Qnl(I:Inv X pins σ H s)(hc:X.calm=true)(h0:0<=j)(h1:j<=1000000)
  (q:∀l,H l=none->Q (.ref l) (upd H l (.lst ((List.range j.toNat).map λ(k:Nat)=>V.int (k:Int))))):
  wpAny (model X.prog X.w) X.A (call (.type "list") [.ref s.heap.objs.size]) (EP X pins σ Q) E {s with heap:=s.heap.push {cls:= .type "range",data:= .fields #[.int 0 t,.int j u,.int 1 v]},toks:=tk}:=by
 have I2:Inv X pins σ H {s with heap:=s.heap.push {cls:= .type "range",data:= .fields #[.int 0 t,.int j u,.int 1 v]},toks:=tk}:=I.kept λb o e=>Zf _ e
 refine call_list_range (n:=j.toNat) (I.ok.hd hc) (IsRange.new ..) (small_one (by omega) (by omega) (by omega) (by omega)) (by rw[rangeSize_one];split<;>omega) (by omega) λh' tk' acc' c' hk hS hacc=>?_
 have hv:Qn ((List.range j.toNat).map λ(k:Nat)=>V.int (k:Int)) acc'.toList:=by
  have hl:=hacc.1
  refine QfN (by simp[hl]) λk v hk=>?_
  rw[Zo]at hk
  have hkl:k<j.toNat:=by
   by_cases z:k<j.toNat
   ·exact z
   ·rw[Zv (by simp;omega)]at hk;cases hk
  rw[Zaa hkl]at hk
  cases hk
  obtain⟨w,hw⟩:∃w,acc'[k]? =some w:=⟨acc'[k]'(by omega),by rw[ZM (by omega)]⟩
  obtain⟨t',rfl⟩:=hacc.2 k w hw
  exact⟨_,by rw[ZQ];exact hw,⟨t',by simp⟩⟩
 refine⟨.ref _,_,I2.laid hk (Zp _) (show QbH X.prog X.w _ h' _ (.lst _)from⟨by simp[QbT];omega,acc'.toList,c',hv,by simpa using hS⟩),rfl,q _ (I2.hok.fresh (Zp _))⟩
theorem QmQ(hg:Gl X "list")(hm:X.mg "list" =none)(hg':Gl X "range")(hm':X.mg "range" =none)(hc:X.calm=true)(ha:PA X [a] ta)(hs:starEach [a] X.env=[(false,eval a X.env)]):
  PE X (.Call (.Name "list" p) [.Call (.Name "range" p') [a] [] pos'] [] pos) (λσ H Q=>ta σ H λvs H1=>∃j:Int,vs=[.int j]/\0<=j/\j<=1000000/\∀l,H1 l=none->Q (.ref l) (upd H1 l (.lst ((List.range j.toNat).map λ(k:Nat)=>V.int (k:Int))))):=by
 intro pins s σ H Q I h
 refine wpAny_Call_Name_kw (QbM I hg hm boot_list ?_ (by decide) (by decide))
 refine ZU (Zbz ?_) rfl rfl
 refine Call_ (QbM I hg' hm' boot_range (ZU (thn (ha pos' pins s σ H _ I h) λus s1 ⟨vs,H1,I1,r1,q1⟩=>?_) hs rfl))
 obtain⟨j,e,q1,q2,q⟩:=q1
 subst e
 cases r1 with
 | cons r rr=>
  cases rr
  obtain⟨t,rfl⟩:=r
  exact call_range_1 (ZbE (Qnl I1 hc q1 q2 q))
noncomputable def QdN(fa:DE):DE:=λρ=>(fa ρ).bind λr=>match r.d with
 | .int j=>if 0<=j/\j<=1000000 then some ⟨.lst ((List.range j.toNat).map λ(k:Nat)=> .int (k:Int)),true,[]⟩else none
 | _=>none
theorem Rps.ofInts{K:PySem.W.Frag}{H:Hp}:∀ns:List Int,Rps K H (ns.map .int) (ns.map .int) []
 | []=>by simp[Rps]
 | n::ns=>by simp only[Zu,Rps];exact⟨_,_,[],[],rfl,rfl,.int_mk,Rps.ofInts ns⟩
theorem Qfq:∀ns:List Int,QJ (ns.map .int)=true
 | []=>rfl
 | n::ns=>by simp[QJ,D.flat,Qfq ns]
theorem QrA{p p' pos':Pos}(hg:Gl X "list")(hm:X.mg "list" =none)(hg':Gl X "range")(hm':X.mg "range" =none)(hc:X.calm=true)(ha:SE X a fa)(hs:starEach [a] X.env=[(false,eval a X.env)]):
  SE X (.Call (.Name "list" p) [.Call (.Name "range" p') [a] [] pos'] [] pos) (QdN fa):=λH0 A0=>
 (QmQ hg hm hg' hm' hc (Qav (ha H0 A0) Qb8 hs) hs).mono λσ H Q=>exK λρ hs F r' rel e q=>by
  refine Qh e λra e1 e=>?_
  refine⟨ρ,hs,F,ra,rel,e1,λv H1 G p1=>?_⟩
  cases hd:ra.d with
  | int j=>
   rw[hd]at e
   dsimp only at e
   split at e
   ·rename_i hj
    cases e
    have rp:=p1.rp
    rw[hd]at rp
    refine⟨j,by rw[rp.int_inv],hj.1,hj.2,λl hl=>?_⟩
    have e2:((List.range j.toNat).map λ(k:Nat)=>D.int (k:Int))=((List.range j.toNat).map λ(k:Nat)=>(k:Int)).map D.int:=by rw[Zac];rfl
    have e3:((List.range j.toNat).map λ(k:Nat)=>V.int (k:Int))=((List.range j.toNat).map λ(k:Nat)=>(k:Int)).map V.int:=by rw[Zac];rfl
    have:=QK.QT (ρ:=ρ) (F:=F) p1.same hl (Rps.ofInts (K:=X.K) ((List.range j.toNat).map λ(k:Nat)=>(k:Int))) (by simp[QbT];omega) Src.nil Qan.nil
    rw[← e2,← e3]at this
    unfold QT at this
    rw[if_pos (by rw[e2];exact Qfq _)]at this
    exact q _ _ _ this
   ·cases e
  | _=>rw[hd]at e;cases e
noncomputable def insI(x:Int):List Int->List Int
 | []=>[x]
 | y::r=>if x<=y then x::y::r else y::insI x r
noncomputable def Qbp:List Int->List Int
 | []=>[]
 | x::r=>insI x (Qbp r)
theorem insI_perm(x:Int):∀l:List Int,(insI x l).Perm (x::l)
 | []=> .refl _
 | y::r=>by
  unfold insI
  split
  ·exact .refl _
  ·exact((insI_perm x r).cons y).trans (.swap x y r)
theorem QaW:∀l:List Int,(Qbp l).Perm l
 | []=> .refl _
 | x::r=>(insI_perm x (Qbp r)).trans ((QaW r).cons x)
theorem QfP(x:Int):∀l:List Int,l.Pairwise (· <= ·)->(insI x l).Pairwise (· <= ·)
 | [],_=>by simp[insI]
 | y::r,h=>by
  unfold insI
  have h1:=Zax.mp h
  split
  ·rename_i hxy
   refine Zax.mpr ⟨λz hz=>?_,h⟩
   rcases Zl.mp hz with rfl | hz
   ·exact hxy
   ·exact Zbe hxy (h1.1 z hz)
  ·rename_i hxy
   refine Zax.mpr ⟨λz hz=>?_,QfP x r h1.2⟩
   rcases Zl.mp ((insI_perm x r).mem_iff.mp hz)with rfl | hz
   ·omega
   ·exact h1.1 z hz
theorem Qb7:∀l:List Int,(Qbp l).Pairwise (· <= ·)
 | []=> .nil
 | x::r=>QfP x _ (Qb7 r)
theorem QeF:∀{l l':List Int},l.Pairwise (· <= ·)->l'.Pairwise (· <= ·)->l.Perm l'->l=l'
 | [],l',_,_,p=>(List.Perm.nil_eq p)
 | x::l,[],_,_,p=>by have:=p.length_eq;simp at this
 | x::l,y::l',h,h',p=>by
  have h1:=Zax.mp h
  have h2:=Zax.mp h'
  have e:x=y:=by
   have a:=p.mem_iff.mp (Zj)
   have b:=p.mem_iff.mpr (Zj)
   rcases Zl.mp a with a | a
   ·exact a
   ·rcases Zl.mp b with b | b
    ·exact b.symm
    ·have:=h1.1 y b;have:=h2.1 x a;omega
  subst e
  rw[QeF h1.2 h2.2 (List.Perm.cons_inv p)]
theorem QjF:QaJ X (.builtin "sorted") (λxs H Q=>∃(p:Addr) (ns:List Int),xs=[.ref p]/\SqL X.K H p (ns.map V.int)/\ns.length<64/\∀l,H l=none->Q (.ref l) (upd H l (.lst ((Qbp ns).map V.int)))):=by
 intro pins s σ H xs us Q I r h
 obtain⟨p,ns,rfl,hq,hl64,q⟩:=h
 obtain⟨u,rfl,rx⟩:=vals1 r
 cases rx
 obtain⟨its,r',pl,hz⟩:=I.list hq
 have hI:=QY r'
 refine sorted_ints pl.isList hI (by rw[← hI.length]at *;simpa using hl64) λout ns' a1 a2 a3=>?_
 have e:ns'=Qbp ns:=QeF a3 (Qb7 ns) (a2.trans (QaW ns).symm)
 subst e
 obtain⟨ep,hat⟩:=sortedAll_at s.heap its out
 refine⟨.ref (s.heap.objs.size+1),_,I.laid (t':=s.toks) (o:= .lst ((Qbp ns).map V.int)) (λb o hb=>?_) (ZaA _) ⟨?_,out.toList,ep,L2.QY a1,by simpa using hat⟩,rfl,q _ (I.hok.fresh (ZaA _))⟩
 ·exact sortedAll_old hb
 ·rw[Zi,(QaW ns).length_eq,QbT];omega
noncomputable def QiL(fs:DA):DE:=λρ=>(fs ρ).bind λr=>match r.ds with
 | [.lst xs]=>(QaI xs).bind λns=>if ns.length<64 then some ⟨.lst ((Qbp ns).map .int),true,[]⟩else none
 | _=>none
theorem QqI{p:Pos}(hg:Gl X "sorted")(hm:X.mg "sorted" =none)(ha:SA X (e::es) fs)(he:starEach (e::es) X.env=(false,eval e X.env)::starEach es X.env)(hpl:(backTo pos (starEach es X.env)).any (·.1)=false):
  SE X (.Call (.Name "sorted" p) (e::es) [] pos) (QiL fs):=λH0 A0=>
 (Qf5 QjF hg hm boot_sorted (ha H0 A0) (by decide) (by decide) he hpl).mono λσ H Q=>exK λρ hs F r' rel e q=>by
  refine Qh e λra e1 e=>?_
  refine⟨ρ,hs,F,ra,rel,e1,λvs H1 G p1=>?_⟩
  split at e
  ·rename_i xs hds
   refine Qh e λns h1 e=>?_
   split at e
   ·rename_i hl
    cases e
    have rp:=p1.rp
    rw[hds]at rp
    obtain⟨v,rfl,rq⟩:=rp.one
    obtain⟨l,ws,L,rfl,hl',rl,zl,el⟩:=rq.lst_inv
    rw[Qas h1]at rl
    rw[rl.ints]at hl'
    refine⟨l,ns,rfl,QI hl',hl,λc hc=>?_⟩
    have:=QK.QT (ρ:=ρ) (F:=F) p1.same hc (Rps.ofInts (K:=X.K) (Qbp ns)) (by rw[Zi,(QaW ns).length_eq,QbT];omega) Src.nil Qan.nil
    unfold QT at this
    rw[if_pos (Qfq _)]at this
    exact q _ _ _ this
   ·cases e
  ·cases e
end
end HS
namespace HS
open PySem L2
noncomputable def Qdz(ns:List Int):List Int:=ns.foldl PyProof.Rows.step_dedup []
noncomputable def Qfw(fa:DE):DE:=λρ=>(fa ρ).bind λr=>match r.d with
 | .lst xs=>(QaI xs).bind λns=>if ns.length<=18 then some ⟨.lst ((Qbp (Qdz ns)).map .int),true,[]⟩else none
 | _=>none
theorem Qky:∀(ns σ:List Int),(σ++ns).Nodup->ns.foldl PyProof.Rows.step_dedup σ=σ++ns
 | [],σ,_=>by simp
 | n::ns,σ,h=>by
  have hn:σ.any (· == n)=false:=by
   rw[ZaL]
   intro x hx e
   rw[beq_iff_eq]at e
   subst e
   exact(Zan.mp h).2.2 x hx x Zj rfl
  have e:PyProof.Rows.step_dedup σ n=σ++[n]:=by unfold PyProof.Rows.step_dedup;rw[hn];rfl
  show ns.foldl PyProof.Rows.step_dedup (PyProof.Rows.step_dedup σ n)=_
  rw[e,Qky ns (σ++[n]) (by simpa using h)]
  simp
theorem Qmu{ns:List Int}(h:ns.Nodup):Qdz ns=ns:=by
 have:=Qky ns [] (by simpa using h)
 simpa[Qdz]using this
theorem Ql8:∀{a b:List Int},a.Perm b->a.Pairwise (· <= ·)->b.Pairwise (· <= ·)->a=b:=λ{a b} p ha hb=>p.eq_of_pairwise (λx y _ _ h1 h2=>Int.le_antisymm h1 h2) ha hb
theorem QlK{ns:List Int}(h:ns.Pairwise (· <= ·)):Qbp ns=ns:=Ql8 (QaW ns) (Qb7 ns) h
def Inc(xs:Array Nat):Prop:=xs.toList.Pairwise (· < ·)
theorem Inc.get{xs:Array Nat}(h:Inc xs){i j a b:Nat}(hi:xs[i]? =some a)(hj:xs[j]? =some b)(hij:i<j):a<b:=by
 rw[← ZQ]at hi hj
 obtain⟨i1,rfl⟩:=Zb.mp hi
 obtain⟨j1,rfl⟩:=Zb.mp hj
 exact ZbB.mp h i j i1 j1 hij
structure Cut (xs:Array Nat) (j r:Nat):Prop where
 le:r<=xs.size
 lo:∀i a,i<r->xs[i]? =some a->a<j
 hi:∀i a,r<=i->xs[i]? =some a->j<=a
theorem Qf3{xs:Array Nat}(hx:Inc xs)(j:Nat):∀(fuel lo hi:Nat),hi-lo<=fuel->lo<=hi->hi<=xs.size->(∀i a,i<lo->xs[i]? =some a->a<j)->(∀i a,hi<=i->xs[i]? =some a->j<=a)->Cut xs j (SetTable.below.go xs j fuel lo hi)
 | 0,lo,hi,hf,h1,h2,h3,h4=>by
  unfold SetTable.below.go
  exact⟨by omega,h3,λi a q=>h4 i a (by omega)⟩
 | fuel+1,lo,hi,hf,h1,h2,h3,h4=>by
  unfold SetTable.below.go
  by_cases z:lo<hi
  ·rw[if_pos z]
   obtain⟨a,ha⟩:∃a,xs[(lo+hi) / 2]? =some a:=⟨_,ZM (by omega)⟩
   have e:xs.getD ((lo+hi) / 2) j=a:=by rw[Array.getD_eq_getD_getElem?,ha];rfl
   dsimp only
   rw[e]
   by_cases y:a<j
   ·rw[if_pos y]
    refine Qf3 hx j fuel _ hi (by omega) (by omega) h2 (λi b q hb=>?_) h4
    by_cases w:i=(lo+hi) / 2
    ·rw[w,ha]at hb;cases hb;exact y
    ·have:=hx.get hb ha (by omega);omega
   ·rw[if_neg y]
    refine Qf3 hx j fuel lo _ (by omega) (by omega) (by omega) h3 λi b q hb=>?_
    by_cases w:i=(lo+hi) / 2
    ·rw[w,ha]at hb;cases hb;omega
    ·have:=hx.get ha hb (by omega);omega
  ·rw[if_neg z]
   exact⟨by omega,h3,λi a q=>h4 i a (by omega)⟩
theorem QdO{xs:Array Nat}(hx:Inc xs)(j:Nat):Cut xs j (SetTable.below xs j):=Qf3 hx j _ 0 _ (by omega) (ZZ _) (Zp _) (λi a q=>by omega) λi a q h=>by
 rw[Array.getElem?_eq_none q]at h;cases h
theorem Qms{xs:Array Nat}(hx:Inc xs):SetTable.below xs 0=0:=by
 have c:=QdO hx 0
 by_cases z:SetTable.below xs 0=0
 ·exact z
 ·have le:=c.le
  have:=c.lo 0 _ (by omega) (ZM (by omega))
  omega
theorem Qmr{xs:Array Nat}(hx:Inc xs){i a:Nat}(ha:xs[i]? =some a):SetTable.below xs (a+1)=i+1:=by
 have c:=QdO hx (a+1)
 have hi:i<xs.size:=by
  by_cases z:i<xs.size
  ·exact z
  ·rw[Array.getElem?_eq_none (by omega)]at ha;cases ha
 by_cases z:SetTable.below xs (a+1)<=i
 ·have:=c.hi i a z ha;omega
 ·by_cases y:i+1<SetTable.below xs (a+1)
  ·have le:=c.le
   have h1:=ZM (xs:=xs) (i:=i+1) (by omega)
   have h2:=c.lo (i+1) _ y h1
   have h3:=hx.get ha h1 (by omega)
   omega
  ·omega
theorem Qnr{xs:Array Nat}(hx:Inc xs){j:Nat}(h:xs[SetTable.below xs j]? ≠some j):∀k:Nat,xs[k]? ≠some j:=λk hk=>by
 have c:=QdO hx j
 by_cases z:k<SetTable.below xs j
 ·have:=c.lo k j z hk;omega
 ·by_cases y:k=SetTable.below xs j
  ·rw[y]at hk;exact h hk
  ·have ks:k<xs.size:=by
    by_cases z:k<xs.size
    ·exact z
    ·rw[Array.getElem?_eq_none (by omega)]at hk;cases hk
   have h1:=ZM (xs:=xs) (i:=SetTable.below xs j) (by omega)
   have h2:=hx.get h1 hk (by omega)
   have h3:=c.hi _ _ (Zp _) h1
   omega
theorem Qrq{xs:Array Nat}(hx:Inc xs){j:Nat}(hj:∀k:Nat,xs[k]? ≠some j):Inc (SetTable.insertAt xs (SetTable.below xs j) j):=by
 have c:=QdO hx j
 unfold Inc
 rw[SetTable.toList_insertAt,List.pairwise_append,Zax]
 have lo:∀a∈xs.toList.take (SetTable.below xs j),a<j:=λa ha=>by
  obtain⟨i,hi⟩:=Zai ha
  rw[List.getElem?_take]at hi
  split at hi
  ·rename_i z;exact c.lo i a z (by rw[← ZQ];exact hi)
  ·cases hi
 have hi:∀a∈xs.toList.drop (SetTable.below xs j),j<a:=λa ha=>by
  obtain⟨i,hi⟩:=Zai ha
  rw[List.getElem?_drop,ZQ]at hi
  have h1:=c.hi _ a (by omega) hi
  have h2:a≠j:=λe=>hj _ (by rw[hi,e])
  omega
 refine⟨List.Pairwise.sublist (List.take_sublist _ _) hx,⟨hi,List.Pairwise.sublist (List.drop_sublist _ _) hx⟩,λa ha b hb=>?_⟩
 have h1:=lo a ha
 rcases Zl.mp hb with rfl | hb
 ·exact h1
 ·have:=hi b hb;omega
structure TbI (t:SetTable):Prop where
 inc:Inc t.place
 dum:t.dummies= #[]
theorem Qfr(j:Nat):SetTable.has #[] j=false:=by
 unfold SetTable.has
 rw[Array.getElem?_eq_none (ZZ _)]
 rfl
theorem QmO{t:SetTable}(h:TbI t){j:Nat}(e:t.slot j= .empty):∀k:Nat,t.place[k]? ≠some j:=by
 refine Qnr h.inc λz=>?_
 unfold SetTable.slot at e
 dsimp only at e
 rw[z,if_pos (by simp)]at e
 cases e
theorem Qhm{t:SetTable}(h:TbI t)(j:Nat):t.slot j≠ .dummy:=λe=>by
 unfold SetTable.slot at e
 dsimp only at e
 rw[h.dum,Qfr]at e
 split at e
 ·cases e
 ·cases e
theorem QnE(t:SetTable)(p:SetTable.Probe):(t.advance p).dummy=p.dummy:=by
 unfold SetTable.advance
 split
 ·rfl
 ·rfl
theorem QeJ{t:SetTable}(h:TbI t)(f:Nat->Int)(x:Int):∀(fuel:Nat) (p:SetTable.Probe),p.dummy=none->∀j d,SetTable.probe.go t f x fuel p=some (.empty j d)->d=none/\t.slot j= .empty
 | 0,p,hp,j,d,e=>by unfold SetTable.probe.go at e;cases e
 | fuel+1,p,hp,j,d,e=>by
  unfold SetTable.probe.go at e
  split at e
  ·rename_i hs;cases e;exact⟨hp,hs⟩
  ·rename_i hs;exact absurd hs (Qhm h _)
  ·split at e
   ·cases e
   ·exact QeJ h f x fuel _ (by rw[QnE];exact hp) j d e
theorem QoZ{t:SetTable}(h:TbI t){x:Int}{j:Nat}{w:Bool}(e:t.freeSlot x=some (j,w)):∀k:Nat,t.place[k]? ≠some j:=by
 unfold SetTable.freeSlot at e
 split at e
 ·rename_i j' d hp
  obtain⟨rfl,hs⟩:=QeJ h _ _ _ _ rfl j' d hp
  cases e
  exact QmO h hs
 ·cases e
theorem Qng(n:Nat):Inc (Array.range n):=by
 unfold Inc
 rw[Array.toList_range]
 exact Zbf
theorem Qde(t:SetTable)(n:Nat):TbI (t.standIn n):=⟨Qng n,rfl⟩
theorem Qni{t:SetTable}(h:TbI t)(es:Array (Int×Value))(x:Int)(v:Value):TbI (layNew t es x v).2.1/\(layNew t es x v).2.1.led=t.led:=by
 unfold layNew
 split
 ·rename_i j w e
  have hf:=QoZ h e
  have tp:TbI (t.put j).1:=⟨Qrq h.inc hf,by show(if SetTable.has t.dummies j then _ else t.dummies)= #[];rw[h.dum,Qfr];rfl⟩
  dsimp only
  unfold SetTable.orStandIn
  split
  ·exact⟨tp,rfl⟩
  ·exact⟨Qde _ _,rfl⟩
 ·exact⟨Qde _ _,rfl⟩
theorem QoK(t:SetTable)(es:Array (Int×Value))(n:Nat):TbI (relayAll t es n).2.1/\(relayAll t es n).2.1.led=t.led:=by
 unfold relayAll
 split
 ·rename_i t' order e
  dsimp only
  split
  ·unfold SetTable.relaid SetTable.laid at e
   rw[Option.bind_eq_bind]at e
   refine Qh e λow _ e=>?_
   cases e
   refine⟨⟨?_,rfl⟩,rfl⟩
   unfold Inc
   dsimp only
   rw[ZaM]
   refine List.Pairwise.filterMap _ (λa a' haa b hb b' hb'=>?_) Zbf
   obtain⟨_,_,rfl⟩:=Ze.mp hb
   obtain⟨_,_,rfl⟩:=Ze.mp hb'
   exact haa
  ·exact⟨Qde _ _,rfl⟩
 ·exact⟨Qde _ _,rfl⟩
theorem Qlz{α:Type}:∀{l:List α}{j:Nat}{a:α},l[j]? =some a->(a::l.eraseIdx j).Perm l
 | [],j,a,h=>by simp at h
 | x::l,0,a,h=>by cases h;exact .refl _
 | x::l,j+1,a,h=>(List.Perm.swap x a _).trans ((Qlz (l:=l) (j:=j) (by simpa using h)).cons x)
theorem Qia{α:Type}(next:Nat->Nat):∀(fuel k:Nat) (left:List α) (out:Array α),left.length=fuel->List.Perm (pickOrder.go next fuel k left out).toList (out.toList++left)
 | 0,k,left,out,h=>by
  rw[List.length_eq_zero_iff]at h
  subst h
  unfold pickOrder.go
  simp
 | fuel+1,k,left,out,h=>by
  unfold pickOrder.go
  have hlt:next k % left.length<left.length:=Nat.mod_lt _ (by omega)
  rw[ZA hlt]
  dsimp only
  refine(Qia next fuel (k+1) _ _ (by rw[List.length_eraseIdx_of_lt hlt];omega)).trans ?_
  rw[Array.toList_push,Zat]
  refine List.Perm.append_left _ ?_
  show List.Perm (left[next k % left.length]::left.eraseIdx (next k % left.length)) left
  exact Qlz (ZA hlt)
end HS
namespace HS
open PySem
noncomputable def lpx(m:Nat):Nat->Nat->Nat->Nat×Nat
 | 0,i,p=>(i,p)
 | l+1,i,p=>lpx m l ((i*5+1+p / 32) % (m+1)) (p / 32)
theorem Qlv(m:Nat):∀(a b i p:Nat),lpx m (a+b) i p=lpx m b (lpx m a i p).1 (lpx m a i p).2
 | 0,b,i,p=>by rw[Nat.zero_add];rfl
 | a+1,b,i,p=>by
  rw[Nat.add_right_comm]
  exact Qlv m a b _ _
theorem Qkf(m:Nat):∀(a i p:Nat),(lpx m a i p).2=p / 32^a
 | 0,i,p=>by show p=p / 1;rw[Nat.div_one]
 | a+1,i,p=>by
  show(lpx m a _ (p / 32)).2=_
  rw[Qkf m a,Nat.div_div_eq_div_mul,Nat.pow_succ,Nat.mul_comm 32]
theorem Qmv(m:Nat):∀(a i p:Nat),(lpx m (a+1) i p).1<m+1
 | 0,i,p=>Nat.mod_lt _ (Nat.succ_pos _)
 | a+1,i,p=>Qmv m a _ _
noncomputable def orb(m:Nat):Nat->Nat->List Nat
 | 0,_=>[]
 | n+1,i=>i::orb m n ((i*5+1) % (m+1))
theorem Qlo(m:Nat):∀(n i j:Nat),j∈orb m n i->∃l,l<n/\(lpx m l i 0).1=j
 | 0,i,j,h=>nomatch h
 | n+1,i,j,h=>by
  rcases Zl.mp h with rfl | h
  ·exact⟨0,Nat.succ_pos _,rfl⟩
  ·obtain⟨l,h1,h2⟩:=Qlo m n _ j h
   exact⟨l+1,Nat.succ_lt_succ h1,h2⟩
abbrev Qea(m:Nat):Prop:=m=7∨m=31
theorem Qrp{m:Nat}(h:Qea m):∀i<m+1,∀j<m+1,j∈orb m (m+1) i:=by
 have e:∀m:Nat,((List.range (m+1)).all λi=>(List.range (m+1)).all λj=>(orb m (m+1) i).contains j)=true->∀i<m+1,∀j<m+1,j∈orb m (m+1) i:=λm z i hi j hj=>by
  have z1:=ZV.mp z i (Zh.mpr hi)
  have z2:=ZV.mp z1 j (Zh.mpr hj)
  simpa using z2
 rcases h with rfl | rfl
 ·exact e 7 (by decide+kernel)
 ·exact e 31 (by decide+kernel)
theorem Qjc{m:Nat}(h:Qea m)(i p:Nat)(hp:p<2^64){j:Nat}(hj:j<m+1):∃l,l<m+15/\(lpx m l i p).1=j:=by
 have h1:(lpx m 13 i p).2=0:=by
  rw[Qkf]
  exact Nat.div_eq_of_lt (Nat.lt_trans hp (by decide))
 obtain⟨l,a,b⟩:=Qlo m _ _ j (Qrp h _ (Qmv m 12 i p) j hj)
 refine⟨13+l,by omega,?_⟩
 rw[Qlv,h1]
 exact b
section
variable {t:SetTable}
noncomputable abbrev stp(t:SetTable)(i p:Nat)(d:Option Nat):SetTable.Probe:={j:=i,more:=SetTable.runEnd t.mask i-i,i:=i,perturb:=p,dummy:=d}
theorem Qhl(f:Nat->Int)(x:Int):∀(n:Nat) (p:SetTable.Probe),SetTable.probe.go t f x (n+1) p=none->SetTable.probe.go t f x n p=none
 | 0,p,_=>by unfold SetTable.probe.go;rfl
 | n+1,p,h=>by
  unfold SetTable.probe.go at h ⊢
  split
  ·rename_i e;rw[e]at h;cases h
  ·rename_i e;rw[e]at h;exact Qhl f x n _ h
  ·rename_i e
   rw[e]at h
   dsimp only at h
   split
   ·rename_i y;rw[if_pos y]at h;cases h
   ·rename_i y;rw[if_neg y]at h;exact Qhl f x n _ h
theorem Qkp(f:Nat->Int)(x:Int)(n:Nat)(p:SetTable.Probe):∀d,SetTable.probe.go t f x (n+d) p=none->SetTable.probe.go t f x n p=none
 | 0,h=>h
 | d+1,h=>Qkp f x n p d (Qhl f x _ p h)
theorem Qkz(ht:TbI t)(x:Int)(n:Nat)(p:SetTable.Probe)(h:SetTable.probe.go t (λ_=>x+1) x (n+1) p=none):t.slot p.j≠ .empty/\SetTable.probe.go t (λ_=>x+1) x n (t.advance p)=none:=by
 unfold SetTable.probe.go at h
 cases e:t.slot p.j with
 | empty=>rw[e]at h;cases h
 | dummy=>exact absurd e (Qhm ht _)
 | live k=>
  rw[e]at h
  dsimp only at h
  rw[if_neg (by rw[beq_iff_eq];omega)]at h
  exact⟨(λz=>nomatch z),h⟩
theorem QmE(ht:TbI t)(x:Int)(n:Nat):∀(more:Nat) (p:SetTable.Probe),p.more=more->SetTable.probe.go t (λ_=>x+1) x (n+more+1) p=none->SetTable.probe.go t (λ_=>x+1) x n (stp t ((p.i*5+1+p.perturb / 32) % (t.mask+1)) (p.perturb / 32) p.dummy)=none
 | 0,p,e,h=>by
  have:=(Qkz ht x _ p h).2
  unfold SetTable.advance at this
  rw[if_neg (by omega)]at this
  exact this
 | more+1,p,e,h=>by
  have:=(Qkz ht x _ p h).2
  unfold SetTable.advance at this
  rw[if_pos (by omega)]at this
  exact QmE ht x n more {p with j:=p.j+1,more:=p.more-1} (by show p.more-1=more;omega) this
theorem Qjx(ht:TbI t)(x:Int):∀(m i p:Nat) (d:Option Nat),SetTable.probe.go t (λ_=>x+1) x (10*m) (stp t i p d)=none->∀l<m,t.slot (lpx t.mask l i p).1≠ .empty
 | 0,i,p,d,h,l,hl=>by omega
 | m+1,i,p,d,h,l,hl=>by
  have more:(stp t i p d).more<=9:=by
   show SetTable.runEnd t.mask i-i<=9
   unfold SetTable.runEnd
   split<;>omega
  cases l with
  | zero=>exact(Qkz ht x (10*m+9) _ h).1
  | succ l=>
   have h1:SetTable.probe.go t (λ_=>x+1) x (10*m+(stp t i p d).more+1) (stp t i p d)=none:=Qkp _ _ _ _ (9-(stp t i p d).more) (by
    rw[show 10*m+(stp t i p d).more+1+(9-(stp t i p d).more)=10*(m+1) by omega];exact h)
   exact Qjx ht x m _ _ _ (QmE ht x (10*m) _ _ rfl h1) l (by omega)
theorem QhV(ht:TbI t)(x:Int):∀(n:Nat) (p:SetTable.Probe) (j i:Nat) (q:SetTable.Probe),SetTable.probe.go t (λ_=>x+1) x n p≠some (.candidate j i q)
 | 0,p,j,i,q,h=>by unfold SetTable.probe.go at h;cases h
 | n+1,p,j,i,q,h=>by
  unfold SetTable.probe.go at h
  cases e:t.slot p.j with
  | empty=>rw[e]at h;cases h
  | dummy=>exact absurd e (Qhm ht _)
  | live k=>
   rw[e]at h
   dsimp only at h
   rw[if_neg (by rw[beq_iff_eq];omega)]at h
   exact QhV ht x n _ j i q h
theorem QqS{j:Nat}(ht:TbI t)(h:t.slot j≠ .empty):j∈t.place.toList:=by
 unfold SetTable.slot at h
 dsimp only at h
 rw[ht.dum,Qfr]at h
 split at h
 ·rename_i z
  rw[beq_iff_eq,← ZQ]at z
  exact ZD z
 ·exact absurd rfl h
theorem Qrt{l:List Nat}(n:Nat)(h:∀j<n,j∈l):n<=l.length:=by
 have:=(ZaP (n:=n)).length_le_of_subset (l₂:=l) λj hj=>h j (Zh.mp hj)
 rwa[Zz]at this
theorem Qk1(x:Int):SetTable.bits x<2^64:=by
 unfold SetTable.bits
 have h1:=Zab x (show(2^64:Int)≠0 by decide)
 have h2:=ZX x (show(0:Int)<2^64 by decide)
 omega
theorem QpU(ht:TbI t)(hm:Qea t.mask)(hs:t.place.size<=t.mask)(x:Int):∃j,t.freeSlot x=some (j,false):=by
 unfold SetTable.freeSlot
 cases e:t.probe (λ_=>x+1) x (t.probeStart x)with
 | none=>
  have:=Qrt (l:=t.place.toList) (t.mask+1) λj hj=>by
   obtain⟨l,h1,h2⟩:=Qjc hm (SetTable.bits x % (t.mask+1)) (SetTable.bits x) (Qk1 x) hj
   have h3:=Qjx ht x _ _ _ _ (show SetTable.probe.go t (λ_=>x+1) x (10*(t.mask+15)) (stp t (SetTable.bits x % (t.mask+1)) (SetTable.bits x) none)=none from e) l h1
   rw[h2]at h3
   exact QqS ht h3
  rw[Zm]at this
  omega
 | some m=>
  cases m with
  | empty j d=>
   obtain⟨rfl,_⟩:=QeJ ht _ _ _ _ rfl j d e
   exact⟨_,rfl⟩
  | candidate j i q=>exact absurd e (QhV ht x _ _ j i q)
theorem Qkg(ht:TbI t)(hm:Qea t.mask){es:Array (Int×Value)}(hf:t.fits es.size=true)(hs:es.size+1<=t.mask)(x:Int)(v:Value):(layNew t es x v).2.1.plain=t.plain/\(layNew t es x v).2.1.mask=t.mask/\(layNew t es x v).2.2.1=false:=by
 have h1:t.place.size=es.size:=by unfold SetTable.fits at hf;simp only[Zk,beq_iff_eq]at hf;exact hf.1
 obtain⟨j,e⟩:=QpU ht hm (by omega) x
 unfold layNew
 rw[e]
 dsimp only
 have ft:(t.put j).1.fits (SetTable.insertAt es (t.put j).2 (x,v)).size=true:=by
  have a1:(SetTable.insertAt t.place (SetTable.below t.place j) j).size=es.size+1:=by
   rw[← Zm,SetTable.toList_insertAt,Zr,Zq,ZaC,ZaO,Zm,h1]
   omega
  have a2:(SetTable.insertAt es (SetTable.below t.place j) (x,v)).size=es.size+1:=by
   rw[← Zm,SetTable.toList_insertAt,Zr,Zq,ZaC,ZaO,Zm]
   omega
  unfold SetTable.fits SetTable.fill SetTable.put
  dsimp only
  rw[ht.dum,Qfr,if_neg (by decide),a1,a2]
  simp
  exact hs
 unfold SetTable.orStandIn
 rw[if_pos ft]
 exact⟨rfl,rfl,rfl⟩
end
section
variable {mask:Nat}{owner:Array (Option Nat)}
theorem Qlf:∀(fuel i p j:Nat),SetTable.layClean.free mask owner fuel i p=some j->owner[j]? =some none
 | 0,i,p,j,h=>by unfold SetTable.layClean.free at h;cases h
 | fuel+1,i,p,j,h=>by
  unfold SetTable.layClean.free at h
  split at h
  ·rename_i k e
   cases h
   have:=List.find?_some e
   rw[Array.getD_eq_getD_getElem?]at this
   cases z:owner[i+k]? with
   | none=>rw[z]at this;cases this
   | some o=>rw[z]at this;cases o with
    | none=>rfl
    | some _=>cases this
  ·exact Qlf fuel _ _ j h
theorem Qk4:∀(fuel i p:Nat),SetTable.layClean.free mask owner fuel i p=none->∀l<fuel,owner[(lpx mask l i p).1]? ≠some none
 | 0,i,p,h,l,hl=>by omega
 | fuel+1,i,p,h,l,hl=>by
  unfold SetTable.layClean.free at h
  split at h
  ·cases h
  ·rename_i e
   cases l with
   | zero=>
    intro z
    have r:0∈List.range (SetTable.runEnd mask i+1-i):=by
     rw[Zh]
     unfold SetTable.runEnd
     split<;>omega
    have:=List.find?_eq_none.mp e 0 r
    rw[Array.getD_eq_getD_getElem?,Nat.add_zero,show owner[i]? =some none from z]at this
    exact this rfl
   | succ l=>exact Qk4 fuel _ _ h l (by omega)
theorem QjX{α:Type}:∀(l:List (Option α)),(∀o∈l,o≠none)->(l.filterMap id).length=l.length
 | [],_=>rfl
 | none::l,h=>absurd rfl (h none Zj)
 | some a::l,h=>by
  show(a::l.filterMap id).length=_
  rw[Zq,QjX l λo ho=>h o (Zc _ ho),Zq]
theorem Qf2{α:Type}(a:α):∀(l:List (Option α)) (j:Nat),l[j]? =some none->((l.set j (some a)).filterMap id).Perm (a::l.filterMap id)
 | [],j,h=>by simp at h
 | o::l,0,h=>by cases h;exact .refl _
 | none::l,j+1,h=>Qf2 a l j (by simpa using h)
 | some b::l,j+1,h=>((Qf2 a l j (by simpa using h)).cons b).trans (.swap a b _)
structure Own (mask:Nat) (owner:Array (Option Nat)) (k:Nat):Prop where
 size:owner.size=mask+1
 perm:(owner.toList.filterMap id).Perm (List.range k)
theorem Qlt(hm:Qea mask):∀(hs:List Int) (owner:Array (Option Nat)) (k:Nat),Own mask owner k->k+hs.length<=mask->∃o2,Own mask o2 (k+hs.length)/\List.foldl (λ(acc:Option (Array (Option Nat)×Nat)) h=>do
  let (owner,k) ← acc
  let j ← SetTable.layClean.free mask owner (SetTable.turns mask) (SetTable.bits h % (mask+1)) (SetTable.bits h)
  pure (owner.setIfInBounds j (some k),k+1)) (some (owner,k)) hs=some (o2,k+hs.length)
 | [],owner,k,O,_=>⟨owner,O,rfl⟩
 | h::hs,owner,k,O,le=>by
  rw[Zq]at le
  cases e:SetTable.layClean.free mask owner (SetTable.turns mask) (SetTable.bits h % (mask+1)) (SetTable.bits h)with
  | none=>
   have all:∀o∈owner.toList,o≠none:=λo ho z=>by
    subst z
    obtain⟨j,hj⟩:=Zai ho
    rw[ZQ]at hj
    have jl:j<mask+1:=by
     rw[← O.size]
     exact(Array.getElem?_eq_some_iff.mp hj).1
    obtain⟨l,h1,h2⟩:=Qjc hm (SetTable.bits h % (mask+1)) (SetTable.bits h) (Qk1 h) jl
    exact Qk4 _ _ _ e l h1 (by rw[h2];exact hj)
   have h1:=QjX _ all
   rw[O.perm.length_eq,Zz,Zm,O.size]at h1
   omega
  | some j=>
   have at0:=Qlf _ _ _ j e
   have O2:Own mask (owner.setIfInBounds j (some k)) (k+1):=⟨by rw[Array.size_setIfInBounds];exact O.size,by
    rw[Array.toList_setIfInBounds]
    refine(Qf2 k _ j (by rw[ZQ];exact at0)).trans ?_
    refine(O.perm.cons k).trans ?_
    rw[Zap]
    exact(List.perm_append_singleton k _).symm⟩
   obtain⟨o2,h1,h2⟩:=Qlt hm hs _ _ O2 (by omega)
   have ek:k+1+hs.length=k+(h::hs).length:=by rw[Zq];omega
   rw[ek]at h1 h2
   refine⟨o2,h1,Eq.trans ?_ h2⟩
   rw[ZaW]
   congr 1
   show(SetTable.layClean.free mask owner (SetTable.turns mask) (SetTable.bits h % (mask+1)) (SetTable.bits h)).bind _=_
   rw[e]
   rfl
theorem QnZ(l:List (Option Nat)):(List.range l.length).filterMap (λj=>l.getD j none)=l.filterMap id:=by
 have:(List.range l.length).map (λj=>l.getD j none)=l:=by
  refine Zao λi=>?_
  rw[Zo]
  by_cases z:i<l.length
  ·rw[Zaa z,ZA z]
   show some (l.getD i none)=_
   rw[ZK,ZA z];rfl
  ·rw[Zv (by simp;omega),Zv (by omega)];rfl
 have h:=congrArg (List.filterMap id) this
 rw[List.filterMap_map]at h
 exact h
theorem range_all{α:Type}(es:Array α):(List.range es.size).filterMap (es[·]?)=es.toList:=by
 have h1:∀(l:List α),(List.range l.length).filterMap (l[·]?)=l:=λl=>by
  induction l with
  | nil=>rfl
  | cons a l ih=>
   rw[Zq,ZbS,ZaR]
   dsimp only[List.getElem?_cons_zero]
   rw[List.filterMap_map]
   congr 1
 have:=h1 es.toList
 rw[Zm]at this
 refine Eq.trans ?_ this
 congr 1
 funext i
 rw[ZQ]
theorem QkF{t:SetTable}{es:Array (Int×Value)}{n:Nat}(hm:Qea (SetTable.sizeAbove n-1))(hs:es.size<=SetTable.sizeAbove n-1):(relayAll t es n).2.1.plain=t.plain/\(relayAll t es n).2.1.mask=SetTable.sizeAbove n-1:=by
 generalize hk:SetTable.sizeAbove n-1=m at *
 have O0:Own m (Array.replicate (m+1) none) 0:=⟨by simp,by rw[Array.toList_replicate];exact(by
  have:∀k,(List.replicate k (none:Option Nat)).filterMap id=[]:=λk=>by
   induction k with
   | zero=>rfl
   | succ k ih=>exact ih
  rw[this];exact .refl _)⟩
 obtain⟨o2,O,e⟩:=Qlt hm (es.map (·.1)).toList _ 0 O0 (by rw[Zm,Array.size_map];omega)
 rw[Nat.zero_add,Zm,Array.size_map]at O e
 have el:SetTable.layClean m (es.map (·.1))=some o2:=by
  unfold SetTable.layClean
  rw[← Array.foldl_toList,e]
  rfl
 have ord:(((List.range (m+1)).filterMap λj=>(o2.getD j none).map (j, ·)).map (·.2))=o2.toList.filterMap id:=by
  rw[List.map_filterMap,← QnZ,Zm,O.size]
  congr 1
  funext j
  rw[Option.map_map]
  show Option.map id _=_
  rw[Option.map_id,Array.getD_eq_getD_getElem?,ZK,ZQ]
  rfl
 have ln:((List.range (m+1)).filterMap λj=>(o2.getD j none).map (j, ·)).length=es.size:=by
  rw[← Zi (f:=(·.2)),ord,O.perm.length_eq,Zz]
 unfold relayAll SetTable.relaid
 rw[hk]
 unfold SetTable.laid
 rw[el,Option.bind_eq_bind,Za]
 dsimp only[pure]
 rw[ord]
 have c1:coversAll (o2.toList.filterMap id).toArray es.size=true:=by
  unfold coversAll
  exact List.isPerm_iff.mpr O.perm
 have c2:((o2.toList.filterMap id).toArray.filterMap (es[·]?)).size=es.size:=by
  rw[← Zm,Array.toList_filterMap,(O.perm.filterMap _).length_eq,range_all,Zm]
 rw[c1,if_pos (by
  unfold SetTable.fits SetTable.fill
  dsimp only
  rw[c2,Zs,Zi,ln]
  simp
  omega)]
 exact⟨rfl,rfl⟩
end
end HS
namespace HS
open PySem L2 PyProof.Rows
section
variable {prog:Program}{w:World}{A:Around}{E:Value->Shared->Prop}{s:Shared}
structure Qeq (prog:Program) (w:World) (L:Bool) (ob:Obj) (ar:Array (Int×Value)) (tb:SetTable) (S:Int->Bool) (n:Nat):Prop where
 ex:ob.ExactSet
 el:ElemsOf (intKind prog w) ar.toList
 mem:∀k,S k=true↔∃e∈ar.toList,(intKind prog w).is k e.2=true
 lt:ar.size<scanBound
 fit:tb.fits ar.size=true
 num:ar.size=n
 ti:TbI tb
 led:tb.led=L
def Sz(tb:SetTable)(n:Nat):Prop:=tb.plain=true/\(tb.mask=7/\n<=4∨tb.mask=31/\n<=18)
def QcN(prog:Program)(w:World)(L:Bool)(h:Heap)(a:Addr)(S:Int->Bool)(n:Nat):Prop:=∃ob ar en tb,h.get? a=some ob/\ob.data= .set ar en tb/\Qeq prog w L ob ar tb S n/\Sz tb n
theorem QcN.Qd7{L:Bool}{h h':Heap}{a:Addr}{S:Int->Bool}{n:Nat}(r:QcN prog w L h a S n)(k:∀o,h.get? a=some o->h'.get? a=some o):QcN prog w L h' a S n:=by
 obtain⟨ob,ar,en,tb,h1,h2⟩:=r
 exact⟨ob,ar,en,tb,k _ h1,h2⟩
theorem QcN.cast{L:Bool}{h:Heap}{a:Addr}{S S':Int->Bool}{n n':Nat}(r:QcN prog w L h a S n)(e:∀k,S k=S' k)(en:n=n'):QcN prog w L h a S' n':=by
 have:S=S':=funext e
 subst this;subst en;exact r
theorem Qjz{L:Bool}{h:Heap}{a:Addr}{ob:Obj}{ar ar1:Array (Int×Value)}{en:Nat}{tb tb1:SetTable}{S:Int->Bool}(g:h.get? a=some ob)(d:ob.data= .set ar en tb)(c:Qeq prog w L ob ar1 tb1 S ar1.size)(z:Sz tb1 ar1.size):
  QcN prog w L (h.update a (Obj.putSet ar1 tb1)) a S ar1.size:=by
 obtain⟨g1,g2⟩:=SetOf_store (knd:=intKind prog w) g c.ex d c.el c.mem c.lt c.fit
 exact⟨_,_,_,_,g1,rfl,⟨c.ex,c.el,c.mem,c.lt,c.fit,rfl,c.ti,c.led⟩,z⟩
theorem Qkh{M:Model}(b:Bool){s1:Shared}{Q:Unit->Shared->Prop}(q:Q () s1):wpAny M A (match b with | true=>rule "set.scan.the-table-gave-way" | false=>pure ()) Q E s1:=by
 cases b
 ·exact wpAny_pure q
 ·exact wpAny_rule q
theorem QsN{L:Bool}{a:Addr}{ob:Obj}{ar ar1:Array (Int×Value)}{en:Nat}{tb tb1:SetTable}{S:Int->Bool}{wd:Bool}{g:Bool->Sem Unit}{Q:Option Bool->Shared->Prop}
  (hg:∀(b:Bool) (s1:Shared) (Q':Unit->Shared->Prop),Q' () s1->wpAny (model prog w) A (g b) Q' E s1)
  (ho:s.heap.get? a=some ob) (hd:ob.data= .set ar en tb) (c:Qeq prog w L ob ar1 tb1 S ar1.size) (hwd:wd=false) (pl:tb1.plain=true) (sm:tb1.mask=7/\ar1.size<=5∨tb1.mask=31/\ar1.size<=18)
  (q:∀h',Heap.SameBut a s.heap h'->QcN prog w L h' a S ar1.size->Q (some true) {s with heap:=h'}):
  wpAny (model prog w) A (do
   storeSet a ar1 tb1
   if(!wd && tb1.tooFull)=true then do
    g (relayAll tb1 ar1 (SetTable.grown ar1.size)).2.2
    storeSet a (relayAll tb1 ar1 (SetTable.grown ar1.size)).1 (relayAll tb1 ar1 (SetTable.grown ar1.size)).2.1
    pure (some true)
   else pure (some true)) Q E s:=by
 have up1:=Zbx s.heap a (Obj.putSet ar1 tb1)
 have fl:tb1.tooFull=decide (ar1.size*5≥tb1.mask*3):=by
  have h1:=c.fit
  unfold SetTable.fits at h1
  simp only[Zk,beq_iff_eq]at h1
  unfold SetTable.tooFull SetTable.fill
  rw[c.ti.dum,h1.1];rfl
 refine wpAny_bind (wpAny_storeSet_of ho hd ?_ (fits_of_scanBound c.lt))
 by_cases z:(!wd && tb1.tooFull)=true
 ·rw[if_pos z]
  rw[hwd,fl,Bool.not_false,Zbn,decide_eq_true_iff]at z
  have s5:ar1.size=5:=by omega
  obtain⟨pl2,mk2⟩:=QkF (t:=tb1) (es:=ar1) (n:=SetTable.grown ar1.size) (by rw[s5];decide+kernel) (by rw[s5];decide+kernel)
  have mk3:SetTable.sizeAbove (SetTable.grown ar1.size)-1=31:=by rw[s5];decide+kernel
  rw[mk3]at mk2
  obtain⟨ti2,led2⟩:=QoK tb1 ar1 (SetTable.grown ar1.size)
  have pm:=relayAll_perm tb1 ar1 (SetTable.grown ar1.size)
  have ft:=relayAll_fits tb1 ar1 (SetTable.grown ar1.size)
  generalize relayAll tb1 ar1 (SetTable.grown ar1.size)=Z at *
  obtain⟨ar2,tb2,gv⟩:=Z
  dsimp only at *
  have sz:ar2.size=ar1.size:=by have:=pm.length_eq;simpa using this
  obtain⟨g1,_⟩:=SetOf_store (knd:=intKind prog w) ho c.ex hd c.el c.mem c.lt c.fit
  have c2:Qeq prog w L {ob with data:= .set ar1 (en+1) tb1} ar2 tb2 S ar2.size:=⟨c.ex,c.el.perm pm,λk=>(c.mem k).trans ⟨λ⟨e,he,y⟩=>⟨e,pm.mem_iff.mpr he,y⟩,λ⟨e,he,y⟩=>⟨e,pm.mem_iff.mp he,y⟩⟩,by rw[sz];exact c.lt,ft,rfl,ti2,led2.trans c.led⟩
  refine wpAny_bind (hg _ _ _ (wpAny_bind (wpAny_storeSet_of g1 rfl ?_ (fits_of_scanBound c2.lt))))
  exact wpAny_pure (q _ (up1.trans (Zbx _ a _)) ((Qjz g1 rfl c2 ⟨pl2.trans pl,.inr ⟨mk2,by omega⟩⟩).cast (λ_=>rfl) sz))
 ·rw[if_neg z]
  rw[hwd,fl,Bool.not_false,Zbn,decide_eq_true_iff]at z
  exact wpAny_pure (q _ up1 (Qjz ho hd c ⟨pl,by omega⟩))
theorem add_one{L:Bool}{a:Addr}{S:Int->Bool}{n:Nat}{k:Int}{tk:Tok}{Q:Bool->Shared->Prop}(r:QcN prog w L s.heap a S n)(room:n+1<=18)
  (q:∀b h',Heap.SameBut a s.heap h'->QcN prog w L h' a (λj=>S j || decide (j=k)) (if S k then n else n+1)->Q b {s with heap:=h'}):
  wpAny (model prog w) A (setAddHashed a (.int k tk) ((intKind prog w).hash k)) Q E s:=by
 obtain⟨ob,ar,en,tb,ho,hd,c,sz0⟩:=r
 have key:(intKind prog w).is k (.int k tk)=true:=intKind_is _ _ _ _
 have sc:(Value.int k tk).scannable=true:=rfl
 unfold setAddHashed
 refine wpAny_holding ?_
 unfold setAddHashedIn
 refine wpAny_bind (wpAny_setState_of ho hd c.fit ?_)
 dsimp only
 rw[byScan_of sc c.lt c.el,if_pos rfl]
 refine wpAny_bind ?_
 unfold setAddByScan
 refine wpAny_bind (wpAny_rule (wpAny_bind (wpAny_setScan_of key ho hd c.fit c.el ?_)))
 cases hr:List.findIdx? (λe=>(intKind prog w).is k e.2) ar.toList with
 | some j=>
  obtain⟨hj,pj,_⟩:=List.findIdx?_eq_some_iff_getElem.mp hr
  have there:S k=true:=(c.mem k).mpr ⟨_,List.getElem_mem hj,pj⟩
  dsimp only
  refine wpAny_pure (wpAny_pure ?_)
  refine q false s.heap (Heap.SameBut.refl a s.heap) ⟨ob,ar,en,tb,ho,hd,⟨c.ex,c.el,λi=>?_,c.lt,c.fit,by rw[there];exact c.num,c.ti,c.led⟩,by rw[there];exact sz0⟩
  rw[← c.mem i,ZaX,decide_eq_true_iff]
  exact⟨λy=>y.elim id λe=>e▸there,.inl⟩
 | none=>
  have away:S k=false:=by
   cases y:S k with
   | false=>rfl
   | true=>
    obtain⟨e,he,pe⟩:=(c.mem k).mp y
    have:=List.findIdx?_eq_none_iff.mp hr e he
    rw[pe]at this;cases this
  have pm:=layNew_perm tb ar ((intKind prog w).hash k) (.int k tk)
  have ft:=layNew_fits tb ar ((intKind prog w).hash k) (.int k tk)
  obtain⟨pl1,mk1,wd1⟩:=Qkg c.ti (sz0.2.imp And.left And.left) c.fit (by have:=sz0.2;have:=c.num;omega) ((intKind prog w).hash k) (.int k tk)
  obtain⟨ti1,led1⟩:=Qni c.ti ar ((intKind prog w).hash k) (.int k tk)
  dsimp only
  generalize layNew tb ar ((intKind prog w).hash k) (.int k tk)=Z at *
  obtain⟨ar1,tb1,wd,gv⟩:=Z
  dsimp only at *
  rw[Array.toList_push]at pm
  have sz:ar1.size=n+1:=by have:=pm.length_eq;rw[Zr,Zm,Zm,c.num]at this;simpa using this
  have base:Qeq prog w L ob ar1 tb1 (λj=>S j || decide (j=k)) ar1.size:=⟨c.ex,(c.el.push key sc).perm pm,mem_push_iff key c.mem pm,(by rw[sz];exact Nat.lt_of_le_of_lt room (by decide)),ft,rfl,ti1,led1.trans c.led⟩
  have fin:∀h',Heap.SameBut a s.heap h'->QcN prog w L h' a (λj=>S j || decide (j=k)) ar1.size->Q true {s with heap:=h'}:=λh' sb sr=>q true h' sb (sr.cast (λ_=>rfl) (by rw[away,sz];rfl))
  refine wpAny_bind (Qkh _ ?_)
  have hv:hashByValue 8 (.int k tk)=pure true:=by unfold hashByValue;rfl
  rw[if_pos (pl1.trans sz0.1),hv]
  refine wpAny_bind (wpAny_pure ?_)
  refine QsN (λb s1 Q' y=>Qkh b y) ho hd base wd1 (pl1.trans sz0.1) (show tb1.mask=7/\ar1.size<=5∨tb1.mask=31/\ar1.size<=18 by rw[mk1,sz];have:=sz0.2;omega) λh' sb sr=>wpAny_pure (fin h' sb sr)
end
end HS
namespace HS
open PySem L2 PyProof.Rows
section
variable {prog:Program}{w:World}{A:Around}{R:Result->Shared->Prop}{I:Addr}{fp wr:List Addr}{G:Array GenState->Array GenState->Prop}{n:Nat}{P:Nat->Value->Prop}{St:Nat->Shared->Prop}
abbrev InI(prog:Program)(w:World)(L:Bool)(h:Heap)(a:Addr)(val:Nat->Int)(i:Nat):Prop:=QcN prog w L h a (λj=>(firstMet val i).any (· == j)) (firstMet val i).length
theorem Qps{L:Bool}(W:WalksS prog w A.in1 I fp wr G n P St){a:Addr}(af:a∉fp){val:Nat->Int}(pv:∀i v,P i v->∃t,v= .int (val i) t)(nb:n<=18):
  ∀(left i:Nat) (s:Shared),n-i=left->i<=n->St i s->InI prog w L s.heap a val i->(∀s',Moved (a::wr) G s s'->InI prog w L s'.heap a val n->R (.ok (.ret .none)) s')→
   codeAny (model prog w) A (.builtin "set.update.loop" ⟨[.ref a,.ref I],[]⟩) R s:=by
 have aw:a∉wr:=λz=>af (W.sub _ z)
 have wide:∀b∈wr,b∈a::wr:=λb z=>Zc _ z
 intro left
 induction left with
 | zero=>
  intro i s e le st r q
  obtain rfl:i=n:=by omega
  refine codeAny_builtin PyProof.Rows.F.entry_set_update_loop ?_
  rw[Around.under_plainId PyProof.Rows.F.plain_set_update_loop]
  show wpAny _ A.in1 (pyNext (.ref I) >>= _) _ _ s
  refine wpAny_bind (W.done s _ _ st λs1 mv=>?_)
  show wpAny _ A.in1 (ret Value.none) _ _ s1
  exact wpAny_pure (q s1 (mv.mono wide) (r.Qd7 λo z=>mv.heap a o aw z))
 | succ left ih=>
  intro i s e le st r q
  have il:i<n:=by omega
  refine codeAny_builtin PyProof.Rows.F.entry_set_update_loop ?_
  rw[Around.under_plainId PyProof.Rows.F.plain_set_update_loop]
  show wpAny _ A.in1 (pyNext (.ref I) >>= _) _ _ s
  refine wpAny_bind (W.item i s _ _ il st λv s1 pi st1 mv=>?_)
  obtain⟨t,rfl⟩:=pv i v pi
  have r1:InI prog w L s1.heap a val i:=r.Qd7 λo z=>mv.heap a o aw z
  show wpAny _ A.in1 (holding [Value.int (val i) t] (setAdd a (.int (val i) t)) >>= _) _ _ s1
  refine wpAny_bind (wpAny_holding ?_)
  unfold setAdd
  refine wpAny_holding (wpAny_bind ((intKind prog w).pyHash (k:=val i) (intKind_is _ _ _ _) ?_))
  have few:=firstMet_length_le val i
  refine add_one (s:={s1 with toks:=s1.toks+1}) r1 (by omega) λb h' sb r2=>?_
  have r3:InI prog w L h' a val (i+1):=r2.cast (λj=>by rw[firstMet_succ,step_any]) (by rw[firstMet_succ,step_length])
  refine wpAny_pure ⟨plainId_quiet PyProof.Rows.F.plain_set_update_loop _,ih (i+1) _ (by omega) il (W.frame _ s1 _ _ st1 (ZaA _) λb hb o z=>?_) r3 λs2 mv2 r4=>?_⟩
  ·rw[sb.2 b λy:b=a=>af (y▸hb)];exact z
  ·refine q s2 (Moved.trans W.gtrans ((mv.mono wide).then_heap (ZaA _) λb o hb z=>?_) mv2) r4
   rw[sb.2 b λy:b=a=>hb (y▸Zj)];exact z
end
end HS
namespace HS
open PySem L2 PyProof.Rows
section
variable {prog:Program}{w:World}{A:Around}{E:Value->Shared->Prop}{s:Shared}
noncomputable abbrev Qfb(w:World):Bool:= !w.params.followText "set-order"
noncomputable abbrev Qc6(w:World):Obj:={cls:= .type "set",dict:=none,data:= .set #[] 0 (.fresh 0 0 (Qfb w))}
theorem QnA(x:Value){Q:Value->Shared->Prop}(q:Q (.ref s.heap.objs.size) {s with heap:=s.heap.push (Qc6 w)}):
  codeAny (model prog w) A (.call (.builtin "set.__new__") ⟨[.type "set",x],[]⟩) (wants Q E) s:=by
 refine codeAny_of_tree ?_
 show wpAny _ A.in1 (do checkBuiltinCall "set.__new__" ⟨[.type "set",x],[]⟩;again (.builtin "set.__new__" ⟨[.type "set",x],[]⟩)) _ _ s
 refine wpAny_bind (wpAny_of_eq (PySem.F.newCall_set_1 x) (wpAny_pure ⟨plainId_quiet PySem.F.plain_set_new _,codeAny_builtin PySem.F.entry_set_new ?_⟩))
 rw[Around.under_plainId PySem.F.plain_set_new]
 unfold Builtin.«set.__new__» Builtin.Frozenset.newClass
 have sub:=sub_set_self
 obtain⟨hp,g,d,tk,os⟩:=s
 dsimp only at q ⊢
 wp_walk
 refine wpAny_askSetting (wpAny_pure ?_)
 dsimp only
 simp only[newObj]
 refine wpAny_bind (wpAny_alloc (wpAny_pure ?_))
 exact wpAny_pure q
set_option maxHeartbeats 4000000 in
theorem Qoc{l:Addr}{items:Array Value}{ns:List Int}{Q:Value->Shared->Prop}(hh:A.handled=none)(hl:s.heap.IsList l items)(hi:IntsAre items.toList ns)(hb:items.size<=18)
  (q:∀(h':Heap) (tk:Nat),InI prog w (Qfb w) h' s.heap.objs.size (λi=>ns.getD i 0) items.size->(∀b o,b<s.heap.objs.size->s.heap.get? b=some o->h'.get? b=some o)->Q (.ref s.heap.objs.size) {s with heap:=h',toks:=tk}):
  wpAny (model prog w) A (call (.type "set") [.ref l]) Q E s:=by
 obtain⟨cc,ct,mro⟩:=PySem.F.called_set.mro
 have mk:=PySem.F.called_set.made
 have sb:=PySem.F.called_set.sub
 have nt:=PySem.F.called_set.notType
 have cr:=PySem.F.called_set.canCreate
 have tc:=PySem.F.typeCall_set_1 (.ref l)
 refine wpAny_call (codeAny_of_tree ?_)
 show wpAny _ _ (callAny (.type "set") _) _ _ _
 refine wpAny_pure ⟨Code.quiet_builtin _ (by decide+kernel),codeAny_builtin PySem.F.entry_type_call ?_⟩
 rw[Around.under_plain (weight_type_call_type "set" [.ref l] []) rfl]
 repeat (any_goals (first | assumption | wp_step))
 refine codeAny_mono (QnA (.ref l) (E:=E) (Q:=λv s1=>v= .ref s.heap.objs.size/\s1={s with heap:=s.heap.push (Qc6 w)}) ⟨rfl,rfl⟩) λr s1 hr=>?_
 cases r with
 | error e=>exact hr
 | ok fl=>
  cases fl with
  | ret v=>
   obtain⟨rfl,rfl⟩:=hr
   have at0:(s.heap.push (Qc6 w)).get? s.heap.objs.size=some (Qc6 w):=Zx _ rfl
   have ty:Shared.TypeIs {s with heap:=s.heap.push (Qc6 w)} (.ref s.heap.objs.size) "set" :=⟨_,at0,rfl⟩
   have li:=PySem.F.called_set.init.lookup
   have bi:=PySem.F.called_set.init.bind (.ref s.heap.objs.size)
   repeat (any_goals (first | assumption | wp_step))
   refine codeAny_mono (codeAny_call_builtin (R:=wants (λv s2=>v= .none/\∃h' tk,s2={s with heap:=h',toks:=tk}/\InI prog w (Qfb w) h' s.heap.objs.size (λi=>ns.getD i 0) items.size/\∀b o,b<s.heap.objs.size->s.heap.get? b=some o->h'.get? b=some o) E) PySem.F.called_set.init.plain PySem.F.entry_set_init (check_set_init_1 ty ?_)) λr2 s2 hr2=>?_
   ·obtain⟨ol,ho,hc,nl,hd⟩:=hl
    obtain⟨oc,od,odt,osl⟩:=ol
    dsimp only at hc hd
    subst hc hd
    have ho1:(s.heap.push (Qc6 w)).get? l=some {cls:= .type "list",dict:=od,data:= .seq items nl,slots:=osl}:=Zf _ ho
    have s1:=PySem.F.sub_list_set
    have s2:=PySem.F.sub_list_frozenset
    have nd:(Value.type "list" == Value.type "dict")=false:=by decide
    have hl1:(s.heap.push (Qc6 w)).IsList l items:=⟨_,ho1,rfl,nl,rfl⟩
    unfold Builtin.«set.__init__» noKeywords Builtin.Frozenset.updateFrom
    generalize hPI:pyIter=PI
    wp_walk
    subst hPI
    refine wpAny_pyIter_list hl1 (wpAny_bind (wpAny_runValue ?_))
    have ll:l<s.heap.objs.size:=Zn ho
    have h3:A.in1.in1.in1.handled=none:=by simp[hh]
    have ne:l≠(s.heap.push (Qc6 w)).objs.size:=by rw[Zaf];exact ZE (Zad ll)
    have nf:s.heap.objs.size∉[(s.heap.push (Qc6 w)).objs.size,l]:=by
     rw[Zaf]
     simp only[Zl,ZbL,or_false,not_or]
     exact⟨ZE (ZaB _),Zbc ll⟩
    have pv:∀(i:Nat) (v:Value),items[i]? =some v->∃t,v= .int ((λi=>ns.getD i 0) i) t:=λi v hv=>IntsAre.int_at hi i v (by rw[ZQ];exact hv)
    refine Qps (L:=Qfb w) ((Walks.list h3 _ l ne items).toS) nf pv hb (items.size-0) 0 _ (by omega) (ZZ _) ⟨⟨_,Zx _ rfl,rfl,rfl⟩,hl1.push _⟩ ?hA0 ?hB0
    case hA0=>
     refine⟨Qc6 w,#[],0,.fresh 0 0 (Qfb w),Zf _ at0,rfl,⟨⟨rfl,rfl,rfl⟩,(λe he=>nomatch he),(λk=>?_),(by decide),rfl,rfl,⟨List.Pairwise.nil,rfl⟩,rfl⟩,⟨rfl,.inl ⟨rfl,ZZ _⟩⟩⟩
     exact⟨(λz=>by cases z),(λ⟨e,he,_⟩=>nomatch he)⟩
    case hB0=>
     intro s3 mv r3
     obtain⟨h',g',d',t',o'⟩:=s3
     have e1:g'=s.gens:=mv.gens
     have e2:d'=s.drawn:=mv.drawn
     have e3:o'=s.os:=mv.os
     subst e1 e2 e3
     refine wpAny_pure ?_
     show wpAny _ _ (ret Value.none) _ _ _
     refine wpAny_pure ⟨rfl,h',t',rfl,r3,λb o hb z=>?_⟩
     refine mv.heap b o ?_ (Zf _ (Zf _ z))
     rw[Zaf]
     simp only[Zl,ZbL,or_false,not_or]
     exact⟨ZE hb,ZE (Zad hb)⟩
   ·cases r2 with
    | error e=>exact hr2
    | ok fl2=>
     cases fl2 with
     | ret v=>
      obtain⟨rfl,h',tk,rfl,r3,kp⟩:=hr2
      repeat (any_goals (first | assumption | wp_step))
      exact q _ _ r3 kp
     | _=>exact hr2.elim
  | _=>exact hr.elim
end
end HS
namespace HS
open PySem L2 PyProof.Rows
theorem QfX:∀{F K:List Int},F.Nodup->(∀x∈F,x∈K)->K.length<=F.length->F.Perm K
 | [],K,_,_,h=>by
  rw[Zbv,Nat.le_zero,List.length_eq_zero_iff]at h
  subst h
  exact .refl _
 | x::F,K,nd,sub,h=>by
  have hx:x∈K:=sub x Zj
  obtain⟨n1,n2⟩:=Zak.mp nd
  have pe:=List.perm_cons_erase hx
  refine((QfX n2 (λy hy=>?_) ?_).cons x).trans pe.symm
  ·have ne:y≠x:=λe=>n1 (by rw[← e];exact hy)
   exact(Zbq ne).mpr (sub y (Zc _ hy))
  ·have:=pe.length_eq
   rw[Zq]at this h
   omega
theorem QlZ{σ:List Int}(h:σ.Nodup)(v:Int):(step_dedup σ v).Nodup:=by
 unfold step_dedup
 split
 ·exact h
 ·rename_i z
  rw[Bool.not_eq_true,ZaL]at z
  exact Zan.mpr ⟨h,by simp,λa ha b hb=>by
   rw[ZG]at hb
   subst hb
   exact λe=>z a ha (by rw[e];simp)⟩
theorem QfU(val:Nat->Int):∀i,(firstMet val i).Nodup
 | 0=>ZaD
 | i+1=>by rw[firstMet_succ];exact QlZ (QfU val i) _
theorem range_getD(ns:List Int):(List.range ns.length).map (λi=>ns.getD i 0)=ns:=by
 refine Zao λi=>?_
 rw[Zo]
 by_cases z:i<ns.length
 ·rw[Zaa z,ZA z]
  show some (ns.getD i 0)=_
  rw[ZK,ZA z];rfl
 ·rw[Zv (by simp;omega),Zv (by omega)];rfl
theorem Qh9(ns:List Int):firstMet (λi=>ns.getD i 0) ns.length=Qdz ns:=by
 unfold firstMet Qdz
 rw[range_getD]
theorem QoH{prog:Program}{w:World}{L:Bool}{ob:Obj}{ar:Array (Int×Value)}{tb:SetTable}{F:List Int}(c:Qeq prog w L ob ar tb (λj=>F.any (· == j)) F.length)(nd:F.Nodup):∃ks:List Int,IntsAre (ar.toList.map (·.2)) ks/\ks.Perm F:=by
 have ex:∀l:List (Int×Value),ElemsOf (intKind prog w) l->∃ks:List Int,IntsAre (l.map (·.2)) ks/\ks.length=l.length/\∀k,(∃e∈l,(intKind prog w).is k e.2=true)->k∈ks:=by
  intro l
  induction l with
  | nil=>exact λ_=>⟨[],.nil,rfl,λk ⟨e,he,_⟩=>nomatch he⟩
  | cons e r ih=>
   intro hl
   obtain⟨ks,h1,h2,h3⟩:=ih hl.tail
   obtain⟨⟨k,hk,_⟩,_⟩:=hl.head
   obtain⟨x,v⟩:=e
   obtain⟨t,rfl⟩:=ZbD hk
   refine⟨k::ks,.cons k t h1,by rw[Zq,Zq,h2],λj ⟨e,he,hj⟩=>?_⟩
   rcases Zl.mp he with rfl | he
   ·obtain⟨u,eu⟩:=ZbD (show Value.isInt j (.int k t)=true from hj)
    cases eu
    exact Zj
   ·exact Zc _ (h3 j ⟨e,he,hj⟩)
 obtain⟨ks,h1,h2,h3⟩:=ex ar.toList c.el
 refine⟨ks,h1,(QfX nd (λx hx=>h3 x ((c.mem x).mp ?_)) ?_).symm⟩
 ·rw[List.any_eq_true];exact⟨x,hx,by simp⟩
 ·rw[h2,Zm,c.num];exact Zp _
section
variable {prog:Program}{w:World}
structure QgN (prog:Program) (w:World) (a:Addr) (ob:Obj) (ep:Nat) (wk:Array (Int×Value)) (sl:Nat->Nat):Prop where
 zero:sl 0=0
 next:∀(A:Around) (E:Value->Shared->Prop) (s:Shared) (Q:Option (Value×Nat)->Shared->Prop) (i:Nat) (e:Int×Value),s.heap.get? a=some ob->wk[i]? =some e->Q (some (e.2,sl (i+1))) s->wpAny (model prog w) A (setNext a (sl i) i ep) Q E s
 stop:∀(A:Around) (E:Value->Shared->Prop) (s:Shared) (Q:Option (Value×Nat)->Shared->Prop),s.heap.get? a=some ob->Q none s->wpAny (model prog w) A (setNext a (sl wk.size) wk.size ep) Q E s
theorem Qig{a:Addr}{ob:Obj}{ar:Array (Int×Value)}{ep:Nat}{tb:SetTable}{A:Around}{E:Value->Shared->Prop}{s:Shared}{Q:Option (Value×Nat)->Shared->Prop}{j i:Nat}(hf:w.params.followText "set-order" =true)(ho:s.heap.get? a=some ob)(hd:ob.data= .set ar ep tb)(ft:tb.fits ar.size=true)
  (q:Q (((pickOrder (w.params.setOrder a ep) ar)[i]?).map λe=>(e.2,j)) s):wpAny (model prog w) A (setNext a j i ep) Q E s:=by
 unfold setNext
 refine wpAny_bind (wpAny_setState_of ho hd ft ?_)
 unfold setsByText
 refine wpAny_bind (wpAny_bind (wpAny_askSetting (wpAny_pure ?_)))
 show wpAny _ _ (if w.params.followText "set-order" =true then _ else _) _ _ _
 rw[hf,if_pos rfl,if_neg (by simp)]
 show wpAny _ _ (setWalk a >>= _) _ _ _
 unfold setWalk
 refine wpAny_bind (wpAny_bind (wpAny_setState_of ho hd ft ?_))
 unfold setsByText
 refine wpAny_bind (wpAny_bind (wpAny_askSetting (wpAny_pure ?_)))
 show wpAny _ _ (if w.params.followText "set-order" =true then _ else _) _ _ _
 rw[hf,if_pos rfl]
 exact wpAny_bind (wpAny_askSetting (wpAny_pure (wpAny_pure q)))
theorem Qh1{a:Addr}{ob:Obj}{ar:Array (Int×Value)}{ep:Nat}{tb:SetTable}{A:Around}{E:Value->Shared->Prop}{s:Shared}{Q:Option (Value×Nat)->Shared->Prop}{j i:Nat}(hf:w.params.followText "set-order" =false)(ho:s.heap.get? a=some ob)(hd:ob.data= .set ar ep tb)(ft:tb.fits ar.size=true)(hp:tb.plain=true)(hl:tb.led=true)
  (q:Q (match ar[SetTable.below tb.place j]?,tb.place[SetTable.below tb.place j]? with
   | some (_,x),some k=>some (x,k+1)
   | _,_=>none) s):wpAny (model prog w) A (setNext a j i ep) Q E s:=by
 unfold setNext
 refine wpAny_bind (wpAny_setState_of ho hd ft ?_)
 unfold setsByText
 refine wpAny_bind (wpAny_bind (wpAny_askSetting (wpAny_pure ?_)))
 show wpAny _ _ (if w.params.followText "set-order" =true then _ else _) _ _ _
 rw[hf,if_neg (by decide)]
 refine wpAny_ite_split (λz=>?_) (λ_=>?_)
 ·have z':(!tb.plain && decide (ar.size>1))=true:=z
  rw[hp]at z'
  cases z'
 show wpAny _ _ ((if(!tb.led && !ar.isEmpty)=true then unsupported "set:maker-not-led" else pure ()) >>= _) _ _ _
 rw[hl,if_neg (by simp)]
 exact wpAny_bind (wpAny_pure (wpAny_pure q))
theorem QoC{a:Addr}{ob:Obj}{ar:Array (Int×Value)}{ep:Nat}{tb:SetTable}{S:Int->Bool}{n:Nat}(hd:ob.data= .set ar ep tb)(c:Qeq prog w (Qfb w) ob ar tb S n)(hp:tb.plain=true):∃wk sl,wk.toList.Perm ar.toList/\QgN prog w a ob ep wk sl:=by
 have sz:tb.place.size=ar.size:=by
  have h1:=c.fit
  unfold SetTable.fits at h1
  simp only[Zk,beq_iff_eq]at h1
  exact h1.1
 cases hf:w.params.followText "set-order" with
 | true=>
  have pm:(pickOrder (w.params.setOrder a ep) ar).toList.Perm ar.toList:=by
   unfold pickOrder
   exact Qia _ _ _ _ _ (Zm)
  refine⟨_,λ_=>0,pm,rfl,λA E s Q i e ho he q=>Qig hf ho hd c.fit ?_,λA E s Q ho q=>Qig hf ho hd c.fit ?_⟩
  ·rw[he];exact q
  ·rw[Array.getElem?_eq_none (Zp _)];exact q
 | false=>
  have hl:tb.led=true:=by rw[c.led];unfold Qfb;rw[hf];rfl
  have cut:∀i,i<=ar.size->SetTable.below tb.place (if i=0 then 0 else tb.place.getD (i-1) 0+1)=i:=λi hi=>by
   cases i with
   | zero=>exact Qms c.ti.inc
   | succ i=>
    have h1:=ZM (xs:=tb.place) (i:=i) (by omega)
    have:=Qmr c.ti.inc h1
    rw[if_neg (by omega),Nat.add_sub_cancel,Array.getD_eq_getD_getElem?,h1]
    exact this
  refine⟨ar,λi=>if i=0 then 0 else tb.place.getD (i-1) 0+1,.refl _,rfl,λA E s Q i e ho he q=>Qh1 hf ho hd c.fit hp hl ?_,λA E s Q ho q=>Qh1 hf ho hd c.fit hp hl ?_⟩
  ·have il:i<ar.size:=(Array.getElem?_eq_some_iff.mp he).1
   have h1:=ZM (xs:=tb.place) (i:=i) (by omega)
   rw[cut i (by omega),he,h1]
   rw[if_neg (by omega),Nat.add_sub_cancel,Array.getD_eq_getD_getElem?,h1]at q
   exact q
  ·rw[cut _ (Zp _),Array.getElem?_eq_none (Zp _)]
   exact q
end
end HS
namespace HS
open PySem L2 PyProof.Rows
theorem QjL:entryFor table "set.__iter__" =some Builtin.«frozenset.__iter__» :=entryFor_alias (id':= "frozenset.__iter__") (by kernel_rfl) rfl (by decide+kernel) (by kernel_rfl)
theorem QmA:Manifest.owners.lookup (String.ofList ['r','o','t','a','r','e','t','i','_','t','e','s'].reverse)=some Manifest.sig_set_iterator:=by kernel_rfl
theorem Qdm:Slot "set_iterator" "__next__" "set_iterator.__next__" := .of (owner:= "set_iterator") (n:= "__next__") (by rw[typeLookup_type,builtinLookup_eq_fast];kernel_rfl) (by decide+kernel) (by decide+kernel) (by decide+kernel) (.inl (by decide+kernel)) (by rw[isSubtype_type];kernel_rfl)
theorem Qjb:entryFor table "set_iterator.__next__" =some Builtin.«set_iterator.__next__» :=entryFor_of_tree (by kernel_rfl)
theorem Qj7(a:Value):argsOk "set_iterator.__next__" ⟨[a],[]⟩:=by
 unfold argsOk
 rw[signature?_of (id:= "set_iterator.__next__") (n:=['_','_','t','x','e','n','_','_']) (o:=['r','o','t','a','r','e','t','i','_','t','e','s']) (by kernel_rfl) QmA]
 kernel_rfl
theorem Qk8:Slot "set_iterator" "__iter__" "set_iterator.__iter__" := .of (owner:= "set_iterator") (n:= "__iter__") (by rw[typeLookup_type,builtinLookup_eq_fast];kernel_rfl) (by decide+kernel) (by decide+kernel) (by decide+kernel) (.inl (by decide+kernel)) (by rw[isSubtype_type];kernel_rfl)
theorem QoY:entryFor table "set_iterator.__iter__" =some Builtin.«dict_keyiterator.__iter__» :=entryFor_alias (id':= "dict_keyiterator.__iter__") (by kernel_rfl) rfl (by decide+kernel) (by kernel_rfl)
theorem Qo8(a:Value):argsOk "set_iterator.__iter__" ⟨[a],[]⟩:=by
 unfold argsOk
 rw[signature?_of (id:= "set_iterator.__iter__") (n:=['_','_','r','e','t','i','_','_']) (o:=['r','o','t','a','r','e','t','i','_','t','e','s']) (by kernel_rfl) QmA]
 kernel_rfl
section
variable {prog:Program}{w:World}{A:Around}{E:Value->Shared->Prop}{s:Shared}
noncomputable abbrev siO(j i:Nat)(a:Addr)(n ep:Nat):Obj:={cls:= .type "set_iterator",data:= .fields #[rawInt j,rawInt i,.ref a,rawInt n,rawInt ep]}
theorem QsZ{a:Addr}{ob:Obj}{ar:Array (Int×Value)}{ep:Nat}{tb:SetTable}{Q:Value->Shared->Prop}(ho:s.heap.get? a=some ob)(hx:ob.ExactSet)(hd:ob.data= .set ar ep tb)(ft:tb.fits ar.size=true)(hp:tb.plain=true)
  (q:Q (.ref s.heap.objs.size) {s with heap:=s.heap.push (siO 0 0 a ar.size ep)}):wpAny (model prog w) A (pyIter (.ref a)) Q E s:=by
 have ty:s.TypeIs (.ref a) "set" :=⟨ob,ho,hx.1⟩
 refine wpAny_pyIter_slot ty PySem.F.slot_set_iter (wpAny_call_entry PySem.F.slot_set_iter ty QjL ?_ (PySem.F.args_set_iter_1 _))
 unfold Builtin.«frozenset.__iter__»
 refine wpAny_bind (m:=Builtin.Frozenset.slot0 "__iter__" _) (wpAny_pure ?_)
 unfold Builtin.Frozenset.sizeOf setEntries setDrawn setsByText
 refine wpAny_bind (wpAny_bind (wpAny_bind (wpAny_setState_of ho hd ft (wpAny_pure (wpAny_pure ?_)))))
 refine wpAny_bind (wpAny_bind (wpAny_setState_of ho hd ft ?_))
 refine wpAny_bind (wpAny_bind (wpAny_askSetting (wpAny_pure (wpAny_pure ?_))))
 dsimp only
 refine wpAny_ite_split (λz=>?_) (λ_=>?_)
 ·have z':(!w.params.followText "set-order" && (!tb.plain && decide (ar.size>1)))=true:=z
  rw[hp]at z'
  simp at z'
 refine wpAny_bind (wpAny_pure ?_)
 unfold setEpoch
 refine wpAny_bind (wpAny_bind (wpAny_setState_of ho hd ft (wpAny_pure ?_)))
 exact wpAny_bind (wpAny_newObj_type (wpAny_pure ⟨_,rfl,"set_iterator",_,⟨_,Zx _ rfl,rfl⟩,Qdm.lookup,q⟩))
theorem Qp8{I a:Addr}{ob:Obj}{ar wk:Array (Int×Value)}{ep i:Nat}{tb:SetTable}{sl:Nat->Nat}{e:Int×Value}{Q:Option Value->Shared->Prop}(hi:s.heap.get? I=some (siO (sl i) i a ar.size ep))(ho:s.heap.get? a=some ob)(hd:ob.data= .set ar ep tb)(ft:tb.fits ar.size=true)(na:a≠I)(W:QgN prog w a ob ep wk sl)(he:wk[i]? =some e)
  (q:∀h',h'.get? I=some (siO (sl (i+1)) (i+1) a ar.size ep)->Heap.SameBut I s.heap h'->Q (some e.2) {s with heap:=h'}):wpAny (model prog w) A (pyNext (.ref I)) Q E s:=by
 have ty:s.TypeIs (.ref I) "set_iterator" :=⟨_,hi,rfl⟩
 unfold pyNext
 refine wpAny_bind (wpAny_attempt (wpAny_callSpecial?_slot (name:=Str.ofString "__next__") ty Qdm (wpAny_call_entry Qdm ty Qjb ?_ (Qj7 _))))
 unfold Builtin.«set_iterator.__next__»
 refine wpAny_bind (m:=slotArgs "__next__" 0 _) (wpAny_pure ?_)
 refine wpAny_bind (wpAny_fieldsOf hi rfl ?_)
 unfold setEntries
 show wpAny _ _ ((setState a >>= λz=>pure z.1) >>= _) _ _ _
 refine wpAny_bind (wpAny_bind (wpAny_setState_of ho hd ft (wpAny_pure ?_)))
 dsimp only
 rw[if_neg (by simp)]
 show wpAny _ _ (setNext a (Int.toNat (sl i:Int)) (Int.toNat (i:Int)) (Int.toNat (ep:Int)) >>= _) _ _ _
 rw[Zy,Zy,Zy]
 refine wpAny_bind (W.next _ _ _ _ i e ho he ?_)
 refine wpAny_bind (wpAny_setField_rec hi (by simp) λh1 z1 b1=>?_)
 refine wpAny_bind (wpAny_setField_rec (s:={s with heap:=h1}) z1 (by simp) λh2 z2 b2=>?_)
 exact wpAny_pure ⟨_,rfl,wpAny_pure (q h2 (by rw[z2];rfl) (b1.trans b2))⟩
theorem Qqu{I a:Addr}{ob:Obj}{ar wk:Array (Int×Value)}{ep:Nat}{tb:SetTable}{sl:Nat->Nat}{Q:Option Value->Shared->Prop}(hh:A.handled=none)(hi:s.heap.get? I=some (siO (sl wk.size) wk.size a ar.size ep))(ho:s.heap.get? a=some ob)(hd:ob.data= .set ar ep tb)(ft:tb.fits ar.size=true)(W:QgN prog w a ob ep wk sl)
  (q:∀h',Heap.ExtBut I s.heap h'->Q none {s with heap:=h'}):wpAny (model prog w) A (pyNext (.ref I)) Q E s:=by
 have ty:s.TypeIs (.ref I) "set_iterator" :=⟨_,hi,rfl⟩
 unfold pyNext
 refine wpAny_bind (wpAny_attempt (wpAny_callSpecial?_slot (name:=Str.ofString "__next__") ty Qdm (wpAny_call_entry Qdm ty Qjb ?_ (Qj7 _))))
 unfold Builtin.«set_iterator.__next__»
 refine wpAny_bind (m:=slotArgs "__next__" 0 _) (wpAny_pure ?_)
 refine wpAny_bind (wpAny_fieldsOf hi rfl ?_)
 unfold setEntries
 show wpAny _ _ ((setState a >>= λz=>pure z.1) >>= _) _ _ _
 refine wpAny_bind (wpAny_bind (wpAny_setState_of ho hd ft (wpAny_pure ?_)))
 dsimp only
 rw[if_neg (by simp)]
 show wpAny _ _ (setNext a (Int.toNat (sl wk.size:Int)) (Int.toNat (wk.size:Int)) (Int.toNat (ep:Int)) >>= _) _ _ _
 rw[Zy,Zy,Zy]
 refine wpAny_bind (W.stop _ _ _ _ ho ?_)
 dsimp only
 refine wpAny_bind (wpAny_setField hi rfl (by simp) ?_)
 refine wpAny_bind ?_
 simp only[newExc,newTuple]
 refine wpAny_bind (wpAny_newObj_type ?_ (by size_fits))
 refine wpAny_bind (m:=firstArgMember _ _) (wpAny_of_eq (a:=Value.none) rfl ?_)
 refine wpAny_newObj_type ?_ (by size_fits)
 simp only[raiseNew]
 refine wpAny_bind (wpAny_handled ?_)
 rw[show A.in1.handled=none from hh]
 refine wpAny_bind (wpAny_pure (wpAny_throw ?_))
 refine wpAny_bind (wpAny_isInstance (T:= "StopIteration") (b:=true) ⟨_,Zx _ rfl,rfl⟩ isSubtype_stop ?_)
 exact wpAny_pure (q _ (((Zbx ..).extBut.push _).push _))
theorem Qqz{I a:Addr}{j i n ep:Nat}{Q:Value->Shared->Prop}(hi:s.heap.get? I=some (siO j i a n ep))(q:Q (.ref I) s):wpAny (model prog w) A (pyIter (.ref I)) Q E s:=by
 have ty:s.TypeIs (.ref I) "set_iterator" :=⟨_,hi,rfl⟩
 refine wpAny_pyIter_slot ty Qk8 (wpAny_call_entry Qk8 ty QoY ?_ (Qo8 _))
 show wpAny _ _ (ret (.ref I)) _ _ s
 exact wpAny_pure ⟨_,rfl,"set_iterator",_,ty,Qdm.lookup,q⟩
theorem Qoi(hh:A.handled=none){I a:Addr}{ob:Obj}{ar wk:Array (Int×Value)}{ep:Nat}{tb:SetTable}{sl:Nat->Nat}(hd:ob.data= .set ar ep tb)(ft:tb.fits ar.size=true)(na:a≠I)(W:QgN prog w a ob ep wk sl):
  Walks prog w A I [I,a] [I] wk.size (λi v=>∃e,wk[i]? =some e/\v=e.2) (λi h=>h.get? I=some (siO (sl i) i a ar.size ep)/\h.get? a=some ob) where
 sub:=λb hb=>by simp at hb;simp[hb]
 frame:=λ_ _ _ st k=>⟨k I (by simp) _ st.1,k a (by simp) _ st.2⟩
 item:=λi s Q E hi st q=>Qp8 st.1 st.2 hd ft na W (ZM hi) λh' z b=>q _ h' s.toks ⟨_,ZM hi,rfl⟩ ⟨z,b.extBut a _ na st.2⟩ λc o hc z=>b.extBut c o (λy=>hc (by simp[y])) z
 done:=λs Q E st q=>Qqu hh st.1 st.2 hd ft W λh' b=>q h' s.toks λc o hc z=>b c o (λy=>hc (by simp[y])) z
 self:=λ_ _ _ _ st q=>Qqz st.1 q
end
end HS
namespace HS
open PySem L2 PyProof.Rows
section
variable {prog:Program}{w:World}{A:Around}{E:Value->Shared->Prop}{s:Shared}
theorem Qok{a:Addr}{ob:Obj}{Q:Bool->Shared->Prop}(ho:s.heap.get? a=some ob)(hx:ob.ExactSet)(q:Q false s):wpAny (model prog w) A (Builtin.List.listLengthHint (.ref a)) Q E s:=by
 have ty:s.TypeIs (.ref a) "set" :=⟨ob,ho,hx.1⟩
 unfold Builtin.List.listLengthHint
 refine wpAny_bind (wpAny_specialOf ty PySem.F.slot_set_len.lookup ?_)
 generalize e:("set.__len__" :String)=x
 wp_delta
 rw[show splitId x=some ("set","__len__")from by subst e;decide+kernel]
 subst e
 refine wpAny_bind (wpAny_isInstance (T:= "set") (b:=true) ty (by rw[isSubtype_type];kernel_rfl) ?_)
 refine wpAny_ite_split (λz=>absurd z (by decide)) (λ_=>?_)
 refine wpAny_ite_split (λ_=>?_) (λz=>absurd (by decide+kernel) z)
 exact wpAny_bind (wpAny_typeOf ty (wpAny_pure q))
theorem Qf9{h:Heap}{S:Addr}{f g:Obj->Obj}(b:Addr)(o:Obj)(hb:b≠S)(z:h.get? b=some o):((h.update S f).update S g).get? b=some o:=(ZaG _ _ (Ne.symm hb)).trans ((ZaG _ _ (Ne.symm hb)).trans z)
set_option maxHeartbeats 400000 in
theorem Qq3{a:Addr}{ob:Obj}{ar wk:Array (Int×Value)}{ep:Nat}{tb:SetTable}{sl:Nat->Nat}{Q:List Value->Shared->Prop}(hh:A.handled=none)(ho:s.heap.get? a=some ob)(hx:ob.ExactSet)(hd:ob.data= .set ar ep tb)(ft:tb.fits ar.size=true)(hp:tb.plain=true)(W:QgN prog w a ob ep wk sl)(nb:wk.size<=sizeLine)
  (q:∀h' tk acc,(∀b o,s.heap.get? b=some o->h'.get? b=some o)->s.heap.objs.size<h'.objs.size->ItemsOf (λi v=>∃e,wk[i]? =some e/\v=e.2) acc wk.size->Q acc.toList {s with heap:=h',toks:=tk}):wpAny (model prog w) A (collect (.ref a)) Q E s:=by
 unfold collect
 refine wpAny_bind (wpAny_runValue (codeAny_builtin PySem.F.entry_proto_collect ?_))
 rw[Around.under_plainId PySem.F.plain_proto_collect _]
 show wpAny _ A.in1 (newList [] >>= λl=>again (.builtin "list.__iadd__" ⟨[l,.ref a],[]⟩)) _ _ s
 refine wpAny_bind (wpAny_newObj_type (wpAny_pure ⟨plainId_quiet PySem.F.plain_list_iadd _,codeAny_builtin PySem.F.entry_list_iadd ?_⟩))
 rw[Around.under_plainId PySem.F.plain_list_iadd _]
 have al:a<s.heap.objs.size:=Zn ho
 have ho1:=Zf (seqObj "list" ([]:List Value).toArray 0) ho
 have hS:(s.heap.push (seqObj "list" ([]:List Value).toArray 0)).get? s.heap.objs.size=some (seqObj "list" ([]:List Value).toArray 0):=Zx _ rfl
 show wpAny _ A.in1 (Builtin.List.listExtendWith (.ref s.heap.objs.size) (.ref a) (.ref s.heap.objs.size)) _ _ {s with heap:=s.heap.push (seqObj "list" ([]:List Value).toArray 0)}
 unfold Builtin.List.listExtendWith
 refine wpAny_bind (wpAny_typeOf (T:= "set") ⟨ob,ho1,hx.1⟩ ?_)
 have h1:Builtin.List.listSameRef (.ref s.heap.objs.size) (.ref a)=false:=by simp[Builtin.List.listSameRef,Zbc al]
 rw[if_neg (by rw[h1];decide)]
 have WW:=(Qoi (prog:=prog) (w:=w) (A:=A.in1) (I:=s.heap.objs.size+1) (wk:=wk) (sl:=sl) hh hd ft (ZE (Zad al)) W).toS
 have key:∀(R:Result->Shared->Prop) (h:Heap) (c tk:Nat),h.get? (s.heap.objs.size+1)=some (siO 0 0 a ar.size ep)->h.get? a=some ob->(∀b o,s.heap.get? b=some o->h.get? b=some o)->h.get? s.heap.objs.size=some {cls:= .type "list",data:= .seq #[] c}→
   (∀(h':Heap) (tk c:Nat) (acc:Array Value),(∀b o,s.heap.get? b=some o->h'.get? b=some o)->h'.get? s.heap.objs.size=some {cls:= .type "list",data:= .seq acc c}->ItemsOf (λi v=>∃e,wk[i]? =some e/\v=e.2) acc wk.size->R (.ok (.ret (.ref s.heap.objs.size))) {s with heap:=h',toks:=tk})→
   codeAny (model prog w) A (.builtin "list.extend.loop" ⟨[.ref s.heap.objs.size,.ref (s.heap.objs.size+1),.ref s.heap.objs.size],[]⟩) R {s with heap:=h,toks:=tk}:=by
  intro R h c tk k1 k2 k3 k4 k5
  refine codeAny_extend_loopS WW nb s.heap.objs.size (by simp[Zbc al]) _ wk.size 0 _ #[] c rfl (ZZ _) ⟨(by rw[W.zero];exact k1),k2⟩ k4 (ItemsOf.nil _) λs' acc c mv g ia=>?_
  rw[Moved.eq_with mv]
  refine k5 s'.heap s'.toks c acc (λb o z=>?_) g ia
  have bl:=Zn z
  exact mv.heap b o (by simp[ZE bl,ZE (Zad bl)]) (k3 b o z)
 have ho2:=Zf (siO 0 0 a ar.size ep) ho1
 have hS2:=Zf (siO 0 0 a ar.size ep) hS
 have hI2:((s.heap.push (seqObj "list" ([]:List Value).toArray 0)).push (siO 0 0 a ar.size ep)).get? (s.heap.push (seqObj "list" ([]:List Value).toArray 0)).objs.size=some (siO 0 0 a ar.size ep):=Zx _ rfl
 refine wpAny_bind (QsZ ho1 hx hd ft hp ?_)
 refine wpAny_bind (wpAny_holding (Qok ho2 hx ?_))
 rw[if_pos (by decide)]
 refine wpAny_bind (wpAny_rule (wpAny_bind ?_))
 have sI:(s.heap.push (seqObj "list" ([]:List Value).toArray 0)).objs.size=s.heap.objs.size+1:=Zaf _ _
 rw[sI]at hI2 ⊢
 show wpAny _ _ (updateSeq s.heap.objs.size (·.push .none) >>= λ_=>updateSeq s.heap.objs.size (·.pop)) _ _ _
 refine wpAny_bind (wpAny_updateSeq hS2 rfl ?_)
 have hS3:=Zbg (Obj.mapSeq (·.push Value.none)) hS2 rfl
 refine wpAny_updateSeq (hz:=by seq_fits) hS3 rfl ?_
 have hS4:=Zbg (Obj.mapSeq (·.pop)) hS3 rfl
 refine wpAny_pure ⟨plainId_quiet PySem.F.plain_extend_loop _,key _ _ 2 _ ?_ ?_ ?_ hS4 ?_⟩
 ·dsimp only
  exact Qf9 _ _ (Nat.succ_ne_self _) hI2
 ·dsimp only
  exact Qf9 _ _ (ZE al) ho2
 ·intro b o z
  dsimp only
  refine Qf9 b o (ZE (Zn z)) ?_
  exact Zf _ (Zf _ z)
 ·intro h' tk c acc m1 m2 m3
  exact wpAny_bind (wpAny_load m2 (wpAny_pure (q h' tk acc m1 (Zn m2) m3)))
end
end HS
namespace HS
open PySem L2 PyProof.Rows
theorem Qm6{vs vs':List Value}(p:vs'.Perm vs):∀{ks:List Int},IntsAre vs ks->∃ks',IntsAre vs' ks'/\ks'.Perm ks:=by
 induction p with
 | nil=>exact λh=>⟨_,h,.refl _⟩
 | cons x p ih=>
  intro ks h
  cases h with
  | cons n t h=>
   obtain⟨k,h1,h2⟩:=ih h
   exact⟨n::k,.cons n t h1,h2.cons n⟩
 | swap x y l=>
  intro ks h
  cases h with
  | cons n t h=>
   cases h with
   | cons m u h=>exact⟨_,.cons m u (.cons n t h),.swap n m _⟩
 | trans p1 p2 i1 i2=>
  intro ks h
  obtain⟨k1,a1,b1⟩:=i2 h
  obtain⟨k2,a2,b2⟩:=i1 a1
  exact⟨k2,a2,b2.trans b1⟩
theorem QlY{wk:Array (Int×Value)}{acc:Array Value}(h:ItemsOf (λi v=>∃e,wk[i]? =some e/\v=e.2) acc wk.size):acc.toList=wk.toList.map (·.2):=by
 refine Zao λi=>?_
 rw[Zo,ZQ,ZQ]
 by_cases z:i<acc.size
 ·obtain⟨e,h1,h2⟩:=h.2 i _ (ZM z)
  rw[ZM z,h1,h2];rfl
 ·rw[Array.getElem?_eq_none (by omega),Array.getElem?_eq_none (by have:=h.1;omega)];rfl
section
variable {prog:Program}{w:World}{A:Around}{E:Value->Shared->Prop}{s:Shared}
theorem QqQ{a:Addr}{F:List Int}{Q:Value->Shared->Prop}(hh:A.handled=none)(nd:F.Nodup)(r:QcN prog w (Qfb w) s.heap a (λj=>F.any (· == j)) F.length)
  (q:∀h' tk l out e,(∀b o,s.heap.get? b=some o->h'.get? b=some o)->s.heap.objs.size<=l->h'.get? l=some (seqObj "list" out e)->IntsAre out.toList (Qbp F)->Q (.ref l) {s with heap:=h',toks:=tk}):wpAny (model prog w) A (call (.builtin "sorted") [.ref a]) Q E s:=by
 obtain⟨ob,ar,ep,tb,ho,hd,c,sz⟩:=r
 obtain⟨ks,i1,i2⟩:=QoH c nd
 obtain⟨wk,sl,pm,W⟩:=QoC (a:=a) hd c sz.1
 have few:F.length<=18:=by have:=sz.2;omega
 have wz:wk.size<=18:=by
  have:=pm.length_eq
  rw[Zm,Zm,c.num]at this
  omega
 refine Calls.call_function_entry kind_sorted plain_sorted entry_sorted (args_sorted1 _) ?_
 unfold Builtin.«sorted»
 refine wpAny_bind (m:=checkCount "sorted" 1 1 _) (wpAny_pure ?_)
 refine wpAny_bind (Qq3 (by simp[hh]) ho c.ex hd c.fit sz.1 W (ZH wz (by rw[QbT];decide)) λh1 t1 acc k1 z1 ia=>?_)
 obtain⟨ks',j1,j2⟩:=Qm6 (pm.map (·.2)) i1
 rw[← QlY ia]at j1
 have al:acc.toList.length<64:=by rw[Zm,ia.1];omega
 refine wpAny_bind (wpAny_newList ?_)
 have oL:(h1.push (seqObj "list" acc.toList.toArray 0)).get? h1.objs.size=some (seqObj "list" acc.toList.toArray 0):=Zx _ rfl
 refine wpAny_bind (wpAny_holding (wpAny_call_entry slot_list_sort ⟨_,oL,rfl⟩ entry_list_sort (list_sort_tree oL j1 al λout ns' a1 a2 a3=>⟨_,rfl,?_⟩) (args_list_sort _)))
 obtain⟨e,hat⟩:=sortedHeap_at (out:=out) oL
 have es:ns'=Qbp F:=QeF a3 (Qb7 F) ((a2.trans (j2.trans i2)).trans (QaW F).symm)
 subst es
 refine wpAny_pure ⟨_,rfl,q _ t1 _ out e (λb o z=>?_) (Zbb z1) hat a1⟩
 have b1:=Zn (k1 b o z)
 rw[sortedHeap_old (ZE b1) (by rw[Zaf];exact Zad b1)]
 exact Zf _ (k1 b o z)
end
end HS
namespace HS
open PySem PySem.Spec L2 PyProof.Rows
section
variable {X:Cx}{a:Expr}{fa:DE}{pos:Pos}
theorem boot_set:bootBuiltins "set" =some (.type "set"):=by kernel_rfl
theorem Qqp{l:Addr}{ns:List Int}(I:Inv X pins σ H s)(hc:X.calm=true)(hq:SqL X.K H l (ns.map V.int))(hn:ns.length<=18)(q:∀l,H l=none->Q (.ref l) (upd H l (.lst ((Qbp (Qdz ns)).map V.int)))):
  wpAny (model X.prog X.w) X.A (call (.type "set") [.ref l]) (λv s1=>wpAny (model X.prog X.w) X.A (call (.builtin "sorted") [v]) (EP X pins σ Q) E s1) E s:=by
 obtain⟨its,r',pl,hz⟩:=I.list hq
 have hI:=QY r'
 have il:its.toArray.size=ns.length:=by rw[Zs];exact hI.length
 refine Qoc (I.ok.hd hc) pl.isList (ns:=ns) hI (by omega) λh1 t1 si kp=>?_
 have ed:firstMet (λi=>ns.getD i 0) its.toArray.size=Qdz ns:=by rw[il];exact Qh9 ns
 have nd:(Qdz ns).Nodup:=by rw[← ed];exact QfU _ _
 unfold InI at si
 rw[ed]at si
 have sz:s.heap.objs.size<h1.objs.size:=by
  obtain⟨ob,ar,en,tb,g,_⟩:=si
  exact Zn g
 refine QqQ (I.ok.hd hc) nd si λh2 t2 b out e k2 z2 g2 io=>?_
 refine⟨.ref b,_,I.laid (t':=t2) (o:= .lst ((Qbp (Qdz ns)).map V.int)) (λc o z=>k2 c o (kp c o (Zn z) z)) (ZH (Zbb sz) z2) ⟨?_,out.toList,e,L2.QY io,by simpa using g2⟩,rfl,q _ (I.hok.fresh (ZH (Zbb sz) z2))⟩
 rw[Zi,(QaW _).length_eq,← ed,QbT]
 have:=firstMet_length_le (λi=>ns.getD i 0) its.toArray.size
 omega
theorem Qri{p p' pos':Pos}(hg:Gl X "sorted")(hm:X.mg "sorted" =none)(hg':Gl X "set")(hm':X.mg "set" =none)(hc:X.calm=true)(ha:PA X [a] ta)(hs:starEach [a] X.env=[(false,eval a X.env)]):
  PE X (.Call (.Name "sorted" p) [.Call (.Name "set" p') [a] [] pos'] [] pos) (λσ H Q=>ta σ H λvs H1=>∃(l:Addr) (ns:List Int),vs=[.ref l]/\SqL X.K H1 l (ns.map V.int)/\ns.length<=18/\∀l,H1 l=none->Q (.ref l) (upd H1 l (.lst ((Qbp (Qdz ns)).map V.int)))):=by
 intro pins s σ H Q I h
 refine wpAny_Call_Name_kw (QbM I hg hm boot_sorted ?_ (by decide) (by decide))
 refine Zbi (Zbz ?_) rfl rfl
 refine Call_ (QbM I hg' hm' boot_set (ZU (thn (ha pos' pins s σ H _ I h) λus s1 ⟨vs,H1,I1,r1,q1⟩=>?_) hs rfl))
 obtain⟨l,ns,e,q1,q2,q⟩:=q1
 subst e
 cases r1 with
 | cons r rr=>
  cases rr
  cases r
  exact wpAny_mono (Qqp I1 hc q1 q2 q) (λv s2 z=>ZbE z) λ_ _ z=>z
theorem Qp0{p p' pos':Pos}(hg:Gl X "sorted")(hm:X.mg "sorted" =none)(hg':Gl X "set")(hm':X.mg "set" =none)(hc:X.calm=true)(ha:SE X a fa)(hs:starEach [a] X.env=[(false,eval a X.env)]):
  SE X (.Call (.Name "sorted" p) [.Call (.Name "set" p') [a] [] pos'] [] pos) (Qfw fa):=λH0 A0=>
 (Qri hg hm hg' hm' hc (Qav (ha H0 A0) Qb8 hs) hs).mono λσ H Q=>exK λρ hs F r' rel e q=>by
  refine Qh e λra e1 e=>?_
  refine⟨ρ,hs,F,ra,rel,e1,λv H1 G p1=>?_⟩
  cases hd:ra.d with
  | lst xs=>
   rw[hd]at e
   dsimp only at e
   refine Qh e λns h1 e=>?_
   split at e
   ·rename_i hl
    cases e
    have rp:=p1.rp
    rw[hd]at rp
    obtain⟨l,ws,L,rfl,hl',rl,zl,el⟩:=rp.lst_inv
    rw[Qas h1]at rl
    rw[rl.ints]at hl'
    refine⟨l,ns,rfl,QI hl',hl,λc hc=>?_⟩
    have:=QK.QT (ρ:=ρ) (F:=F) p1.same hc (Rps.ofInts (K:=X.K) (Qbp (Qdz ns))) (by
     rw[Zi,(QaW _).length_eq,QbT,← Qh9]
     have:=firstMet_length_le (λi=>ns.getD i 0) ns.length
     omega) Src.nil Qan.nil
    unfold QT at this
    rw[if_pos (Qfq _)]at this
    exact q _ _ _ this
   ·cases e
  | _=>rw[hd]at e;cases e
end
end HS
namespace HS
open PySem PySem.Spec PyProof.Rows L2
section
variable {X:Cx}{a b c:Expr}{fa fb fc:DE}{pos:Pos}
end
end HS
namespace HS
open PySem PySem.Spec L2
structure FnR where
 n:Nat
 dfl:List D
 den:Den
structure Th where
 N:List Str
 sc:List (Str×NameKind)
 Γ:List (Str×FnR)
 cs:List (Str×Int)
 tr:Stmt->Option DS:=λ_=>none
noncomputable def posOf(x:Str):List Str->Option Nat
 | []=>none
 | y::ys=>if x=y then some 0 else(posOf x ys).map (· +1)
theorem QdR:∀{x:Str}{ys:List Str}{i:Nat},posOf x ys=some i->ys[i]? =some x
 | x,[],i,h=>by cases h
 | x,y::ys,i,h=>by
  unfold posOf at h
  split at h
  ·rename_i e;cases h;subst e;rfl
  ·obtain⟨j,hj,rfl⟩:=Ze.mp h
   simpa using QdR hj
noncomputable def look{α:Type}(x:Str):List (Str×α)->Option α
 | []=>none
 | (y,a)::r=>if x=y then some a else look x r
theorem QaS{α:Type}:∀{x:Str}{l:List (Str×α)},look x l=l.lookup x
 | x,[]=>rfl
 | x,(y,a)::r=>by
  unfold look
  rw[Zw]
  by_cases h:x=y
  ·subst h;simp
  ·rw[if_neg h,QaS]
   have:(x == y)=false:=by simpa using h
   rw[this]
noncomputable def QpF:NameKind->Bool
 | .local =>true | .cell=>true | .free=>true | _=>false
noncomputable def QpD:NameKind->Bool
 | .local =>true | .cell=>true | _=>false
noncomputable def QuV:NameKind->Bool
 | .globalImplicit=>true | _=>false
noncomputable def isFree:NameKind->Bool
 | .free=>true | _=>false
noncomputable def odd(x:Str):Bool:=decide (x= "__debug__") || decide (x= "__classdict__") || decide (x= "__name__")
noncomputable def Th.slot(Θ:Th)(x:Str):Option Nat:=if((look x Θ.sc).map QpF).getD false && !odd x then posOf x Θ.N else none
noncomputable def Th.Qdd(Θ:Th)(x:Str):Option Nat:=if((look x Θ.sc).map QpD).getD false && !odd x then posOf x Θ.N else none
noncomputable def Th.gl(Θ:Th)(x:Str):Bool:=((look x Θ.sc).map QuV).getD false && !odd x
def Qqb(X:Cx)(x:Str)(r:FnR):Prop:=∃k f fd ps,Qbe X.prog X.w X.K X.mg X.base CX0 k f fd ps (spV X.K r.n r.den)/\Q4 k X.A/\X.mg x=some (.ref f)/\PySem.W.keepIn X.K (.ref f)=true∧
 ∀m,m<=r.dfl.length->∃ds dvs,Binds X.K fd ps ds/\Qn dvs ds/\∀H,Rps X.K H (r.dfl.drop (r.dfl.length-m)) dvs []
noncomputable def Qkl:List Str:=["range","enumerate","zip","len","list","min","max","sum","abs","isinstance","int","bool","tuple","str","divmod","sorted","any","all","set"]
structure CtxB (X:Cx) (Θ:Th):Prop where
 N:X.N=Θ.N
 nd:Θ.N.Nodup
 lc:∀x,look x Θ.sc=some .local ->X.env.scope.names.lookup x=some .local
 ce:∀x,look x Θ.sc=some .cell->X.env.scope.names.lookup x=some .cell/\X.fn x=true
 fe:∀x,look x Θ.sc=some .free->X.env.scope.names.lookup x=some .cell∨X.env.scope.names.lookup x=some .free
 gl:∀x,look x Θ.sc=some .globalImplicit->X.env.scope.names.lookup x=some .globalImplicit
 units:X.A.units+64<cLine
 mg:∀x∈Qkl,X.mg x=none
 cs:∀x i,look x Θ.cs=some i->∃t,X.mg x=some (.int i t)
structure QZ (X:Cx) (Θ:Th):Prop extends CtxB X Θ where
 calm:X.calm=true
 pass:PassesOwn (model X.prog X.w) X.A X.env X.xe
 fns:∀x r,look x Θ.Γ=some r->Qqb X x r
 tr:∀st f,Θ.tr st=some f->S1 X st f
section
theorem Qlh(h:odd x=false):(x == ("__debug__" :Str))=false/\(x == ("__classdict__" :Str))=false/\x≠ "__name__" :=by
 unfold odd at h
 simp only[Bool.or_eq_false_iff,decide_eq_false_iff_not]at h
 exact⟨by simpa using h.1.1,by simpa using h.1.2,h.2⟩
theorem Qk6(ok:CtxB X Θ)(h:Θ.slot x=some i):PE X (.Name x pos) (QjT i):=by
 unfold Th.slot at h
 split at h
 ·rename_i hc
  simp only[Zk,Zau]at hc
  obtain⟨h1,h2,_⟩:=Qlh hc.2
  refine QmR (by rw[ok.N];exact QdR h) ?_ h1 h2
  cases q:look x Θ.sc with
  | none=>rw[q]at hc;cases hc.1
  | some k=>
   rw[q]at hc
   cases k with
   | «local» =>exact .inl (ok.lc x q)
   | cell=>exact .inr (.inl (ok.ce x q).1)
   | free=>exact .inr (ok.fe x q)
   | _=>cases hc.1
 ·cases h
theorem QeH(ok:CtxB X Θ)(h:Θ.Qdd x=some i):X.N[i]? =some x/\Loc X.env.scope x/\(X.fn x=true∨X.env.scope.names.lookup x=some .local):=by
 unfold Th.Qdd at h
 split at h
 ·rename_i hc
  simp only[Zk,Zau]at hc
  refine⟨by rw[ok.N];exact QdR h,?_⟩
  cases q:look x Θ.sc with
  | none=>rw[q]at hc;cases hc.1
  | some k=>
   rw[q]at hc
   cases k with
   | «local» =>exact⟨.inl (ok.lc x q),.inr (ok.lc x q)⟩
   | cell=>exact⟨.inr (ok.ce x q).1,.inl (ok.ce x q).2⟩
   | _=>cases hc.1
 ·cases h
theorem QeI(ok:CtxB X Θ)(h:Θ.gl x=true):Gl X x/\(x == ("__debug__" :Str))=false/\x≠ "__name__" :=by
 unfold Th.gl at h
 simp only[Zk,Zau]at h
 obtain⟨h1,h2,h3⟩:=Qlh h.2
 refine⟨?_,h1,h3⟩
 cases q:look x Θ.sc with
 | none=>rw[q]at h;cases h.1
 | some k=>
  rw[q]at h
  cases k with
  | globalImplicit=>exact ok.gl x q
  | _=>cases h.1
end
noncomputable def isTup:Expr->Bool
 | .Tuple .. =>true
 | _=>false
noncomputable def QmW:Expr->Option Str
 | .Name x _=>some x
 | _=>none
noncomputable def Qgn(Θ:Th):Expr->Option Tg
 | .Name x _=>(Θ.Qdd x).map .nm
 | .Tuple es _ _=>((es.mapM QmW).bind λxs=>xs.mapM Θ.Qdd).map .tp
 | _=>none
noncomputable def QlP:CmpOp->Option (D->D->Option D)
 | .Eq=>some gEq | .NotEq=>some gNe | .Lt=>some gLt | .LtE=>some gLe | .Gt=>some gGt | .GtE=>some gGe
 | .Is=>none | .IsNot=>none
 | .In=>some (gIn false) | .NotIn=>some (gIn true)
noncomputable def QoN(x:Str):Option String:=
 if x= "int" then some "int" else if x= "bool" then some "bool" else if x= "list" then some "list" else if x= "tuple" then some "tuple" else if x= "str" then some "str" else none
noncomputable def inner(Θ:Th)(scope:Scope):Th:={N:=(scope.names.filter λy=>QpF y.2).map (·.1),sc:=scope.names,Γ:=Θ.Γ,cs:=Θ.cs}
noncomputable def Qfx(Θ:Th)(scope:Scope):List (Option Nat):=(inner Θ scope).N.map λx=>if((look x scope.names).map isFree).getD false then posOf x Θ.N else none
noncomputable def QgW(Θ:Th)(scope:Scope)(t:Tg):Bool:=(scope.kind == .function) && decide (inner Θ scope).N.Nodup &&
 (scope.names.all λy=>match y.2 with
  | .cell=>decide (look y.1 scope.names=some .cell)
  | .local =>decide (look y.1 scope.names=some .local)
  | .free=>match look y.1 Θ.sc with
   | some .cell=>true
   | some .free=>true
   | _=>false
  | _=>true) &&
 t.slots.all λj=>match (Qfx Θ scope)[j]? with
  | some (some _)=>false
  | _=>true
noncomputable def Qgd(Θ:Th)(x:Str)(a:Expr):Option Expr:=match a with
 | .Call (.Name y _) [b] [] _=>if x= "list" /\y= "range" /\Θ.gl y=true/\(look y Θ.Γ).isNone=true then some b else none
 | _=>none
noncomputable def setArg(Θ:Th)(x:Str)(a:Expr):Option Expr:=match a with
 | .Call (.Name y _) [b] [] _=>if x= "sorted" /\y= "set" /\Θ.gl y=true/\(look y Θ.Γ).isNone=true then some b else none
 | _=>none
noncomputable def Qtz:List Expr->Bool
 | []=>true | [_]=>true | _=>false
noncomputable def bf1(x:Str)(fa:DE):Option DE:=
 if x= "len" then some (dBf QbF (Qb fa Qf))else
 if x= "list" then some (dList (Qb fa Qf))else
 if x= "min" then some (dBf QcS (Qb fa Qf))else
 if x= "max" then some (dBf QcU (Qb fa Qf))else
 if x= "sum" then some (dBf Qct (Qb fa Qf))else
 if x= "int" then some (dBf Ql7 (Qb fa Qf))else
 if x= "sorted" then some (QiL (Qb fa Qf))else
 if x= "all" then some (dBf QfD (Qb fa Qf))else
 none
noncomputable def bf2(x:Str)(fa fb:DE):Option DE:=
 if x= "min" then some (dBf QdP (Qb fa (Qb fb Qf)))else
 none
mutual
noncomputable def Qi(n:Nat)(Θ:Th)(e:Expr):Option DE:=match n with
 | 0=>none
 | n+1=>match e with
  | .Name x _=>match Θ.slot x with
   | some i=>some (Qa i)
   | none=>if Θ.gl x then(look x Θ.cs).map λi=>dC (.int i)else none
  | .Constant (.int i) _ _=>some (dC (.int i))
  | .Constant (.bool b) _ _=>some (dC (.bl b))
  | .Constant .none _ _=>some (dC .non)
  | .Constant (.str x) _ _=>some (dC (.str x))
  | .BinOp a op b _=>(Qi n Θ a).bind λfa=>(Qi n Θ b).bind λfb=>match op with
   | .Add=>some (QE fa fb)
   | .Mult=>some (Qar fa fb)
   | .Sub=>some (dOp QbK fa fb)
   | .FloorDiv=>some (dOp QlX fa fb)
   | .Mod=>some (dOp QaY fa fb)
   | _=>none
  | .UnaryOp .USub a _=>(Qi n Θ a).map QdM
  | .UnaryOp .Not a _=>(Qi n Θ a).map QoW
  | .BoolOp .And [a] _=>Qi n Θ a
  | .BoolOp .And (a::b::r) p=>(Qi n Θ a).bind λfa=>(Qi n Θ (.BoolOp .And (b::r) p)).map λfb=>Qga fa fb
  | .BoolOp .Or [a] _=>Qi n Θ a
  | .BoolOp .Or (a::b::r) p=>(Qi n Θ a).bind λfa=>(Qi n Θ (.BoolOp .Or (b::r) p)).map λfb=>dOr fa fb
  | .Compare a [op] [b] _=>(Qi n Θ a).bind λfa=>(Qi n Θ b).bind λfb=>(QlP op).map λg=>dOp g fa fb
  | .Tuple es _ _=>(Qa6 n Θ es).map Qa1
  | .List es _=>(Qa6 n Θ es).map Q3
  | .Subscript a (.Slice lo hi none _) _=>(Qi n Θ a).bind λfa=>(Qgu n Θ lo).bind λfl=>(Qgu n Θ hi).map λfh=>Qc4 fa fl fh
  | .Subscript a (.Slice none none (some k) _) _=>(Qi n Θ a).bind λfa=>(Qi n Θ k).map λfk=>QjE fa fk
  | .Subscript a b _=>(Qi n Θ a).bind λfa=>(Qi n Θ b).map λfb=>Qm fa fb
  | .Call (.Name x _) args [] _=>if Θ.gl x then(match look x Θ.Γ with
    | some r=>if r.n<=args.length+r.dfl.length/\args.length<=r.n then(Qa6 n Θ args).map λfs=>Qv r.n r.den (r.dfl.drop (r.dfl.length-(r.n-args.length))) fs else none
    | none=>QiJ n Θ x args)else none
  | .ListComp elt [⟨tg,iter,ifs,0⟩] scope _=>(Qgn (inner Θ scope) tg).bind λt=>if QgW Θ scope t && Qtz ifs then
    (QfI n Θ tg iter).bind λfi=>(Qei n (inner Θ scope) ifs).bind λft=>(Qi n (inner Θ scope) elt).map λfe=>Qab fi t (Qfx Θ scope) ft fe else none
  | _=>none
noncomputable def QiJ(n:Nat)(Θ:Th)(x:Str)(args:List Expr):Option DE:=match n with
  | 0=>none
  | n+1=>match args with
    | [a]=>match Qgd Θ x a with
     | some b=>(Qi n Θ b).map QdN
     | none=>
       match setArg Θ x a with
       | some b=>(Qi n Θ b).map Qfw
       | none=>
         (Qi n Θ a).bind λfa=>bf1 x fa
    | [a,b]=>if x= "isinstance" then(Qi n Θ a).bind λfa=>match b with
        | .Name y _=>if Θ.gl y then(QoN y).map λT=>Qg5 T fa else none
        | _=>none
      else(Qi n Θ a).bind λfa=>(Qi n Θ b).bind λfb=>bf2 x fa fb
    | _=>none
noncomputable def QaX(n:Nat)(Θ:Th)(e:Expr):Option DT:=match n with
 | 0=>none
 | n+1=>match e with
  | .UnaryOp .Not a _=>(QaX n Θ a).map Qc9
  | .BoolOp .And [a] _=>QaX n Θ a
  | .BoolOp .And (a::b::r) p=>(QaX n Θ a).bind λfa=>(QaX n Θ (.BoolOp .And (b::r) p)).map λfb=>Qd4 fa fb
  | .BoolOp .Or [a] _=>QaX n Θ a
  | .BoolOp .Or (a::b::r) p=>(QaX n Θ a).bind λfa=>(QaX n Θ (.BoolOp .Or (b::r) p)).map λfb=>bOr fa fb
  | .Compare a [op] [b] _=>(Qi n Θ a).bind λfa=>(Qi n Θ b).bind λfb=>(QlP op).map λg=>QC (dOp g fa fb)
  | .BoolOp _ _ _=>none
  | .IfExp _ _ _ _=>none
  | .Compare _ _ _ _=>none
  | e=>(Qi n Θ e).map QC
noncomputable def Qei(n:Nat)(Θ:Th)(es:List Expr):Option DT:=match n with
 | 0=>none
 | n+1=>match es with
  | []=>some QcT
  | [c]=>QaX n Θ c
  | _=>none
noncomputable def Qa6(n:Nat)(Θ:Th)(es:List Expr):Option DA:=match n with
 | 0=>none
 | n+1=>match es with
  | []=>some Qf
  | e::es=>(Qi n Θ e).bind λfa=>(Qa6 n Θ es).map λfs=>Qb fa fs
noncomputable def Qgu(n:Nat)(Θ:Th)(e:Option Expr):Option DO:=match n with
 | 0=>none
 | n+1=>match e with
  | none=>some Qdf
  | some e=>(Qi n Θ e).map QbI
noncomputable def QfI(n:Nat)(Θ:Th)(tg e:Expr):Option DI:=match n with
 | 0=>none
 | n+1=>match e with
  | .Call (.Name x _) args [] _=>if Θ.gl x && (look x Θ.Γ).isNone then(match args with
    | [a]=>if x= "range" then(Qi n Θ a).map Qbf else
     if x= "enumerate" then(if isTup tg then(Qi n Θ a).map Qb2 else none)else
     (Qi n Θ e).map QX
    | [a,b,c]=>
     (Qi n Θ e).map QX
    | [a,b]=>
     if x= "range" then(Qi n Θ a).bind λfa=>(Qi n Θ b).map λfb=>Qd8 fa fb else
     if x= "zip" then(if isTup tg then(Qi n Θ a).bind λfa=>(Qi n Θ b).map λfb=>Qfu fa fb else none)else
     (Qi n Θ e).map QX
    | _=>(Qi n Θ e).map QX)else(Qi n Θ e).map QX
  | e=>(Qi n Θ e).map QX
end
theorem Qa4{α β γ:Type}{x:Option α}{y:α->Option β}{k:α->β->γ}{r:γ}(e:(x.bind λa=>(y a).map λb=>k a b)=some r):∃a b,x=some a/\y a=some b/\k a b=r:=by
 refine Qh e λa h1 e=>?_
 obtain⟨b,h2,e⟩:=Ze.mp e
 exact⟨a,b,h1,h2,e⟩
theorem bindR{α β γ:Type}{x:Option α}{y:α->Option β}{k:α->β->γ}{r:γ}{M:γ->Prop}(e:(x.bind λa=>(y a).map λb=>k a b)=some r)(g:∀a b,x=some a->y a=some b->M (k a b)):M r:=by
 obtain⟨a,b,h1,h2,rfl⟩:=Qa4 e
 exact g a b h1 h2
theorem Qak(h:Qi n Θ e=some f)(es:List Expr)(env:Env):starEach (e::es) env=(false,eval e env)::starEach es env:=by
 cases n with
 | zero=>exact nomatch (show(none:Option DE)=some _ from h)
 | succ n=>cases e<;>first | rfl | (exact nomatch (show(none:Option DE)=some _ from h))
theorem Qll:∀{n:Nat}{Θ:Th}{es:List Expr}{f:DA},Qa6 n Θ es=some f->∀(pos:Pos) (env:Env),(backTo pos (starEach es env)).any (·.1)=false
 | 0,_,_,_,h,_,_=>by simp[Qa6]at h
 | n+1,_,[],_,h,_,_=>rfl
 | n+1,_,e::es,_,h,pos,env=>by
  simp only[Qa6]at h
  obtain⟨fa,fs,h1,h2,_⟩:=Qa4 h
  rw[Qak h1]
  have:=Qll h2 pos env
  simpa[backTo]using this
theorem Qlp(h:Qi n Θ b=some f):QfJ b:=by
 cases n with
 | zero=>exact nomatch (show(none:Option DE)=some _ from h)
 | succ n=>cases b<;>first | (intro o i;rfl) | (exact nomatch (show(none:Option DE)=some _ from h))
theorem Qs6(h:Qi n Θ e=some f)(env:Env):∀x,foldedSetIterable e env x=pure x:=by
 cases n with
 | zero=>exact nomatch (show(none:Option DE)=some _ from h)
 | succ n=>cases e<;>first | (intro x;rfl) | (exact nomatch (show(none:Option DE)=some _ from h))
theorem QmX(h:Qi n Θ e=some f)(op:CmpOp):behindInMarks op e=false:=by
 cases n with
 | zero=>exact nomatch (show(none:Option DE)=some _ from h)
 | succ n=>cases e<;>first | rfl | (exact nomatch (show(none:Option DE)=some _ from h))
theorem QcD{env:Env}:∀{names:List (Str×NameKind)}{x:Str},names.lookup x=some .cell→
  (names.map λ(n,k)=>if(k == NameKind.free && env.scope.kind == .function && env.kindOf n == some .cell)then(n,NameKind.cell)else(n,k)).lookup x=some .cell
 | [],_,h=>by simp at h
 | (n,k)::r,x,h=>by
  have ih:= @QcD env r x
  rw[Zu]
  cases hx:x == n with
  | true=>
   simp only[Zw,hx]at h
   cases h
   dsimp only
   split<;>simp[Zw,hx]
  | false=>
   simp only[Zw,hx]at h
   dsimp only
   split<;>(simp only[Zw,hx];exact ih h)
theorem Qje{X:Cx}{Θ:Th}{scope:Scope}{t:Tg}(ok:QZ X Θ)(h:QgW Θ scope t=true):Qc0 X (inner Θ scope).N scope/\QiT X (inner Θ scope).N scope (Qfx Θ scope) t.slots/\∀cl C fp s3 H3,QZ (cxc X (inner Θ scope).N scope cl C fp s3 H3) (inner Θ scope):=by
 unfold QgW at h
 simp only[Zk,decide_eq_true_eq]at h
 obtain⟨⟨⟨h1,h2⟩,h3⟩,h4⟩:=h
 have hk:scope.kind= .function:=by simpa using h1
 have each:∀y∈scope.names,(y.2= .cell->scope.names.lookup y.1=some .cell)/\(y.2= .local ->scope.names.lookup y.1=some .local)/\(y.2= .free->X.env.kindOf y.1=some .cell∨X.env.kindOf y.1=some .free):=λy hy=>by
  have:=ZV.mp h3 y hy
  obtain⟨y,k⟩:=y
  cases k with
  | cell=>exact⟨λ_=>(by rw[← QaS];simpa using this),λz=>(by cases z),λz=>(by cases z)⟩
  | «local» =>exact⟨λz=>(by cases z),λ_=>by rw[← QaS];simpa using this,λz=>by cases z⟩
  | free=>
   refine⟨λz=>(by cases z),λz=>(by cases z),λ_=>?_⟩
   dsimp only at this
   split at this
   ·rename_i q;exact .inl (ok.ce _ q).1
   ·rename_i q;exact ok.fe _ q
   ·cases this
  | _=>exact⟨λz=>(by cases z),λz=>(by cases z),λz=>(by cases z)⟩
 have S:Qc0 X (inner Θ scope).N scope:=⟨hk,λy hy=>(each y hy).1,λy hy=>(each y hy).2.1,λy hy=>(each y hy).2.2⟩
 refine⟨S,⟨by unfold Qfx;simp,λj i e=>?_,λj i e hj=>?_⟩,λcl C fp s3 H3=>⟨⟨rfl,h2,λx e=>?_,λx e=>?_,λx e=>?_,λx e=>?_,ok.units,ok.mg,ok.cs⟩,ok.calm,PassesOwn.never,ok.fns,λ_ _ e=>nomatch e⟩⟩
 ·unfold Qfx at e
  rw[Zo]at e
  cases q:(inner Θ scope).N[j]? with
  | none=>rw[q]at e;cases e
  | some x=>
   rw[q]at e
   simp only[ZO,Option.some.injEq]at e
   split at e
   ·rename_i hf
    cases hl:look x scope.names with
    | none=>rw[hl]at hf;cases hf
    | some k=>
     rw[hl]at hf
     cases k with
     | free=>
      rw[QaS]at hl
      exact⟨x,rfl,hl,by rw[ok.N];exact QdR e,(each (x,.free) (Zag hl)).2.2 rfl⟩
     | _=>cases hf
   ·cases e
 ·have:=ZV.mp h4 j hj
  rw[e]at this
  cases this
 ·have e':scope.names.lookup x=some .local :=by rw[← QaS];exact e
  exact lookup_relabel_local e'
 ·have e':scope.names.lookup x=some .cell:=by rw[← QaS];exact e
  exact⟨QcD e',decide_eq_true e'⟩
 ·have e':scope.names.lookup x=some .free:=by rw[← QaS];exact e
  exact QbG e'
 ·have e':scope.names.lookup x=some .globalImplicit:=by rw[← QaS];exact e
  show(relabel scope X.env).names.lookup x=some .globalImplicit
  unfold relabel
  have gen:∀{names:List (Str×NameKind)},names.lookup x=some .globalImplicit→
    (names.map λ(n,k)=>if(k == NameKind.free && X.env.scope.kind == .function && X.env.kindOf n == some .cell)then(n,NameKind.cell)else(n,k)).lookup x=some .globalImplicit:=by
   intro names
   induction names with
   | nil=>intro z;simp at z
   | cons y r ih=>
    intro z
    obtain⟨n,k⟩:=y
    rw[Zu]
    cases hx:x == n with
    | true=>
     simp only[Zw,hx]at z
     cases z
     simp[Zw,hx]
    | false=>
     simp only[Zw,hx]at z
     dsimp only
     split<;>(simp only[Zw,hx];exact ih z)
  exact gen e'
theorem QiO(ok:QZ X Θ)(h:Qgn Θ tg=some t):SG X tg t:=by
 have hN:X.N.Nodup:=by rw[ok.N];exact ok.nd
 cases tg with
 | Name x pos=>
  change Option.map _ _=_ at h
  refine mapR h λi hi=>?_
  obtain⟨h1,h2,h3⟩:=QeH ok.toCtxB hi
  exact Qqv (QlC hN h1 h2 h3)
 | Tuple es k pos=>
  change Option.map _ _=_ at h
  refine mapR h λis hi=>?_
  refine Qh hi λxs h1 h2=>?_
  have key:∀(es:List Expr) (xs:List Str) (is:List Nat),es.mapM QmW=some xs->xs.mapM Θ.Qdd=some is->PGs X es (QgK is)/\(assignEach es X.env).length=is.length/\(assignEach es X.env).findIdx? (·.1)=none:=by
   intro es
   induction es with
   | nil=>
    intro xs is h1 h2
    cases h1
    cases h2
    exact⟨Qp2,rfl,rfl⟩
   | cons e es ih=>
    intro xs is h1 h2
    rw[List.mapM_cons]at h1
    refine Qh h1 λx hx h1=>?_
    refine Qh h1 λys hy h1=>?_
    cases h1
    rw[List.mapM_cons]at h2
    refine Qh h2 λi hi h2=>?_
    refine Qh h2 λjs hj h2=>?_
    cases h2
    obtain⟨a1,a2,a3⟩:=ih ys js hy hj
    cases e with
    | Name y p=>
     cases hx
     obtain⟨g1,g2,g3⟩:=QeH ok.toCtxB hi
     refine⟨QoB (QlC hN g1 g2 g3) a1 rfl,?_,?_⟩
     ·show(assignEach es X.env).length+1=_
      rw[a2];rfl
     ·show List.findIdx? (·.1) ((false,assign (.Name x p) X.env)::assignEach es X.env)=none
      rw[List.findIdx?_cons]
      simp only[a3];rfl
    | _=>cases hx
  obtain⟨a1,a2,a3⟩:=key es xs is h1 h2
  exact Qsc ok.calm a1 a2 a3
 | _=>exact nomatch (show(none:Option Tg)=some _ from h)
theorem Ql0{f:Int->Int->Bool}:∀a b d,gI (λi j=>some (.bl (f i j))) a b=some d->∃k,d= .bl k:=λa b d h=>by
 obtain⟨i,j,_,_,e⟩:=Qnk h
 cases e
 exact⟨_,rfl⟩
theorem Qm1(ok:QZ X Θ)(h:QlP op=some g):∃r,OpR X (compareOp op) r/\QbL X.K g r/\∀a b d,g a b=some d->∃k,d= .bl k:=by
 cases op<;>cases h
 ·exact⟨_,QsX ok.units,Qug,λa b d h=>by unfold gEq at h;split at h<;>cases h;exact⟨_,rfl⟩⟩
 ·exact⟨_,QrM ok.units,QtY,λa b d h=>by unfold gNe at h;split at h<;>cases h;exact⟨_,rfl⟩⟩
 ·exact⟨_,Qub,Qt6,Ql0⟩
 ·exact⟨_,QtU,QtE,Ql0⟩
 ·exact⟨_,QtF,QtN,Ql0⟩
 ·exact⟨_,Qua,QtD,Ql0⟩
 ·exact⟨_,QsT ok.units,Qpx,λa b d h=>by unfold gIn at h;split at h<;>first | (split at h<;>cases h;exact⟨_,rfl⟩) | cases h⟩
 ·exact⟨_,Qmx ok.units,Qpx,λa b d h=>by unfold gIn at h;split at h<;>first | (split at h<;>cases h;exact⟨_,rfl⟩) | cases h⟩
structure QgL (n:Nat):Prop where
 E:∀X Θ e f,QZ X Θ->Qi n Θ e=some f->SE X e f
 B:∀X Θ x args f p pos,QZ X Θ->Θ.gl x=true->QiJ n Θ x args=some f->SE X (.Call (.Name x p) args [] pos) f
 T:∀X Θ e f,QZ X Θ->QaX n Θ e=some f->ST X e f
 Ts:∀X Θ e f,QZ X Θ->Qei n Θ e=some f->Qku X e f
 A:∀X Θ e f,QZ X Θ->Qa6 n Θ e=some f->SA X e f
 O:∀X Θ e f,QZ X Θ->Qgu n Θ e=some f->SO X e f
 I:∀X Θ tg e f,QZ X Θ->QfI n Θ tg e=some f->SI X tg e f/\∀x,foldedSetIterable e X.env x=pure x
theorem callArgs{X:Cx}{n:Nat}{Θ:Th}{es:List Expr}{fs:DA}(h:Qa6 n Θ es=some fs){e:Expr}{es':List Expr}(he:es=e::es')(pos:Pos):starEach (e::es') X.env=(false,eval e X.env)::starEach es' X.env/\(backTo pos (starEach es' X.env)).any (·.1)=false:=by
 subst he
 cases n with
 | zero=>simp[Qa6]at h
 | succ n=>
  simp only[Qa6]at h
  obtain⟨fa,fs',h1,h2,_⟩:=Qa4 h
  exact⟨Qak h1 es' X.env,Qll h2 pos X.env⟩
theorem QtR(ih:QgL n):∀X Θ e f,QZ X Θ->Qi (n+1) Θ e=some f->SE X e f:=by
  intro X Θ e f ok h
  cases e with
  | Name x pos=>
    (conv at h=>lhs;whnf)
    cases q:Θ.slot x with
    | some i=>rw[q]at h;cases h;exact Qr1 (Qk6 ok.toCtxB q)
    | none=>
      rw[q]at h
      dsimp only at h
      split at h
      · rename_i hg
        refine mapR h λi hi=>?_
        obtain⟨g1,g2,g3⟩:=QeI ok.toCtxB hg
        obtain⟨t,hm⟩:=ok.cs x i hi
        exact QjA (v:= .int i) (Qrl g1 hm ⟨t,rfl⟩ g2) (λ_ _=> .int_mk) rfl
      · cases h
  | Constant c k pos=>
    cases c with
    | int i=>(conv at h=>lhs;whnf);cases h;exact QjA Qsp (λ_ _=> .int_mk) rfl
    | bool b=>(conv at h=>lhs;whnf);cases h;exact QjA Quh (λ_ _=> .Qcd) rfl
    | none=>(conv at h=>lhs;whnf);cases h;exact QjA QrY (λ_ _=> .Qj5) rfl
    | str x=>(conv at h=>lhs;whnf);cases h;exact QjA QsQ (λ_ _=> .str_mk) rfl
    | _=>exact nomatch (show(none:Option DE)=some _ from h)
  | BinOp a op b pos=>
    (conv at h=>lhs;whnf)
    refine Qh h λfa h1 h=>?_
    refine Qh h λfb h2 h=>?_
    have ha:=ih.E X Θ a fa ok h1
    have hb:=ih.E X Θ b fb ok h2
    cases op with
    | Add=>cases h;exact QsC ha hb
    | Mult=>cases h;exact QrL ha hb
    | Sub=>cases h;exact Qme Qsq QnM ha hb
    | FloorDiv=>cases h;exact Qme QpQ Qs1 ha hb
    | Mod=>cases h;exact Qme QpW Qr7 ha hb
    | _=>cases h
  | UnaryOp op a pos=>
    cases op with
    | USub=>
      (conv at h=>lhs;whnf)
      refine mapR h λfa h1=>?_
      exact QrC (ih.E X Θ a fa ok h1)
    | Not=>
      (conv at h=>lhs;whnf)
      refine mapR h λfa h1=>?_
      exact Qsy (ih.E X Θ a fa ok h1)
    | _=>exact nomatch (show(none:Option DE)=some _ from h)
  | BoolOp op es pos=>
    cases op with
    | And=>
      match es,h with
      | [],h=>exact nomatch (show(none:Option DE)=some _ from h)
      | [a],h=>(conv at h=>lhs;whnf);exact QnI (ih.E X Θ a f ok h)
      | a::b::r,h=>
        (conv at h=>lhs;whnf)
        refine bindR h λfa fb h1 h2=>?_
        exact Qs8 (ih.E X Θ a fa ok h1) (ih.E X Θ _ fb ok h2)
    | Or=>
      match es,h with
      | [],h=>exact nomatch (show(none:Option DE)=some _ from h)
      | [a],h=>(conv at h=>lhs;whnf);exact QnI (ih.E X Θ a f ok h)
      | a::b::r,h=>
        (conv at h=>lhs;whnf)
        refine bindR h λfa fb h1 h2=>?_
        exact Qud (ih.E X Θ a fa ok h1) (ih.E X Θ _ fb ok h2)
  | Compare a ops bs pos=>
    match ops,bs,h with
    | [op],[b],h=>
      (conv at h=>lhs;whnf)
      refine Qh h λfa h1 h=>?_
      refine bindR h λfb g h2 h3=>?_
      obtain⟨r,o1,o2,_⟩:=Qm1 ok h3
      exact Qs0 o1 o2 (ih.E X Θ a fa ok h1) (ih.E X Θ b fb ok h2) (QmX h2 op)
    | [],_,h=>exact nomatch (show(none:Option DE)=some _ from h)
    | [_],[],h=>exact nomatch (show(none:Option DE)=some _ from h)
    | [_],_::_::_,h=>exact nomatch (show(none:Option DE)=some _ from h)
    | _::_::_,_,h=>exact nomatch (show(none:Option DE)=some _ from h)
  | Tuple es k pos=>
    (conv at h=>lhs;whnf)
    refine mapR h λfs h1=>?_
    exact Qsn (ih.A X Θ es fs ok h1)
  | List es pos=>
    (conv at h=>lhs;whnf)
    refine mapR h λfs h1=>?_
    exact QrW (ih.A X Θ es fs ok h1)
  | Subscript a b pos=>
    by_cases hb:∃lo hi p2,b= .Slice lo hi none p2
    · obtain⟨lo,hi,p2,rfl⟩:=hb
      (conv at h=>lhs;whnf)
      refine Qh h λfa h1 h=>?_
      refine bindR h λfl fh h2 h3=>?_
      exact QsL (ih.E X Θ a fa ok h1) (ih.O X Θ lo fl ok h2) (ih.O X Θ hi fh ok h3)
    · by_cases hk:∃k p2,b= .Slice none none (some k) p2
      · obtain⟨k,p2,rfl⟩:=hk
        (conv at h=>lhs;whnf)
        refine bindR h λfa fk h1 h2=>?_
        exact Qtl (ih.E X Θ a fa ok h1) (ih.E X Θ k fk ok h2)
      · have h':((Qi n Θ a).bind λfa=>(Qi n Θ b).map λfb=>Qm fa fb)=some f:=by
          cases b<;>first
            | (exact h)
            | (rename_i lo hi st p2;cases lo<;>cases hi<;>cases st<;>first | (exact absurd ⟨_,_,_,rfl⟩ hb) | (exact absurd ⟨_,_,rfl⟩ hk) | (exact h))
        refine bindR h' λfa fb h1 h2=>?_
        exact QrZ (ih.E X Θ a fa ok h1) (ih.E X Θ b fb ok h2) (Qlp h2)
  | Call fn args kws pos=>
    cases fn with
    | Name x p=>
     cases kws with
     | cons k ks=>exact nomatch (show(none:Option DE)=some _ from h)
     | nil=>
      have h:(if Θ.gl x then(match look x Θ.Γ with | some r=>if r.n<=args.length+r.dfl.length/\args.length<=r.n then(Qa6 n Θ args).map λfs=>Qv r.n r.den (r.dfl.drop (r.dfl.length-(r.n-args.length))) fs else none | none=>QiJ n Θ x args)else none)=some f:=h
      split at h
      · rename_i hg
        obtain⟨g1,g2,g3⟩:=QeI ok.toCtxB hg
        split at h
        · rename_i r hr
          split at h
          · rename_i hn
            refine mapR h λfs h1=>?_
            obtain⟨k,fa,fd,ps,F1,F2,F3,F4,F5⟩:=ok.fns x r hr
            obtain⟨ds,dvs,b1,b2,b3⟩:=F5 (r.n-args.length) (by omega)
            cases args with
            | nil=>
              cases n with
              | zero=>simp[Qa6]at h1
              | succ n=>
                simp only[Qa6]at h1
                cases h1
                exact Qoe F1 F2 g1 F3 F4 b1 b2 b3 g2
            | cons e es=>
              obtain⟨s1,s2⟩:=callArgs (X:=X) h1 rfl pos
              exact QqU F1 F2 g1 F3 F4 b1 b2 b3 (ih.A X Θ _ fs ok h1) g2 s1 s2
          · cases h
        · exact ih.B X Θ x args f p pos ok hg h
      · cases h
    | _=>exact nomatch (show(none:Option DE)=some _ from h)
  | ListComp elt gens scope pos=>
    match gens,h with
    | [⟨tg,iter,ifs,k⟩],h=>
      by_cases hk:k=0
      · subst hk
        (conv at h=>lhs;whnf)
        refine Qh h λt ht h=>?_
        split at h
        · rename_i hc
          simp only[Zk]at hc
          refine Qh h λfi h1 h=>?_
          refine bindR h λft fe h2 h3=>?_
          obtain⟨S,cap,inn⟩:=Qje ok hc.1
          obtain⟨i1,i2⟩:=ih.I X Θ tg iter fi ok h1
          exact QqO ok.calm S i1 cap (λcl C fp s3 H3=>⟨QiO (inn cl C fp s3 H3) ht,ih.Ts _ _ ifs ft (inn cl C fp s3 H3) h2,ih.E _ _ elt fe (inn cl C fp s3 H3) h3⟩) i2
        · cases h
      · exfalso
        cases k with
        | ofNat k=>
          cases k with
          | zero=>exact hk rfl
          | succ k=>exact nomatch (show(none:Option DE)=some _ from h)
        | negSucc k=>exact nomatch (show(none:Option DE)=some _ from h)
    | [],h=>exact nomatch (show(none:Option DE)=some _ from h)
    | ⟨_,_,_,.ofNat 0⟩::_::_,h=>exact nomatch (show(none:Option DE)=some _ from h)
    | ⟨_,_,_,.ofNat (k+1)⟩::_::_,h=>exact nomatch (show(none:Option DE)=some _ from h)
    | ⟨_,_,_,.negSucc k⟩::_::_,h=>exact nomatch (show(none:Option DE)=some _ from h)
  | _=>exact nomatch (show(none:Option DE)=some _ from h)
theorem QsG(ok:QZ X Θ)(g1:Gl X x)(sa:SA X [a] (Qb fa Qf))(st:starEach [a] X.env=(false,eval a X.env)::starEach [] X.env)(h:bf1 x fa=some f):SE X (.Call (.Name x p) [a] [] pos) f:=by
 unfold bf1 at h
 by_cases e:x= "len"
 ·rw[if_pos e]at h;cases h;subst e;have hm:=ok.mg "len" (by decide+kernel)
  exact Qfs QjM Qtf g1 hm PySem.boot_len sa (by decide) (by decide) st rfl
 rw[if_neg e]at h;clear e
 by_cases e:x= "list"
 ·rw[if_pos e]at h;cases h;subst e;have hm:=ok.mg "list" (by decide+kernel)
  exact QqX g1 hm sa st rfl
 rw[if_neg e]at h;clear e
 by_cases e:x= "min"
 ·rw[if_pos e]at h;cases h;subst e;have hm:=ok.mg "min" (by decide+kernel)
  exact Qfs (QnN ok.calm) QqT g1 hm PyProof.Rows.boot_min sa (by decide) (by decide) st rfl
 rw[if_neg e]at h;clear e
 by_cases e:x= "max"
 ·rw[if_pos e]at h;cases h;subst e;have hm:=ok.mg "max" (by decide+kernel)
  exact Qfs (QmH ok.calm) Qrg g1 hm PyProof.Rows.boot_max sa (by decide) (by decide) st rfl
 rw[if_neg e]at h;clear e
 by_cases e:x= "sum"
 ·rw[if_pos e]at h;cases h;subst e;have hm:=ok.mg "sum" (by decide+kernel)
  exact Qfs (QmN ok.calm) Qrc g1 hm PyProof.Rows.boot_sum sa (by decide) (by decide) st rfl
 rw[if_neg e]at h;clear e
 by_cases e:x= "int"
 ·rw[if_pos e]at h;cases h;subst e;have hm:=ok.mg "int" (by decide+kernel)
  exact QrT Qnm QrH g1 hm PyProof.Rows.boot_int sa (by decide) (by decide) st rfl
 rw[if_neg e]at h;clear e
 by_cases e:x= "sorted"
 ·rw[if_pos e]at h;cases h;subst e;have hm:=ok.mg "sorted" (by decide+kernel)
  exact QqI g1 hm sa st rfl
 rw[if_neg e]at h;clear e
 by_cases e:x= "all"
 ·rw[if_pos e]at h;cases h;subst e;have hm:=ok.mg "all" (by decide+kernel)
  exact Qfs (QmY ok.calm) Qq6 g1 hm PyProof.Rows.boot_all sa (by decide) (by decide) st rfl
 rw[if_neg e]at h;clear e
 cases h
theorem Qr5(ok:QZ X Θ)(g1:Gl X x)(sa:SA X [a,b] (Qb fa (Qb fb Qf)))(st:starEach [a,b] X.env=(false,eval a X.env)::starEach [b] X.env)(pl:(backTo pos (starEach [b] X.env)).any (·.1)=false)(h:bf2 x fa fb=some f):SE X (.Call (.Name x p) [a,b] [] pos) f:=by
 unfold bf2 at h
 by_cases e:x= "min"
 ·rw[if_pos e]at h;cases h;subst e;have hm:=ok.mg "min" (by decide+kernel)
  exact Qfs (Qnn ok.calm) Qq9 g1 hm PyProof.Rows.boot_min sa (by decide) (by decide) st pl
 rw[if_neg e]at h;clear e
 cases h
theorem QtK(ih:QgL n):∀X Θ x args f p pos,QZ X Θ->Θ.gl x=true->QiJ (n+1) Θ x args=some f->SE X (.Call (.Name x p) args [] pos) f:=by
 intro X Θ x args f p pos ok hg h
 obtain⟨g1,g2,g3⟩:=QeI ok.toCtxB hg
 match args,h with
 | [],h=>exact nomatch (show(none:Option DE)=some _ from h)
 | [a],h=>
  change(match Qgd Θ x a with | some b=>(Qi n Θ b).map QdN | none=>_)=some f at h
  split at h
  ·rename_i b hr
   refine mapR h λfb h1=>?_
   unfold Qgd at hr
   split at hr
   ·rename_i y p' b' pos'
    split at hr
    ·rename_i hc
     cases hr
     obtain⟨c1,c2,c3,_⟩:=hc
     subst c1
     subst c2
     obtain⟨y1,y2,y3⟩:=QeI ok.toCtxB c3
     exact QrA g1 (ok.mg _ (by decide+kernel)) y1 (ok.mg _ (by decide+kernel)) ok.calm (ih.E X Θ b fb ok h1) (Qak h1 [] X.env)
    ·cases hr
   ·cases hr
  change(match setArg Θ x a with | some b=>(Qi n Θ b).map Qfw | none=>_)=some f at h
  split at h
  ·rename_i b hr
   refine mapR h λfb h1=>?_
   unfold setArg at hr
   split at hr
   ·rename_i y p' b' pos'
    split at hr
    ·rename_i hc
     cases hr
     obtain⟨c1,c2,c3,_⟩:=hc
     subst c1
     subst c2
     obtain⟨y1,y2,y3⟩:=QeI ok.toCtxB c3
     exact Qp0 g1 (ok.mg _ (by decide+kernel)) y1 (ok.mg _ (by decide+kernel)) ok.calm (ih.E X Θ b fb ok h1) (Qak h1 [] X.env)
    ·cases hr
   ·cases hr
  change((Qi n Θ a).bind λfa=>bf1 x fa)=some f at h
  refine Qh h λfa h1 h=>?_
  have ha:=ih.E X Θ a fa ok h1
  have st:=Qak h1 [] X.env
  exact QsG ok g1 (QfE ha QkC st) st h
 | [a,b],h=>
  change(if x= "isinstance" then(Qi n Θ a).bind λfa=>(match b with | .Name y _=>if Θ.gl y then(QoN y).map λT=>Qg5 T fa else none | _=>none)else(Qi n Θ a).bind λfa=>(Qi n Θ b).bind λfb=>bf2 x fa fb)=some f at h
  split at h
  ·rename_i e
   refine Qh h λfa h1 h=>?_
   have ha:=ih.E X Θ a fa ok h1
   split at h
   ·rename_i y p2
    split at h
    ·rename_i hy
     refine mapR h λT hT=>?_
     obtain⟨y1,y2,y3⟩:=QeI ok.toCtxB hy
     clear h
     subst e
     refine Qsl g1 (ok.mg _ (by decide+kernel)) ha ?_ (Qak h1 _ X.env)
     unfold QoN at hT
     split at hT
     ·rename_i e;cases hT;subst e
      exact Qd9 y1 (ok.mg _ (by decide+kernel)) PyProof.Rows.boot_int rfl
     ·split at hT
      ·rename_i e;cases hT;subst e
       exact Qd9 y1 (ok.mg _ (by decide+kernel)) PyProof.Rows.boot_bool rfl
      ·split at hT
       ·rename_i e;cases hT;subst e
        exact Qd9 y1 (ok.mg _ (by decide+kernel)) ZbR rfl
       ·split at hT
        ·rename_i e;cases hT;subst e
         exact Qd9 y1 (ok.mg _ (by decide+kernel)) PyProof.Rows.boot_tuple rfl
        ·split at hT
         ·rename_i e;cases hT;subst e
          exact Qd9 y1 (ok.mg _ (by decide+kernel)) PyProof.Rows.boot_str rfl
         ·cases hT
    ·cases h
   ·cases h
  ·refine Qh h λfa h1 h=>?_
   refine Qh h λfb h2 h=>?_
   have ha:=ih.E X Θ a fa ok h1
   have hb:=ih.E X Θ b fb ok h2
   have sb:SA X [b] (Qb fb Qf):=QfE hb QkC (Qak h2 [] X.env)
   have sa:SA X [a,b] (Qb fa (Qb fb Qf)):=QfE ha sb (Qak h1 [b] X.env)
   have pl:(backTo pos (starEach [b] X.env)).any (·.1)=false:=by rw[Qak h2 [] X.env];rfl
   exact Qr5 ok g1 sa (Qak h1 [b] X.env) pl h
 | _::_::_::_,h=>exact nomatch (show(none:Option DE)=some _ from h)
theorem Qty{n:Nat}(ih:QgL n):∀X Θ e f,QZ X Θ->QaX (n+1) Θ e=some f->ST X e f:=by
 intro X Θ e f ok h
 have dflt:(Qi n Θ e).map QC=some f->(∀whole,isTrue e X.env whole=(do let v ← whole;standAt e.pos;holding [v] (truthy v)))->ST X e f:=λh he=>by
  refine mapR h λfa h1=>?_
  exact QsV (ih.E X Θ e fa ok h1) he
 cases e with
 | UnaryOp op a pos=>
  cases op with
  | Not=>
   change(QaX n Θ a).map Qc9=some f at h
   refine mapR h λfa h1=>?_
   exact QsM (ih.T X Θ a fa ok h1)
  | _=>exact dflt h λ_=>rfl
 | BoolOp op es pos=>
  cases op with
  | And=>
   match es,h with
   | [],h=>exact nomatch (show(none:Option DT)=some _ from h)
   | [a],h=>exact(Qrr (ih.T X Θ a f ok h)).st
   | a::b::r,h=>
    change((QaX n Θ a).bind λfa=>(QaX n Θ (.BoolOp .And (b::r) pos)).map λfb=>Qd4 fa fb)=some f at h
    refine bindR h λfa fb h1 h2=>?_
    have hb:=ih.T X Θ _ fb ok h2
    exact(Qsh (ih.T X Θ a fa ok h1) (λH0 A0 wh pins s σ H Q I q=>by have:=hb H0 A0 pins s σ H Q I q;exact this)).st
  | Or=>
   match es,h with
   | [],h=>exact nomatch (show(none:Option DT)=some _ from h)
   | [a],h=>exact(Qtb (ih.T X Θ a f ok h)).st
   | a::b::r,h=>
    change((QaX n Θ a).bind λfa=>(QaX n Θ (.BoolOp .Or (b::r) pos)).map λfb=>bOr fa fb)=some f at h
    refine bindR h λfa fb h1 h2=>?_
    have hb:=ih.T X Θ _ fb ok h2
    exact(QtT (ih.T X Θ a fa ok h1) (λH0 A0 wh pins s σ H Q I q=>by have:=hb H0 A0 pins s σ H Q I q;exact this)).st
 | Compare a ops bs pos=>
  match ops,bs,h with
  | [op],[b],h=>
   change((Qi n Θ a).bind λfa=>(Qi n Θ b).bind λfb=>(QlP op).map λg=>QC (dOp g fa fb))=some f at h
   refine Qh h λfa h1 h=>?_
   refine bindR h λfb g h2 h3=>?_
   obtain⟨r,o1,o2,o3⟩:=Qm1 ok h3
   exact Qs4 o1 o2 o3 (ih.E X Θ a fa ok h1) (ih.E X Θ b fb ok h2) (QmX h2 op)
  | [],_,h=>exact nomatch (show(none:Option DT)=some _ from h)
  | [_],[],h=>exact nomatch (show(none:Option DT)=some _ from h)
  | [_],_::_::_,h=>exact nomatch (show(none:Option DT)=some _ from h)
  | _::_::_,_,h=>exact nomatch (show(none:Option DT)=some _ from h)
 | IfExp c a b pos=>exact nomatch (show(none:Option DT)=some _ from h)
 | _=>exact dflt h λ_=>rfl
theorem Quc(ih:QgL n):∀X Θ tg e f,QZ X Θ->QfI (n+1) Θ tg e=some f->SI X tg e f/\∀x,foldedSetIterable e X.env x=pure x:=by
 intro X Θ tg e f ok h
 have dflt:(Qi n Θ e).map QX=some f->SI X tg e f/\∀x,foldedSetIterable e X.env x=pure x:=λh=>by
  obtain⟨fa,h1,rfl⟩:=Ze.mp h
  exact⟨Qs5 (ih.E X Θ e fa ok h1),Qs6 h1 X.env⟩
 cases e with
 | Call fn args kws pos=>
  cases fn with
  | Name x p=>
   cases kws with
   | cons k ks=>exact dflt h
   | nil=>
    change @ite _ _ _ _ _=_ at h
    split at h
    ·rename_i hg
     simp only[Zk]at hg
     obtain⟨g1,g2,g3⟩:=QeI ok.toCtxB hg.1
     match args,h with
     | [],h=>exact dflt h
     | [a],h=>
      dsimp only at h
      by_cases er:x= "range"
      ·rw[if_pos er]at h
       obtain⟨fa,h1,rfl⟩:=Ze.mp h
       subst er
       exact⟨QmL g1 (ok.mg _ (by decide+kernel)) (ih.E X Θ a fa ok h1) (Qak h1 [] X.env),λ_=>rfl⟩
      rw[if_neg er]at h
      by_cases ez:x= "enumerate"
      ·rw[if_pos ez]at h
       split at h
       ·rename_i ht
        obtain⟨fa,h1,rfl⟩:=Ze.mp h
        subst ez
        cases tg with
        | Tuple es k tp=>exact⟨Qp4 g1 (ok.mg _ (by decide+kernel)) (ih.E X Θ a fa ok h1) (Qak h1 [] X.env),λ_=>rfl⟩
        | _=>exact nomatch (show false=true from ht)
       ·cases h
      rw[if_neg ez]at h
      exact dflt h
     | [a,b],h=>
      dsimp only at h
      by_cases er:x= "range"
      ·rw[if_pos er]at h
       obtain⟨fa,fb,h1,h2,rfl⟩:=Qa4 h
       subst er
       exact⟨Qmz g1 (ok.mg _ (by decide+kernel)) (ih.E X Θ a fa ok h1) (ih.E X Θ b fb ok h2) (by rw[Qak h1 [b] X.env,Qak h2 [] X.env];rfl) (Qak h2 [] X.env),λ_=>rfl⟩
      rw[if_neg er]at h
      by_cases ez:x= "zip"
      ·rw[if_pos ez]at h
       split at h
       ·rename_i ht
        obtain⟨fa,fb,h1,h2,rfl⟩:=Qa4 h
        subst ez
        cases tg with
        | Tuple es k tp=>exact⟨Qso g1 (ok.mg _ (by decide+kernel)) (ih.E X Θ a fa ok h1) (ih.E X Θ b fb ok h2) (by rw[Qak h1 [b] X.env,Qak h2 [] X.env];rfl) (Qak h2 [] X.env),λ_=>rfl⟩
        | _=>exact nomatch (show false=true from ht)
       ·cases h
      rw[if_neg ez]at h
      exact dflt h
     | [a,b,c],h=>
      dsimp only at h
      exact dflt h
     | _::_::_::_::_,h=>exact dflt h
    ·exact dflt h
  | _=>exact dflt h
 | _=>exact dflt h
theorem Qb4:∀n,QgL n
 | 0=>⟨λ_ _ _ _ _ h=>(nomatch (show(none:Option DE)=some _ from h)),λ_ _ _ _ _ _ _ _ _ h=>(nomatch (show(none:Option _)=some _ from h)),λ_ _ _ _ _ h=>(nomatch (show(none:Option _)=some _ from h)),λ_ _ _ _ _ h=>(nomatch (show(none:Option _)=some _ from h)),λ_ _ _ _ _ h=>(nomatch (show(none:Option _)=some _ from h)),λ_ _ _ _ _ h=>(nomatch (show(none:Option _)=some _ from h)),λ_ _ _ _ _ _ h=>(nomatch (show(none:Option _)=some _ from h))⟩
 | n+1=>by
  have ih:=Qb4 n
  refine⟨QtR ih,QtK ih,Qty ih,λX Θ e f ok h=>?_,λX Θ e f ok h=>?_,λX Θ e f ok h=>?_,Quc ih⟩
  ·match e,h with
   | [],h=>simp only[Qei]at h;cases h;exact QoF
   | [c],h=>simp only[Qei]at h;exact Qn8 (ih.T X Θ c f ok h)
   | _::_::_,h=>simp only[Qei]at h;cases h
  ·match e,h with
   | [],h=>simp only[Qa6]at h;cases h;exact QkC
   | e::es,h=>
    simp only[Qa6]at h
    refine bindR h λfa fs h1 h2=>?_
    exact QfE (ih.E X Θ e fa ok h1) (ih.A X Θ es fs ok h2) (Qak h1 es X.env)
  ·match e,h with
   | none,h=>simp only[Qgu]at h;cases h;exact QqW
   | some e,h=>
    simp only[Qgu]at h
    refine mapR h λfa h1=>?_
    exact Qrw (ih.E X Θ e fa ok h1)
section
noncomputable def QH:DS:=λ_=>none
theorem Qoo:S1 X st QH:=λH0 A0=>Qpq.mono λE σ H ⟨ρ,hs,F,o,rel,e,q⟩=>by cases e
noncomputable def Qgp(t:Tg)(fa:DE):DS:=λρ=>(fa ρ).bind λr=>(Qa5 t r.d (QbP r.norm.M ρ)).map .nx
theorem Qqt(he:SE X e fa)(hg:SG X tg t)(hs:swapsWithSole [tg] e pos.line X.env=pure false)(hw:swappedStores [tg] e X.env=pure none)(h1:(assignEach [tg] X.env).map (·.2)=[assign tg X.env]):
  S1 X (.Assign [tg] e pos) (Qgp t fa):=λH0 A0=>(Qnt (he H0 A0) (hg H0 A0) hs hw h1).mono λE σ H=>exK λρ hs F o rel e q=>by
 refine Qh e λr e1 e=>?_
 obtain⟨ρ',e2,rfl⟩:=Ze.mp e
 refine⟨ρ,hs,F,r,rel,e1,λv H' G p=>?_⟩
 have p':=p.norm
 have rp:=p'.rp
 rw[r.Qco]at rp
 exact⟨QbP r.norm.M ρ,hs,F,r.d,G,ρ',(rel.ext p'.same).weak (Qbx _ _),rp,Shr.of rel p'.src,e2,λσ' F' rel' _ _=>q _ _ F' rel'⟩
theorem Qqr(hN:X.N.Nodup)(hx1:X.N[i]? =some x)(hx:Loc X.env.scope x)(hf:X.fn x=true∨X.env.scope.names.lookup x=some .local)
  (hcalm:X.calm=true) (S:Qc0 X N' scope) (hi:SI X tg iter fi) (hcap:QiT X N' scope cap t.slots)
  (hin:∀cl C fp s3 H3,SG (cxc X N' scope cl C fp s3 H3) tg t/\Qku (cxc X N' scope cl C fp s3 H3) ifs ft/\SE (cxc X N' scope cl C fp s3 H3) elt fe) (hs:∀x,foldedSetIterable iter X.env x=pure x):
  S1 X (.Assign [.Name x pos'] (.ListComp elt [⟨tg,iter,ifs,0⟩] scope pos) spos) (Qy i (Qab fi t cap ft fe)):=
 Qja λH0 A0=>(QqG hN hx1 hx hf hcalm S (hi H0 A0) (λcl C fp s3 H3=>⟨(hin cl C fp s3 H3).1 _ _,(hin cl C fp s3 H3).2.1 _ _,(hin cl C fp s3 H3).2.2 _ _⟩) hs).mono λE σ H h=>Qh7 hcap h
end
end HS
namespace HS
open PySem PySem.Spec L2 PyProof.Rows
section
variable {X:Cx}{a b e:Expr}{fa fb:DE}{pf:DP}{x:Nat}{pos apos:Pos}
theorem Qre{X:Cx}{H:Hp}{ds:List D}{w:V}{Gm:List Addr}(h:Rp X.K H (.lst ds) w Gm):tyV X.K "list" w H:=by
 obtain⟨l,ws,L,rfl,hl,_⟩:=h.lst_inv
 exact .inl ⟨rfl,ws,QI hl⟩
theorem QK.unit{K:PySem.W.Frag}{ρ:En}{F:Nat->List Addr}{H:Hp}:QK K ρ F H H ⟨.non,true,[]⟩ .non []:= .flat (Qz.refl _) .Qj5
noncomputable def QeE(k:Int):List Int->Option Nat
 | []=>none
 | a::r=>if a=k then some 0 else(QeE k r).map (· +1)
theorem Qpt:∀{us:List Value}{ns:List Int},IntsAre us ns->PySem.W.kf_ints us=true/\PySem.W.kf_at k us=QeE k ns
 | _,_,.nil=>⟨rfl,rfl⟩
 | _,_,.cons n t h=>by
  obtain⟨h1,h2⟩:=Qpt h
  refine⟨h1,?_⟩
  unfold PySem.W.kf_at QeE
  rw[h2]
  by_cases e:n=k
  ·subst e
   rw[if_pos rfl]
   have:PyProof.Rows.isInt n (.int n t)=true:=by show(n == n)=true;simp
   rw[this];rfl
  ·rw[if_neg e]
   have:PyProof.Rows.isInt k (.int n t)=false:=by show(n == k)=false;simpa using e
   rw[this]
   cases QeE k _<;>rfl
theorem QeN{α β:Type}(f:α->β):∀(l:List α) (j:Nat),(l.eraseIdx j).map f=(l.map f).eraseIdx j
 | [],_=>rfl
 | a::l,0=>rfl
 | a::l,j+1=>by simp only[Zba,Zu,QeN f l j]
noncomputable def Qtn:V->List V->Hp->VK->Prop:=λx vs H Q=>∃l ns i j,x= .ref l/\vs=[.int i]/\H l=some (.lst (ns.map V.int))/\QeE i ns=some j/\Q .non (upd H l (.lst ((ns.eraseIdx j).map V.int)))
theorem Qsd:MtM X "list.remove" Qtn:=by
 intro pins s σ H x vs v us Q I rx rv h
 obtain⟨l,ns,i,j,rfl,rfl,hH,hj,q⟩:=h
 cases rx
 obtain⟨u,rfl,ru⟩:=rv.one
 obtain⟨t,rfl⟩:=ru
 obtain⟨z,its,n,r,hl,e⟩:=I.QoE hH
 obtain⟨h1,h2⟩:=Qpt (QY r)
 rw[hj]at h2
 obtain⟨a,b,c⟩:=PySem.W.kf_at_spec h2
 have hz:its.toArray.size<=sizeLine:=by rw[Zs];omega
 refine call_meets ZbH ⟨_,e,rfl⟩ PySem.F.entry_list_remove (PySem.F.args_list_remove_2 _ _)
  (MeetsSeq.list_remove l its.toArray n (.int i t) (PyProof.Rows.isInt i) (λy hy=>PySem.W.kf_eq h1 y (by simpa using hy)) j (by simpa using a) (by simpa using b) (λk hk hlt=>by simpa using c k (by simpa using hk) hlt) hz) ⟨e,?_⟩
 refine⟨.non,_,I.Qsb (its':=its.eraseIdx j) hH e ?_ ?_ ?_,rfl,q⟩
 ·show its.toArray.eraseIdxIfInBounds j=(its.eraseIdx j).toArray
  rw[List.eraseIdxIfInBounds_toArray]
 ·rw[QeN];exact r.eraseIdx j
 ·have:=Qe6 ns j
  rw[Zi]at *
  omega
noncomputable def Qhh(x:Nat)(pf:DP)(fa:DE):DS:=λρ=>match ρ[x]? with
 | some (some (d,true))=>(pf ρ).bind λis=>(fa ρ).bind λr0=>match Qa3 d is,r0.d with
  | some (.lst ds),.int i=>(QaI ds).bind λns=>(QeE i ns).map λj=> .nx (ρ.set x (some (Qao is d (.lst ((ns.eraseIdx j).map .int)),true)))
  | _,_=>none
 | _=>none
theorem QfQ:∀ns:List Int,QJ (ns.map D.int)=true
 | []=>rfl
 | n::ns=>by simp only[Zu,QJ,QfQ ns];rfl
theorem Rps.QlD{K:PySem.W.Frag}{H:Hp}:∀ns:List Int,Rps K H (ns.map .int) (ns.map V.int) []
 | []=>by simp[Rps]
 | n::ns=>by
  simp only[Zu,Rps]
  exact⟨_,_,[],[],rfl,rfl,.int_mk,Rps.QlD ns⟩
theorem QoO{H0:Hp}{A0:List Addr}{E:Ends}{σ:L2.St}{H:Hp}:tS X.K H0 A0 (Qhh x pf fa) E σ H->QiI (tBM X.K "list" Qtn (tP X.K H0 A0 x pf) (QgV (tV X.K H0 A0 fa) Qg4)) E σ H:=exK λρ hs F o rel e q=>by
 unfold Qhh at e
 split at e
 ·rename_i d hx
  refine Qh e λis e2 e=>?_
  refine Qh e λr0 e1 e=>?_
  split at e
  ·rename_i ds i hp hr
   refine Qh e λns hns e=>?_
   obtain⟨j,hj,rfl⟩:=Ze.mp e
   refine⟨ρ,hs,F,d,true,is,.lst ds,rel,hx,e2,hp,λv0 w H2 Gm s2 hv0 fo=>⟨Qre fo.rp,ρ,hs,F,r0,rel.ext s2,e1,λvn H4 Gn p=>?_⟩⟩
   have rel4:=(rel.ext s2).ext p.same
   obtain⟨l,vsm,Gp,rfl,g1,g2,g3,g4,g5,g6,g7⟩:=rel4.write .unit rfl ZaD hx (by simp) hv0 (fo.same p.same)
   have rn:=p.rp
   rw[hr]at rn
   rw[rn.int_inv]
   have hd:=Qas hns
   have hv:vsm=ns.map V.int:=by
    rw[hd]at g2
    exact g2.ints
   rw[hv]at g1
   refine⟨l,ns,i,j,rfl,rfl,g1,hj,?_⟩
   have n1:=g2.length
   obtain⟨F',rel'⟩:=g7 ((ns.eraseIdx j).map .int) ((ns.eraseIdx j).map V.int) [] (Rps.QlD _) (by
    have:=Qe6 ns j
    have h3:ds.length=ns.length:=by rw[hd,Zi]
    rw[Zi]
    omega) (by rw[QeB _ (QfQ _)];rfl) (λa=>by simp)
   exact q _ _ F' rel'
  ·cases e
 ·cases e
theorem Rps.erase{K:PySem.W.Frag}{H:Hp}:∀{ds:List D}{vs:List V}{F:List Addr}(k:Nat),QJ ds=true->Rps K H ds vs F->Rps K H (ds.eraseIdx k) (vs.eraseIdx k) []
 | [],vs,F,k,_,h=>by
  simp only[Rps]at h
  obtain⟨rfl,rfl⟩:=h
  simp[Rps]
 | d::ds,vs,F,0,hf,h=>by
  have hF:=h.Qa7 hf
  subst hF
  simp only[Rps]at h
  obtain⟨w,ws,F1,F2,rfl,eF,r,q⟩:=h
  have:F2=[]:=(ZbT.mp eF.symm).2
  subst this
  simpa using q
 | d::ds,vs,F,k+1,hf,h=>by
  have hF:=h.Qa7 hf
  subst hF
  simp only[Rps]at h
  obtain⟨w,ws,F1,F2,rfl,eF,r,q⟩:=h
  obtain⟨rfl,rfl⟩:=ZbT.mp eF.symm
  simp only[QJ,Zk]at hf
  have ih:=Rps.erase k hf.2 q
  simp only[Zba,Rps]
  exact⟨w,_,[],[],rfl,rfl,r,ih⟩
end
noncomputable def Qee:Expr->Bool
 | .ListComp .. =>false
 | .SetComp .. =>false
 | .DictComp .. =>false
 | _=>true
theorem Qfn(h:Qee e=true):swapsWith e t l env=pure false:=by
 cases e<;>first | rfl | cases h
noncomputable def Qnb:Expr->Bool
 | .Tuple .. =>true
 | _=>false
noncomputable def Qcz(n:Nat)(Θ:Th)(e:Expr):Option (Nat×DP):=match n with
 | 0=>none
 | n+1=>match e with
  | .Name x _=>(Θ.slot x).map λi=>(i,Q1)
  | .Subscript a b _=>(Qcz n Θ a).bind λq=>(Qi n Θ b).map λfb=>(q.1,Qdi q.2 fb)
  | _=>none
theorem QeL:∀(n:Nat) (X:Cx) (Θ:Th) (e:Expr) (q:Nat×DP),QZ X Θ->Qcz n Θ e=some q->SPa X e q.1 q.2/\attributeBase e=λ_ env w=>w
 | 0,_,_,_,_,_,h=>(nomatch (show(none:Option _)=some _ from h))
 | n+1,X,Θ,e,q,ok,h=>by
  cases e with
  | Name x pos=>
   change Option.map _ _=_ at h
   obtain⟨i,hi,rfl⟩:=Ze.mp h
   exact⟨Qob (Qk6 ok.toCtxB hi),by funext a b c;rfl⟩
  | Subscript a b pos=>
   change Option.bind _ _=_ at h
   obtain⟨q',fb,h1,h2,rfl⟩:=Qa4 h
   exact⟨Qqw (QeL n X Θ a q' ok h1).1 ((Qb4 n).E X Θ b fb ok h2) (Qlp h2),by funext a b c;rfl⟩
  | _=>exact nomatch (show(none:Option _)=some _ from h)
noncomputable def Qhf:Expr->Bool
 | .Name .. =>true
 | .Subscript _ (.Slice ..) _=>false
 | .Subscript (.Call ..) _ _=>false
 | .Subscript .. =>true
 | _=>false
noncomputable def Qpd:Operator->Option (D->D->Option D)
 | .Add=>some (gI λi j=>some (.int (i+j)))
 | .Sub=>some QbK
 | _=>none
theorem QrN(h:Qpd op=some g):∃r,OpR X (inplaceOp op) r/\QbL X.K g r:=by
 cases op<;>cases h
 ·exact⟨_,Qrh,Qfm (λi j d e=>by cases e;rfl) λi j d e H Q q=>by cases e;exact⟨i,j,rfl,rfl,q _ λ_=> .int_mk⟩⟩
 ·exact⟨_,Qra,QnM⟩
noncomputable def QpX:Expr->Bool
 | .Slice .. =>true
 | _=>false
noncomputable def Qgs(n:Nat)(Θ:Th)(o:Expr)(m:Str)(args:List Expr):Option DS:=match args with
  | []=>(Qcz n Θ o).bind λq=>
    none
  | [e]=>if m= "append" then
     ((Qcz n Θ o).bind λq=>(Qi n Θ e).map λfa=>Qch q.1 q.2 fa)
    else
    if m= "remove" then(Qcz n Θ o).bind λq=>(Qi n Θ e).map λfa=>Qhh q.1 q.2 fa else
    none
  | _=>none
theorem Qn7(ok:QZ X Θ)(h:Qgs n Θ o m args=some f)(hl:(apos.endLine == cpos.line)=true):
  S1 X (.Expr (.Call (.Attribute o m apos) args [] cpos) pos) f:=by
 have base:∀{q:Nat×DP},Qcz n Θ o=some q->SPa X o q.1 q.2/\attributeBase o m X.env (eval o X.env)=eval o X.env:=λ{q} h1=>by
  obtain⟨sp,ab⟩:=QeL n X Θ o _ ok h1
  exact⟨sp,by rw[ab]⟩
 have app:∀{e:Expr}{f:DS},m= "append" ->((Qcz n Θ o).bind λq=>(Qi n Θ e).map λfa=>Qch q.1 q.2 fa)=some f->S1 X (.Expr (.Call (.Attribute o m apos) [e] [] cpos) pos) f:=λ{e f} em h=>by
  obtain⟨q,fa,h1,h2,rfl⟩:=Qa4 h
  obtain⟨sp,hb⟩:=base h1
  subst em
  have he:=(Qb4 n).E X Θ e fa ok h2
  have st:=Qak h2 [] X.env
  have sa:∀H0 A0,PA X [e] (QgV (tV X.K H0 A0 fa) Qg4):=λH0 A0=>Qav (he H0 A0) Qb8 st
  exact λH0 A0=>(Qhb (QpL ZbN PySem.F.slot_list_append PySem.F.type_list_append Qif (sp H0 A0) (sa H0 A0) hb (by rw[st];rfl) hl st rfl) rfl).mono λE σ H q=>Qol q
 match args,h with
 | [],h=>
  unfold Qgs at h
  dsimp only at h
  obtain⟨⟨x,pf⟩,h1,h⟩:=bind1 h
  obtain⟨sp,hb⟩:=base h1
  cases h
 | [e],h=>
  unfold Qgs at h
  dsimp only at h
  by_cases em:m= "append"
  ·rw[if_pos em]at h
   exact app em h
  rw[if_neg em]at h
  clear em
  clear app
  by_cases em:m= "remove"
  ·rw[if_pos em]at h
   obtain⟨q,fa,h1,h2,rfl⟩:=Qa4 h
   obtain⟨sp,hb⟩:=base h1
   subst em
   have he:=(Qb4 n).E X Θ e fa ok h2
   have st:=Qak h2 [] X.env
   have sa:∀H0 A0,PA X [e] (QgV (tV X.K H0 A0 fa) Qg4):=λH0 A0=>Qav (he H0 A0) Qb8 st
   exact λH0 A0=>(Qhb (QpL ZbN ZbH PySem.F.type_list_remove Qsd (sp H0 A0) (sa H0 A0) hb (by rw[st];rfl) hl st rfl) rfl).mono λE σ H q=>QoO q
  rw[if_neg em]at h
  clear em
  cases h
 | _::_::_,h=>exact nomatch (show(none:Option DS)=some _ from h)
end HS
namespace HS
open PySem PySem.Spec L2 PyProof.Rows
section
variable {K:PySem.W.Frag}{H0 H H':Hp}{A0:List Addr}{hs:List (V×D×List Addr)}{ρ:En}{F:Nat->List Addr}{σ:L2.St}{x i j:Nat}{ds es:List D}{a:Addr}{vs:List V}{v vn:V}{dn:D}
end
end HS
namespace HS
open PySem PySem.Spec L2 PyProof.Rows
mutual
noncomputable def QiN(n:Nat)(Θ:Th)(st:Stmt):Option DS:=match n with
 | 0=>none
 | n+1=>match st with
  | .Pass _=>some Qp
  | .Break _=>some Qo1
  | .Continue _=>some Qot
  | .Raise _ _ _=>some QH
  | .Return (some e) _=>(Qi n Θ e).map QS
  | .Expr (.Constant (.str _) _ _) _=>some Qp
  | .Expr (.Call (.Attribute o m apos) args [] cpos) _=>if(apos.endLine == cpos.line)=true then Qgs n Θ o m args else none
  | .Expr (.Call (.Name x p) args [] cpos) _=>(Qi n Θ (.Call (.Name x p) args [] cpos)).map QdQ
  | .Assign [.Name x _] e _=>(Θ.Qdd x).bind λi=>(Qi n Θ e).map λfa=>Qy i (if Qhf e=true then QcZ fa else fa)
  | .Assign [.Tuple es k p] e _=>if Qee e=true/\Qnb e=false then(Qgn Θ (.Tuple es k p)).bind λt=>(Qi n Θ e).map λfa=>Qgp t fa else none
  | .Assign [.Subscript a i _] e _=>(Qcz n Θ a).bind λq=>(Qi n Θ i).bind λfi=>(Qi n Θ e).map λfa=>QcA q.1 q.2 fi fa
  | .AugAssign (.Subscript a i _) op e _=>(Qcz n Θ a).bind λq=>(Qi n Θ i).bind λfi=>(Qpd op).bind λg=>(Qi n Θ e).map λfa=>QdS g q.1 q.2 fi fa
  | .If c a b _=>(QaX n Θ c).bind λg=>(Qbj n Θ a).bind λf1=>(Qbj n Θ b).map λf2=>sIf g f1 f2
  | .For tg iter body [] _=>(Qgn Θ tg).bind λt=>(QfI n Θ tg iter).bind λfi=>(Qbj n Θ body).map λfb=>QaZ fi t fb
  | .Try a b c d p=>Θ.tr (.Try a b c d p)
  | _=>none
noncomputable def Qbj(n:Nat)(Θ:Th)(sts:List Stmt):Option DS:=match n with
 | 0=>none
 | n+1=>match sts with
  | []=>some Qp
  | st::r=>(QiN n Θ st).bind λf=>(Qbj n Θ r).map λg=>Qe f g
end
theorem QlA(h:Qi n Θ e=some f):QpX e=false:=by
 cases n with
 | zero=>exact nomatch (show(none:Option DE)=some _ from h)
 | succ n=>cases e<;>first | rfl | (exact nomatch (show(none:Option DE)=some _ from h))
theorem Qqx(h:Qi n Θ (.ListComp elt gens scope pos)=some f):∃m tg iter ifs t fi ft fe,n=m+1/\gens=[⟨tg,iter,ifs,0⟩]/\Qgn (inner Θ scope) tg=some t/\QgW Θ scope t=true∧
  QfI m Θ tg iter=some fi/\Qei m (inner Θ scope) ifs=some ft/\Qi m (inner Θ scope) elt=some fe/\f=Qab fi t (Qfx Θ scope) ft fe:=by
 cases n with
 | zero=>exact nomatch (show(none:Option DE)=some _ from h)
 | succ n=>
  match gens,h with
  | [⟨tg,iter,ifs,k⟩],h=>
   by_cases hk:k=0
   ·subst hk
    (conv at h=>lhs;whnf)
    refine Qh h λt ht h=>?_
    split at h
    ·rename_i hc
     simp only[Zk]at hc
     refine Qh h λfi h1 h=>?_
     obtain⟨ft,fe,h2,h3,rfl⟩:=Qa4 h
     exact⟨n,tg,iter,ifs,t,fi,ft,fe,rfl,rfl,ht,hc.1,h1,h2,h3,rfl⟩
    ·cases h
   ·exfalso
    cases k with
    | ofNat k=>
     cases k with
     | zero=>exact hk rfl
     | succ k=>exact nomatch (show(none:Option DE)=some _ from h)
    | negSucc k=>exact nomatch (show(none:Option DE)=some _ from h)
  | [],h=>exact nomatch (show(none:Option DE)=some _ from h)
  | ⟨_,_,_,.ofNat 0⟩::_::_,h=>exact nomatch (show(none:Option DE)=some _ from h)
  | ⟨_,_,_,.ofNat (k+1)⟩::_::_,h=>exact nomatch (show(none:Option DE)=some _ from h)
  | ⟨_,_,_,.negSucc k⟩::_::_,h=>exact nomatch (show(none:Option DE)=some _ from h)
theorem Qqs(ok:QZ X Θ)(hx:Θ.Qdd x=some i)(h:Qi n Θ e=some fa):S1 X (.Assign [.Name x p] e pos) (Qy i fa):=by
 have hN:X.N.Nodup:=by rw[ok.N];exact ok.nd
 obtain⟨h1,h2,h3⟩:=QeH ok.toCtxB hx
 by_cases hc:Qee e=true
 ·have he:=(Qb4 n).E X Θ e fa ok h
  exact Qja λH0 A0=>Qjt hN h1 h2 (he H0 A0) (Qfn hc) h3
 ·cases e with
  | ListComp elt gens scope cpos=>
   obtain⟨m,tg,iter,ifs,t,fi,ft,fe,rfl,rfl,ht,hco,g1,g2,g3,rfl⟩:=Qqx h
   obtain⟨S,cap,inn⟩:=Qje ok hco
   obtain⟨i1,i2⟩:=(Qb4 m).I X Θ tg iter fi ok g1
   exact Qqr hN h1 h2 h3 ok.calm S i1 cap (λcl C fp s3 H3=>⟨QiO (inn cl C fp s3 H3) ht,(Qb4 m).Ts _ _ ifs ft (inn cl C fp s3 H3) g2,(Qb4 m).E _ _ elt fe (inn cl C fp s3 H3) g3⟩) i2
  | SetComp _ _ _ _=>cases n<;>exact nomatch (show(none:Option DE)=some _ from h)
  | DictComp _ _ _ _ _=>cases n<;>exact nomatch (show(none:Option DE)=some _ from h)
  | _=>exact absurd rfl hc
theorem Qop(ok:QZ X Θ)(hx:Θ.Qdd x=some i)(h:Qi n Θ e=some fa)(ha:Qhf e=true):S1 X (.Assign [.Name x p] e pos) (Qy i (QcZ fa)):=by
 have hN:X.N.Nodup:=by rw[ok.N];exact ok.nd
 obtain⟨h1,h2,h3⟩:=QeH ok.toCtxB hx
 have hc:Qee e=true:=by cases e<;>first | rfl | cases ha
 have he:=QoX ((Qb4 n).E X Θ e fa ok h)
 exact Qja λH0 A0=>Qjt hN h1 h2 (he H0 A0) (Qfn hc) h3
theorem QmD:swapsWithSole [.Subscript a i p] e l env=pure false:=by
 cases e<;>rfl
structure Qtc (n:Nat):Prop where
 S:∀X Θ st f,QZ X Θ->QiN n Θ st=some f->S1 X st f
 Ss:∀X Θ sts f,QZ X Θ->Qbj n Θ sts=some f->SS X sts f
theorem QsO(ih:Qtc n):∀X Θ st f,QZ X Θ->QiN (n+1) Θ st=some f->S1 X st f:=by
 intro X Θ st f ok h
 have hN:X.N.Nodup:=by rw[ok.N];exact ok.nd
 have E:=Qb4 n
 cases st with
 | Pass pos=>change some Qp=some f at h;cases h;exact QqM
 | Break pos=>change some Qo1=some f at h;cases h;exact Qor
 | Continue pos=>change some Qot=some f at h;cases h;exact Qq8
 | Raise a b pos=>change some QH=some f at h;cases h;exact Qoo
 | Return e pos=>
  cases e with
  | none=>exact nomatch (show(none:Option DS)=some _ from h)
  | some e=>
   change(Qi n Θ e).map QS=some f at h
   obtain⟨fa,h1,rfl⟩:=Ze.mp h
   exact QsB (E.E X Θ e fa ok h1)
 | Expr e pos=>
  cases e with
  | Constant c k p=>
   cases c with
   | str x=>
    change some Qp=some f at h
    cases h
    exact λH0 A0=>Qs3.mono λE σ H ⟨ρ,hs,F,o,rel,e,q⟩=>by cases e;exact q σ H F rel
   | _=>exact nomatch (show(none:Option DS)=some _ from h)
  | Call fn args kws cpos=>
   cases fn with
   | Attribute o m apos=>
    cases kws with
    | nil=>
     change(if(apos.endLine == cpos.line)=true then Qgs n Θ o m args else none)=some f at h
     split at h
     ·rename_i hl
      exact Qn7 ok h hl
     ·cases h
    | cons _ _=>exact nomatch (show(none:Option DS)=some _ from h)
   | Name x p=>
    cases kws with
    | nil=>
     change(Qi n Θ (.Call (.Name x p) args [] cpos)).map QdQ=some f at h
     obtain⟨fa,h1,rfl⟩:=Ze.mp h
     exact λH0 A0=>QrB (Qhb (E.E X Θ _ fa ok h1 H0 A0) rfl)
    | cons _ _=>exact nomatch (show(none:Option DS)=some _ from h)
   | _=>exact nomatch (show(none:Option DS)=some _ from h)
  | _=>exact nomatch (show(none:Option DS)=some _ from h)
 | Assign ts e pos=>
  match ts,h with
  | [t],h=>
   cases t with
   | Name x p=>
    change((Θ.Qdd x).bind λi=>(Qi n Θ e).map λfa=>Qy i (if Qhf e=true then QcZ fa else fa))=some f at h
    obtain⟨i,fa,h1,h2,rfl⟩:=Qa4 h
    split
    ·rename_i ha;exact Qop ok h1 h2 ha
    ·exact Qqs ok h1 h2
   | Tuple es k p=>
    change(if Qee e=true/\Qnb e=false then(Qgn Θ (.Tuple es k p)).bind λt=>(Qi n Θ e).map λfa=>Qgp t fa else none)=some f at h
    split at h
    ·rename_i hc
     obtain⟨t,fa,h1,h2,rfl⟩:=Qa4 h
     refine Qqt (E.E X Θ e fa ok h2) (QiO ok h1) (by show swapsWith e (some (.Tuple es k p)) pos.line X.env=pure false;exact Qfn hc.1) ?_ rfl
     cases e<;>first | rfl | (cases hc.2)
    ·cases h
   | Subscript a i p=>
    change((Qcz n Θ a).bind λq=>(Qi n Θ i).bind λfi=>(Qi n Θ e).map λfa=>QcA q.1 q.2 fi fa)=some f at h
    refine Qh h λq h1 h=>?_
    obtain⟨fi,fa,h2,h3,rfl⟩:=Qa4 h
    obtain⟨sp,_⟩:=QeL n X Θ a q ok h1
    have ns:=QlA h2
    refine QrE (E.E X Θ e fa ok h3) sp (E.E X Θ i fi ok h2) λte to ti he ho hi=>Qnt he (QrK ho hi set_list ?_) QmD ?_ rfl
    ·intro v;cases i<;>first | rfl | (cases ns)
    ·cases e<;>rfl
   | _=>exact nomatch (show(none:Option DS)=some _ from h)
  | [],h=>exact nomatch (show(none:Option DS)=some _ from h)
  | t::_::_,h=>cases t<;>exact nomatch (show(none:Option DS)=some _ from h)
 | AugAssign t op e pos=>
  cases t with
  | Subscript a i p=>
   change((Qcz n Θ a).bind λq=>(Qi n Θ i).bind λfi=>(Qpd op).bind λg=>(Qi n Θ e).map λfa=>QdS g q.1 q.2 fi fa)=some f at h
   refine Qh h λq h1 h=>?_
   refine Qh h λfi h2 h=>?_
   obtain⟨g,fa,h3,h4,rfl⟩:=Qa4 h
   obtain⟨r,o1,o2⟩:=QrN (X:=X) h3
   obtain⟨sp,_⟩:=QeL n X Θ a q ok h1
   have ns:=QlA h2
   exact Qrm o1 o2 (E.E X Θ e fa ok h4) sp (E.E X Θ i fi ok h2) λov iv new=>by cases i<;>first | rfl | (cases ns)
  | _=>exact nomatch (show(none:Option DS)=some _ from h)
 | If c a b pos=>
  change((QaX n Θ c).bind λg=>(Qbj n Θ a).bind λf1=>(Qbj n Θ b).map λf2=>sIf g f1 f2)=some f at h
  refine Qh h λg h1 h=>?_
  obtain⟨f1,f2,h2,h3,rfl⟩:=Qa4 h
  exact QtJ (E.T X Θ c g ok h1) (ih.Ss X Θ a f1 ok h2) (ih.Ss X Θ b f2 ok h3)
 | For tg iter body els pos=>
  cases els with
  | nil=>
   change((Qgn Θ tg).bind λt=>(QfI n Θ tg iter).bind λfi=>(Qbj n Θ body).map λfb=>QaZ fi t fb)=some f at h
   refine Qh h λt h1 h=>?_
   obtain⟨fi,fb,h2,h3,rfl⟩:=Qa4 h
   obtain⟨i1,i2⟩:=E.I X Θ tg iter fi ok h2
   exact QrD ok.pass ok.calm i1 (QiO ok h1) (ih.Ss X Θ body fb ok h3) i2
  | cons _ _=>exact nomatch (show(none:Option DS)=some _ from h)
 | Try a b c d pos=>exact ok.tr _ _ h
 | _=>exact nomatch (show(none:Option DS)=some _ from h)
theorem Qpz:∀n,Qtc n
 | 0=>⟨λ_ _ _ _ _ h=>(nomatch (show(none:Option DS)=some _ from h)),λ_ _ _ _ _ h=>(nomatch (show(none:Option DS)=some _ from h))⟩
 | n+1=>by
  have ih:=Qpz n
  refine⟨QsO ih,λX Θ sts f ok h=>?_⟩
  match sts,h with
  | [],h=>change some Qp=some f at h;cases h;exact QsR
  | st::r,h=>
   change((QiN n Θ st).bind λf=>(Qbj n Θ r).map λg=>Qe f g)=some f at h
   obtain⟨fs,fr,h1,h2,rfl⟩:=Qa4 h
   exact QqZ (ih.S X Θ st fs ok h1) (ih.Ss X Θ r fr ok h2)
noncomputable def Qal(k:Nat)(ds:List D):En:=ds.map (λd=>some (d,d.flat))++List.replicate (k-ds.length) none
noncomputable def outD:Out->Option (D×Bool)
 | .rt d fr=>some (d,fr)
 | .nx _=>some (.non,true)
 | _=>none
noncomputable def Qr(k:Nat)(f:DS):Den:=λds=>(f (Qal k ds)).bind outD
theorem Rps.parts{K:PySem.W.Frag}{H:Hp}:∀{ds:List D}{vs:List V}{F:List Addr},Rps K H ds vs F→
  ∃Fs:List (List Addr),(∀L∈Fs,∀a∈L,a∈F)/\∀(i:Nat) (d:D),ds[i]? =some d->∃v,vs[i]? =some v/\Rp K H d v (Fs.getD i [])
 | [],_,_,h=>⟨[],λL hL=>by simp at hL,λi d e=>by simp at e⟩
 | d::ds,_,_,h=>by
  simp only[Rps]at h
  obtain⟨v,ws,F1,F2,rfl,rfl,r,q⟩:=h
  obtain⟨Fs,h1,h2⟩:=Rps.parts q
  refine⟨F1::Fs,λL hL a ha=>?_,λi d' e=>?_⟩
  ·rcases Zl.mp hL with rfl | hL
   ·exact Zg _ ha
   ·exact Zd _ (h1 L hL a ha)
  ·cases i with
   | zero=>simp at e;subst e;exact⟨v,by simp,by simpa using r⟩
   | succ i=>obtain⟨w,hw,hr⟩:=h2 i d' (by simpa using e);exact⟨w,by simpa using hw,by simpa using hr⟩
theorem QfR{k:Nat}{ds:List D}{i:Nat}{d:D}{b:Bool}(h:(Qal k ds)[i]? =some (some (d,b))):ds[i]? =some d/\b=d.flat:=by
 unfold Qal at h
 by_cases hi:i<ds.length
 ·rw[ZP (by simpa using hi),Zo]at h
  cases e:ds[i]? with
  | none=>rw[e]at h;cases h
  | some a=>rw[e]at h;cases h;exact⟨rfl,rfl⟩
 ·rw[Zaw (by simpa using hi),ZbK]at h
  split at h<;>cases h
theorem Qnd{K:PySem.W.Frag}{H:Hp}{ds:List D}{vs:List V}{F:List Addr}{N:List Str}(r:Rps K H ds vs F):∃F0,Rel K H F [] (Qal N.length ds) F0 (start N vs) H:=by
 obtain⟨Fs,h1,h2⟩:=r.parts
 have hl:=r.length
 have src:∀i a,a∈Fs.getD i []->a∈F:=λi a ha=>by
  by_cases hi:i<Fs.length
  ·have:Fs.getD i []∈Fs:=by rw[ZK,ZA hi];exact List.getElem_mem hi
   exact h1 _ this a ha
  ·rw[ZK,Zv (by omega)]at ha;simp at ha
 refine⟨λi=>Fs.getD i [],?_,λi d b e=>?_,λi d e=>?_,λi d b e a ha=> .inr (src i a ha),λt ht=>absurd ht (by simp),Qz.refl _⟩
 ·unfold Qal L2.start;simp[hl]
 ·obtain⟨e1,_⟩:=QfR e
  obtain⟨v,hv,hr⟩:=h2 i d e1
  refine⟨v,?_,hr⟩
  have hi:i<vs.length:=(Zb.mp hv).1
  unfold L2.start
  rw[ZP (by simpa using hi),Zo,hv];rfl
 ·obtain⟨e1,e2⟩:=QfR e
  obtain⟨v,hv,hr⟩:=h2 i d e1
  have z:Fs.getD i []=[]:=hr.Qa7 e2.symm
  simp only[z]
  exact⟨(QcJ d e2.symm).symm,ZaD,λa ha=>by simp at ha,λ_ _ _ _ _ a ha=>by simp at ha,λ_ _ a ha=>by simp at ha⟩
section
variable (P:Program) (w:World) (K:PySem.W.Frag) (mg:Str->Option Value) (base:Heap)
def Known(k:Nat)(x:Str)(r:FnR):Prop:=∃f fd ps,Qbe P w K mg base CX0 k f fd ps (spV K r.n r.den)/\mg x=some (.ref f)/\PySem.W.keepIn K (.ref f)=true∧
 ∀m,m<=r.dfl.length->∃ds dvs,Binds K fd ps ds/\Qn dvs ds/\∀H,Rps K H (r.dfl.drop (r.dfl.length-m)) dvs []
def Qca(k:Nat)(Γ:List (Str×FnR)):Prop:=∀x r,look x Γ=some r->Known P w K mg base k x r
structure Qeu (cs:List (Str×Int)):Prop where
 bn:∀x∈Qkl,mg x=none
 cs:∀x i,look x cs=some i->∃t,mg x=some (.int i t)
end
section
variable {P:Program}{w:World}{K:PySem.W.Frag}{mg:Str->Option Value}{base:Heap}
theorem Qca.nil{k:Nat}:Qca P w K mg base k []:=λx r h=>by cases h
theorem Known.mono{j k:Nat}{x:Str}{r:FnR}(h:Known P w K mg base j x r)(hk:j<=k):Known P w K mg base k x r:=by
 obtain⟨f,fd,ps,h1,h2⟩:=h
 exact⟨f,fd,ps,h1.mono hk,h2⟩
theorem Qca.cons{k:Nat}{Γ:List (Str×FnR)}{x:Str}{r:FnR}(t:Qca P w K mg base k Γ)(h:Known P w K mg base (k+1) x r):Qca P w K mg base (k+1) ((x,r)::Γ):=λy q e=>by
 unfold look at e
 split at e
 ·rename_i z;cases e;subst z;exact h
 ·exact(t y q e).mono (ZaA _)
noncomputable def namesOf(sc:Scope):List Str:=(sc.names.filter λy=>QpD y.2).map (·.1)
noncomputable def Qhc(st:Stmt)(Γ:List (Str×FnR))(cs:List (Str×Int)):Th:=⟨namesOf (Qo st),(Qo st).names,Γ,cs,λ_=>none⟩
theorem QpV{CX:CXT}{xe:Value->Shared->Prop}{st:Stmt}{ps:List Str}{qual:Str}{f:Addr}{cdv:Value}{A:Around}{outer:List Env}{s:Shared}{H:Hp}{E:XK}{k:Nat}{Γ:List (Str×FnR)}{cs:List (Str×Int)}(S:QbY (namesOf (Qo st)) ps (Qo st))(M:Qeu mg cs)(tab:Qca P w K mg base k Γ)
  (hr:Q4 k (A.deeper (envOfC qual (Qo st) s.heap.objs.size f cdv))) (hp:PassesOwn (model P w) (A.deeper (envOfC qual (Qo st) s.heap.objs.size f cdv)) (envOfC qual (Qo st) s.heap.objs.size f cdv) xe):
  QZ ((QeZ CX P w K mg base (namesOf (Qo st)) qual (Qo st) f cdv A outer s H E).QcR xe) (Qhc st Γ cs) where
 N:=rfl
 nd:=S.nd
 lc:=λx h=>by rw[QaS]at h;exact h
 ce:=λx h=>by rw[QaS]at h;exact⟨h,rfl⟩
 fe:=λx h=>by rw[QaS]at h;exact absurd rfl (S.nofree _ (Zag h))
 gl:=λx h=>by rw[QaS]at h;exact h
 calm:=decide_eq_true hr.hd
 pass:=hp
 tr:=λ_ _ h=>by cases h
 units:=hr.units
 mg:=M.bn
 fns:=λx r h=>by
  obtain⟨f',fd,ps',h1,h2,h3,h4⟩:=tab x r h
  exact⟨k,f',fd,ps',h1,hr,h2,h3,h4⟩
 cs:=M.cs
theorem Qsx{st:Stmt}{ps:List Str}{qual:Str}{f:Addr}{cdv:Value}{A:Around}{outer:List Env}{s:Shared}{H:Hp}{E:XK}{k:Nat}{Γ:List (Str×FnR)}{cs:List (Str×Int)}(S:QbY (namesOf (Qo st)) ps (Qo st))(M:Qeu mg cs)(tab:Qca P w K mg base k Γ)
  (hr:Q4 k (A.deeper (envOfC qual (Qo st) s.heap.objs.size f cdv))):QZ (QeZ CX0 P w K mg base (namesOf (Qo st)) qual (Qo st) f cdv A outer s H E).nox (Qhc st Γ cs):=QpV S M tab hr PassesOwn.never
theorem QmP{x qual:Str}{st:Stmt}{f:Addr}{fd:FuncData}{ps:List Str}{k n:Nat}{Γ:List (Str×FnR)}{cs:List (Str×Int)}{g:DS}(F:Fun K x qual st f fd)(S:QbY (namesOf (Qo st)) ps (Qo st))(M:Qeu mg cs)(tab:Qca P w K mg base k Γ)
  (hc:Qbj n (Qhc st Γ cs) (Qbd st)=some g):Qbe P w K mg base CX0 (k+1) f fd ps (spV K ps.length (Qr (namesOf (Qo st)).length g)):=by
 refine F.ok S (Qrb rfl) λcdv A outer s H vs Q E hr h=>?_
 obtain⟨ds,L,d,fr,rps,hl,hd,q⟩:=h
 refine⟨_,(Qpz n).Ss _ _ _ g (Qsx S M tab hr) hc H L,?_⟩
 obtain⟨F0,rel⟩:=Qnd (N:=namesOf (Qo st)) rps
 unfold Qr at hd
 refine Qh hd λo ho hd=>?_
 refine⟨_,[],F0,o,rel,ho,?_⟩
 cases o with
 | nx ρ=>
  cases hd
  exact λσ H' F' rel'=>q .non H' [] ⟨rel'.same,.Qj5,λa ha=>by simp at ha,λ_=>⟨ZaD,rfl,λa ha=>by simp at ha⟩⟩
 | bk ρ=>cases hd
 | ct ρ=>cases hd
 | rt d' fr'=>
  cases hd
  exact λv H' G r=>q v H' G r
structure Fact (K:PySem.W.Frag) (x:Str) (st:Stmt):Prop where
 ex:∃f fd,Fun K x x st f fd/\PySem.W.nsIn K mainGlobals x=some (some (.ref f))
theorem fact_mk{x:Str}{st:Stmt}{f:Addr}{oc:Value}{od an:Option Addr}{osl:Array (Option Value)}{kV doc pm cdv ct:Value}(a:PySem.W.nsIn K mainGlobals x=some (some (.ref f)))(l:K.lookup f=some ⟨oc,od,.func (PySem.W.fnOf x x (Qdo st) (Qbd st) (Qo st) .none kV doc pm an cdv ct),osl⟩)
  (c:PySem.W.codeIn K cdv x=true) (k:PySem.W.keepIn K (.ref f)=true):Fact K x st:=⟨f,_,QsK l c k,a⟩
theorem l0{α:Type}{P:List α->Prop}(h:P []):∀l:List α,l.length=0->P l:=λl e=>(List.length_eq_zero_iff.mp e).symm▸h
theorem lc{α:Type}{n:Nat}{P:List α->Prop}(h:∀a,∀l:List α,l.length=n->P (a::l)):∀l:List α,l.length=n+1->P l
 | a::l,e=>h a l (Nat.succ.inj e)
def QA(x:Str)(st:Stmt)(ps:List Str):Prop:=∀(kV doc pm:Value) (an:Option Addr) (cdv ct:Value) (us:List Value),us.length=ps.length->bindArgs (PySem.W.fnOf x x (Qdo st) (Qbd st) (Qo st) .none kV doc pm an cdv ct) ⟨us,[]⟩=pure (ps.zip us)
theorem QG{h:Heap}{x:Str}{st:Stmt}{ps:List Str}{k n:Nat}{Γ:List (Str×FnR)}{cs:List (Str×Int)}{g:DS}(X:K.In h)(G:h.Ns mainGlobals mg)(F:Fact K x st)(S:QbY (namesOf (Qo st)) ps (Qo st))(B:QA x st ps)(M:Qeu mg cs)(tab:Qca P w K mg base k Γ)
  (hc:Qbj n (Qhc st Γ cs) (Qbd st)=some g):Known P w K mg base (k+1) x ⟨ps.length,[],Qr (namesOf (Qo st)).length g⟩:=by
 obtain⟨f,fd,Fn,a⟩:=F.ex
 refine⟨f,fd,ps,QmP Fn S M tab hc,PySem.W.mg_of X G a,Fn.kp,λm hm=>⟨[],[],Fn.binds (B ·),.nil,λH=>by simp[Rps]⟩⟩
end
end HS
namespace HS
open PySem PySem.Spec L2 PyProof.Rows
theorem Qn1{l:PySem.W.OpenLaw}{k:Nat}{q:Program}{loose:List Str}{XP:(Str->Option Value)->Heap->Prop}{YP:World->Heap->Prop}{d:DefRec}{K:Params->PySem.W.Frag}{den:Den}{x:Str}
  (hn:l.most=some 63) (hdf:d.params.defaults=[]) (hr:Q4 k callerA) (hY:∀(w:World) (h:Heap),YP w h->(K w.params).In h)
  (hden:∀ns:List Int,ns.length<=63->∃fr,den [.lst (ns.map .int)]=some (.bl true,fr))
  (F:∀(w:World) (mg:Str->Option Value) (fa:Addr) (h:Heap),(K w.params).In h->h.Ns mainGlobals mg->mg d.name=some (.ref fa)→
   ∃fd:FuncData,(∀(s:Shared) (u:Value),BindsTo s fd ⟨[u],[]⟩ [(x,u)])∧
    ∀base:Heap,(K w.params).In base->base.Ns mainGlobals mg->Qbe l.prog w (K w.params) mg base CX0 k fa fd [x] (spV (K w.params) 1 den)):
  PySem.W.WalkO q loose XP YP l.row.toRowW d [] (λf vs=>PySem.call f vs):=by
 refine Att.Qf0 hn hdf λw s₀ s₁ mg mb fa o pm cd doc a vs ns G Y ho hd hcd hmg hobj hints hlen hg=>?_
 have KX:=hY w _ Y
 obtain⟨fd,hb,hF⟩:=F w mg fa _ KX G.T.g hmg
 have h63:(63:Nat)<=sizeLine:=by decide
 refine QjB KX G.T.g G.T.b G.T.builtins G.T.nolimit hg hobj hints (ZH hlen h63) hr hF hb (λH hO hS=>?_) λH e s' z=>z
 have fx:Fix (K w.params) H a (ns.map V.int):=by
  rcases hS with(h | ⟨o,h⟩) | ⟨o,its,n,hk,hc,hdn,hda,hz,rv⟩
  ·rcases hO a with z | ⟨o,xs,z⟩<;>rw[h]at z<;>cases z
  ·exact .inl ⟨o,h⟩
  ·have e:=KX a o hk
   rw[hobj]at e
   cases e
   cases hda
   exact .inr ⟨vs,_,hk,by rw[Zi];exact ZH hlen h63,by simpa using rv⟩
 obtain⟨fr,hfr⟩:=hden ns hlen
 have rp:Rp (K w.params) H (.lst (ns.map .int)) (.ref a) []:=by
  simp only[Rp]
  refine⟨by rw[Zi];exact ZH hlen h63,a,_,rfl,.inr ⟨fx,?_⟩⟩
  have gen:∀ns:List Int,Rps (K w.params) H (ns.map .int) (ns.map .int) []:=by
   intro ns
   induction ns with
   | nil=>simp[Rps]
   | cons n ns ih=>simp only[Zu,Rps];exact⟨_,_,[],[],rfl,rfl,.int_mk,ih⟩
  exact gen ns
 refine⟨[.lst (ns.map .int)],[],.bl true,fr,?_,rfl,hfr,λv H' G r=>r.rp.Qeg⟩
 simp only[Rps]
 exact⟨_,_,[],[],rfl,rfl,rp,rfl,rfl⟩
theorem Qt5{P:Program}{w:World}{K:PySem.W.Frag}{mg:Str->Option Value}{h:Heap}{x y:Str}{st:Stmt}{fa:Addr}{k n:Nat}{Γ:List (Str×FnR)}{cs:List (Str×Int)}{g:DS}(X:K.In h)(G:h.Ns mainGlobals mg)(hmg:mg x=some (.ref fa))
  (F:Fact K x st) (S:QbY (namesOf (Qo st)) [y] (Qo st)) (B:QA x st [y]) (M:Qeu mg cs) (tab:∀base:Heap,Qca P w K mg base k Γ) (hc:Qbj n (Qhc st Γ cs) (Qbd st)=some g):
  ∃fd:FuncData,(∀(s:Shared) (u:Value),BindsTo s fd ⟨[u],[]⟩ [(y,u)])∧
    ∀base:Heap,K.In base->base.Ns mainGlobals mg->Qbe P w K mg base CX0 (k+1) fa fd [y] (spV K 1 (Qr (namesOf (Qo st)).length g)):=by
 obtain⟨f,fd,Fn,a⟩:=F.ex
 have e:=hmg.symm.trans (PySem.W.mg_of X G a)
 cases e
 refine⟨fd,λs u=>?_,λbase _ _=>QmP Fn S M (tab base) hc⟩
 obtain⟨oc,od,kV,doc,pm,an,cdv,ct,osl,rfl,lk,hcd⟩:=Fn.ex
 exact .of_eq (B kV doc pm an cdv ct [u] rfl)
end HS
namespace HS
open PySem PySem.Spec PyProof.Rows L2
section
variable {P:Program}{w:World}{K:PySem.W.Frag}{mg:Str->Option Value}{base:Heap}
end
end HS
namespace HS
open PySem L2
noncomputable def pairD(p:Int×Int):D:= .tup [.int p.1,.int p.2]
noncomputable def Qpg(p:Int×Int×Bool):D:= .tup [.int p.1,.int p.2.1,.bl p.2.2]
noncomputable def Qtx(ns:List Int):D:= .lst (ns.map .int)
noncomputable def Qt(ps:List (Int×Int)):D:= .lst (ps.map pairD)
noncomputable def Qg(m:Int)(R L:List (Int×Int)):D:= .tup [.int m,Qt R,Qt L]
theorem Qat{α:Type}{f:α->D}(h:∀a,(f a).flat=true):∀l:List α,QJ (l.map f)=true
 | []=>rfl
 | a::l=>by simp[QJ,h a,Qat h l]
@[simp] theorem QuF(i:Int):(D.int i).flat=true:=rfl
@[simp] theorem Qu2(i:Bool):(D.bl i).flat=true:=rfl
@[simp] theorem Qut:D.non.flat=true:=rfl
@[simp] theorem QuP(x:Str):(D.str x).flat=true:=rfl
@[simp] theorem QuM(xs:List D):(D.lst xs).flat=false:=rfl
@[simp] theorem QuR(xs:List D):(D.tup xs).flat=QJ xs:=rfl
@[simp] theorem Qum:QJ []=true:=rfl
@[simp] theorem QtG(d:D)(ds:List D):QJ (d::ds)=(d.flat && QJ ds):=rfl
@[simp] theorem Qul(p:Int×Int):(pairD p).flat=true:=rfl
@[simp] theorem QuB(p:Int×Int×Bool):(Qpg p).flat=true:=rfl
@[simp] theorem Qun(ns:List Int):(Qtx ns).flat=false:=rfl
@[simp] theorem Quf(ns:List (Int×Int)):(Qt ns).flat=false:=rfl
@[simp] theorem Qto(ps:List (Int×Int)):QJ (ps.map pairD)=true:=Qat (λ_=>rfl) _
@[simp] theorem QtW(ps:List (Int×Int×Bool)):QJ (ps.map Qpg)=true:=Qat (λ_=>rfl) _
@[simp] theorem QlL(ns:List Int):QJ (ns.map .int)=true:=Qat (λ_=>rfl) _
@[simp] theorem Qui(xs ys:List D):QJ (xs++ys)=(QJ xs && QJ ys):=Qcp xs ys
def Run(f:DS)(ρ:En)(Q:Out->Prop):Prop:=∃o,f ρ=some o/\Q o
noncomputable def Nx(Q:En->Prop):Out->Prop
 | .nx ρ=>Q ρ
 | _=>False
noncomputable def Rt(Q:D->Bool->Prop):Out->Prop
 | .rt d fr=>Q d fr
 | _=>False
theorem Run.mono(h:Run f ρ Q)(m:∀o,Q o->Q' o):Run f ρ Q':=let ⟨o,h1,h2⟩:=h;⟨o,h1,m o h2⟩
theorem Ql(h:Q (.nx ρ)):Run Qp ρ Q:=⟨_,rfl,h⟩
theorem run_seq(h:Run f ρ (Nx λρ'=>Run g ρ' Q)):Run (Qe f g) ρ Q:=by
 obtain⟨o,h1,h2⟩:=h
 cases o with
 | nx ρ'=>
  obtain⟨o',h3,h4⟩:=h2
  exact⟨o',by simp[Qe,h1,h3],h4⟩
 | _=>exact False.elim h2
theorem Qa0(h:Run f ρ λo=>match o with | .nx ρ'=>Run g ρ' Q | o=>Q o):Run (Qe f g) ρ Q:=by
 obtain⟨o,h1,h2⟩:=h
 cases o with
 | nx ρ'=>
  obtain⟨o',h3,h4⟩:=h2
  exact⟨o',by simp[Qe,h1,h3],h4⟩
 | bk ρ'=>exact⟨_,by simp[Qe,h1],h2⟩
 | ct ρ'=>exact⟨_,by simp[Qe,h1],h2⟩
 | rt d fr=>exact⟨_,by simp[Qe,h1],h2⟩
theorem Qk(h:fa ρ=some r)(q:Q (.nx (asg i r ρ))):Run (Qy i fa) ρ Q:=⟨_,by simp[Qy,h],q⟩
theorem Qlr(h:fa ρ=some r)(q:Q (.rt r.d (r.norm.fr && decide r.norm.M.Nodup))):Run (QS fa) ρ Q:=⟨_,by simp[QS,h],q⟩
theorem Q7(h:g ρ=some b)(q1:b=true->Run f1 ρ Q)(q2:b=false->Run f2 ρ Q):Run (sIf g f1 f2) ρ Q:=by
 cases b with
 | true=>obtain⟨o,h1,h2⟩:=q1 rfl;exact⟨o,by simp[sIf,h,h1],h2⟩
 | false=>obtain⟨o,h1,h2⟩:=q2 rfl;exact⟨o,by simp[sIf,h,h1],h2⟩
theorem Qac(h:Run f (Qal k ds) (Rt λd' fr'=>d'=d/\fr'=fr)):Qr k f ds=some (d,fr):=by
 obtain⟨o,h1,h2⟩:=h
 unfold Qr
 cases o with
 | rt d' fr'=>obtain⟨rfl,rfl⟩:=h2;rw[h1];rfl
 | _=>exact False.elim h2
theorem QiY{α:Type}{t:Tg}{fb:DS}{toD:α->D}{Q:Out->Prop}(I:Nat->En->Prop):∀(xs ys:List α) (ρ:En),I ys.length ρ→
  (∀i x ρ,(ys++xs)[i]? =some x->ys.length<=i->I i ρ->∃ρ1,Qa5 t (toD x) ρ=some ρ1/\Run fb ρ1 λo=>match o with | .nx ρ2=>I (i+1) ρ2 | .ct ρ2=>I (i+1) ρ2 | .bk ρ2=>Q (.nx ρ2) | .rt d fr=>Q (.rt d fr))→
  (∀ρ,I (ys++xs).length ρ->Q (.nx ρ))->Run (Qcc t fb (xs.map toD)) ρ Q
 | [],ys,ρ,h0,_,fin=>⟨_,rfl,fin ρ (by simpa using h0)⟩
 | x::xs,ys,ρ,h0,turn,fin=>by
  obtain⟨ρ1,h1,o,h2,h3⟩:=turn ys.length x ρ (by simp) (Zp _) h0
  have next:∀ρ2,I (ys.length+1) ρ2->Run (Qcc t fb (xs.map toD)) ρ2 Q:=λρ2 hi=>
   QiY I xs (ys++[x]) ρ2 (by simpa using hi) (λi y ρ' e hl=>turn i y ρ' (by simpa using e) (by simp at hl;omega)) (λρ' h=>fin ρ' (by simpa using h))
  cases o with
  | nx ρ2=>obtain⟨o',e1,e2⟩:=next ρ2 h3;exact⟨o',by simp[Qcc,h1,h2,e1],e2⟩
  | ct ρ2=>obtain⟨o',e1,e2⟩:=next ρ2 h3;exact⟨o',by simp[Qcc,h1,h2,e1],e2⟩
  | bk ρ2=>exact⟨_,by simp[Qcc,h1,h2],h3⟩
  | rt d fr=>exact⟨_,by simp[Qcc,h1,h2],h3⟩
theorem Q9{α:Type}{fi:DI}{t:Tg}{fb:DS}{toD:α->D}{ρ:En}{ir:IR}{Q:Out->Prop}(xs:List α)(I:Nat->En->Prop)(h:fi ρ=some ir)(hx:ir.items=xs.map toD)(h0:I 0 (QbP ir.M ρ))
  (turn:∀i x ρ,xs[i]? =some x->I i ρ->∃ρ1,Qa5 t (toD x) ρ=some ρ1/\Run fb ρ1 λo=>match o with | .nx ρ2=>I (i+1) ρ2 | .ct ρ2=>I (i+1) ρ2 | .bk ρ2=>Q (.nx ρ2) | .rt d fr=>Q (.rt d fr))
  (fin:∀ρ,I xs.length ρ->Q (.nx ρ)):Run (QaZ fi t fb) ρ Q:=by
 obtain⟨o,h1,h2⟩:=QiY (t:=t) (fb:=fb) (toD:=toD) (Q:=Q) I xs [] (QbP ir.M ρ) h0 (λi x ρ e _=>turn i x ρ (by simpa using e)) (λρ h=>fin ρ (by simpa using h))
 exact⟨o,by simp[QaZ,h,hx,h1],h2⟩
theorem Qij{α:Type}{t:Tg}{ft:DT}{fe:DE}{ρc:En}{toD:α->D}{keep:α->Bool}{out:α->D}:∀(xs:List α) (acc:List D),
  (∀x∈xs,∃ρ1,Qa5 t (toD x) ρc=some ρ1/\ft ρ1=some (keep x)/\(keep x=true->∃r,fe ρ1=some r/\r.d=out x/\r.norm.fr=true))→
  (xs.map toD).foldlM (QdT t ft fe ρc) (acc,true)=some (acc++(xs.filter keep).map out,true)
 | [],acc,_=>by simp
 | x::xs,acc,h=>by
  obtain⟨ρ1,h1,h2,h3⟩:=h x Zj
  have ih:=λacc=>Qij xs acc (λy hy=>h y (Zc _ hy))
  cases hk:keep x with
  | false=>
   have e:QdT t ft fe ρc (acc,true) (toD x)=some (acc,true):=by simp[QdT,h1,h2,hk]
   simp[ZbM,e,ih,hk]
  | true=>
   obtain⟨r,h4,h5,h6⟩:=h3 hk
   have e:QdT t ft fe ρc (acc,true) (toD x)=some (acc++[out x],true):=by simp[QdT,h1,h2,hk,h4,h5,h6]
   simp[ZbM,e,ih,hk]
theorem QcG{α:Type}{fi:DI}{t:Tg}{cap:List (Option Nat)}{ft:DT}{fe:DE}{ρ:En}{ir:IR}{toD:α->D}{keep:α->Bool}{out:α->D}(xs:List α)(h:fi ρ=some ir)(hx:ir.items=xs.map toD)
  (turn:∀x∈xs,∃ρ1,Qa5 t (toD x) (Qdg cap ρ)=some ρ1/\ft ρ1=some (keep x)/\(keep x=true->∃r,fe ρ1=some r/\r.d=out x/\r.norm.fr=true)):
  Qab fi t cap ft fe ρ=some ⟨.lst ((xs.filter keep).map out),true,[]⟩:=by
 unfold Qab
 rw[h,Za,hx,Qij xs [] turn]
 simp
theorem QcO{α:Type}{fi:DI}{t:Tg}{cap:List (Option Nat)}{fe:DE}{ρ:En}{ir:IR}{toD:α->D}{out:α->D}(xs:List α)(h:fi ρ=some ir)(hx:ir.items=xs.map toD)
  (turn:∀x∈xs,∃ρ1,Qa5 t (toD x) (Qdg cap ρ)=some ρ1/\∃r,fe ρ1=some r/\r.d=out x/\r.norm.fr=true):
  Qab fi t cap QcT fe ρ=some ⟨.lst (xs.map out),true,[]⟩:=by
 have:=QcG (keep:=λ_=>true) (ft:=QcT) xs h hx (cap:=cap) (t:=t) (fe:=fe) (out:=out) λx hx=>by
  obtain⟨ρ1,h1,h2⟩:=turn x hx
  exact⟨ρ1,h1,rfl,λ_=>h2⟩
 rw[this,List.filter_eq_self.mpr λ_ _=>rfl]
@[simp] theorem QuU(d:D):R.norm ⟨d,true,[]⟩=⟨d,true,[]⟩:=by unfold R.norm;split<;>rfl
@[simp] theorem Qq(i:Nat)(d:D)(ρ:En):asg i ⟨d,true,[]⟩ ρ=ρ.set i (some (d,true)):=by unfold asg;simp[kill]
theorem QjO{i:Nat}{d:D}{fr:Bool}{M:List Nat}{ρ:En}(h:d.flat=true):asg i ⟨d,fr,M⟩ ρ=ρ.set i (some (d,true)):=by
 unfold asg R.norm;simp[h,kill]
theorem Qae{i:Nat}{ρ:En}{d:D}{b:Bool}(h:ρ[i]? =some (some (d,b))):Qa i ρ=some (if d.flat then⟨d,true,[]⟩else if b then⟨d,true,[i]⟩else⟨d,false,[]⟩):=by
 unfold Qa
 rw[h]
 dsimp only
 split
 ·simp_all
 ·split<;>simp_all
theorem QrJ{i:Nat}{ρ:En}{n:Int}{b:Bool}(h:ρ[i]? =some (some (.int n,b))):Qa i ρ=some ⟨.int n,true,[]⟩:=by rw[Qae h];rfl
@[simp] theorem Qe2(d:D)(ρ:En):dC d ρ=some ⟨d,true,[]⟩:=rfl
theorem QQ{g:D->D->Option D}{fa fb:DE}{ρ:En}{ra rb:R}{d:D}(ha:fa ρ=some ra)(hb:fb ρ=some rb)(h:g ra.d rb.d=some d):dOp g fa fb ρ=some ⟨d,true,[]⟩:=by simp[dOp,ha,hb,h]
theorem Qj{fa:DE}{fs:DA}{ρ:En}{r:R}{rs:RA}(ha:fa ρ=some r)(hs:fs ρ=some rs):Qb fa fs ρ=some ⟨r.d::rs.ds,r.fr && rs.fr,r.M++rs.M⟩:=by simp[Qb,ha,hs]
@[simp] theorem QL(ρ:En):Qf ρ=some ⟨[],true,[]⟩:=rfl
noncomputable def vf(d:D)(b:Bool)(i:Nat):R:=if d.flat then⟨d,true,[]⟩else if b then⟨d,true,[i]⟩else⟨d,false,[]⟩
@[simp] theorem Qu8(d:D)(b:Bool)(i:Nat):(vf d b i).d=d:=by unfold vf;split;rfl;split<;>rfl
@[simp] theorem Qo5(i j:Int)(h:0<=j):Qfl i j=i % j:=by unfold Qfl;rw[if_pos h]
@[simp] theorem Qpe(i j:Int)(h:0<=j):Qfa i j=i / j:=by unfold Qfa;rw[if_pos h]
theorem QfA{i j:Int}(h:i.natAbs<2^64):Qdh i j=true:=by unfold Qdh;simp[h]
theorem Qdp{i j:Int}(h:j.natAbs<2^64):Qdh i j=true:=by unfold Qdh;simp[h]
theorem QeC:(sizeLine:Nat)=16777216:=sizeLine_eq
noncomputable def Qc(m:Nat)(f:Nat->Int):D:= .lst ((List.range m).map λi=> .int (f i))
noncomputable def QaK(m n:Nat)(f:Nat->Nat->Int):D:= .lst ((List.range m).map λi=>Qc n (f i))
@[simp] theorem QuD(m:Nat)(f:Nat->Int):(Qc m f).flat=false:=rfl
@[simp] theorem QuN(m n:Nat)(f:Nat->Nat->Int):(QaK m n f).flat=false:=rfl
@[simp] theorem Quk(m:Nat)(f:Nat->Int):QJ ((List.range m).map λi=>D.int (f i))=true:=Qat (f:=λi=>D.int (f i)) (λ_=>rfl) _
noncomputable def up(f:Nat->Int)(i:Nat)(v:Int):Nat->Int:=λj=>if j=i then v else f j
noncomputable def up2(f:Nat->Nat->Int)(i j:Nat)(v:Int):Nat->Nat->Int:=λk=>if k=i then up (f k) j v else f k
theorem Qdn{n:Nat}{i:Int}(h0:0<=i)(h:i<n):ixN n i=some i.toNat:=by
 unfold ixN;rw[if_pos (by omega),if_pos (by omega)]
theorem Qfy{α:Type}{xs:List α}{i:Int}(h0:0<=i)(h:i<xs.length):atI xs i=xs[i.toNat]? :=by
 unfold atI;rw[Qdn h0 h];rfl
theorem Qdb{α:Type}{m:Nat}{f:Nat->α}{i:Nat}{v:α}:((List.range m).map f).set i v=(List.range m).map λj=>if j=i then v else f j:=by
 apply Zao
 intro k
 rw[List.getElem?_set]
 simp only[Zi,Zz,Zo]
 by_cases hk:k<m
 ·rw[Zaa hk]
  by_cases e:i=k
  ·subst e;simp[hk]
  ·simp[e,Ne.symm e]
 ·rw[Zv (by simp;omega)]
  by_cases e:i=k
  ·subst e;simp[hk]
  ·simp[e]
theorem QhA{m:Nat}{f:Nat->Int}{i:Nat}{v:Int}:((List.range m).map λj=>D.int (f j)).set i (.int v)=(List.range m).map λj=>D.int (up f i v j):=by
 rw[Qdb]
 congr 1;funext j;unfold up;split<;>rfl
theorem Qlm{m:Nat}{f:Nat->Int}{i:Int}(h0:0<=i)(h:i<m):atI ((List.range m).map λj=>D.int (f j)) i=some (.int (f i.toNat)):=by
 rw[Qfy h0 (by simpa using h),Zo,Zaa (by omega)];rfl
theorem Qlb{m n:Nat}{f:Nat->Nat->Int}{i:Int}(h0:0<=i)(h:i<m):atI ((List.range m).map λj=>Qc n (f j)) i=some (Qc n (f i.toNat)):=by
 rw[Qfy h0 (by simpa using h),Zo,Zaa (by omega)];rfl
theorem Qge{x m:Nat}{f:Nat->Int}{fi fa:DE}{ρ:En}{i:Int}{v:Int}{ri ra:R}{Q:Out->Prop}(hx:ρ[x]? =some (some (Qc m f,true)))(hi:fi ρ=some ri)(ei:ri.d= .int i)(ha:fa ρ=some ra)(ea:ra.d= .int v)(h0:0<=i)(h:i<m)
  (q:Q (.nx (ρ.set x (some (Qc m (up f i.toNat v),true))))):Run (QcA x Q1 fi fa) ρ Q:=by
 refine⟨_,?_,q⟩
 have hn:ra.norm=⟨.int v,true,[]⟩:=by unfold R.norm;rw[ea];rfl
 unfold QcA
 rw[ha,Za,hx]
 simp only[Q1,Za,hi,ei,Qa3,Qc,Zi,Zz,Qdn h0 h,hn,ea,Qao,QhA]
 simp[kill]
theorem Qks{g:D->D->Option D}{x m n:Nat}{f:Nat->Nat->Int}{fp fi fa:DE}{ρ:En}{i j w:Int}{rp ri ra:R}{Q:Out->Prop}(hx:ρ[x]? =some (some (QaK m n f,true)))(hp:fp ρ=some rp)(ep:rp.d= .int i)(hi:fi ρ=some ri)(ei:ri.d= .int j)(ha:fa ρ=some ra)
  (h0:0<=i) (h:i<m) (k0:0<=j) (k:j<n) (hg:g (.int (f i.toNat j.toNat)) ra.d=some (.int w)) (q:Q (.nx (ρ.set x (some (QaK m n (up2 f i.toNat j.toNat w),true))))):Run (QdS g x (Qdi Q1 fp) fi fa) ρ Q:=by
 refine⟨_,?_,q⟩
 have hj:((List.range n).map λk=>D.int (f i.toNat k))[j.toNat]? =some (.int (f i.toNat j.toNat)):=by rw[Zo,Zaa (by omega)];rfl
 have hd:Qa3 (QaK m n f) [i]=some (Qc n (f i.toNat)):=by
  simp only[Qa3,QaK,D.items,Za,Qlb h0 h]
 have hu:Qao [i] (QaK m n f) (.lst (((List.range n).map λk=>D.int (f i.toNat k)).set j.toNat (.int w)))=QaK m n (up2 f i.toNat j.toNat w):=by
  simp only[Qao,QaK,Zi,Zz,Qdn h0 h,QhA]
  rw[Qdb]
  congr 2;funext k
  unfold up2
  split
  ·rename_i e;subst e;rfl
  ·rfl
 unfold QdS
 rw[hx]
 simp only[Qdi,Q1,Za,hp,ep,List.nil_append,hi,ei,hd,Qc,Zi,Zz,Qdn k0 k,hj,ha,hg,ZO]
 rw[hu]
theorem Qcf{n:Nat}(h:fa ρ=some r)(e:r.d= .int n)(hn:n<=16777216):Qbf fa ρ=some ⟨(List.range n).map λ(k:Nat)=> .int (k:Int),[]⟩:=by
 unfold Qbf
 rw[h,Za,e]
 dsimp only
 rw[if_pos ⟨by omega,by omega⟩]
 simp[Qfc]
theorem QhJ{α:Type}(x:α):∀n:Nat,(List.replicate n [x]).flatten=(List.range n).map λ_=>x
 | 0=>rfl
 | n+1=>by
  rw[Zah,Zal,QhJ x n,ZbS,Zu,Zac];rfl
theorem QjC{n:Nat}(h:fb ρ=some r)(e:r.d= .int n)(hn:n<=16777216):Qar (Q3 (Qb (dC (.int z)) Qf)) fb ρ=some ⟨Qc n (λ_=>z),true,[]⟩:=by
 have h1:Q3 (Qb (dC (.int z)) Qf) ρ=some ⟨.lst [.int z],true,[]⟩:=rfl
 unfold Qar
 rw[h1,Za,h,Za,e]
 dsimp only
 rw[if_pos ⟨by simp[QeC];omega,by omega,by omega,rfl⟩]
 simp only[Zy,QhJ]
 rfl
noncomputable def Qhi:DS:=(Qe (Qy 2 (Qab (QX (Qa 0)) (.tp [1,2]) [none,none,none] QcT (Qa1 (Qb (Qa 1) (Qb (Qa 2) Qf))))) (Qe (Qy 3 (Qab (QX (Qa 0)) (.tp [1,2]) [none,none,none] QcT (Qa1 (Qb (Qa 2) (Qb (Qa 1) Qf))))) (Qe (QS (QE (QE (Qa 2) (Qa 3)) (dList (Qb (Qa 1) Qf)))) Qp)))
theorem QlF(ha:fa ρ=some ra)(ea:ra.d=Qt A)(hb:fb ρ=some rb)(eb:rb.d=Qt B)(hl:A.length+B.length<=16777216):QE fa fb ρ=some ⟨Qt (A++B),true,[]⟩:=by
 unfold QE
 rw[ha,Za,hb,Za,ea,eb]
 simp only[Qt,Zi,QeC,if_pos hl,QT]
 simp
theorem Qi1(h:fs ρ=some rs)(e:rs.ds=[Qt A])(_:True=True):dList fs ρ=some ⟨Qt A,true,[]⟩:=by
 unfold dList
 rw[h,Za,e]
 simp[Qt,QT]
theorem QN(h:fa ρ=some r)(q:Q r.d (r.norm.fr && decide r.norm.M.Nodup)):Run (Qe (QS fa) g) ρ (Rt Q):=Qa0 (Qlr h q)
theorem QmB{R L:List (Int×Int)}(hl:R.length+R.length+L.length<=16777216):Qr 4 Qhi [Qt R,Qt L]=some (Qt (R++R.map Prod.swap++L),true):=by
 refine Qac ?_
 refine run_seq (Qk (QcO R rfl rfl λx _=>⟨[none,some (.int x.1,true),some (.int x.2,true)],rfl,⟨pairD x,true,[]⟩,rfl,rfl,rfl⟩) ?_)
 refine run_seq (Qk (QcO R rfl rfl λx _=>⟨[none,some (.int x.1,true),some (.int x.2,true)],rfl,⟨pairD x.swap,true,[]⟩,rfl,rfl,rfl⟩) ?_)
 have e1:(R.map λx=>pairD x.swap)=(R.map Prod.swap).map pairD:=by simp[Zac,Function.comp_def]
 rw[e1]
 exact QN (QlF (QlF rfl rfl rfl rfl (by simpa using(by omega:R.length+R.length<=16777216))) rfl (Qi1 rfl rfl rfl) rfl (by simpa using hl)) ⟨rfl,rfl⟩
theorem Qw(h:fs ρ=some r)(hd:den (r.ds++dfl)=some (d,true))(hl:r.ds.length+dfl.length=n):Qv n den dfl fs ρ=some ⟨d,true,[]⟩:=by
 unfold Qv
 rw[h,Za,if_pos hl,hd]
 simp
theorem Qba(h:fa ρ=some r)(e:r.d= .lst xs):QX fa ρ=some ⟨xs,r.M⟩:=by
 unfold QX
 rw[h,Za,e]
noncomputable def stepT(m:Nat)(f:Nat->Nat->Int)(s:Int×Int):Nat->Nat->Int:=
 let f1:=if s.1<m then up2 f s.1.toNat s.1.toNat (f s.1.toNat s.1.toNat-1)else f
 if s.1<m/\s.2<m then up2 f1 s.1.toNat s.2.toNat (f1 s.1.toNat s.2.toNat+1)else f1
noncomputable def Qx(m:Nat)(S:List (Int×Int)):Nat->Nat->Int:=S.foldl (stepT m) λ_ _=>0
noncomputable def Qdq(Qcm:Den):DS:=(Qe (Qy 1 (QcZ (Qm (Qa 0) (dC (.int 0))))) (Qe (Qy 2 (Qab (Qbf (Qa 1)) (.nm 1) [none,none,some 1] QcT (Qar (Q3 (Qb (dC (.int 0)) Qf)) (Qa 2)))) (Qe (QaZ (QX (Qv 2 Qcm [] (Qb (Qm (Qa 0) (dC (.int 1))) (Qb (Qm (Qa 0) (dC (.int 2))) Qf)))) (.tp [3,4]) (Qe (sIf (QC (dOp gLt (Qa 3) (Qa 1))) (Qe (QdS QbK 2 (Qdi Q1 (Qa 3)) (Qa 3) (dC (.int 1))) Qp) Qp) (Qe (sIf (Qd4 (QC (dOp gLt (Qa 3) (Qa 1))) (QC (dOp gLt (Qa 4) (Qa 1)))) (Qe (QdS (gI λi j=>some (.int (i+j))) 2 (Qdi Q1 (Qa 3)) (Qa 4) (dC (.int 1))) Qp) Qp) Qp))) (Qe (QS (Qa 2)) Qp))))
theorem QoL{Qcm:Den}{m:Nat}{R L S:List (Int×Int)}(hm:m<=16777216)(hs:Qcm [Qt R,Qt L]=some (Qt S,true))(hS:∀s∈S,0<=s.1/\0<=s.2):Qr 5 (Qdq Qcm) [Qg m R L]=some (QaK m m (Qx m S),true):=by
 refine Qac ?_
 refine run_seq (Qk rfl ?_)
 refine run_seq (Qk (QcO (List.range m) (Qcf rfl rfl hm) rfl λx _=>⟨[none,some (.int x,true),some (.int m,true)],rfl,_,QjC rfl rfl hm,rfl,rfl⟩) ?_)
 refine run_seq (Q9 S (λi ρ=>∃j1 j2,ρ=[some (Qg m R L,false),some (.int m,true),some (QaK m m (Qx m (S.take i)),true),j1,j2]) (ir:=⟨S.map pairD,[]⟩) ?_ rfl ⟨none,none,rfl⟩ ?_ ?_)
 ·exact Qba (Qw (r:=⟨[Qt R,Qt L],false,[]⟩) rfl hs rfl) rfl
 ·rintro i s ρ hi ⟨j1,j2,rfl⟩
  refine⟨_,rfl,?_⟩
  obtain⟨s1,s2⟩:=hS s (ZD hi)
  refine run_seq (Run.mono (Q:=Nx λρ=>ρ=[some (Qg m R L,false),some (.int m,true),some (QaK m m (if s.1<m then up2 (Qx m (S.take i)) s.1.toNat s.1.toNat (Qx m (S.take i) s.1.toNat s.1.toNat-1)else Qx m (S.take i)),true),some (.int s.1,true),some (.int s.2,true)]) ?_ ?_)
  ·refine Q7 rfl (λh=>?_) (λh=>?_)
   ·have h:=of_decide_eq_true h
    rw[if_pos h]
    exact run_seq (Qks rfl rfl rfl rfl rfl rfl s1 h s1 h rfl (Ql rfl))
   ·have h:=of_decide_eq_false h
    rw[if_neg h]
    exact Ql rfl
  ·intro o ho
   cases o with
   | nx ρ=>
    subst ho
    have fin:Qx m (S.take (i+1))=stepT m (Qx m (S.take i)) s:=by
     unfold Qx
     rw[List.take_add_one,hi,ZbF];rfl
    refine run_seq (Run.mono (Q:=Nx λρ=>ρ=[some (Qg m R L,false),some (.int m,true),some (QaK m m (stepT m (Qx m (S.take i)) s),true),some (.int s.1,true),some (.int s.2,true)]) ?_ ?_)
    ·refine Q7 (b:=decide (s.1<m/\s.2<m)) ?_ (λh=>?_) (λh=>?_)
     ·by_cases h:s.1<(m:Int)
      ·simp[Qd4,QC,dOp,Qa,gLt,gI,D.tru,h]
      ·simp[Qd4,QC,dOp,Qa,gLt,gI,D.tru,h]
     ·have h:=of_decide_eq_true h
      refine run_seq (Qks rfl rfl rfl rfl rfl rfl s1 h.1 s2 h.2 rfl (Ql ?_))
      unfold stepT
      rw[if_pos h];rfl
     ·have h:=of_decide_eq_false h
      refine Ql ?_
      unfold stepT
      rw[if_neg h];rfl
    ·intro o ho
     cases o with
     | nx ρ=>
      subst ho
      exact Ql ⟨_,_,by rw[fin]⟩
     | _=>exact False.elim ho
   | _=>exact False.elim ho
 ·rintro ρ ⟨j1,j2,rfl⟩
  rw[ZaQ]
  exact QN rfl ⟨rfl,rfl⟩
noncomputable def hit(i j:Nat)(s:Int×Int):Int:=(if s.1=i/\s.2=j then 1 else 0)-(if s.1=i/\i=j then 1 else 0)
theorem Qly:up2 f a b v i j=if i=a/\j=b then v else f i j:=by
 unfold up2 up
 by_cases h1:i=a
 ·by_cases h2:j=b
  ·simp[h1,h2]
  ·simp[h1,h2]
 ·simp[h1]
theorem QmF(hi:i<m)(hj:j<m)(h1:0<=s.1)(h2:0<=s.2):stepT m f s i j=f i j+hit i j s:=by
 unfold stepT hit
 have e1:(s.1=(i:Int))↔(i=s.1.toNat):=by omega
 have e2:(s.2=(j:Int))↔(j=s.2.toNat):=by omega
 simp only[e1,e2]
 by_cases c1:s.1<(m:Int)
 ·by_cases c2:s.2<(m:Int)
  ·simp only[c1,c2,and_self,if_true,Qly]
   generalize s.1.toNat=a
   generalize s.2.toNat=b
   by_cases d1:i=a
   ·subst d1
    by_cases d2:j=b
    ·subst d2
     by_cases d3:i=j
     ·subst d3;simp
     ·have d4:¬j=i:=λz=>d3 z.symm
      simp[d3,d4]
    ·by_cases d3:i=j
     ·subst d3;simp[d2];omega
     ·have d4:¬j=i:=λz=>d3 z.symm
      simp[d2,d3,d4]
   ·simp[d1]
  ·have d2:¬(j=s.2.toNat):=by omega
   simp only[c1,c2,and_false,if_false,if_true,Qly,d2]
   generalize s.1.toNat=a
   by_cases d1:i=a
   ·subst d1
    by_cases d3:i=j
    ·subst d3;simp;omega
    ·have d4:¬j=i:=λz=>d3 z.symm
     simp[d3,d4]
   ·simp[d1]
 ·have d1:¬(i=s.1.toNat):=by omega
  simp[c1,d1]
theorem Qh6(hi:i<m)(hj:j<m):∀(S:List (Int×Int)) (f:Nat->Nat->Int),(∀s∈S,0<=s.1/\0<=s.2)->S.foldl (stepT m) f i j=f i j+(S.map (hit i j)).sum
 | [],f,_=>by simp
 | s::S,f,h=>by
  obtain⟨h1,h2⟩:=h s Zj
  rw[ZaW,Qh6 hi hj S _ (λt ht=>h t (Zc _ ht)),QmF hi hj h1 h2,Zu,ZS]
  omega
theorem QcI(hi:i<m)(hj:j<m)(h:∀s∈S,0<=s.1/\0<=s.2):Qx m S i j=(S.map (hit i j)).sum:=by
 unfold Qx
 rw[Qh6 hi hj S _ h];simp
noncomputable def isI(i:Nat)(a:Int):Int:=if a=i then 1 else 0
noncomputable def QU(R L:List (Int×Int))(i:Nat):Int:=(R.map λr=>isI i r.1+isI i r.2).sum+(L.map λl=>isI i l.1).sum
theorem sum_neg(S:List (Int×Int))(i:Nat)(h:∀s∈S,s.1≠s.2):(S.map (hit i i)).sum= -(S.map λs=>isI i s.1).sum:=by
 induction S with
 | nil=>rfl
 | cons s S ih=>
  rw[Zu,ZS,ih λt ht=>h t (Zc _ ht),Zu,ZS]
  have hn:=h s Zj
  unfold hit isI
  by_cases e:s.1=(i:Int)
  ·have:¬(s.2=(i:Int)):=λz=>hn (e.trans z.symm)
   simp[e,this];omega
  ·simp[e]
noncomputable def Qu(R L:List (Int×Int)):List (Int×Int):=R++R.map Prod.swap++L
theorem QhT(R L:List (Int×Int))(i:Nat):((Qu R L).map λs=>isI i s.1).sum=QU R L i:=by
 unfold Qu QU
 rw[ZT,ZT,ZaT,ZaT]
 have:(R.map λr=>isI i r.1+isI i r.2).sum=(R.map λs=>isI i s.1).sum+((R.map Prod.swap).map λs=>isI i s.1).sum:=by
  induction R with
  | nil=>rfl
  | cons r R ih=>simp only[Zu,ZS,ih,Zca];omega
 omega
def Good(m:Nat)(s:Int×Int):Prop:=0<=s.1/\0<=s.2/\s.1<=m/\s.2<=m/\s.1≠s.2
theorem QbZ{m:Nat}{R L:List (Int×Int)}(hR:∀s∈R,Good m s)(hL:∀s∈L,Good m s):∀s∈Qu R L,Good m s:=λs hs=>by
 unfold Qu at hs
 rcases ZJ.mp hs with hs | hs
 ·rcases ZJ.mp hs with hs | hs
  ·exact hR s hs
  ·obtain⟨t,ht,rfl⟩:=ZI.mp hs
   obtain⟨h1,h2,h3,h4,h5⟩:=hR t ht
   exact⟨h2,h1,h4,h3,λz=>h5 z.symm⟩
 ·exact hL s hs
def Qff(d:Den):Prop:=∀(m:Nat) (R L:List (Int×Int)),m<=1000->R.length+R.length+L.length<=1000000->(∀s∈R,Good m s)->(∀s∈L,Good m s)->d [Qg m R L]=some (QaK m m (Qx m (Qu R L)),true)
theorem QqK:Qff (Qr 5 (Qdq (Qr 4 Qhi))):=λm R L hm hl hR hL=>by
 refine QoL (by omega) (QmB (by omega)) λs hs=>?_
 obtain⟨h1,h2,_⟩:=QbZ hR hL s hs
 exact⟨h1,h2⟩
noncomputable def Qd2(Q6:Den):DS:=(Qe (QS (Qab (Qb2 (Qv 1 Q6 [] (Qb (Qa 0) Qf))) (.tp [1,2]) [none,none,none] QcT (dOp QbK (dC (.int 0)) (Qm (Qa 2) (Qa 1))))) Qp)
theorem QgR{α:Type}(m:Nat)(f:Nat->D):Qce ((List.range m).map f)=(List.range m).map λi=> .tup [.int i,f i]:=by
 apply Zao
 intro k
 unfold Qce
 simp only[Zo,Zbp,Nat.zero_add]
 by_cases hk:k<m
 ·rw[Zaa hk];rfl
 ·rw[Zv (by simp;omega)];rfl
theorem Qon{d:Den}(hd:Qff d){m:Nat}{R L:List (Int×Int)}(hm:m<=1000)(hl:R.length+R.length+L.length<=1000000)(hR:∀s∈R,Good m s)(hL:∀s∈L,Good m s):Qr 1 (Qd2 d) [Qg m R L]=some (Qc m (QU R L),true):=by
 refine Qac ?_
 refine QN (QcO (toD:=λ(i:Nat)=> .tup [.int i,Qc m (Qx m (Qu R L) i)]) (out:=λ(i:Nat)=> .int (QU R L i)) (ir:=⟨Qce ((List.range m).map λi=>Qc m (Qx m (Qu R L) i)),[]⟩) (List.range m) ?_ ?_ λi hi=>?_) ⟨rfl,rfl⟩
 ·unfold Qb2
  rw[Qw (n:=1) (fs:=Qb (Qa 0) Qf) (ρ:=Qal 1 [Qg m R L]) (dfl:=[]) (r:=⟨[Qg m R L],false,[]⟩) rfl (hd m R L hm hl hR hL) rfl];rfl
 ·exact QgR (α:=Nat) m _
 ·have hi:=Zh.mp hi
  refine⟨[none,some (.int i,true),some (Qc m (Qx m (Qu R L) i),false)],rfl,⟨.int (0-Qx m (Qu R L) i i),true,[]⟩,?_,?_,rfl⟩
  ·have e:Qm (Qa 2) (Qa 1) [none,some (.int (i:Int),true),some (Qc m (Qx m (Qu R L) i),false)]=some ⟨.int (Qx m (Qu R L) i i),true,[]⟩:=by
    show((D.items (Qc m (Qx m (Qu R L) i))).bind λxs=>(atI xs (i:Int)).map λd=>(HS.R.norm ⟨d,false,[]⟩))=_
    unfold Qc
    rw[show D.items (.lst ((List.range m).map λj=>D.int (Qx m (Qu R L) i j)))=some ((List.range m).map λj=>D.int (Qx m (Qu R L) i j))from rfl,Za,Qlm (by omega) (by omega)]
    rfl
   exact QQ (rfl) e rfl
  ·have g:=QbZ hR hL
   rw[QcI hi hi λs hs=>⟨(g s hs).1,(g s hs).2.1⟩,sum_neg _ i λs hs=>(g s hs).2.2.2.2,QhT]
   show D.int (0- -(QU R L i))=_
   rw[show(0:Int)- -(QU R L i)=QU R L i by omega]
theorem Qdl(a b:Int):deq (.int a) (.int b)=decide (a=b):=by
 show PyData.eqv (.int a) (.int b)=_
 unfold PyData.eqv
 exact Bool.beq_eq_decide_eq a b
theorem Qfk(ha:fa ρ=some ra)(ea:ra.d= .int a)(hb:fb ρ=some rb)(eb:rb.d= .int b):dOp gEq fa fb ρ=some ⟨.bl (decide (a=b)),true,[]⟩:=by
 refine QQ ha hb ?_
 rw[ea,eb]
 show some (D.bl (deq (.int a) (.int b)))=_
 rw[Qdl]
theorem Qg2(ha:fa ρ=some ra)(ea:ra.d= .int a)(hb:fb ρ=some rb)(eb:rb.d= .int b):dOp gNe fa fb ρ=some ⟨.bl (!decide (a=b)),true,[]⟩:=by
 refine QQ ha hb ?_
 rw[ea,eb]
 show some (D.bl (!deq (.int a) (.int b)))=_
 rw[Qdl]
theorem Qtv(ha:fa ρ=some ⟨.bl a,true,[]⟩)(hb:fb ρ=some ⟨.bl b,true,[]⟩):dOr fa fb ρ=some ⟨.bl (a || b),true,[]⟩:=by
 unfold dOr
 rw[ha]
 cases a<;>simp[D.tru,hb]
theorem QmV(ha:fa ρ=some ⟨.bl a,true,[]⟩)(hb:fb ρ=some ⟨.bl b,true,[]⟩):Qga fa fb ρ=some ⟨.bl (a && b),true,[]⟩:=by
 unfold Qga
 rw[ha]
 cases a<;>simp[D.tru,hb]
theorem QF(ha:fa ρ=some r)(e:r.d= .bl b):QC fa ρ=some b:=by
 unfold QC
 rw[ha,Za,e];rfl
theorem QdI(h:g ρ=some b):Qc9 g ρ=some (!b):=by unfold Qc9;rw[h];rfl
theorem QcV(ha:g1 ρ=some a)(hb:g2 ρ=some b):bOr g1 g2 ρ=some (a || b):=by
 unfold bOr;rw[ha];cases a<;>simp[hb]
theorem QlB(ha:g1 ρ=some a)(hb:g2 ρ=some b):Qd4 g1 g2 ρ=some (a && b):=by
 unfold Qd4;rw[ha];cases a<;>simp[hb]
theorem Qb6(ha:fa ρ=some ra)(ea:ra.d= .int a)(hb:fb ρ=some rb)(eb:rb.d= .int b)(h:Qdh a b=true):Qar fa fb ρ=some ⟨.int (a*b),true,[]⟩:=by
 unfold Qar
 rw[ha,Za,hb,Za,ea,eb]
 simp[h]
theorem QM(ha:fa ρ=some ra)(ea:ra.d= .int a)(hb:fb ρ=some rb)(eb:rb.d= .int b):QE fa fb ρ=some ⟨.int (a+b),true,[]⟩:=by
 unfold QE
 rw[ha,Za,hb,Za,ea,eb]
theorem QaE(ha:fa ρ=some ra)(ea:ra.d= .int a)(hb:fb ρ=some rb)(eb:rb.d= .int b)(h:0<b):dOp QaY fa fb ρ=some ⟨.int (a % b),true,[]⟩:=by
 refine QQ ha hb ?_
 rw[ea,eb]
 show(if b≠0 then some (D.int (Qfl a b))else none)=_
 rw[if_pos (by omega),Qo5 _ _ (by omega)]
theorem QsD(ha:fa ρ=some ra)(ea:ra.d= .int a)(hb:fb ρ=some rb)(eb:rb.d= .int b)(h:0<b)(h2:b<2^64):dOp QlX fa fb ρ=some ⟨.int (a / b),true,[]⟩:=by
 refine QQ ha hb ?_
 rw[ea,eb]
 have:QeG b=true:=by
  unfold QeG
  have h3:b.natAbs<2^8000:=ZC (by omega:b.natAbs<2^64) (Zbr (by decide) (by decide))
  simp only[Zk,decide_eq_true_eq]
  exact⟨by omega,h3⟩
 show(if QeG b=true then some (D.int (Qfa a b))else none)=_
 rw[if_pos this,Qpe _ _ (by omega)]
theorem QqC{fa fb:DE}{ρ:En}{ra rb:R}{m:Nat}{f:Nat->Int}{i:Int}(ha:fa ρ=some ra)(ea:ra.d=Qc m f)(hb:fb ρ=some rb)(eb:rb.d= .int i)(h0:0<=i)(h:i<m):Qm fa fb ρ=some ⟨.int (f i.toNat),true,[]⟩:=by
 unfold Qm
 rw[ha,Za,hb,Za,ea,eb]
 simp only[Qc,D.items,Za,Qlm h0 h,ZO]
 rfl
theorem Qk0{fa fb:DE}{ρ:En}{ra rb:R}{ns:List Int}{i:Int}{v:Int}(ha:fa ρ=some ra)(ea:ra.d= .lst (ns.map .int))(hb:fb ρ=some rb)(eb:rb.d= .int i)(h0:0<=i)(h:ns[i.toNat]? =some v):Qm fa fb ρ=some ⟨.int v,true,[]⟩:=by
 have hl:i<ns.length:=by have:=(Zb.mp h).1;omega
 unfold Qm
 rw[ha,Za,hb,Za,ea,eb]
 simp only[D.items,Za]
 rw[Qfy h0 (by simpa using hl),Zo,h]
 rfl
noncomputable def Qej:DS:=(Qe (sIf (QC (dOp gLt (Qa 1) (dBf QbF (Qb (Qa 0) Qf)))) (Qe (QS (Qm (Qa 0) (Qa 1))) Qp) Qp) (Qe (QS (dC (.int 0))) Qp))
def Qfj(d:Den):Prop:=∀(ns:List Int) (k:Nat),d [.lst (ns.map .int),.int k]=some (.int (ns.getD k 0),true)
theorem QpR:Qfj (Qr 2 Qej):=λns k=>by
 refine Qac ?_
 refine Qa0 (Q7 (b:=decide ((k:Int)<ns.length)) ?_ (λh=>?_) (λh=>?_))
 ·refine QF (QQ (rb:=⟨.int ns.length,true,[]⟩) rfl ?_ rfl) rfl
  show some (HS.R.mk (.int ((ns.map D.int).length:Int)) true [])=_
  rw[Zi]
 ·have h:=of_decide_eq_true h
  have hk:k<ns.length:=by omega
  have e:ns[k]? =some (ns.getD k 0):=by rw[ZK,ZA hk];rfl
  exact Qa0 (Qlr (Qk0 rfl rfl rfl rfl (by omega) (by simpa using e)) ⟨rfl,rfl⟩)
 ·have h:=of_decide_eq_false h
  have e:ns.getD k 0=0:=by rw[ZK,Zv (by omega)];rfl
  rw[e]
  exact Ql (QN rfl ⟨rfl,rfl⟩)
noncomputable def Qe8:DS:=(Qe (QS (Qga (Qg5 "int" (Qa 0)) (QoW (Qg5 "bool" (Qa 0))))) Qp)
def Qhx(d:Den):Prop:=∀i:Int,d [.int i]=some (.bl true,true)
theorem Qo2:Qhx (Qr 1 Qe8):=λi=>rfl
noncomputable def QaB(t k:Int):Int:=(t+17)*(k*k+7*k+11)*69621 % 2147483647
noncomputable def Qc7(m t k:Int):Int:=if QaB t k % (k+1)<k then(QaB t k % (k+1)+t) % m else m
noncomputable def Qc8(m t kind:Int)(k:Int):Int×Int×Bool:=((k+t) % m,Qc7 m t k,decide (kind=2) || (decide (kind=3) && decide (QaB t k / 64 % 2=1)))
noncomputable def QaU(m:Nat)(t kind:Int):List (Int×Int×Bool):=(List.range m).map λ(k:Nat)=>Qc8 m t kind k
def GoodW(m:Nat)(w:Int×Int×Bool):Prop:=Good m (w.1,w.2.1)/\(w.2.2=true->w.1<m)
noncomputable def QtO(W:List (Int×Int×Bool)):D:= .lst (W.map Qpg)
@[simp] theorem Qtq(W:List (Int×Int×Bool)):(QtO W).flat=false:=rfl
theorem Qnc{a x n:Int}(h1:0<x)(h2:x<n):(a+x) % n≠a % n:=λh=>by
 have h3:(a+x-a) % n=0:=Int.emod_eq_emod_iff_emod_sub_eq_zero.mp h
 rw[show a+x-a=x by omega,ZbG (by omega) h2]at h3
 omega
theorem Qno{m:Nat}{t kind:Int}{k:Nat}(hk:k<m):GoodW m (Qc8 m t kind k):=by
 have hm:(0:Int)<m:=by omega
 have h1:=Zab ((k:Int)+t) (by omega:(m:Int)≠0)
 have h2:=ZX ((k:Int)+t) hm
 unfold Qc8 Qc7
 split
 ·rename_i hlt
  have h3:=Zab (QaB t k) (by omega:((k:Int)+1)≠0)
  have h4:=Zab (QaB t k % (k+1)+t) (by omega:(m:Int)≠0)
  have h5:=ZX (QaB t k % (k+1)+t) hm
  refine⟨⟨h1,h4,by dsimp only;omega,by dsimp only;omega,?_⟩,λ_=>by dsimp only;omega⟩
  dsimp only
  have h6:=Qnc (a:=QaB t k % (k+1)+t) (x:=k-QaB t k % (k+1)) (n:=m) (by omega) (by omega)
  rw[show QaB t k % (k+1)+t+(k-QaB t k % (k+1))=k+t by omega]at h6
  exact h6
 ·exact⟨⟨h1,by dsimp only;omega,by dsimp only;omega,by dsimp only;omega,by dsimp only;omega⟩,λ_=>by dsimp only;omega⟩
theorem QhP(hx:ρ[x]? =some (some (.lst xs,true)))(ha:fa ρ=some r)(hf:r.d.flat=true)(hl:xs.length<16777216)(q:Q (.nx (ρ.set x (some (.lst (xs++[r.d]),true))))):Run (Qch x Q1 fa) ρ Q:=by
 refine⟨_,?_,q⟩
 have hn:r.norm=⟨r.d,true,[]⟩:=by unfold HS.R.norm;rw[if_pos hf]
 unfold Qch
 rw[hx]
 simp only[Q1,Za,ha,Qa3,QiR,hn,Qao,kill,QeC]
 simp[hl]
theorem Run.nx(h:Run f ρ (Nx Q))(m:∀ρ,Q ρ->Q' ρ):Run f ρ (Nx Q'):=h.mono λo ho=>by
 cases o with
 | nx ρ=>exact m ρ ho
 | _=>exact ho.elim
theorem Qah(h:Run f ρ (Nx P))(k:∀ρ',P ρ'->Run g ρ' Q):Run (Qe f g) ρ Q:=run_seq (h.nx k)
noncomputable def Qb1(c:Int):Int:=c*48271 % 2147483647
noncomputable def mStart(m c:Int):Int:=Qb1 c % (m+1)
noncomputable def Qoy(m c:Int):Int:=(mStart m c+1+Qb1 c / 9 % m) % (m+1)
noncomputable def Qcr(m kind c:Int):Int×Int×Bool:=(mStart m c,Qoy m c,decide (mStart m c<m) && (decide (kind=2) || (decide (kind=3) && decide (Qb1 c / 72 % 3=1))))
theorem QnP{m:Nat}(hm:0<m)(kind c:Int):GoodW m (Qcr m kind c):=by
 have h1:=Zab (Qb1 c) (by omega:(m:Int)+1≠0)
 have h2:=ZX (Qb1 c) (by omega:(0:Int)<m+1)
 have h3:=Zab (Qb1 c / 9) (by omega:(m:Int)≠0)
 have h4:=ZX (Qb1 c / 9) (by omega:(0:Int)<m)
 have h5:=Zab (mStart m c+1+Qb1 c / 9 % m) (by omega:(m:Int)+1≠0)
 have h6:=ZX (mStart m c+1+Qb1 c / 9 % m) (by omega:(0:Int)<m+1)
 have h7:=Qnc (a:=mStart m c) (x:=1+Qb1 c / 9 % m) (n:=(m:Int)+1) (by omega) (by omega)
 rw[← Int.add_assoc,show mStart m c % ((m:Int)+1)=mStart m c from ZbG h1 h2]at h7
 refine⟨⟨h1,h5,?_,?_,λz=>h7 z.symm⟩,λh=>?_⟩
 ·show mStart m c<=m;unfold mStart;omega
 ·show Qoy m c<=m;unfold Qoy;omega
 ·have:(Qcr m kind c).2.2=(decide (mStart m c<m) && (decide (kind=2) || (decide (kind=3) && decide (Qb1 c / 72 % 3=1)))):=rfl
  rw[this,Zk,decide_eq_true_eq]at h
  exact h.1
noncomputable def Qbt(w:Int×Int×Bool):Int×Int:=(if w.2.1<w.1 then w.2.1 else w.1,if w.2.1>w.1 then w.2.1 else w.1)
noncomputable def QaV(w:Int×Int×Bool):Int×Int:=(w.1,w.2.1)
noncomputable def Qcj(W:List (Int×Int×Bool)):List (Int×Int):=(W.filter λw=> !w.2.2).map Qbt
noncomputable def QcK(W:List (Int×Int×Bool)):List (Int×Int):=(W.filter λw=>w.2.2).map QaV
theorem QeO{m:Nat}{W:List (Int×Int×Bool)}(h:∀w∈W,GoodW m w):∀s∈Qcj W,Good m s/\s.1<s.2:=λs hs=>by
 obtain⟨w,hw,rfl⟩:=ZI.mp hs
 obtain⟨⟨h1,h2,h3,h4,h5⟩,_⟩:=h w (ZN.mp hw).1
 simp only at h1 h2 h3 h4 h5
 unfold Qbt Good
 simp only
 split<;>split<;>omega
theorem Qer{m:Nat}{W:List (Int×Int×Bool)}(h:∀w∈W,GoodW m w):∀s∈QcK W,Good m s/\s.1<m:=λs hs=>by
 obtain⟨w,hw,rfl⟩:=ZI.mp hs
 obtain⟨h1,h2⟩:=h w (ZN.mp hw).1
 exact⟨h1,h2 (by simpa using(ZN.mp hw).2)⟩
theorem Qik(W:List (Int×Int×Bool)):(Qcj W).length<=W.length:=by unfold Qcj;rw[Zi];exact List.length_filter_le _ _
theorem Qh3(W:List (Int×Int×Bool)):(QcK W).length<=W.length:=by unfold QcK;rw[Zi];exact List.length_filter_le _ _
structure Qtg (m:Nat) (t kind:Int) (R L:List (Int×Int)):Prop where
 ex:∃W,(∀w∈QaU m t kind,w∈W)/\(∀w∈W,GoodW m w)/\W.length<=100/\R=Qcj W/\L=QcK W
theorem Qtg.good{m:Nat}{t kind:Int}{R L:List (Int×Int)}(h:Qtg m t kind R L):(∀s∈R,Good m s)/\(∀s∈L,Good m s)/\R.length<=100/\L.length<=100:=by
 obtain⟨W,_,h2,h3,rfl,rfl⟩:=h.ex
 exact⟨λs hs=>(QeO h2 s hs).1,λs hs=>(Qer h2 s hs).1,ZH (Qik W) h3,ZH (Qh3 W) h3⟩
theorem Qpb{fa:DE}{ρ:En}{r:R}{ns:List Int}{a b:Int}(h:fa ρ=some r)(e:r.d= .lst (ns.map .int)):∃cs:List Int,cs.length<=ns.length/\Qc4 fa (QbI (dC (.int a))) (QbI (dC (.int b))) ρ=some ⟨.lst (cs.map .int),true,[]⟩:=by
 refine⟨(ns.drop (HT.sIx ns.length 0 (some a))).take (HT.sIx ns.length ns.length (some b)-HT.sIx ns.length 0 (some a)),by rw[ZaC,ZaO];omega,?_⟩
 unfold Qc4 QbI
 rw[h,Za,e]
 simp only[Qe2,Za,cutD,QT,Zi,← Zcb,← Zcc,QlL,if_true]
theorem Qow{m:Nat}{t kind:Int}:∀w∈QaU m t kind,GoodW m w:=λw hw=>by
 obtain⟨k,hk,rfl⟩:=ZI.mp hw
 exact Qno (Zh.mp hk)
theorem Qj2(m:Nat)(t kind:Int):(QaU m t kind).length=m:=by simp[QaU]
theorem QdA:up f i v k=if k=i then v else f k:=rfl
theorem Qbc{fa:DE}{ρ:En}{r:R}{m:Int}{R L:List (Int×Int)}(h:fa ρ=some r)(e:r.d=Qg m R L):
  Qm fa (dC (.int 0)) ρ=some ⟨.int m,true,[]⟩/\Qm fa (dC (.int 1)) ρ=some ⟨Qt R,r.fr,r.M⟩/\Qm fa (dC (.int 2)) ρ=some ⟨Qt L,r.fr,r.M⟩:=by
 unfold Qm
 rw[h]
 simp only[Za,e,Qe2]
 exact⟨rfl,rfl,rfl⟩
theorem Qjp{α:Type}{g:α->Int}{xs:List α}{i:Nat}{x:α}(h:xs[i]? =some x):((xs.take (i+1)).map g).sum=((xs.take i).map g).sum+g x:=by
 rw[List.take_add_one,h,ZT,ZaT];simp
theorem QdC(h:fa ρ=some r)(e:r.d= .lst xs):dBf QbF (Qb fa Qf) ρ=some ⟨.int xs.length,true,[]⟩:=by
 unfold dBf
 rw[Qj h (QL _),Za]
 simp[e,QbF]
theorem Qim(n:Nat)(ps:List (Int×Int)):(Qt ps).sim (n+2)=true:=by
 unfold Qt
 simp only[D.sim,Zby,ZV]
 intro p _
 cases n<;>rfl
theorem Qg0(ha:fa ρ=some ra)(ea:ra.d=d)(hb:fb ρ=some rb)(eb:rb.d=d)(hs:d.sim 8=true):dOp gNe fa fb ρ=some ⟨.bl false,true,[]⟩:=by
 refine QQ ha hb ?_
 rw[ea,eb]
 unfold gNe
 rw[hs,Qj8 hs];rfl
def Qko(d:Den):Prop:=∀(m:Nat) (R L:List (Int×Int)),m<=1000->R.length+R.length+L.length<=1000000->(∀s∈R,Good m s)->(∀s∈L,Good m s)->d [Qg m R L]=some (Qc m (QU R L),true)
theorem Qqd(h:Qff d):Qko (Qr 1 (Qd2 d)):=λm R L h1 h2 h3 h4=>Qon h h1 h2 h3 h4
def Esc(m:Nat)(W:List (Int×Int×Bool)):Prop:=∀A:Nat->Prop,(∃p,p<m/\A p)->∃w∈W,w.1<m/\A w.1.toNat/\(w.2.1=m∨¬A w.2.1.toNat)
theorem Esc.mono{m:Nat}{W W':List (Int×Int×Bool)}(h:Esc m W)(s:∀w∈W,w∈W'):Esc m W':=λA hA=>let ⟨w,hw,r⟩:=h A hA;⟨w,s w hw,r⟩
def Qod(m:Nat)(O:List Int)(w:Int×Int×Bool)(j:Nat):Prop:=O[j]? =some w.1/\(w.2.1=m∨∃i,i<j/\O[i]? =some w.2.1)
theorem Qod.app{m:Nat}{O O':List Int}{w:Int×Int×Bool}{j:Nat}(h:Qod m O w j):Qod m (O++O') w j:=by
 obtain⟨h1,h2⟩:=h
 have hj:j<O.length:=(Zb.mp h1).1
 refine⟨by rw[ZP hj];exact h1,?_⟩
 rcases h2 with h2 | ⟨i,hi,h2⟩
 ·exact .inl h2
 ·exact .inr ⟨i,hi,by rw[ZP (by omega)];exact h2⟩
noncomputable def Qaa(m:Nat)(g:Nat->Int):Int:=((List.range m).map g).sum
theorem QbN(m:Nat)(g:Nat->Int):Qaa (m+1) g=Qaa m g+g m:=by
 unfold Qaa;rw[Zap,ZT,ZaT];simp
theorem Qcq(h:∀i,i<m->f i=g i):Qaa m f=Qaa m g:=by
 unfold Qaa;rw[ZL λi hi=>h i (Zh.mp hi)]
theorem Qf6(m:Nat)(f g:Nat->Int):Qaa m (λi=>f i+g i)=Qaa m f+Qaa m g:=by
 induction m with
 | zero=>rfl
 | succ m ih=>rw[QbN,QbN,QbN,ih];omega
theorem QcX(m:Nat):Qaa m (λ_=>0)=0:=by
 induction m with
 | zero=>rfl
 | succ m ih=>rw[QbN,ih];rfl
theorem Qd1(hp:p<m)(v:Int)(f:Nat->Int):Qaa m (λi=>(if i=p then v else 0)*f i)=v*f p:=by
 induction m with
 | zero=>omega
 | succ m ih=>
  rw[QbN]
  by_cases h:p=m
  ·subst h
   rw[if_pos rfl,Qcq (g:=λ_=>0) λi hi=>by rw[if_neg (by omega)];simp,QcX];simp
  ·rw[ih (by omega),if_neg (λz=>h z.symm)];simp
noncomputable def Qf1(m:Nat)(T:Nat->Nat->Int)(f c:Nat->Int):Nat->Int:=λj=>f j+Qaa m λi=>c i*T i j
theorem QfH(h:∀i,i<m->f i=g i):Qc m f=Qc m g:=by
 unfold Qc
 congr 1
 refine ZL λi hi=>?_
 rw[h i (Zh.mp hi)]
noncomputable def QdX:DS:=(Qe (QaZ (QX (Qa 1)) (.nm 2) (Qe (sIf (QC (dOp gNe (dBf QbF (Qb (Qa 2) Qf)) (Qm (Qa 0) (dC (.int 0))))) (Qe QH Qp) Qp) Qp)) Qp)
def Qjw(d:Den):Prop:=∀(m:Nat) (R L:List (Int×Int)) (fs:List (Nat->Int)),d [Qg m R L,.lst (fs.map λf=>Qc m f)]=some (.non,true)
theorem QqJ:Qjw (Qr 3 QdX):=λm R L fs=>by
 have key:Run QdX (Qal 3 [Qg m R L,.lst (fs.map λf=>Qc m f)]) (Nx λ_=>True):=by
  refine run_seq (Q9 fs (λ_ ρ=>∃j2,ρ=[some (Qg m R L,false),some (.lst (fs.map λf=>Qc m f),false),j2]) rfl rfl ⟨none,rfl⟩ ?_ ?_)
  ·rintro i f ρ _ ⟨j2,rfl⟩
   refine⟨_,rfl,?_⟩
   refine run_seq (Q7 (b:=false) (QF (Qg2 (QdC rfl rfl) rfl (Qbc rfl rfl).1 rfl) (by simp)) (λh=>by cases h) (λ_=>Ql (Ql ⟨_,rfl⟩)))
  ·rintro ρ ⟨j2,rfl⟩
   exact Ql trivial
 obtain⟨o,h1,h2⟩:=key
 unfold Qr
 rw[h1]
 cases o with
 | nx ρ=>rfl
 | _=>exact h2.elim
theorem Qf4(h:fa ρ=some r)(q:Q (.nx ρ)):Run (QdQ fa) ρ Q:=⟨_,by simp[QdQ,h],q⟩
theorem Qmn(f g:Nat->D):Qfe ((List.range m).map f) ((List.range m).map g)=(List.range m).map λi=> .tup [f i,g i]:=by
 generalize List.range m=l
 induction l with
 | nil=>rfl
 | cons n ns ih=>unfold Qfe at ih ⊢;simp only[Zu,List.zip_cons_cons,ih]
theorem Qn6(h:fs ρ=some rs)(e:rs.ds=[Qc m f]):dList fs ρ=some ⟨Qc m f,true,[]⟩:=by
 unfold dList
 rw[h,Za,e]
 simp[Qc,QT]
theorem Qqk(ha:fa ρ=some ra)(ea:ra.d= .lst ((List.range m).map f))(hb:fb ρ=some rb)(eb:rb.d= .lst ((List.range m).map g)):Qfu fa fb ρ=some ⟨(List.range m).map λi=> .tup [f i,g i],ra.M++rb.M⟩:=by
 unfold Qfu
 rw[ha,Za,hb,Za,ea,eb]
 simp only[Qmn]
theorem Qqa(i j:Nat)(s:Int×Int):(hit i j s).natAbs<=1:=by unfold hit;split<;>split<;>decide
theorem QfO(i j:Nat):∀S:List (Int×Int),((S.map (hit i j)).sum).natAbs<=S.length
 | []=>by simp
 | s::S=>by
  have:=QfO i j S
  have:=Qqa i j s
  rw[Zu,ZS,Zq]
  omega
structure Qcx (m:Nat) (R L:List (Int×Int)):Prop where
 ex:∃W,Esc m W/\(∀w∈W,GoodW m w)/\W.length<=200/\R=Qcj W/\L=QcK W
theorem Qcx.good{m:Nat}{R L:List (Int×Int)}(h:Qcx m R L):(∀s∈R,Good m s)/\(∀s∈L,Good m s)/\R.length<=200/\L.length<=200/\(∀s∈R,s.1<s.2)/\∀s∈L,s.1<m:=by
 obtain⟨W,_,h2,h3,rfl,rfl⟩:=h.ex
 exact⟨λs hs=>(QeO h2 s hs).1,λs hs=>(Qer h2 s hs).1,ZH (Qik W) h3,ZH (Qh3 W) h3,λs hs=>(QeO h2 s hs).2,λs hs=>(Qer h2 s hs).2⟩
theorem Qi3(hx:ρ[x]? =some (some (Qt A,true)))(ha:fa ρ=some r)(hf:r.d=pairD p)(hl:A.length<16777216)(q:Q (.nx (ρ.set x (some (Qt (A++[p]),true))))):Run (Qch x Q1 fa) ρ Q:=by
 refine QhP (xs:=A.map pairD) hx ha (by rw[hf];rfl) (by simpa using hl) ?_
 rw[hf]
 unfold Qt at q
 rw[ZT]at q
 exact q
theorem Qh5{α:Type}(m:Nat)(g:Nat->α->Int):∀S:List α,Qaa m (λj=>(S.map (g j)).sum)=(S.map λs=>Qaa m λj=>g j s).sum
 | []=>by simp[QcX]
 | s::S=>by
  simp only[Zu,ZS]
  rw[Qf6,Qh5 m g S]
theorem Qlu{α:Type}(c:Int)(f:α->Int):∀S:List α,c*(S.map f).sum=(S.map λs=>c*f s).sum
 | []=>by simp
 | s::S=>by simp only[Zu,ZS,Int.mul_add,Qlu c f S]
theorem Qle(ha:fa ρ=some ra)(ea:ra.d=d)(hb:fb ρ=some rb)(eb:rb.d=d)(hs:d.sim 8=true):dOp gEq fa fb ρ=some ⟨.bl true,true,[]⟩:=by
 refine QQ ha hb ?_
 rw[ea,eb]
 unfold gEq
 rw[hs,Qj8 hs];rfl
structure TP (m:Nat) (T:Nat->Nat->Int):Prop where
 neg:∀p,p<m->T p p<0
 pos:∀i j,i<m->j<m->i≠j->0<=T i j
 bnd:∀i j,i<m->j<m->(T i j).natAbs<2^64
 wt:∃w:Nat->Int,(∀j,0<=w j)/\∀i,i<m->Qaa m (λj=>T i j*w j)<= -1
inductive Leg (m:Nat) (T:Nat->Nat->Int) (f:Nat->Int):(Nat->Int)->Prop where
 | nil:Leg m T f λ_=>0
 | step {c:Nat->Int}{p:Nat}{t:Int}:Leg m T f c->p<m->0<=t->t*(0-T p p)<=Qf1 m T f c p->Leg m T f (up c p (c p+t))
def Stb(m:Nat)(T:Nat->Nat->Int)(g:Nat->Int):Prop:=∀p,p<m->g p<0-T p p
theorem Qlj(h:∀i,i<m->f i<=g i):Qaa m f<=Qaa m g:=by
 induction m with
 | zero=>exact ZaF _
 | succ m ih=>
  rw[QbN,QbN]
  have:=ih λi hi=>h i (by omega)
  have:=h m (by omega)
  omega
theorem Leg.least(tp:TP m T)(h:Leg m T f c)(h0:∀i,i<m->0<=c' i)(hs:Stb m T (Qf1 m T f c')):∀i,i<m->c i<=c' i:=by
 induction h with
 | nil=>exact h0
 | @step c p t _ hp ht hle ih=>
  intro i hi
  unfold up
  split
  ·rename_i e
   subst e
   have key:Qf1 m T f c i+(c' i-c i)*T i i<=Qf1 m T f c' i:=by
    unfold Qf1
    have e1:Qaa m (λk=>c k*T k i)+(c' i-c i)*T i i=Qaa m (λk=>c k*T k i+(if k=i then c' i-c i else 0)*T k i):=by rw[Qf6,Qd1 hi]
    have e2:Qaa m (λk=>c k*T k i+(if k=i then c' i-c i else 0)*T k i)<=Qaa m (λk=>c' k*T k i):=by
     refine Qlj λk hk=>?_
     by_cases hki:k=i
     ·subst hki;rw[if_pos rfl,← Zbs];rw[show c k+(c' k-c k)=c' k by omega];exact ZaF _
     ·rw[if_neg hki,Int.zero_mul,ZbU]
      exact Zbm (ih k hk) (tp.pos k i hk hi hki)
    omega
   have h1:=hs i hi
   have h2:=tp.neg i hi
   by_cases hlt:c i+t<=c' i
   ·exact hlt
   ·exfalso
    have h3:(c' i-c i+1)<=t:=by omega
    have h4:(c' i-c i+1)*(0-T i i)<=t*(0-T i i):=Zbm h3 (by omega)
    have h5:(c' i-c i+1)*(0-T i i)=(0-T i i)-(c' i-c i)*T i i:=by rw[Zbs,Int.one_mul,Int.mul_sub,Int.mul_zero];omega
    omega
  ·exact ih i hi
theorem Leg.cast(h:Leg m T f c)(e:∀i,c i=d i):Leg m T f d:=by
 have:c=d:=funext e
 rw[← this];exact h
theorem QaH{i:Nat}(ha:fa ρ=some ra)(ea:ra.d=Qc m f)(hb:fb ρ=some rb)(eb:rb.d= .int i)(h:i<m):Qm fa fb ρ=some ⟨.int (f i),true,[]⟩:=by
 have:=QqC ha ea hb eb (by omega) (by omega)
 rw[Zy]at this
 exact this
def QjV(m:Nat)(S:List (Int×Int)):Prop:=∀A:Nat->Prop,(∃p,p<m/\A p)->∃s∈S,s.1<m/\A s.1.toNat/\(s.2=m∨¬A s.2.toNat)
theorem Qh2(h:Esc m W):QjV m (Qu (Qcj W) (QcK W)):=λA hA=>by
 obtain⟨w,hw,h1,h2,h3⟩:=h A hA
 refine⟨(w.1,w.2.1),?_,h1,h2,h3⟩
 unfold Qu
 cases e:w.2.2 with
 | true=>exact Zd _ (ZI.mpr ⟨w,ZN.mpr ⟨hw,e⟩,rfl⟩)
 | false=>
  have hr:Qbt w∈Qcj W:=ZI.mpr ⟨w,ZN.mpr ⟨hw,by simp[e]⟩,rfl⟩
  by_cases hlt:w.2.1<w.1
  ·refine Zg _ (Zd _ (ZI.mpr ⟨Qbt w,hr,?_⟩))
   unfold Qbt
   rw[if_pos hlt,if_neg (by omega)];rfl
  ·refine Zg _ (Zg _ ?_)
   have:Qbt w=(w.1,w.2.1):=by
    unfold Qbt
    rw[if_neg hlt]
    by_cases hgt:w.2.1>w.1
    ·rw[if_pos hgt]
    ·rw[if_neg hgt];rw[show w.2.1=w.1 by omega]
   rw[← this];exact hr
inductive Rk (m:Nat) (S:List (Int×Int)):Nat->Nat->Prop where
 | pit {s:Int×Int}{n:Nat}:s∈S->s.2=m->Rk m S (n+1) s.1.toNat
 | step {s:Int×Int}{k n:Nat}:s∈S->s.2≠m->Rk m S k s.2.toNat->k<n->Rk m S n s.1.toNat
theorem Qkv{P:Nat->Prop}(h:∃n,P n):∃n,P n/\∀k,k<n->¬P k:=by
 obtain⟨n,hn⟩:=h
 induction n using Nat.strongRecOn with
 | _ n ih=>
  by_cases h:∃k,k<n/\P k
  ·obtain⟨k,hk,h⟩:=h;exact ih k hk h
  ·exact⟨n,hn,λk hk hx=>h ⟨k,hk,hx⟩⟩
theorem QtV(he:QjV m S):∀p,p<m->∃n,Rk m S n p:=λp hp=>by
 by_cases h:∃n,Rk m S n p
 ·exact h
 ·exfalso
  obtain⟨s,hs,h1,h2,h3⟩:=he (λp=>¬ ∃n,Rk m S n p) ⟨p,hp,h⟩
  by_cases e:s.2=m
  ·exact h2 ⟨1,.pit hs e⟩
  ·rcases h3 with h3 | h3
   ·exact e h3
   ·have:∃n,Rk m S n s.2.toNat:=ZbC λz=>h3 z
    obtain⟨k,hk⟩:=this
    exact h2 ⟨k+1,.step hs e hk (by omega)⟩
theorem QqL{m:Nat}{S:List (Int×Int)}(hg:∀s∈S,Good m s)(he:QjV m S):∃r:Nat->Nat,r m=0/\∀p,p<m->∃s∈S,s.1=p/\r s.2.toNat<r p:=by
 have h:∀p,∃n,(p<m->Rk m S n p/\∀k,k<n->¬Rk m S k p)/\(p=m->n=0):=λp=>by
  by_cases hp:p<m
  ·obtain⟨n,hn⟩:=Qkv (QtV he p hp)
   exact⟨n,λ_=>hn,λz=>by omega⟩
  ·exact⟨0,λz=>absurd z hp,λ_=>rfl⟩
 obtain⟨r,hr⟩:=ZbO h
 refine⟨r,(hr m).2 rfl,λp hp=>?_⟩
 have h1:=((hr p).1 hp).1
 generalize r p=n at h1
 cases h1 with
 | @pit s n hs e=>
  obtain⟨g1,g2,g3,g4,g5⟩:=hg s hs
  exact⟨s,hs,by omega,by rw[e,Zy,(hr m).2 rfl];omega⟩
 | @step s k n hs e hk hkn=>
  obtain⟨g1,g2,g3,g4,g5⟩:=hg s hs
  refine⟨s,hs,by omega,?_⟩
  have hl:s.2.toNat<m:=by omega
  have:=((hr s.2.toNat).1 hl).2 k
  have:¬k<r s.2.toNat:=λz=>this z hk
  omega
theorem Qj3(r:Nat->Nat):∀m:Nat,∃N,∀p,p<=m->r p<=N
 | 0=>⟨r 0,λp hp=>by rw[show p=0 by omega];exact Zp _⟩
 | m+1=>by
  obtain⟨N,hN⟩:=Qj3 r m
  refine⟨N+r (m+1),λp hp=>?_⟩
  by_cases e:p=m+1
  ·subst e;omega
  ·have:=hN p (by omega);omega
theorem Qm2(hi:i<m)(g:Good m s)(w:Nat->Int)(hw:w m=0):Qaa m (λj=>hit i j s*w j)=if s.1=i then w s.2.toNat-w i else 0:=by
 obtain⟨g1,g2,g3,g4,g5⟩:=g
 by_cases h:s.1=i
 ·rw[if_pos h]
  have e:Qaa m (λj=>hit i j s*w j)=Qaa m (λj=>(if j=s.2.toNat then 1 else 0)*w j+(if j=i then-1 else 0)*w j):=Qcq λj _=>by
   have:hit i j s=(if j=s.2.toNat then 1 else 0)+(if j=i then-1 else 0):=by
    unfold hit
    by_cases a:s.2=j
    ·by_cases b:i=j
     ·rw[if_pos ⟨h,a⟩,if_pos ⟨h,b⟩,if_pos (by omega),if_pos b.symm];omega
     ·rw[if_pos ⟨h,a⟩,if_neg (λz=>b z.2),if_pos (by omega),if_neg (λz=>b z.symm)];omega
    ·by_cases b:i=j
     ·rw[if_neg (λz=>a z.2),if_pos ⟨h,b⟩,if_neg (by omega),if_pos b.symm];omega
     ·rw[if_neg (λz=>a z.2),if_neg (λz=>b z.2),if_neg (by omega),if_neg (λz=>b z.symm)];omega
   rw[this,Zbs]
  rw[e,Qf6,Qd1 hi]
  by_cases hm:s.2.toNat<m
  ·rw[Qd1 hm];omega
  ·have e2:Qaa m (λj=>(if j=s.2.toNat then 1 else 0)*w j)=0:=by
    rw[Qcq λj hj=>by rw[if_neg (by omega),Int.zero_mul],QcX]
   rw[e2,show s.2.toNat=m by omega,hw];omega
 ·rw[if_neg h]
  rw[Qcq (g:=λ_=>0) λj hj=>by
   unfold hit
   rw[if_neg (λz=>h z.1),if_neg (λz=>h z.1)];rw[Int.sub_self,Int.zero_mul],QcX]
theorem Qgv{α:Type}{g:α->Int}{X:Int}:∀S:List α,(∀s∈S,g s<=X)->(S.map g).sum<=S.length*X
 | [],_=>by simp
 | a::S,h=>by
  have h1:=h a (by simp)
  have h2:=Qgv S λs hs=>h s (by simp[hs])
  simp only[Zu,ZS,Zq,Int.natCast_add,Zbs]
  rw[show((1:Nat):Int)*X=X by simp]
  omega
theorem QgH{α:Type}{g:α->Int}{X Y:Int}:∀(S:List α),(∀s∈S,g s<=X)->(∃s∈S,g s<=Y)->(S.map g).sum<=S.length*X-X+Y
 | [],_,h=>by obtain⟨s,hs,_⟩:=h;exact absurd hs (by simp)
 | a::S,h,h2=>by
  obtain⟨s,hs,hy⟩:=h2
  have hb:∀s∈S,g s<=X:=λs hs=>h s (by simp[hs])
  simp only[Zu,ZS,Zq,Int.natCast_add,Zbs]
  rw[show((1:Nat):Int)*X=X by simp]
  rcases Zl.mp hs with e | hs
  ·subst e
   have:=Qgv S hb
   omega
  ·have:=QgH S hb ⟨s,hs,hy⟩
   have:=h a (by simp)
   omega
theorem Qcw{α:Type}{g:α->Int}:∀S:List α,(∀s∈S,0<=g s)->0<=(S.map g).sum
 | [],_=>by simp
 | a::S,h=>by
  have h1:=h a (by simp)
  have h2:=Qcw S λs hs=>h s (by simp[hs])
  simp only[Zu,ZS]
  omega
theorem QoP{m:Nat}{S:List (Int×Int)}(hg:∀s∈S,Good m s)(he:QjV m S)(hl:S.length<2^60):TP m (Qx m S):=by
 have hn:∀s∈S,0<=s.1/\0<=s.2:=λs hs=>⟨(hg s hs).1,(hg s hs).2.1⟩
 have pos:∀i j,i<m->j<m->i≠j->0<=Qx m S i j:=λi j hi hj hij=>by
  rw[QcI hi hj hn]
  refine Qcw S λs _=>?_
  unfold hit
  rw[if_neg (λz=>hij z.2) (c:=s.1=i/\i=j)]
  split<;>omega
 obtain⟨r,r0,hr⟩:=QqL hg he
 obtain⟨N,hN⟩:=Qj3 r m
 have M1:1<=S.length+1:=by omega
 have wt:∃w:Nat->Int,(∀j,0<=w j)/\∀i,i<m->Qaa m (λj=>Qx m S i j*w j)<= -1:=by
  refine⟨λv=>(((S.length+1)^N:Nat):Int)-(((S.length+1)^(N-r v):Nat):Int),λj=>?_,λi hi=>?_⟩
  ·have:=Zbr M1 (Nat.sub_le N (r j))
   show(0:Int)<=(((S.length+1)^N:Nat):Int)-(((S.length+1)^(N-r j):Nat):Int)
   omega
  ·generalize hw:(λv=>(((S.length+1)^N:Nat):Int)-(((S.length+1)^(N-r v):Nat):Int))=w
   have hw':∀v,w v=(((S.length+1)^N:Nat):Int)-(((S.length+1)^(N-r v):Nat):Int):=λv=>by rw[← hw]
   have wm:w m=0:=by rw[hw',r0,Nat.sub_zero];omega
   have e:Qaa m (λj=>Qx m S i j*w j)=(S.map λs=>if s.1=(i:Int)then w s.2.toNat-w i else 0).sum:=by
    rw[Qcq (g:=λj=>(S.map λs=>hit i j s*w j).sum) λj hj=>by
     rw[QcI hi hj hn,Int.mul_comm,Qlu]
     congr 1
     exact ZL λs _=>Int.mul_comm _ _]
    rw[Qh5 m (λj s=>hit i j s*w j) S]
    congr 1
    exact ZL λs hs=>Qm2 hi (hg s hs) w wm
   rw[e]
   obtain⟨s0,hs0,e0,hlt⟩:=hr i hi
   generalize hX:(((S.length+1)^(N-r i):Nat):Int)=X
   have X1:1<=X:=by
    have:0<(S.length+1)^(N-r i):=Nat.pow_pos (by omega)
    omega
   have key:=QgH (Y:=X-(S.length+1)*X) S (λs _=>by
    show(if s.1=i then w s.2.toNat-w i else 0)<=X
    split
    ·rw[hw',hw' i,hX]
     have:0<=(((S.length+1)^(N-r s.2.toNat):Nat):Int):=Int.natCast_nonneg _
     omega
    ·omega) ⟨s0,hs0,by
    show(if s0.1=i then w s0.2.toNat-w i else 0)<=_
    rw[if_pos e0,hw',hw' i,hX]
    have hb:=hN i (by omega)
    have h1:(S.length+1)^(N-r i+1)<=(S.length+1)^(N-r s0.2.toNat):=Zbr M1 (by omega)
    rw[Nat.pow_succ]at h1
    have h2:((((S.length+1)^(N-r i)*(S.length+1):Nat)):Int)<=(((S.length+1)^(N-r s0.2.toNat):Nat):Int):=by exact_mod_cast h1
    rw[Int.natCast_mul,hX,Int.mul_comm]at h2
    rw[show((S.length+1:Nat):Int)=(S.length:Int)+1 by omega]at h2
    omega⟩
   have:((S.length:Int)+1)*X=S.length*X+X:=by rw[Zbs,Int.one_mul]
   omega
 refine⟨λp hp=>?_,pos,λi j hi hj=>?_,wt⟩
 ·obtain⟨w,w0,hw⟩:=wt
  have h1:=hw p hp
  by_cases hneg:Qx m S p p<0
  ·exact hneg
  ·exfalso
   have:0<=Qaa m (λj=>Qx m S p j*w j):=by
    have:=Qlj (f:=λ_=>0) (g:=λj=>Qx m S p j*w j) λj hj=>by
     by_cases e:p=j
     ·subst e;exact ZbY (by omega) (w0 _)
     ·exact ZbY (pos p j hp hj e) (w0 _)
    rw[QcX]at this
    exact this
   omega
 ·rw[QcI hi hj hn]
  have:=QfO i j S
  omega
theorem Qcx.tp{m:Nat}{R L:List (Int×Int)}(h:Qcx m R L):TP m (Qx m (Qu R L)):=by
 have hg:=h.good
 refine QoP (QbZ hg.1 hg.2.1) ?_ ?_
 ·obtain⟨W,h1,_,_,rfl,rfl⟩:=h.ex
  exact Qh2 h1
 ·unfold Qu
  simp only[Zr,Zi]
  omega
theorem Qcx.neg{m:Nat}{R L:List (Int×Int)}(h:Qcx m R L){i:Nat}(hi:i<m):0-Qx m (Qu R L) i i=QU R L i:=by
 have hg:=h.good
 have hs:=QbZ hg.1 hg.2.1
 rw[QcI hi hi (λs z=>⟨(hs s z).1,(hs s z).2.1⟩),sum_neg _ _ (λs z=>(hs s z).2.2.2.2),QhT]
 omega
theorem QhU(m:Nat)(f:Nat->Int):Qc m f= .lst (((List.range m).map f).map D.int):=by
 unfold Qc;rw[Zac];rfl
theorem Qln:∀{ns:List Int},ns≠[]->∃m,Qgf ns=some m
 | [],h=>absurd rfl h
 | [n],_=>⟨n,rfl⟩
 | n::k::r,_=>by
  obtain⟨m,hm⟩:=Qln (ns:=k::r) (by simp)
  exact⟨if m<n then m else n,by simp only[Qgf,hm,ZO]⟩
theorem Qld:∀{ns:List Int},ns≠[]->∃m,Qgg ns=some m
 | [],h=>absurd rfl h
 | [n],_=>⟨n,rfl⟩
 | n::k::r,_=>by
  obtain⟨m,hm⟩:=Qld (ns:=k::r) (by simp)
  exact⟨if n<m then m else n,by simp only[Qgg,hm,ZO]⟩
theorem QmJ(h:0<m)(f:Nat->Int):(List.range m).map f≠[]:=by
 intro z
 have:=congrArg List.length z
 simp at this
 omega
theorem QqP(m0:0<m)(f:Nat->Int):∃v,(∃i,i<m/\v=f i)/\(∀i,i<m->v<=f i)/\∀{fa:DE}{ρ:En}{r:R},fa ρ=some r->r.d=Qc m f->dBf QcS (Qb fa Qf) ρ=some ⟨.int v,true,[]⟩:=by
 obtain⟨v,hv⟩:=Qln (QmJ m0 f)
 obtain⟨h1,h2⟩:=Qfv hv
 refine⟨v,?_,λi hi=>h2 _ (ZI.mpr ⟨i,Zh.mpr hi,rfl⟩),λ{fa ρ r} h e=>?_⟩
 ·obtain⟨i,hi,e⟩:=ZI.mp h1
  exact⟨i,Zh.mp hi,e.symm⟩
 ·unfold dBf
  rw[Qj h (QL _),Za]
  simp only[e,QhU,QcS,Qci,Za,hv,ZO]
theorem Qqq(m0:0<m)(f:Nat->Int):∃v,(∃i,i<m/\v=f i)/\(∀i,i<m->f i<=v)/\∀{fa:DE}{ρ:En}{r:R},fa ρ=some r->r.d=Qc m f->dBf QcU (Qb fa Qf) ρ=some ⟨.int v,true,[]⟩:=by
 obtain⟨v,hv⟩:=Qld (QmJ m0 f)
 obtain⟨h1,h2⟩:=QfF hv
 refine⟨v,?_,λi hi=>h2 _ (ZI.mpr ⟨i,Zh.mpr hi,rfl⟩),λ{fa ρ r} h e=>?_⟩
 ·obtain⟨i,hi,e⟩:=ZI.mp h1
  exact⟨i,Zh.mp hi,e.symm⟩
 ·unfold dBf
  rw[Qj h (QL _),Za]
  simp only[e,QhU,QcU,Qci,Za,hv,ZO]
noncomputable def Qdv(Qbv:Den):DS:=(Qe (QdQ (Qv 2 Qbv [] (Qb (Qa 0) (Qb (Qa 1) Qf)))) (Qe (QaZ (QX (Qa 1)) (.nm 2) (Qe (sIf (QC (dOp gLt (dBf QcS (Qb (Qa 2) Qf)) (dC (.int 0)))) (Qe QH Qp) Qp) Qp)) Qp))
def Qg9(d:Den):Prop:=∀(m:Nat) (R L:List (Int×Int)) (fs:List (Nat->Int)),0<m->(∀f∈fs,∀j,j<m->0<=f j)->d [Qg m R L,.lst (fs.map λf=>Qc m f)]=some (.non,true)
theorem Qpc(hn:Qjw dn):Qg9 (Qr 3 (Qdv dn)):=λm R L fs m0 hf=>by
 have key:Run (Qdv dn) (Qal 3 [Qg m R L,.lst (fs.map λf=>Qc m f)]) (Nx λ_=>True):=by
  refine run_seq (Qf4 (Qw rfl (hn m R L fs) rfl) ?_)
  refine run_seq (Q9 fs (λ_ ρ=>∃j2,ρ=[some (Qg m R L,false),some (.lst (fs.map λf=>Qc m f),false),j2]) rfl rfl ⟨none,rfl⟩ ?_ ?_)
  ·rintro i f ρ hi ⟨j2,rfl⟩
   refine⟨_,rfl,?_⟩
   obtain⟨v,⟨q,hq,e⟩,_,hv⟩:=QqP m0 f
   have h0:=hf f (ZD hi) q hq
   refine run_seq (Q7 (b:=false) (QF (QQ (hv rfl rfl) rfl rfl) ?_) (λh=>by cases h) (λ_=>Ql (Ql ⟨_,rfl⟩)))
   show D.bl _=_
   rw[decide_eq_false (by omega)]
  ·rintro ρ ⟨j2,rfl⟩
   exact Ql trivial
 obtain⟨o,h1,h2⟩:=key
 unfold Qr
 rw[h1]
 cases o with
 | nx ρ=>rfl
 | _=>exact h2.elim
structure Told (m:Nat) (T:Nat->Nat->Int) (f c:Nat->Int):Prop where
 leg:Leg m T f c
 pos:∀j,j<m->0<=Qf1 m T f c j
 stb:Stb m T (Qf1 m T f c)
theorem QoS{m:Nat}{t kind:Int}:Esc m (QaU m t kind):=λA hpt=>by
 obtain⟨p,hp,hA⟩:=hpt
 have ex:∃j:Nat,j<m/\A (((j:Int)+t) % m).toNat:=by
  have h1:=Zab ((p:Int)-t) (by omega:(m:Int)≠0)
  have h2:=ZX ((p:Int)-t) (by omega:(0:Int)<m)
  refine⟨(((p:Int)-t) % m).toNat,by omega,?_⟩
  have e:(((((p:Int)-t) % m).toNat:Int)+t) % m=p:=by
   rw[ZaU h1,Int.emod_add_emod,Int.sub_add_cancel]
   exact ZbG (by omega) (by omega)
  rw[e,Zy];exact hA
 obtain⟨j,⟨hj,hAj⟩,hmin⟩:=Qkv ex
 have s1:=Zab ((j:Int)+t) (by omega:(m:Int)≠0)
 have s2:=ZX ((j:Int)+t) (by omega:(0:Int)<m)
 refine⟨Qc8 m t kind j,ZI.mpr ⟨j,Zh.mpr hj,rfl⟩,?_,hAj,?_⟩
 ·exact s2
 ·show Qc7 m t j=m∨¬A (Qc7 m t j).toNat
  unfold Qc7
  split
  ·rename_i h
   have n1:=Zab (QaB t j) (by omega:(j:Int)+1≠0)
   right
   intro z
   refine hmin (QaB t j % ((j:Int)+1)).toNat (by omega) ⟨by omega,?_⟩
   rw[ZaU n1]
   exact z
  ·exact .inl rfl
noncomputable def Qgj(m:Nat)(f:Nat->Int):Nat->Int:=λi=>if i<m then f i else 0
theorem Qii(ha:fa ρ=some ra)(ea:ra.d=Qc m f)(hm:m<=1000):QE fa (Q3 (Qb (dC (.int 0)) Qf)) ρ=some ⟨Qc (m+1) (Qgj m f),true,[]⟩:=by
 have e:Qc (m+1) (Qgj m f)= .lst (((List.range m).map λi=>D.int (f i))++[.int 0]):=by
  unfold Qc
  rw[Zap,ZT]
  congr 2
  ·refine ZL λi hi=>?_
   unfold Qgj
   rw[if_pos (Zh.mp hi)]
  ·show [D.int (Qgj m f m)]=_
   unfold Qgj
   rw[if_neg (by omega)]
 rw[e]
 unfold QE
 rw[ha,Za]
 show(Option.bind (some (⟨.lst [.int 0],true,[]⟩:HS.R)) _)=_
 rw[Za,ea]
 simp only[Qc,Zi,Zz,QeC]
 rw[if_pos (by simp;omega)]
 simp[QT]
theorem Qpl:((List.range i).map λk=>D.int (g k))++[.int v]=(List.range (i+1)).map λk=>D.int (up g i v k):=by
 rw[Zap,ZT]
 congr 1
 ·refine ZL λk hk=>?_
  have:=Zh.mp hk
  unfold up
  rw[if_neg (by omega)]
 ·show _=[D.int (up g i v i)]
  unfold up
  rw[if_pos rfl]
theorem QiZ(hx:ρ[x]? =some (some (Qc i g,true)))(ha:fa ρ=some r)(e:r.d= .int v)(hl:i<16777216)(q:Q (.nx (ρ.set x (some (Qc (i+1) (up g i v),true))))):Run (Qch x Q1 fa) ρ Q:=by
 refine QhP (xs:=(List.range i).map λk=>D.int (g k)) hx ha (by rw[e];rfl) (by simpa using hl) ?_
 rw[e,Qpl]
 exact q
theorem Qrj{m:Nat}(h:fa ρ=some r)(e:r.d=Qc m f):dBf QbF (Qb fa Qf) ρ=some ⟨.int m,true,[]⟩:=by
 rw[QdC h e];simp
theorem QmT(h:fs ρ=some rs)(hl:rs.ds.length<=64):Q3 fs ρ=some ⟨.lst rs.ds,rs.fr,rs.M⟩:=by
 unfold Q3
 rw[h,Za,if_pos hl]
theorem Qfz(n m:Nat)(f:Nat->Int):(Qc m f).sim (n+1)=true:=by
 unfold Qc
 simp only[D.sim,Zby,ZV]
 intro p _
 cases n<;>rfl
theorem Qqm{fa fb:DE}{ρ:En}{ra rb:R}{m n:Nat}{f:Nat->Nat->Int}{i:Int}(ha:fa ρ=some ra)(ea:ra.d=QaK m n f)(hb:fb ρ=some rb)(eb:rb.d= .int i)(h0:0<=i)(h:i<m):Qm fa fb ρ=some ⟨Qc n (f i.toNat),ra.fr,ra.M⟩:=by
 unfold Qm
 rw[ha,Za,hb,Za,ea,eb]
 simp only[QaK,D.items,Za,Qlb h0 h,ZO]
 rfl
noncomputable def Qgx:DS:=(Qe (QS (dOp gEq (dBf QbF (Qb (Qm (Qa 0) (dC (.int 2))) Qf)) (dC (.int 0)))) Qp)
def QhM(d:Den):Prop:=∀(m:Int) (R L:List (Int×Int)),d [Qg m R L]=some (.bl (decide ((L.length:Int)=0)),true)
theorem Qo6:QhM (Qr 1 Qgx):=λm R L=>by
 refine Qac ?_
 refine QN (Qfk (QdC (Qbc (r:=⟨Qg m R L,false,[]⟩) rfl rfl).2.2 rfl) rfl rfl rfl) ⟨?_,rfl⟩
 simp
noncomputable def Qd(l:List Nat):D:= .lst (l.map λ(p:Nat)=> .int (p:Int))
noncomputable def Qb5(T:Nat->Nat->Int)(p:Nat)(l:List Nat):Int:=((l.filter λo=>decide (o≠p)).map (T p)).sum
noncomputable def QW(T:Nat->Nat->Int)(a:Nat->Int)(l:List Nat):List Nat:=l.filter λp=>decide (Qb5 T p l<=a p)
noncomputable def Qey(T:Nat->Nat->Int)(a:Nat->Int)(l:List Nat):List Nat:=l.filter λp=> !(QW T a l).contains p
theorem Qg3(l:List Nat):QJ (l.map λ(p:Nat)=>D.int (p:Int))=true:=Qat (λ_=>rfl) l
theorem Qh0(l:List Nat):Qd l= .lst ((l.map λ(p:Nat)=>(p:Int)).map D.int):=by unfold Qd;rw[Zac];rfl
theorem QpO{fa:DE}{ρ:En}{r:R}{ns:List Int}(h:fa ρ=some r)(e:r.d= .lst (ns.map D.int)):dBf Qct (Qb fa Qf) ρ=some ⟨.int ns.sum,true,[]⟩:=by
 unfold dBf
 rw[Qj h (QL _),Za]
 simp only[e,Qct,Qci,ZO]
noncomputable def QeW:DS:=(Qe (QS (dBf Qct (Qb (Qab (QX (Qa 2)) (.nm 1) [none,none,some 1,some 0] (QC (dOp gNe (Qa 1) (Qa 2))) (Qm (Qa 3) (Qa 1))) Qf))) Qp)
def QhQ(d:Den):Prop:=∀(m:Nat) (t:Nat->Int) (p:Nat) (l:List Nat),(∀o∈l,o<m)->d [Qc m t,.int p,Qd l]=some (.int (((l.filter λo=>decide (o≠p)).map t).sum),true)
theorem Qo7:QhQ (Qr 3 QeW):=λm t p l hl=>by
 refine Qac ?_
 have e:=QcG (fi:=QX (Qa 2)) (t:= .nm 1) (cap:=[none,none,some 1,some 0]) (ft:=QC (dOp gNe (Qa 1) (Qa 2))) (fe:=Qm (Qa 3) (Qa 1)) (ρ:=[some (Qc m t,false),some (.int p,true),some (Qd l,false)])
  (toD:=λ(o:Nat)=> .int (o:Int)) (keep:=λo=>decide (o≠p)) (out:=λ(o:Nat)=> .int (t o)) l (Qba (r:=⟨Qd l,false,[]⟩) rfl rfl) rfl λo ho=>by
   refine⟨[none,some (.int o,true),some (.int p,true),some (Qc m t,false)],rfl,?_,λ_=>⟨_,QaH (m:=m) (f:=t) (i:=o) (ra:=⟨Qc m t,false,[]⟩) rfl rfl rfl rfl (hl o ho),rfl,rfl⟩⟩
   refine(QF (Qg2 (a:=o) (b:=p) rfl rfl rfl rfl) rfl).trans ?_
   congr 1
   by_cases h:o=p
   ·subst h;simp
   ·simp[h]
    omega
 refine QN (QpO (ns:=(l.filter λo=>decide (o≠p)).map t) e ?_) ⟨rfl,rfl⟩
 show D.lst _=D.lst _
 rw[Zac];rfl
noncomputable def QdJ(QbS:Den):DS:=(Qe (sIf (Qc9 (QC (Qv 1 QbS [] (Qb (Qa 0) Qf)))) (Qe QH Qp) Qp) Qp)
def QhD(d:Den):Prop:=∀(m:Nat) (R:List (Int×Int)),d [Qg m R []]=some (.non,true)
theorem QnX(hp:QhM dp):QhD (Qr 1 (QdJ dp)):=λm R=>by
 have key:Run (QdJ dp) (Qal 1 [Qg m R []]) (Nx λ_=>True):=by
  refine run_seq (Q7 (b:=false) (QdI (b:=true) (QF (b:=true) (Qw (r:=⟨[Qg m R []],false,[]⟩) rfl (hp m R []) rfl) rfl)) (λh=>by cases h) (λ_=>Ql (Ql trivial)))
 obtain⟨o,h1,h2⟩:=key
 unfold Qr
 rw[h1]
 cases o with
 | nx ρ=>rfl
 | _=>exact h2.elim
theorem Qqi{o:Nat}{l:List Nat}:(l.map λ(p:Nat)=>D.int (p:Int)).any (λy=>deq y (.int o))=l.contains o:=by
 induction l with
 | nil=>rfl
 | cons a l ih=>
  rw[Zu,ZbI,ih,Qdl,List.contains_cons]
  congr 1
  by_cases h:a=o
  ·subst h;simp
  ·rw[decide_eq_false (by omega)]
   exact(beq_eq_false_iff_ne.mpr (λz=>h z.symm)).symm
theorem Qgl(n:Nat)(l:List Nat):(Qd l).sim (n+1)=true:=by
 unfold Qd
 simp only[D.sim,Zby,ZV]
 intro p _
 cases n<;>rfl
theorem Qkm{o:Nat}(ha:fa ρ=some ra)(ea:ra.d= .int o)(hb:fb ρ=some rb)(eb:rb.d=Qd l):dOp (gIn neg) fa fb ρ=some ⟨.bl (if neg then !l.contains o else l.contains o),true,[]⟩:=by
 refine QQ ha hb ?_
 rw[ea,eb]
 have:(D.int (o:Int)).sim 8=true:=rfl
 show(if(D.int (o:Int)).sim 8 && (Qd l).sim 8 then some (D.bl (if neg then !((l.map λ(p:Nat)=>D.int (p:Int)).any λy=>deq y (.int o))else(l.map λ(p:Nat)=>D.int (p:Int)).any λy=>deq y (.int o)))else none)=_
 rw[this,Qgl 7 l,Qqi]
 rfl
theorem Qk2[Decidable A](hx:0<=x):∀{l:List Nat},l.Nodup->(l.map λ(o:Nat)=>if A/\x=(o:Int)then(1:Int)else 0).sum=if A/\x.toNat∈l then 1 else 0
 | [],_=>by simp
 | a::l,nd=>by
  have nd':=Zak.mp nd
  rw[Zu,ZS,Qk2 hx nd'.2]
  by_cases hA:A
  ·by_cases h:x=a
   ·have:x.toNat=a:=by omega
    rw[if_pos ⟨hA,h⟩,if_neg (λz=>nd'.1 (this▸z.2)),if_pos ⟨hA,by simp[this]⟩];rfl
   ·have:¬x.toNat=a:=by omega
    rw[if_neg (λz=>h z.2)]
    by_cases h2:x.toNat∈l
    ·rw[if_pos ⟨hA,h2⟩,if_pos ⟨hA,by simp[h2]⟩];rfl
    ·rw[if_neg (λz=>h2 z.2),if_neg (λz=>by rcases Zl.mp z.2 with e | e;exact this e;exact h2 e)];rfl
  ·rw[if_neg (λz=>hA z.1),if_neg (λz=>hA z.1),if_neg (λz=>hA z.1)];rfl
theorem Qh8{β:Type}:∀S:List β,(S.map λ_=>(0:Int)).sum=0
 | []=>rfl
 | _::S=>by rw[Zu,ZS,Qh8 S];rfl
theorem Qe4{α β:Type}(g:α->β->Int):∀(l:List α) (S:List β),(l.map λo=>(S.map (g o)).sum).sum=(S.map λs=>(l.map λo=>g o s).sum).sum
 | [],S=>(Qh8 S).symm
 | a::l,S=>by
  rw[Zu,ZS,Qe4 g l S]
  clear Qe4
  induction S with
  | nil=>rfl
  | cons s S ih=>simp only[Zu,ZS]at ih ⊢;omega
noncomputable def Qs(p:Nat)(l:List Nat)(s:Int×Int):Int:=if(s.1=p/\s.2.toNat∈l)∨(s.2=p/\s.1.toNat∈l)then 1 else 0
theorem Qnq{m:Nat}{R:List (Int×Int)}(hR:∀s∈R,Good m s){p:Nat}(hp:p<m){l:List Nat}(nd:l.Nodup)(hl:∀o∈l,o<m)(hpl:p∉l):(l.map (Qx m (Qu R []) p)).sum=(R.map (Qs p l)).sum:=by
 have gS:=QbZ (L:=[]) hR (λs hs=>absurd hs (by simp))
 have hn:∀s∈Qu R [],0<=s.1/\0<=s.2:=λs hs=>⟨(gS s hs).1,(gS s hs).2.1⟩
 have e1:l.map (Qx m (Qu R []) p)=l.map λo=>((Qu R []).map (hit p o)).sum:=ZL λo ho=>QcI hp (hl o ho) hn
 rw[e1,Qe4 (λo s=>hit p o s) l (Qu R [])]
 have e2:(Qu R []).map (λs=>(l.map λo=>hit p o s).sum)=(Qu R []).map λs=>if s.1=(p:Int)/\s.2.toNat∈l then(1:Int)else 0:=ZL λs hs=>by
  rw[← Qk2 (hn s hs).2 nd]
  congr 1
  refine ZL λo ho=>?_
  unfold hit
  rw[if_neg (λz=>hpl (z.2▸ho)) (c:=s.1=p/\p=o)];omega
 rw[e2]
 unfold Qu
 rw[Zaj,ZT,List.sum_append,Zac]
 clear e1 e2 hn gS
 induction R with
 | nil=>rfl
 | cons s R ih=>
  have hs:=hR s (by simp)
  obtain⟨h1,h2,h3,h4,h5⟩:=hs
  have ih:=ih λs hs=>hR s (by simp[hs])
  simp only[Zu,ZS,Function.comp,Zca,Prod.snd_swap]at ih ⊢
  have:(if s.1=p/\s.2.toNat∈l then(1:Int)else 0)+(if s.2=p/\s.1.toNat∈l then 1 else 0)=Qs p l s:=by
   unfold Qs
   by_cases a:s.1=p/\s.2.toNat∈l
   ·rw[if_pos a,if_neg (λz=>h5 (a.1.trans z.1.symm)) (c:=s.2=p/\s.1.toNat∈l),if_pos (Or.inl a)];rfl
   ·by_cases b:s.2=p/\s.1.toNat∈l
    ·rw[if_neg a,if_pos b,if_pos (Or.inr b)];rfl
    ·rw[if_neg a,if_neg b,if_neg (λz=>z.elim a b)];rfl
  omega
noncomputable def Qdt:DS:=(Qe (Qy 3 (dC (.int 0))) (Qe (QaZ (QX (Qm (Qa 0) (dC (.int 1)))) (.tp [4,5]) (Qe (sIf (bOr (Qd4 (QC (dOp gEq (Qa 4) (Qa 1))) (QC (dOp (gIn false) (Qa 5) (Qa 2)))) (Qd4 (QC (dOp gEq (Qa 5) (Qa 1))) (QC (dOp (gIn false) (Qa 4) (Qa 2))))) (Qe (Qy 3 (QE (Qa 3) (dC (.int 1)))) Qp) Qp) Qp)) (Qe (QS (Qa 3)) Qp)))
def Qed(d:Den):Prop:=∀(m:Nat) (R L:List (Int×Int)) (p:Nat) (l:List Nat),(∀s∈R,Good m s)->d [Qg m R L,.int p,Qd l]=some (.int ((R.map (Qs p l)).sum),true)
theorem QlI:Qed (Qr 6 Qdt):=λm R L p l hR=>by
 refine Qac ?_
 refine run_seq (Qk (r:=⟨.int 0,true,[]⟩) rfl ?_)
 rw[Qq]
 refine Qah (P:=λρ=>∃j4 j5,ρ=[some (Qg m R L,false),some (.int p,true),some (Qd l,false),some (.int ((R.map (Qs p l)).sum),true),j4,j5]) ?_ ?_
 ·refine Q9 (toD:=pairD) R (λi ρ=>∃v j4 j5,v=((R.take i).map (Qs p l)).sum/\ρ=[some (Qg m R L,false),some (.int p,true),some (Qd l,false),some (.int v,true),j4,j5]) (ir:=⟨R.map pairD,[]⟩) (Qba (Qbc (m:=m) (R:=R) (L:=L) (Qae (d:=Qg m R L) (b:=false) rfl) rfl).2.1 rfl) rfl ⟨0,none,none,by simp,rfl⟩ ?_ ?_
  ·rintro i s ρ hi ⟨v,j4,j5,hv,rfl⟩
   obtain⟨h1,h2,h3,h4,h5⟩:=hR s (ZD hi)
   refine⟨_,rfl,?_⟩
   have ein:∀(x:Int) (b:Nat),0<=x->[some (Qg m R L,false),some (.int p,true),some (Qd l,false),some (.int v,true),some (.int s.1,true),some (.int s.2,true)][b]? =some (some (.int x,true))->dOp (gIn false) (Qa b) (Qa 2) [some (Qg m R L,false),some (.int p,true),some (Qd l,false),some (.int v,true),some (.int s.1,true),some (.int s.2,true)]=some ⟨.bl (l.contains x.toNat),true,[]⟩:=λx b hx hb=>Qkm (neg:=false) (o:=x.toNat) (l:=l) (QrJ hb) (by rw[ZaU hx]) (rb:=⟨Qd l,false,[]⟩) rfl rfl
   refine run_seq (Q7 (b:=decide ((s.1=p/\s.2.toNat∈l)∨(s.2=p/\s.1.toNat∈l))) ((QcV (QlB (QF (Qfk (a:=s.1) (b:=p) rfl rfl rfl rfl) rfl) (QF (ein s.2 5 h2 rfl) rfl)) (QlB (QF (Qfk (a:=s.2) (b:=p) rfl rfl rfl rfl) rfl) (QF (ein s.1 4 h1 rfl) rfl))).trans ?_) (λh=>?_) (λh=>?_))
   ·congr 1
    simp only[Zbt,Bool.decide_or,Bool.decide_and]
   ·have h:=of_decide_eq_true h
    refine run_seq (Qk (QM (a:=v) (b:=1) rfl rfl rfl rfl) (Ql (Ql ?_)))
    rw[Qq]
    refine⟨v+1,_,_,?_,rfl⟩
    rw[Qjp hi,← hv]
    unfold Qs
    rw[if_pos h]
   ·have h:=of_decide_eq_false h
    refine Ql (Ql ⟨v,_,_,?_,rfl⟩)
    rw[Qjp hi,← hv]
    unfold Qs
    rw[if_neg h,ZbU]
  ·rintro ρ ⟨v,j4,j5,hv,rfl⟩
   rw[ZaQ]at hv
   subst hv
   exact⟨_,_,rfl⟩
 rintro ρ ⟨j4,j5,rfl⟩
 exact QN (r:=⟨.int ((R.map (Qs p l)).sum),true,[]⟩) rfl ⟨rfl,rfl⟩
theorem QoD{l:List Nat}{n:Nat}:cutD (l.map λ(p:Nat)=>D.int (p:Int)) (some (n:Int)) none=(l.drop n).map λ(p:Nat)=>D.int (p:Int):=by
 unfold cutD
 simp only[Zi,HT.Qjf,HT.Qla,Nat.sub_zero]
 rw[← Zcb,← Zcc]
 congr 1
 by_cases h:n<=l.length
 ·rw[Nat.min_eq_left h,ZaH (by simp)]
 ·rw[Nat.min_eq_right (by omega),ZaI (by omega),ZaI (by omega)];simp
theorem Qq2{fa fb:DE}{ρ:En}{ra rb:R}{l:List Nat}{n:Nat}(ha:fa ρ=some ra)(ea:ra.d=Qd l)(hb:fb ρ=some rb)(eb:rb.d= .int n):Qc4 fa (QbI fb) Qdf ρ=some ⟨Qd (l.drop n),true,[]⟩:=by
 unfold Qc4 Qdf QbI
 simp only[ha,hb,Za,ea,eb,Qd,QoD,QT,Qg3,if_true]
theorem Qnu(ha:fa ρ=some ra)(ea:ra.d= .int x)(hb:fb ρ=some rb)(eb:rb.d=pairD s):dOp (gIn false) fa fb ρ=some ⟨.bl (decide (s.1=x) || decide (s.2=x)),true,[]⟩:=by
 refine QQ ha hb ?_
 rw[ea,eb]
 show some (D.bl ([D.int s.1,D.int s.2].any λy=>deq y (.int x)))=_
 rw[ZbI,ZbI,List.any_nil,Qdl,Qdl,Bool.or_false]
theorem QmG{m:Nat}{R:List (Int×Int)}(hR:∀s∈R,Good m s)(p:Nat):((R.filter λs=>decide (s.1=(p:Int)) || decide (s.2=(p:Int))).length:Int)=QU R [] p:=by
 unfold QU
 rw[show(([]:List (Int×Int)).map λl=>isI p l.1).sum=0 from rfl,ZbU]
 induction R with
 | nil=>rfl
 | cons s R ih=>
  obtain⟨h1,h2,h3,h4,h5⟩:=hR s (by simp)
  have ih:=ih λs hs=>hR s (by simp[hs])
  rw[Zu,ZS,← ih]
  unfold isI
  by_cases a:s.1=p
  ·have b:¬s.2=p:=λz=>h5 (a.trans z.symm)
   rw[ZbP (by simp[a]),Zq,if_pos a,if_neg b];omega
  ·by_cases b:s.2=p
   ·rw[ZbP (by simp[b]),Zq,if_neg a,if_pos b];omega
   ·rw[List.filter_cons_of_neg (by simp[a,b]),if_neg a,if_neg b];omega
noncomputable def Qkq(w:Int×Int×Bool):Int×Int×Bool:=(w.1,w.2.1,false)
theorem Qm0(he:Esc m W)(hg:∀w∈W,GoodW m w)(hl:W.length<=200):Qcx m (W.map Qbt) []:=by
 refine⟨W.map Qkq,λA hA=>?_,λw hw=>?_,by rw[Zi];exact hl,?_,?_⟩
 ·obtain⟨w,h1,h2⟩:=he A hA
  exact⟨Qkq w,ZI.mpr ⟨w,h1,rfl⟩,h2⟩
 ·obtain⟨w',h1,rfl⟩:=ZI.mp hw
  exact⟨(hg w' h1).1,λz=>by cases z⟩
 ·unfold Qcj
  rw[List.filter_eq_self.mpr λw hw=>by obtain⟨w',_,rfl⟩:=ZI.mp hw;rfl,Zac]
  rfl
 ·unfold QcK
  rw[ZbV.mpr λw hw=>by obtain⟨w',_,rfl⟩:=ZI.mp hw;simp[Qkq]]
  rfl
theorem Qqj(ha:fa ρ=some ra)(ea:ra.d= .int a)(hb:fb ρ=some rb)(eb:rb.d= .int b):dBf QdP (Qb fa (Qb fb Qf)) ρ=some ⟨.int (if b<a then b else a),true,[]⟩:=by
 unfold dBf
 rw[Qj ha (Qj hb (QL _)),Za]
 simp only[ea,eb,QdP,ZO]
noncomputable def Qds:Option Int->D
 | none=> .non
 | some i=> .int i
@[simp] theorem Qo9(o:Option Int):(Qds o).flat=true:=by cases o<;>rfl
noncomputable def QaF(m:Nat)(F:Nat->Option Int):D:= .lst ((List.range m).map λi=>Qds (F i))
@[simp] theorem Quw(m:Nat)(F:Nat->Option Int):(QaF m F).flat=false:=rfl
@[simp] theorem Quj(m:Nat)(F:Nat->Option Int):QJ ((List.range m).map λi=>Qds (F i))=true:=Qat (f:=λi=>Qds (F i)) (λ_=>Qo9 _) _
noncomputable def upO(F:Nat->Option Int)(i:Nat)(v:Option Int):Nat->Option Int:=λj=>if j=i then v else F j
theorem Qou{x m:Nat}{F:Nat->Option Int}{fi fa:DE}{ρ:En}{i v:Int}{ri ra:R}{Q:Out->Prop}(hx:ρ[x]? =some (some (QaF m F,true)))(hi:fi ρ=some ri)(ei:ri.d= .int i)(ha:fa ρ=some ra)(ea:ra.d= .int v)(h0:0<=i)(h:i<m)
  (q:Q (.nx (ρ.set x (some (QaF m (upO F i.toNat (some v)),true))))):Run (QcA x Q1 fi fa) ρ Q:=by
 refine⟨_,?_,q⟩
 have hn:ra.norm=⟨.int v,true,[]⟩:=by unfold HS.R.norm;rw[ea];rfl
 have hs:((List.range m).map λj=>Qds (F j)).set i.toNat (.int v)=(List.range m).map λj=>Qds (upO F i.toNat (some v) j):=by
  rw[Qdb]
  congr 1;funext j;unfold upO;split<;>rfl
 unfold QcA
 rw[ha,Za,hx]
 simp only[Q1,Za,hi,ei,Qa3,QaF,Zi,Zz,Qdn h0 h,hn,ea,Qao,hs]
 simp[kill]
theorem QqB{n:Nat}(h:fb ρ=some r)(e:r.d= .int n)(hn:n<=16777216):Qar (Q3 (Qb (dC .non) Qf)) fb ρ=some ⟨QaF n (λ_=>none),true,[]⟩:=by
 have h1:Q3 (Qb (dC .non) Qf) ρ=some ⟨.lst [.non],true,[]⟩:=rfl
 unfold Qar
 rw[h1,Za,h,Za,e]
 dsimp only
 rw[if_pos ⟨by simp[QeC];omega,by omega,by omega,rfl⟩]
 simp only[Zy,QhJ]
 rfl
noncomputable def Qcn(t:Int)(F:Nat->Option Int)(s:Int×Int):Nat->Option Int:=if F s.1.toNat=none/\F s.2.toNat=some t then upO F s.1.toNat (some (t+1))else F
noncomputable def Qb9(S:List (Int×Int))(F:Nat->Option Int):Nat->Nat->Option Int
 | 0=>F
 | t+1=>S.foldl (Qcn t) (Qb9 S F t)
noncomputable def QcE(m:Nat):Nat->Option Int:=λi=>if i=m then some 0 else none
theorem Qib{t:Int}{v:Nat}:∀(S:List (Int×Int)) (F:Nat->Option Int),S.foldl (Qcn t) F v=if F v=none/\∃s∈S,s.1.toNat=v/\F s.2.toNat=some t then some (t+1)else F v
 | [],F=>by simp
 | s::S,F=>by
  rw[ZaW,Qib S]
  have key:∀w,(Qcn t F s w=some t↔F w=some t):=λw=>by
   unfold Qcn
   split
   ·rename_i h
    unfold upO
    split
    ·rename_i e;subst e;rw[h.1];simp;omega
    ·exact Iff.rfl
   ·exact Iff.rfl
  by_cases c:F s.1.toNat=none/\F s.2.toNat=some t
  ·by_cases hv:v=s.1.toNat
   ·have e1:Qcn t F s v=some (t+1):=by unfold Qcn upO;rw[if_pos c,if_pos hv]
    rw[if_neg (by rw[e1];simp),e1,if_pos ⟨by rw[hv];exact c.1,s,Zj,hv.symm,c.2⟩]
   ·have e1:Qcn t F s v=F v:=by unfold Qcn upO;rw[if_pos c,if_neg hv]
    rw[e1]
    simp only[key]
    by_cases h:F v=none/\∃s'∈S,s'.1.toNat=v/\F s'.2.toNat=some t
    ·obtain⟨h1,s',h2,h3⟩:=h
     rw[if_pos ⟨h1,s',h2,h3⟩,if_pos ⟨h1,s',Zc _ h2,h3⟩]
    ·rw[if_neg h,if_neg]
     rintro⟨h1,s',h2,h3,h4⟩
     rcases Zl.mp h2 with rfl | h2
     ·exact hv h3.symm
     ·exact h ⟨h1,s',h2,h3,h4⟩
  ·have e1:Qcn t F s=F:=by unfold Qcn;rw[if_neg c]
   rw[e1]
   by_cases h:F v=none/\∃s'∈S,s'.1.toNat=v/\F s'.2.toNat=some t
   ·obtain⟨h1,s',h2,h3⟩:=h
    rw[if_pos ⟨h1,s',h2,h3⟩,if_pos ⟨h1,s',Zc _ h2,h3⟩]
   ·rw[if_neg h,if_neg]
    rintro⟨h1,s',h2,h3,h4⟩
    rcases Zl.mp h2 with rfl | h2
    ·exact c ⟨h3▸h1,h4⟩
    ·exact h ⟨h1,s',h2,h3,h4⟩
structure Qu1 (m:Nat) (S:List (Int×Int)) (t:Nat) (F:Nat->Option Int):Prop where
 pit:F m=some 0
 val:∀v d,F v=some d->0<=d/\d<=t/\v<=m/\(v≠m->1<=d)
 pred:∀v d,v≠m->F v=some d->∃s∈S,s.1.toNat=v/\F s.2.toNat=some (d-1)
 low:∀v d,v≠m->F v=some d->∀s∈S,s.1.toNat=v->∀e,F s.2.toNat=some e->d-1<=e
 non:∀v,F v=none->∀s∈S,s.1.toNat=v->∀e,F s.2.toNat=some e->e=t
theorem Qof{m:Nat}{S:List (Int×Int)}(hS:∀s∈S,Good m s):∀t,Qu1 m S t (Qb9 S (QcE m) t)
 | 0=>by
  have z:∀v d,QcE m v=some d->v=m/\d=0:=λv d h=>by
   unfold QcE at h
   split at h
   ·cases h;exact⟨by assumption,rfl⟩
   ·cases h
  refine⟨by simp[Qb9,QcE],λv d h=>?_,λv d hv h=>?_,λv d hv h=>?_,λv h s hs e1 e h2=>?_⟩
  ·obtain⟨rfl,rfl⟩:=z v d h;exact⟨by omega,by omega,by omega,λh=>absurd rfl h⟩
  ·exact absurd (z v d h).1 hv
  ·exact absurd (z v d h).1 hv
  ·obtain⟨_,rfl⟩:=z _ _ h2;rfl
 | t+1=>by
  have I:=Qof hS t
  generalize hF:Qb9 S (QcE m) t=F at I
  have nx:∀v,Qb9 S (QcE m) (t+1) v=if F v=none/\∃s∈S,s.1.toNat=v/\F s.2.toNat=some (t:Int)then some ((t:Int)+1)else F v:=λv=>by
   show S.foldl (Qcn t) (Qb9 S (QcE m) t) v=_
   rw[Qib,hF]
  generalize Qb9 S (QcE m) (t+1)=F' at nx
  have old:∀v d,F v=some d->F' v=some d:=λv d h=>by rw[nx,if_neg (by rw[h];simp)];exact h
  have new:∀v d,F' v=some d->F v=some d∨(F v=none/\d=t+1/\∃s∈S,s.1.toNat=v/\F s.2.toNat=some (t:Int)):=λv d h=>by
   rw[nx]at h
   split at h
   ·rename_i c;cases h;exact .inr ⟨c.1,rfl,c.2⟩
   ·exact .inl h
  refine⟨old _ _ I.pit,λv d h=>?_,λv d hv h=>?_,λv d hv h s hs e1 e h2=>?_,λv h s hs e1 e h2=>?_⟩
  ·rcases new v d h with h | ⟨h,rfl,s,hs,e1,_⟩
   ·obtain⟨a,b,c,d⟩:=I.val v d h;exact⟨a,by omega,c,d⟩
   ·have g:=hS s hs
    exact⟨by omega,by omega,by have:=g.2.2.1;have:=g.1;omega,λ_=>by omega⟩
  ·rcases new v d h with h | ⟨h,rfl,s,hs,e1,e2⟩
   ·obtain⟨s,hs,e1,e2⟩:=I.pred v d hv h
    exact⟨s,hs,e1,old _ _ e2⟩
   ·exact⟨s,hs,e1,by rw[old _ _ e2];congr 1;omega⟩
  ·rcases new v d h with h | ⟨hq,rfl,_⟩
   ·rcases new _ e h2 with h2 | ⟨_,rfl,_⟩
    ·exact I.low v d hv h s hs e1 e h2
    ·have:=(I.val v d h).2.1;omega
   ·rcases new _ e h2 with h2 | ⟨_,rfl,_⟩
    ·have:=I.non v hq s hs e1 e h2;omega
    ·omega
  ·rw[nx]at h
   split at h
   ·cases h
   ·rename_i c
    rcases new _ e h2 with h2 | ⟨_,rfl,_⟩
    ·exact absurd ⟨h,s,hs,e1,by rw[h2,I.non v h s hs e1 e h2]⟩ c
    ·omega
theorem Qgk:∀(m:Nat) (l:List Nat),l.Nodup->(∀x∈l,x<m)->l.length<=m
 | 0,l,_,h=>by cases l with
  | nil=>simp
  | cons x l=>exact absurd (h x Zj) (by omega)
 | m+1,l,nd,h=>by
  by_cases hm:m∈l
  ·have:=Qgk m (l.erase m) (nd.erase m) λx hx=>by
    have h1:=h x (List.mem_of_mem_erase hx)
    have h2:x≠m:=λz=>by subst z;exact(List.Nodup.not_mem_erase nd) hx
    omega
   rw[ZaV hm]at this
   omega
  ·have:=Qgk m l nd λx hx=>by
    have h1:=h x hx
    have h2:x≠m:=λz=>hm (z▸hx)
    omega
   omega
theorem QoU{m:Nat}{S:List (Int×Int)}(m0:0<m)(hS:∀s∈S,Good m s){v:Nat}(hv:v<m)(hn:Qb9 S (QcE m) m v=none):∀s∈S,s.1.toNat=v->Qb9 S (QcE m) m s.2.toNat=none:=λs hs e1=>by
 have I:=Qof hS m
 generalize Qb9 S (QcE m) m=F at I hn
 cases h:F s.2.toNat with
 | none=>rfl
 | some e=>
  exfalso
  have he:=I.non v hn s hs e1 e h
  have chain:∀k:Nat,k<=m->∃w,F w=some ((m:Int)-k):=λk=>by
   induction k with
   | zero=>intro _;exact⟨_,by rw[h,he];simp⟩
   | succ k ih=>
    intro hk
    obtain⟨w,hw⟩:=ih (by omega)
    have hwm:w≠m:=λz=>by rw[z,I.pit]at hw;have:=Option.some.inj hw;omega
    obtain⟨s',_,_,h2⟩:=I.pred w _ hwm hw
    exact⟨_,by rw[h2];congr 1;omega⟩
  have pick:∀k:Nat,∃w,k<m->F w=some ((k:Int)+1):=λk=>by
   by_cases hk:k<m
   ·obtain⟨w,hw⟩:=chain (m-(k+1)) (by omega)
    exact⟨w,λ_=>by rw[hw];congr 1;omega⟩
   ·exact⟨0,λz=>absurd z hk⟩
  obtain⟨f,this⟩:=ZbO pick
  have hl:=Qgk m (v::(List.range m).map f) ?_ ?_
  ·simp at hl;omega
  ·refine Zak.mpr ⟨λhm=>?_,?_⟩
   ·obtain⟨k,hk,ek⟩:=ZI.mp hm
    have:=this k (Zh.mp hk)
    rw[ek,hn]at this;cases this
   ·rw[List.nodup_iff_pairwise_ne,ZaM]
    refine ZbJ ?_ ZaP
    intro a b ha hb hab e
    have h1:=this a (Zh.mp ha)
    have h2:=this b (Zh.mp hb)
    rw[e,h2]at h1
    have:=Option.some.inj h1
    omega
  ·intro x hx
   rcases Zl.mp hx with rfl | hx
   ·exact hv
   ·obtain⟨k,hk,rfl⟩:=ZI.mp hx
    have h1:=this k (Zh.mp hk)
    have h2:=I.val _ _ h1
    have h3:f k≠m:=λz=>by rw[z,I.pit]at h1;have:=Option.some.inj h1;omega
    omega
noncomputable def Q2(T:Nat->Nat->Int)(h:Nat->Int)(m:Nat):Nat->List Nat
 | 0=>List.range m
 | k+1=>Qey T h (Q2 T h m k)
noncomputable def QO(T:Nat->Nat->Int)(h:Nat->Int)(m:Nat):Nat->Nat->Option Int
 | 0,_=>none
 | k+1,p=>if p∈QW T h (Q2 T h m k)then some ((k:Int)+1)else QO T h m k p
theorem Qev:∀k,(Q2 T h m k).Nodup
 | 0=>ZaP
 | k+1=>(Qev k).filter _
theorem Qdr:p∈Qey T h l↔p∈l/\p∉QW T h l:=by
 unfold Qey
 rw[ZN]
 simp
theorem QcW:p∈QW T h l↔p∈l/\Qb5 T p l<=h p:=by
 unfold QW
 rw[ZN]
 simp
theorem Qcg(hkj:k<=j)(hp:p∈Q2 T h m j):p∈Q2 T h m k:=by
 induction j with
 | zero=>rw[show k=0 by omega];exact hp
 | succ j ih=>
  by_cases e:k=j+1
  ·rw[e];exact hp
  ·exact ih (by omega) (Qdr.mp hp).1
theorem Qdj(hp:p∈Q2 T h m k):p<m:=Zh.mp (Qcg (ZZ k) hp)
theorem Qfo:∀k p,p<m->(QO T h m k p=none↔p∈Q2 T h m k)
 | 0,p,hp=>⟨λ_=>Zh.mpr hp,λ_=>rfl⟩
 | k+1,p,hp=>by
  show(if p∈QW T h (Q2 T h m k)then some ((k:Int)+1)else QO T h m k p)=none↔p∈Qey T h (Q2 T h m k)
  rw[Qdr]
  by_cases hr:p∈QW T h (Q2 T h m k)
  ·rw[if_pos hr]
   exact⟨λz=>(by cases z),λz=>absurd hr z.2⟩
  ·rw[if_neg hr,Qfo k p hp]
   exact⟨λz=>⟨z,hr⟩,λz=>z.1⟩
theorem Qcl:∀k p t,QO T h m k p=some t->∃j:Nat,j<k/\t=(j:Int)+1/\p∈Q2 T h m j/\p∉Q2 T h m (j+1)/\Qb5 T p (Q2 T h m j)<=h p
 | 0,_,_,e=>by cases e
 | k+1,p,t,e=>by
  unfold QO at e
  by_cases hr:p∈QW T h (Q2 T h m k)
  ·rw[if_pos hr]at e
   cases e
   exact⟨k,by omega,rfl,(QcW.mp hr).1,λz=>(Qdr.mp z).2 hr,(QcW.mp hr).2⟩
  ·rw[if_neg hr]at e
   obtain⟨j,h1,h2⟩:=Qcl k p t e
   exact⟨j,by omega,h2⟩
noncomputable def Qm9(Qbb:Den)(Qbn:Den)(Q6:Den)(QaP:Den):DS:=(Qe (QdQ (Qv 1 Qbb [] (Qb (Qa 0) Qf))) (Qe (QdQ (Qv 2 Qbn [] (Qb (Qa 0) (Qb (Q3 (Qb (Qa 1) Qf)) Qf)))) (Qe (Qy 2 (Qv 1 Q6 [] (Qb (Qa 0) Qf))) (Qe (Qy 3 (Qar (Q3 (Qb (dC .non) Qf)) (Qm (Qa 0) (dC (.int 0))))) (Qe (Qy 4 (QdN (Qm (Qa 0) (dC (.int 0))))) (Qe (QaZ (Qd8 (dC (.int 1)) (QE (Qm (Qa 0) (dC (.int 0))) (dC (.int 1)))) (.nm 5) (Qe (Qy 7 (Qab (QX (Qa 4)) (.nm 1) [none,none,some 4,some 1,some 2] (QC (dOp gGe (Qm (Qa 3) (Qa 1)) (Qv 3 QaP [] (Qb (Qm (Qa 4) (Qa 1)) (Qb (Qa 1) (Qb (Qa 2) Qf)))))) (Qa 1))) (Qe (QaZ (QX (Qa 7)) (.nm 6) (Qe (QcA 3 Q1 (Qa 6) (Qa 5)) Qp)) (Qe (Qy 4 (Qab (QX (Qa 4)) (.nm 1) [none,none,some 7] (QC (dOp (gIn true) (Qa 1) (Qa 2))) (Qa 1))) Qp)))) (Qe (QS (Qa 3)) Qp)))))))
theorem QnG{fa fb:DE}{ρ:En}{ra rb:R}{i j:Int}{n:Nat}(ha:fa ρ=some ra)(ea:ra.d= .int i)(hb:fb ρ=some rb)(eb:rb.d= .int j)(hn:(n:Int)=j-i)(hl:n<=16777216)(h1: -(2^62)<=i)(h2:i<2^61):Qd8 fa fb ρ=some ⟨(List.range n).map λ(k:Nat)=> .int (i+k),[]⟩:=by
 unfold Qd8
 rw[ha,Za,hb,Za,ea,eb]
 show(if j-i<=16777216/\_ then _ else _)=_
 rw[if_pos ⟨by omega,by omega,by omega,by omega,by omega⟩]
 rw[show(j-i).toNat=n by omega]
 rfl
def Qgt(d:Den):Prop:=∀(m:Nat) (R:List (Int×Int)) (h:Nat->Int),0<m->m<=1000->R.length<=1000->(∀s∈R,Good m s)->(∀j,j<m->0<=h j)->d [Qg m R [],Qc m h]=some (QaF m (QO (Qx m (Qu R [])) h m m),true)
theorem Qhr{n:Nat}(h:fa ρ=some r)(e:r.d= .int n)(hn:n<=1000000):QdN fa ρ=some ⟨Qd (List.range n),true,[]⟩:=by
 unfold QdN
 rw[h,Za,e]
 show(if 0<=(n:Int)/\(n:Int)<=1000000 then some (HS.R.mk (.lst ((List.range (n:Int).toNat).map λ(k:Nat)=> .int (k:Int))) true [])else none)=_
 rw[if_pos ⟨by omega,by omega⟩,Zy]
 rfl
theorem Qqe(h:∀i,i<m->F i=G i):QaF m F=QaF m G:=by
 unfold QaF
 congr 1
 exact ZL λi hi=>by rw[h i (Zh.mp hi)]
theorem Qrv(hp:QhD dp)(hh:Qg9 dh)(ht:Qff dt)(ha:QhQ da):Qgt (Qr 8 (Qm9 dp dh dt da)):=λm R h m0 hm hRl hR hpos=>by
 have htoll:=ht m R [] hm (by simp;omega) hR (λs hs=>absurd hs (by simp))
 have hneed:=hh m R [] [h] m0 (λg hg' j hj=>by rw[ZG.mp hg'];exact hpos j hj)
 generalize Qx m (Qu R [])=T at *
 refine Qac ?_
 refine run_seq (Qf4 (Qw (r:=⟨[Qg m R []],false,[]⟩) rfl (hp m R) rfl) ?_)
 refine run_seq (Qf4 (Qw (r:=⟨[Qg m R [],.lst [Qc m h]],false,[]⟩) rfl hneed rfl) ?_)
 refine run_seq (Qk (Qw (r:=⟨[Qg m R []],false,[]⟩) rfl htoll rfl) ?_)
 rw[Qq]
 refine run_seq (Qk (QqB (n:=m) (r:=⟨.int m,true,[]⟩) rfl rfl (by omega)) ?_)
 rw[Qq]
 refine run_seq (Qk (Qhr (n:=m) (r:=⟨.int m,true,[]⟩) rfl rfl (by omega)) ?_)
 rw[Qq]
 refine Qah (P:=λρ=>∃j4 j5 j6 j7,ρ=[some (Qg m R [],false),some (Qc m h,false),some (QaK m m T,true),some (QaF m (QO T h m m),true),j4,j5,j6,j7]) ?_ ?_
 ·refine Q9 (toD:=λ(k:Nat)=> .int (1+(k:Int))) (List.range m) (λk ρ=>∃j5 j6 j7,ρ=[some (Qg m R [],false),some (Qc m h,false),some (QaK m m T,true),some (QaF m (QO T h m k),true),some (Qd (Q2 T h m k),true),j5,j6,j7]) (QnG (n:=m) (i:=1) (j:=(m:Int)+1) rfl rfl (QM (a:=m) (b:=1) rfl rfl rfl rfl) rfl (by omega) (by omega) (by decide) (by decide)) rfl ⟨none,none,none,rfl⟩ ?_ ?_
  ·rintro k k' ρ hk ⟨j5,j6,j7,rfl⟩
   have hk':k<m/\k=k':=by
    obtain⟨h1,h2⟩:=Zb.mp hk
    simp at h1 h2;exact⟨h1,h2⟩
   obtain⟨hkm,rfl⟩:=hk'
   refine⟨_,rfl,?_⟩
   generalize el:Q2 T h m k=l
   have hl:∀p∈l,p<m:=λp hp=>by rw[← el]at hp;exact Qdj hp
   have enext:Q2 T h m (k+1)=Qey T h l:=by rw[← el];rfl
   have efire:∀p,QO T h m (k+1) p=if p∈QW T h l then some ((k:Int)+1)else QO T h m k p:=λp=>by rw[← el];rfl
   rw[enext]
   refine run_seq (Qk (r:=⟨Qd (QW T h l),true,[]⟩) ?_ ?_)
   ·refine QcG (fi:=QX (Qa 4)) (t:= .nm 1) (cap:=[none,none,some 4,some 1,some 2]) (ft:=QC (dOp gGe (Qm (Qa 3) (Qa 1)) (Qv 3 da [] (Qb (Qm (Qa 4) (Qa 1)) (Qb (Qa 1) (Qb (Qa 2) Qf)))))) (fe:=Qa 1) (ρ:=[some (Qg m R [],false),some (Qc m h,false),some (QaK m m T,true),some (QaF m (QO T h m k),true),some (Qd l,true),some (.int (1+(k:Int)),true),j6,j7])
     (toD:=λ(p:Nat)=> .int (p:Int)) (keep:=λp=>decide (Qb5 T p l<=h p)) (out:=λ(p:Nat)=> .int (p:Int)) l (Qba (r:=⟨Qd l,true,[4]⟩) rfl rfl) rfl λp hp=>⟨[none,some (.int p,true),some (Qd l,false),some (Qc m h,false),some (QaK m m T,false)],rfl,?_,λ_=>⟨_,rfl,rfl,rfl⟩⟩
    have hpm:=hl p hp
    refine QF (QQ (d:= .bl (decide (Qb5 T p l<=h p))) (QaH (m:=m) (f:=h) (i:=p) (ra:=⟨Qc m h,false,[]⟩) rfl rfl rfl rfl hpm) (Qw (Qj (Qqm (m:=m) (n:=m) (f:=T) (i:=p) (ra:=⟨QaK m m T,false,[]⟩) rfl rfl rfl rfl (by omega) (by omega)) (rs:=⟨[.int p,Qd l],false,[]⟩) rfl) (ha m (T (p:Int).toNat) p l λo ho=>hl o ho) rfl) ?_) rfl
    show some (D.bl (decide (((l.filter λo=>decide (o≠p)).map (T (p:Int).toNat)).sum<=h p)))=_
    rw[Zy]
    rfl
   rw[Qq]
   refine Qah (P:=λρ=>∃j6 b7,ρ=[some (Qg m R [],false),some (Qc m h,false),some (QaK m m T,true),some (QaF m (QO T h m (k+1)),true),some (Qd l,true),some (.int (1+(k:Int)),true),j6,some (Qd (QW T h l),b7)]) ?_ ?_
   ·refine Q9 (toD:=λ(p:Nat)=> .int (p:Int)) (QW T h l) (λi ρ=>∃F j6,(∀p,F p=if p∈(QW T h l).take i then some ((k:Int)+1)else QO T h m k p)/\ρ=[some (Qg m R [],false),some (Qc m h,false),some (QaK m m T,true),some (QaF m F,true),some (Qd l,true),some (.int (1+(k:Int)),true),j6,some (Qd (QW T h l),false)]) (Qba (r:=⟨Qd (QW T h l),true,[7]⟩) rfl rfl) rfl ⟨QO T h m k,j6,λp=>by simp,rfl⟩ ?_ ?_
    ·rintro i p ρ hi ⟨F,j6,hF,rfl⟩
     have hpm:=hl p (QcW.mp (ZD hi)).1
     refine⟨_,rfl,run_seq (Qou (m:=m) (F:=F) (i:=p) (v:=1+(k:Int)) rfl rfl rfl rfl rfl (by omega) (by omega) (Ql ⟨_,_,λq=>?_,rfl⟩))⟩
     have etake:(QW T h l).take (i+1)=(QW T h l).take i++[p]:=by
      rw[ZbZ,hi];rfl
     rw[etake]
     unfold upO
     rw[Zy]
     by_cases hq:q=p
     ·subst hq
      rw[if_pos rfl,if_pos (by simp)]
      congr 1;omega
     ·rw[if_neg hq,hF q]
      by_cases h2:q∈(QW T h l).take i
      ·rw[if_pos h2,if_pos (Zg _ h2)]
      ·rw[if_neg h2,if_neg (λz=>by
        rcases ZJ.mp z with z | z
        ·exact h2 z
        ·exact hq (ZG.mp z))]
    ·rintro ρ ⟨F,j6,hF,rfl⟩
     rw[ZaQ]at hF
     refine⟨j6,false,?_⟩
     rw[Qqe (F:=F) (G:=QO T h m (k+1)) λp _=>by rw[hF p,efire p]]
   rintro ρ ⟨j6,b7,rfl⟩
   refine run_seq (Qk (r:=⟨Qd (Qey T h l),true,[]⟩) ?_ (Ql ?_))
   ·refine QcG (fi:=QX (Qa 4)) (t:= .nm 1) (cap:=[none,none,some 7]) (ft:=QC (dOp (gIn true) (Qa 1) (Qa 2))) (fe:=Qa 1)
     (toD:=λ(p:Nat)=> .int (p:Int)) (keep:=λp=> !(QW T h l).contains p) (out:=λ(p:Nat)=> .int (p:Int)) l (Qba (r:=⟨Qd l,true,[4]⟩) rfl rfl) rfl λp hp=>⟨[none,some (.int p,true),some (Qd (QW T h l),false)],by cases b7<;>rfl,QF (Qkm (neg:=true) (o:=p) (l:=QW T h l) rfl rfl (rb:=⟨Qd (QW T h l),false,[]⟩) rfl rfl) rfl,λ_=>⟨_,rfl,rfl,rfl⟩⟩
   rw[Qq]
   exact⟨_,_,_,rfl⟩
  ·rintro ρ ⟨j5,j6,j7,rfl⟩
   rw[Zz]
   exact⟨_,_,_,_,rfl⟩
 rintro ρ ⟨j4,j5,j6,j7,rfl⟩
 exact QN (r:=⟨QaF m (QO T h m m),true,[3]⟩) rfl ⟨rfl,rfl⟩
noncomputable def QdE(QB:Den):DS:=(Qe (Qy 1 (QE (dC (.int 1)) (dOp QaY (Qv 2 QB [] (Qb (Qa 0) (Qb (dC (.int 0)) Qf))) (dC (.int 8))))) (Qe (Qy 2 (dOp QaY (Qv 2 QB [] (Qb (Qa 0) (Qb (dC (.int 1)) Qf))) (dC (.int 1000003)))) (Qe (Qy 3 (Q3 Qf)) (Qe (QaZ (Qbf (Qa 1)) (.nm 4) (Qe (Qy 5 (dOp QaY (Qar (Qar (QE (Qa 2) (dC (.int 17))) (QE (QE (Qar (Qa 4) (Qa 4)) (Qar (dC (.int 7)) (Qa 4))) (dC (.int 11)))) (dC (.int 69621))) (dC (.int 2147483647)))) (Qe (Qy 6 (QcZ (Qa 1))) (Qe (sIf (QC (dOp gLt (dOp QaY (Qa 5) (QE (Qa 4) (dC (.int 1)))) (Qa 4))) (Qe (Qy 6 (dOp QaY (QE (dOp QaY (Qa 5) (QE (Qa 4) (dC (.int 1)))) (Qa 2)) (Qa 1))) Qp) Qp) (Qe (Qch 3 Q1 (Qa1 (Qb (dOp QaY (QE (Qa 4) (Qa 2)) (Qa 1)) (Qb (Qa 6) Qf)))) Qp))))) (Qe (QaZ (QX (Qc4 (Qa 0) (QbI (dC (.int 2))) (QbI (dC (.int 26))))) (.nm 7) (Qe (Qy 5 (dOp QaY (Qar (Qa 7) (dC (.int 48271))) (dC (.int 2147483647)))) (Qe (Qy 8 (dOp QaY (Qa 5) (QE (Qa 1) (dC (.int 1))))) (Qe (Qch 3 Q1 (Qa1 (Qb (Qa 8) (Qb (dOp QaY (QE (QE (Qa 8) (dC (.int 1))) (dOp QaY (dOp QlX (Qa 5) (dC (.int 9))) (Qa 1))) (QE (Qa 1) (dC (.int 1)))) Qf)))) Qp)))) (Qe (sIf (QC (dOp gEq (dOp QaY (Qa 2) (dC (.int 2))) (dC (.int 1)))) (Qe (Qy 3 (QjE (Qa 3) (QdM (dC (.int 1))))) Qp) Qp) (Qe (QS (Qa1 (Qb (Qa 1) (Qb (Qab (QX (Qa 3)) (.nm 1) [none,none] QcT (Qa1 (Qb (dBf QcS (Qb (Qa 1) Qf)) (Qb (dBf QcU (Qb (Qa 1) Qf)) Qf)))) (Qb (Q3 Qf) Qf))))) Qp)))))))
def QkB(d:Den):Prop:=∀ns:List Int,ns.length<=63->∃(m:Nat) (R:List (Int×Int)),d [.lst (ns.map .int)]=some (Qg m R [],true)/\0<m/\m<=8/\Qcx m R []
noncomputable def prs(W:List (Int×Int×Bool)):List (Int×Int):=W.map QaV
theorem Qoh{fa:DE}{ρ:En}{r:R}{s:Int×Int}(h:fa ρ=some r)(e:r.d=pairD s):dBf QcS (Qb fa Qf) ρ=some ⟨.int (if s.2<s.1 then s.2 else s.1),true,[]⟩:=by
 unfold dBf
 rw[Qj h (QL _),Za]
 simp only[e,pairD,QcS]
 rfl
theorem Qo3{fa:DE}{ρ:En}{r:R}{s:Int×Int}(h:fa ρ=some r)(e:r.d=pairD s):dBf QcU (Qb fa Qf) ρ=some ⟨.int (if s.1<s.2 then s.2 else s.1),true,[]⟩:=by
 unfold dBf
 rw[Qj h (QL _),Za]
 simp only[e,pairD,QcU]
 rfl
theorem QnK{x:Nat}{A:List (Int×Int)}{ρ:En}{b:Bool}(h:ρ[x]? =some (some (Qt A,b))):QjE (Qa x) (QdM (dC (.int 1))) ρ=some ⟨Qt A.reverse,true,[]⟩:=by
 unfold QjE
 rw[Qae h,Za]
 have e:(if(Qt A).flat=true then HS.R.mk (Qt A) true []else if b=true then HS.R.mk (Qt A) true [x]else HS.R.mk (Qt A) false []).d=Qt A:=by cases b<;>rfl
 rw[e]
 show some (QT (A.map pairD).reverse _)=_
 rw[← List.map_reverse]
 unfold QT
 rw[if_pos (Qat (λ_=>rfl) _)];rfl
theorem Qro{dc:Den}(hc:Qfj dc):QkB (Qr 9 (QdE dc)):=λns hl=>by
 have b1:=Zab (ns.getD 0 0) (by decide:(8:Int)≠0)
 have b2:=ZX (ns.getD 0 0) (by decide:(0:Int)<8)
 obtain⟨m,em⟩:∃m:Nat,(m:Int)=1+ns.getD 0 0 % 8:=⟨(1+ns.getD 0 0 % 8).toNat,by omega⟩
 have m0:0<m:=by omega
 have m8:m<=8:=by omega
 have t1:=Zab (ns.getD 1 0) (by decide:(1000003:Int)≠0)
 have t2:=ZX (ns.getD 1 0) (by decide:(0:Int)<1000003)
 generalize et:ns.getD 1 0 % 1000003=t at t1 t2
 have key:Run (QdE dc) (Qal 9 [.lst (ns.map .int)]) (Rt λd fr=>∃R,d=Qg m R []/\fr=true/\Qcx m R []):=by
  have cell:∀(ρ:En) (k:Nat),ρ[0]? =some (some (.lst (ns.map .int),false))->Qv 2 dc [] (Qb (Qa 0) (Qb (dC (.int k)) Qf)) ρ=some ⟨.int (ns.getD k 0),true,[]⟩:=λρ k h0=>by
   refine Qw (Qj (Qae h0) (Qj (Qe2 _ _) (QL _))) ?_ rfl
   exact hc ns k
  refine run_seq (Qk (QM (a:=1) rfl rfl (QaE (b:=8) (cell _ 0 rfl) rfl rfl rfl (by decide)) rfl) ?_)
  rw[Qq,← em]
  refine run_seq (Qk (QaE (b:=1000003) (cell _ 1 rfl) rfl rfl rfl (by decide)) ?_)
  rw[Qq,et]
  refine run_seq (Qk (r:=⟨Qt [],true,[]⟩) rfl ?_)
  rw[Qq]
  refine Qah (P:=λρ=>∃j4 j5 j6,ρ=[some (.lst (ns.map .int),false),some (.int m,true),some (.int t,true),some (Qt (prs (QaU m t 0)),true),j4,j5,j6,none,none]) ?_ ?_
  ·refine Q9 (toD:=λ(k:Nat)=> .int (k:Int)) (List.range m) (λi ρ=>∃j4 j5 j6,ρ=[some (.lst (ns.map .int),false),some (.int m,true),some (.int t,true),some (Qt (prs ((List.range i).map λ(k:Nat)=>Qc8 m t 0 k)),true),j4,j5,j6,none,none]) (Qcf (n:=m) (r:=⟨.int m,true,[]⟩) rfl rfl (by omega)) rfl ⟨none,none,none,rfl⟩ ?_ ?_
   ·rintro i k ρ hi ⟨j4,j5,j6,rfl⟩
    have hk:i<m/\i=k:=by
     obtain⟨h1,h2⟩:=Zb.mp hi
     simp at h1 h2;exact⟨h1,h2⟩
    obtain⟨hk,rfl⟩:=hk
    refine⟨_,rfl,?_⟩
    have n1:(t+17).natAbs<2^64:=by omega
    have n2:(69621:Int).natAbs<2^64:=by decide
    refine run_seq (Qk (r:=⟨.int (QaB t i),true,[]⟩) ?_ ?_)
    ·exact QaE (Qb6 (Qb6 (QM (a:=t) (b:=17) rfl rfl rfl rfl) rfl (QM (QM (Qb6 (a:=(i:Int)) (b:=i) rfl rfl rfl rfl (QfA (by omega))) rfl (Qb6 (a:=7) (b:=(i:Int)) rfl rfl rfl rfl (QfA (by decide))) rfl) rfl (Qe2 (.int 11) _) rfl) rfl (QfA n1)) rfl (Qe2 (.int 69621) _) rfl (Qdp n2)) rfl (Qe2 (.int 2147483647) _) rfl (by decide)
    ·rw[Qq]
     refine run_seq (Qk (r:=⟨.int m,false,[]⟩) rfl ?_)
     rw[QjO rfl]
     refine Qah (P:=λρ=>ρ=[some (.lst (ns.map .int),false),some (.int m,true),some (.int t,true),some (Qt (prs ((List.range i).map λ(k:Nat)=>Qc8 m t 0 k)),true),some (.int i,true),some (.int (QaB t i),true),some (.int (Qc7 m t i),true),none,none]) ?_ ?_
     ·have e1:∀(ρ:En),ρ=[some (.lst (ns.map .int),false),some (.int m,true),some (.int t,true),some (Qt (prs ((List.range i).map λ(k:Nat)=>Qc8 m t 0 k)),true),some (.int i,true),some (.int (QaB t i),true),some (.int m,true),none,none]->dOp QaY (Qa 5) (QE (Qa 4) (dC (.int 1))) ρ=some ⟨.int (QaB t i % (i+1)),true,[]⟩:=by
       rintro ρ rfl
       exact QaE (a:=QaB t i) (b:=(i:Int)+1) rfl rfl (QM (a:=(i:Int)) (b:=1) rfl rfl rfl rfl) rfl (by omega)
      refine Q7 (b:=decide (QaB t i % (i+1)<i)) (QF (QQ (e1 _ rfl) rfl rfl) rfl) (λh=>?_) (λh=>?_)
      ·have h:=of_decide_eq_true h
       refine run_seq (Qk (QaE (a:=QaB t i % (i+1)+t) (b:=m) (QM (a:=QaB t i % (i+1)) (b:=t) (e1 _ rfl) rfl rfl rfl) rfl rfl rfl (by omega)) (Ql ?_))
       rw[Qq]
       unfold Qc7
       rw[if_pos h];rfl
      ·have h:=of_decide_eq_false h
       refine Ql ?_
       unfold Qc7
       rw[if_neg h];rfl
     rintro ρ rfl
     refine run_seq (Qi3 (A:=prs ((List.range i).map λ(k:Nat)=>Qc8 m t 0 k)) (p:=QaV (Qc8 m t 0 i)) (r:=⟨pairD (QaV (Qc8 m t 0 i)),true,[]⟩) rfl ?_ rfl (by simp[prs];omega) (Ql ⟨some (.int i,true),some (.int (QaB t i),true),some (.int (Qc7 m t i),true),?_⟩))
     ·have e2:dOp QaY (QE (Qa 4) (Qa 2)) (Qa 1) [some (.lst (ns.map .int),false),some (.int m,true),some (.int t,true),some (Qt (prs ((List.range i).map λ(k:Nat)=>Qc8 m t 0 k)),true),some (.int i,true),some (.int (QaB t i),true),some (.int (Qc7 m t i),true),none,none]=some ⟨.int ((i+t) % m),true,[]⟩:=
       QaE (a:=(i:Int)+t) (b:=m) (QM (a:=(i:Int)) (b:=t) rfl rfl rfl rfl) rfl rfl rfl (by omega)
      unfold Qa1
      refine(congrArg (λz=>Option.bind z _) (Qj e2 (Qj (r:=⟨.int (Qc7 m t i),true,[]⟩) rfl (QL _)))).trans ?_
      rfl
     ·show _=[some (.lst (ns.map .int),false),some (.int m,true),some (.int t,true),some (Qt (prs ((List.range (i+1)).map λ(k:Nat)=>Qc8 m t 0 k)),true),some (.int i,true),some (.int (QaB t i),true),some (.int (Qc7 m t i),true),none,none]
      unfold prs
      rw[Zap,ZT,ZT]
      rfl
   ·rintro ρ ⟨j4,j5,j6,rfl⟩
    rw[Zz]
    exact⟨_,_,_,rfl⟩
  rintro ρ ⟨j4,j5,j6,rfl⟩
  obtain⟨cs,hcs,esl⟩:=Qpb (a:=2) (b:=26) (fa:=Qa 0) (ns:=ns) (ρ:=[some (.lst (ns.map .int),false),some (.int m,true),some (.int t,true),some (Qt (prs (QaU m t 0)),true),j4,j5,j6,none,none]) rfl rfl
  refine Qah (P:=λρ=>∃j5 j6 j7 j8 j4,ρ=[some (.lst (ns.map .int),false),some (.int m,true),some (.int t,true),some (Qt (prs (QaU m t 0++cs.map (Qcr m 0))),true),j4,j5,j6,j7,j8]) ?_ ?_
  ·refine Q9 (toD:=D.int) cs (λi ρ=>∃j5 j7 j8,ρ=[some (.lst (ns.map .int),false),some (.int m,true),some (.int t,true),some (Qt (prs (QaU m t 0++(cs.take i).map (Qcr m 0))),true),j4,j5,j6,j7,j8]) (Qba esl rfl) rfl ⟨j5,none,none,?_⟩ ?_ ?_
   ·rw[List.take_zero,ZaN,Zaj];rfl
   ·rintro i c ρ hi ⟨j5,j7,j8,rfl⟩
    have hil:i<cs.length:=(Zb.mp hi).1
    refine⟨_,rfl,?_⟩
    refine run_seq (Qk (QaE (b:=2147483647) (Qb6 (a:=c) (b:=48271) rfl rfl rfl rfl (Qdp (by decide))) rfl rfl rfl (by decide)) ?_)
    rw[Qq]
    refine run_seq (Qk (QaE (a:=Qb1 c) (b:=(m:Int)+1) rfl rfl (QM (a:=(m:Int)) (b:=1) rfl rfl rfl rfl) rfl (by omega)) ?_)
    rw[Qq]
    refine run_seq (Qi3 (A:=prs (QaU m t 0++(cs.take i).map (Qcr m 0))) (p:=QaV (Qcr m 0 c)) (r:=⟨pairD (QaV (Qcr m 0 c)),true,[]⟩) rfl ?_ rfl (by simp[prs,Qj2];omega) (Ql ⟨some (.int (Qb1 c),true),some (.int c,true),some (.int (mStart m c),true),?_⟩))
    ·unfold Qa1
     refine(congrArg (λz=>Option.bind z _) (Qj (r:=⟨.int (mStart m c),true,[]⟩) rfl (Qj (QaE (a:=mStart m c+1+Qb1 c / 9 % m) (b:=(m:Int)+1) (QM (QM (a:=mStart m c) (b:=1) rfl rfl rfl rfl) rfl (QaE (a:=Qb1 c / 9) (b:=m) (QsD (a:=Qb1 c) (b:=9) rfl rfl rfl rfl (by decide) (by decide)) rfl rfl rfl (by omega)) rfl) rfl (QM (a:=(m:Int)) (b:=1) rfl rfl rfl rfl) rfl (by omega)) (QL _)))).trans ?_
     rfl
    ·have et:cs.take (i+1)=cs.take i++[c]:=by rw[ZbZ,hi];rfl
     rw[et]
     have ep:prs (QaU m t 0++(cs.take i++[c]).map (Qcr m 0))=prs (QaU m t 0++(cs.take i).map (Qcr m 0))++[QaV (Qcr m 0 c)]:=by
      unfold prs
      simp only[ZT,Zat,Zu,ZaN]
     rw[ep]
     rfl
   ·rintro ρ ⟨j5,j7,j8,rfl⟩
    rw[ZaQ]
    exact⟨_,_,_,_,_,rfl⟩
  rintro ρ ⟨j5,j6,j7,j8,j4,rfl⟩
  have hbase:∀w∈QaU m t 0++cs.map (Qcr m 0),GoodW m w:=λw hw=>by
   rcases ZJ.mp hw with h | h
   ·exact Qow w h
   ·obtain⟨c,_,rfl⟩:=ZI.mp h
    exact QnP m0 0 c
  have hlen:(QaU m t 0++cs.map (Qcr m 0)).length<=200:=by rw[Zr,Qj2,Zi];omega
  refine Qah (P:=λρ=>∃W b,(∀w∈QaU m t 0,w∈W)/\(∀w∈W,GoodW m w)/\W.length<=200/\ρ=[some (.lst (ns.map .int),false),some (.int m,true),some (.int t,true),some (Qt (prs W),b),j4,j5,j6,j7,j8]) ?_ ?_
  ·refine Q7 (QF (Qfk (b:=1) (QaE (a:=t) (b:=2) rfl rfl rfl rfl (by decide)) rfl rfl rfl) rfl) (λ_=>?_) (λ_=>?_)
   ·refine run_seq (Qk (QnK (x:=3) (A:=prs (QaU m t 0++cs.map (Qcr m 0))) rfl) (Ql ?_))
    rw[Qq]
    refine⟨(QaU m t 0++cs.map (Qcr m 0)).reverse,true,λw hw=>List.mem_reverse.mpr (Zg _ hw),λw hw=>hbase w (List.mem_reverse.mp hw),by rw[Zbw];exact hlen,?_⟩
    unfold prs
    rw[List.map_reverse];rfl
   ·exact Ql ⟨_,true,λw hw=>Zg _ hw,hbase,hlen,rfl⟩
  rintro ρ ⟨W,b,w1,w2,w3,rfl⟩
  have er:=QcO (fi:=QX (Qa 3)) (t:= .nm 1) (cap:=[none,none]) (fe:=Qa1 (Qb (dBf QcS (Qb (Qa 1) Qf)) (Qb (dBf QcU (Qb (Qa 1) Qf)) Qf))) (ρ:=[some (.lst (ns.map .int),false),some (.int m,true),some (.int t,true),some (Qt (prs W),b),j4,j5,j6,j7,j8])
   (toD:=λw=>pairD (QaV w)) (out:=λw=>pairD (Qbt w)) W (Qba (Qae rfl) (by cases b<;>rfl)) (by show List.map pairD (W.map QaV)=_;rw[Zac];rfl) λw _=>⟨[none,some (pairD (QaV w),true)],rfl,⟨pairD (Qbt w),true,[]⟩,by
    unfold Qa1
    refine(congrArg (λz=>Option.bind z _) (Qj (Qoh (s:=QaV w) (r:=⟨pairD (QaV w),true,[]⟩) rfl rfl) (Qj (Qo3 (s:=QaV w) (r:=⟨pairD (QaV w),true,[]⟩) rfl rfl) (QL _)))).trans ?_
    rfl,rfl,rfl⟩
  refine QN (r:=⟨Qg m (W.map Qbt) [],true,[]⟩) ?_ ⟨W.map Qbt,rfl,rfl,Qm0 (QoS.mono w1) w2 w3⟩
  unfold Qa1
  refine(congrArg (λz=>Option.bind z _) (Qj (r:=⟨.int m,true,[]⟩) rfl (Qj er (Qj (r:=⟨.lst [],true,[]⟩) rfl (QL _))))).trans ?_
  show some _=some _
  congr 2
  unfold Qg Qt
  rw[Zac]
  rfl
 obtain⟨o,h1,h2⟩:=key
 cases o with
 | rt d fr=>
  obtain⟨R,rfl,rfl,h3⟩:=h2
  exact⟨m,R,by unfold Qr;rw[h1];rfl,m0,m8,h3⟩
 | _=>exact h2.elim
noncomputable def QeU(QP:Den):DS:=(Qe (QS (Qv 3 QP [] (Qb (Qa 0) (Qb (Qa 1) (Qb (QdN (QE (Qm (Qa 0) (dC (.int 0))) (dC (.int 1)))) Qf))))) Qp)
theorem Qd6(p:Nat)(l:List Nat)(s:Int×Int):0<=Qs p l s/\Qs p l s<=1:=by unfold Qs;split<;>omega
theorem QoG{T:Nat->Nat->Int}{h:Nat->Int}{m:Nat}{k p:Nat}(hp:p<m){j:Nat}(hj:j<=k):p∈Q2 T h m j↔(QO T h m k p=none∨∃t,QO T h m k p=some t/\(j:Int)+1<=t):=by
 cases e:QO T h m k p with
 | none=>exact⟨λ_=> .inl rfl,λ_=>Qcg hj ((Qfo k p hp).mp e)⟩
 | some t=>
  obtain⟨i,h1,h2,h3,h4,_⟩:=Qcl k p t e
  constructor
  ·intro z
   refine .inr ⟨t,rfl,?_⟩
   by_cases hh:j<=i
   ·omega
   ·exact absurd (Qcg (show i+1<=j by omega) z) h4
  ·rintro(z | ⟨t',z,hz⟩)
   ·cases z
   ·cases z
    exact Qcg (show j<=i by omega) h3
theorem QgP{m:Nat}{s:Int×Int}(g:Good m s){p:Nat}{l:List Nat}:Qs p (l.filter λo=>decide (o≠p)) s=Qs p l s:=by
 obtain⟨g1,g2,g3,g4,g5⟩:=g
 unfold Qs
 have e1:(s.1=p/\s.2.toNat∈l.filter λo=>decide (o≠p))↔(s.1=p/\s.2.toNat∈l):=by
  rw[ZN]
  constructor
  ·rintro⟨a,b,_⟩;exact⟨a,b⟩
  ·rintro⟨a,b⟩;exact⟨a,b,decide_eq_true (by omega)⟩
 have e2:(s.2=p/\s.1.toNat∈l.filter λo=>decide (o≠p))↔(s.2=p/\s.1.toNat∈l):=by
  rw[ZN]
  constructor
  ·rintro⟨a,b,_⟩;exact⟨a,b⟩
  ·rintro⟨a,b⟩;exact⟨a,b,decide_eq_true (by omega)⟩
 simp only[e1,e2]
theorem QfM{m:Nat}{R:List (Int×Int)}(hR:∀s∈R,Good m s){p:Nat}(hp:p<m){l:List Nat}(nd:l.Nodup)(hl:∀o∈l,o<m):Qb5 (Qx m (Qu R [])) p l=(R.map (Qs p l)).sum:=by
 unfold Qb5
 rw[Qnq hR hp (nd.filter _) (λo ho=>hl o (ZN.mp ho).1) (λz=>by have:=(ZN.mp z).2;simp at this)]
 rw[ZL λs hs=>QgP (hR s hs)]
theorem QgG{m:Nat}{R:List (Int×Int)}(hR:∀s∈R,Good m s)(p:Nat):(R.map (Qs p (List.range (m+1)))).sum=QU R [] p:=by
 unfold QU
 rw[ZaN,List.sum_nil,ZbU]
 congr 1
 refine ZL λs hs=>?_
 obtain⟨g1,g2,g3,g4,g5⟩:=hR s hs
 unfold Qs isI
 have e1:s.2.toNat∈List.range (m+1):=Zh.mpr (by omega)
 have e2:s.1.toNat∈List.range (m+1):=Zh.mpr (by omega)
 by_cases a:s.1=p
 ·have b:¬s.2=p:=by omega
  simp[a,b,e1,e2]
 ·by_cases b:s.2=p
  ·simp[a,b,e1,e2]
  ·simp[a,b,e1,e2]
def QhH(d:Den):Prop:=∀(m:Nat) (R L:List (Int×Int)) (p:Nat),m<=1000->(∀s∈R,Good m s)->d [Qg m R L,.int p]=some (.int (QU R [] p),true)
theorem QoM{dr:Den}(hr:Qed dr):QhH (Qr 2 (QeU dr)):=λm R L p hm hR=>by
 refine Qac (QN (Qw (Qj (r:=⟨Qg m R L,false,[]⟩) rfl (Qj (r:=⟨.int p,true,[]⟩) rfl (Qj (Qhr (n:=m+1) (QM (a:=m) (b:=1) (Qbc (m:=m) (R:=R) (L:=L) (Qae (d:=Qg m R L) (b:=false) rfl) rfl).1 rfl rfl rfl) rfl (by omega)) (QL _)))) (hr m R L p (List.range (m+1)) hR) rfl) ⟨?_,rfl⟩)
 show D.int _=D.int _
 rw[QgG hR p]
theorem QlG:∀bs:List Bool,Qhg (bs.map D.bl)=some bs
 | []=>rfl
 | b::bs=>by
  show Option.bind (some b) (λi=>(Qhg (bs.map D.bl)).map λr=>i::r)=_
  rw[QlG bs];rfl
theorem Qrk{fa:DE}{ρ:En}{r:R}{m:Nat}{g:Nat->Bool}(h:fa ρ=some r)(e:r.d= .lst ((List.range m).map λi=> .bl (g i))):dBf QfD (Qb fa Qf) ρ=some ⟨.bl ((List.range m).all g),true,[]⟩:=by
 unfold dBf
 rw[Qj h (QL _),Za]
 have:((List.range m).map λi=>D.bl (g i))=(((List.range m).map g).map D.bl):=by rw[Zac];rfl
 simp only[e,QfD,this,QlG,ZO]
 rw[Zby];rfl
theorem QqH(n m:Nat)(F:Nat->Option Int):(QaF m F).sim (n+1)=true:=by
 unfold QaF
 simp only[D.sim,Zby,ZV]
 intro p _
 show(Qds (F p)).sim n=true
 cases F p<;>cases n<;>rfl
theorem Qrx{m:Nat}{F:Nat->Option Int}:((List.range m).map λi=>Qds (F i)).any (λy=>deq y .non)=(List.range m).any λi=>(F i).isNone:=by
 rw[List.any_map]
 congr 1
 funext i
 show deq (Qds (F i)) .non=(F i).isNone
 cases F i<;>rfl
theorem QnF{neg:Bool}{fb:DE}{ρ:En}{rb:R}{m:Nat}{F:Nat->Option Int}(hb:fb ρ=some rb)(eb:rb.d=QaF m F):dOp (gIn neg) (dC .non) fb ρ=some ⟨.bl (if neg then !((List.range m).any λi=>(F i).isNone)else(List.range m).any λi=>(F i).isNone),true,[]⟩:=by
 refine QQ (ra:=⟨.non,true,[]⟩) rfl hb ?_
 rw[eb]
 show(if D.non.sim 8 && (QaF m F).sim 8 then some (D.bl (if neg then !(((List.range m).map λi=>Qds (F i)).any λy=>deq y .non)else((List.range m).map λi=>Qds (F i)).any λy=>deq y .non))else none)=_
 rw[QqH 7 m F,Qrx]
 rfl
noncomputable def QeT(Qcv:Den)(Qby:Den):DS:=(Qe (Qy 2 (Qv 2 Qcv [] (Qb (Qa 0) (Qb (Qa 1) Qf)))) (Qe (Qy 3 (dBf QfD (Qb (Qab (Qfu (Qa 1) (Qv 1 Qby [] (Qb (Qa 0) Qf))) (.tp [1,2]) [none,none,none] QcT (dOp gLt (Qa 1) (Qa 2))) Qf))) (Qe (QS (Qga (Qa 3) (dOp (gIn true) (dC .non) (Qa 2)))) Qp)))
noncomputable def QdL(R:List (Int×Int))(m:Nat)(h:Nat->Int)(F:Nat->Option Int):Bool:=(List.range m).all (λj=>decide (h j<QU R [] j)) && !((List.range m).any λi=>(F i).isNone)
def QhF(d:Den):Prop:=∀(m:Nat) (R:List (Int×Int)) (h:Nat->Int),0<m->m<=1000->R.length<=1000->(∀s∈R,Good m s)->(∀j,j<m->0<=h j)->d [Qg m R [],Qc m h]=some (.bl (QdL R m h (QO (Qx m (Qu R [])) h m m)),true)
theorem Qn5{df ds:Den}(hf:Qgt df)(hs:Qko ds):QhF (Qr 4 (QeT df ds)):=λm R h m0 hm hRl hR hpos=>by
 have ef:=hf m R h m0 hm hRl hR hpos
 have es:=hs m R [] hm (by simp;omega) hR (λs hs=>absurd hs (by simp))
 generalize QO (Qx m (Qu R [])) h m m=F at *
 refine Qac ?_
 refine run_seq (Qk (Qw (r:=⟨[Qg m R [],Qc m h],false,[]⟩) rfl ef rfl) ?_)
 rw[Qq]
 have ec:=QcO (fi:=Qfu (Qa 1) (Qv 1 ds [] (Qb (Qa 0) Qf))) (t:= .tp [1,2]) (cap:=[none,none,none]) (fe:=dOp gLt (Qa 1) (Qa 2)) (ρ:=[some (Qg m R [],false),some (Qc m h,false),some (QaF m F,true),none])
  (toD:=λ(i:Nat)=> .tup [.int (h i),.int (QU R [] i)]) (out:=λ(i:Nat)=> .bl (decide (h i<QU R [] i))) (List.range m) (Qqk (ra:=⟨Qc m h,false,[]⟩) rfl rfl (Qw (r:=⟨[Qg m R []],false,[]⟩) rfl es rfl) rfl) rfl λi _=>⟨[none,some (.int (h i),true),some (.int (QU R [] i),true)],rfl,⟨.bl (decide (h i<QU R [] i)),true,[]⟩,rfl,rfl,rfl⟩
 refine run_seq (Qk (Qrk (m:=m) (g:=λi=>decide (h i<QU R [] i)) ec rfl) ?_)
 rw[Qq]
 exact QN (QmV (a:=(List.range m).all λj=>decide (h j<QU R [] j)) (b:= !((List.range m).any λi=>(F i).isNone)) rfl (QnF (neg:=true) (m:=m) (F:=F) (rb:=⟨QaF m F,true,[2]⟩) rfl rfl)) ⟨rfl,rfl⟩
noncomputable def Qtr(F:Nat->Option Int)(t:Int)(o:Nat):Bool:=match F o with
 | none=>true
 | some u=>decide (t<=u)
noncomputable def QtQ(m:Nat)(F:Nat->Option Int)(t:Int):List Nat:=(List.range m).filter (Qtr F t)
noncomputable def Qos(R:List (Int×Int))(m:Nat)(F:Nat->Option Int)(p:Nat)(t:Int):Int:=(R.map (Qs p (QtQ m F t))).sum
structure Qu6 (R:List (Int×Int)) (m:Nat) (h:Nat->Int) (F:Nat->Option Int):Prop where
 rg:∀p t,p<m->F p=some t->1<=t/\t<=m
 no:∀p,p<m->F p=none->h p<Qos R m F p ((m:Int)+1)
 en:∀p t,p<m->F p=some t->Qos R m F p t<=h p
 la:∀p t,p<m->F p=some t->1<t->h p<Qos R m F p (t-1)
theorem Qmi{R:List (Int×Int)}{m:Nat}{h:Nat->Int}{F:Nat->Option Int}(h1:∀i,i<m->F i≠none/\h i<QU R [] i):QdL R m h F=true:=by
 unfold QdL
 rw[Zk,ZV,Zau,ZaL]
 refine⟨λi hi=>decide_eq_true (h1 i (Zh.mp hi)).2,λi hi=>?_⟩
 have:=(h1 i (Zh.mp hi)).1
 cases e:F i with
 | none=>exact absurd e this
 | some t=>simp
theorem Ql9{fa:DE}{ρ:En}{r:R}{m:Int}{R:List (Int×Int)}(h:fa ρ=some r)(e:r.d=Qg m R []):Qa1 (Qb (Qm fa (dC (.int 0))) (Qb (dList (Qb (Qm fa (dC (.int 1))) Qf)) (Qb (Q3 Qf) Qf))) ρ=some ⟨Qg m R [],true,[]⟩:=by
 obtain⟨h1,h2,_⟩:=Qbc (m:=m) (R:=R) (L:=[]) h e
 unfold Qa1
 refine(congrArg (λz=>Option.bind z _) (Qj h1 (Qj (Qi1 (Qj h2 (QL _)) rfl rfl) (Qj (r:=⟨.lst [],true,[]⟩) rfl (QL _))))).trans ?_
 rfl
theorem Qnh{x m:Nat}{b:D}{f:Nat->Int}{fi fa:DE}{ρ:En}{i:Int}{v:Int}{ri ra:R}{Q:Out->Prop}(hx:ρ[x]? =some (some (.lst [Qc m f,b],true)))(hi:fi ρ=some ri)(ei:ri.d= .int i)(ha:fa ρ=some ra)(ea:ra.d= .int v)(h0:0<=i)(h:i<m)
  (q:Q (.nx (ρ.set x (some (.lst [Qc m (up f i.toNat v),b],true))))):Run (QcA x (Qdi Q1 (dC (.int 0))) fi fa) ρ Q:=by
 refine⟨_,?_,q⟩
 have hn:ra.norm=⟨.int v,true,[]⟩:=by unfold R.norm;rw[ea];rfl
 unfold QcA
 rw[ha,Za,hx]
 have hp:Qdi Q1 (dC (.int 0)) ρ=some [0]:=rfl
 have hd:Qa3 (.lst [.lst ((List.range m).map λi=>D.int (f i)),b]) [0]=some (.lst ((List.range m).map λi=>D.int (f i))):=rfl
 have hu':∀d,Qao [0] (.lst [.lst ((List.range m).map λi=>D.int (f i)),b]) d= .lst [d,b]:=λd=>rfl
 simp only[hp,Za,hi,ei,Qc,hd,Zi,Zz,Qdn h0 h,hn,ea,QhA,hu']
 simp[kill]
theorem Qef{fa fb:DE}{ρ:En}{ra rb:R}{l:List Nat}{i:Int}{v:Nat}(ha:fa ρ=some ra)(ea:ra.d=Qd l)(hb:fb ρ=some rb)(eb:rb.d= .int i)(h0:0<=i)(h:l[i.toNat]? =some v):Qm fa fb ρ=some ⟨.int v,true,[]⟩:=by
 refine Qk0 (ns:=l.map λ(p:Nat)=>(p:Int)) ha (by rw[ea,Qh0]) hb eb h0 ?_
 rw[Zo,h];rfl
theorem Qhu{fa:DE}{ρ:En}{r:R}{l:List Nat}(h:fa ρ=some r)(e:r.d=Qd l):dBf QbF (Qb fa Qf) ρ=some ⟨.int l.length,true,[]⟩:=by
 rw[QdC h e,Zi]
theorem Qjv{x:Nat}{fa:DE}{ρ:En}{r:R}{l:List Nat}{v:Nat}{Q:Out->Prop}(hx:ρ[x]? =some (some (Qd l,true)))(ha:fa ρ=some r)(e:r.d= .int v)(hl:l.length<16777216)(q:Q (.nx (ρ.set x (some (Qd (l++[v]),true))))):Run (Qch x Q1 fa) ρ Q:=by
 refine QhP (xs:=l.map λ(p:Nat)=>D.int (p:Int)) hx ha (by rw[e];rfl) (by simpa using hl) ?_
 have:D.lst ((l.map λ(p:Nat)=>D.int (p:Int))++[r.d])=Qd (l++[v]):=by unfold Qd;rw[e,ZT];rfl
 rw[this];exact q
theorem QqA{fa fb:DE}{ρ:En}{ra rb:R}{l k:List Nat}(ha:fa ρ=some ra)(ea:ra.d=Qd l)(hb:fb ρ=some rb)(eb:rb.d=Qd k)(hl:l.length+k.length<=1000):QE fa fb ρ=some ⟨Qd (l++k),true,[]⟩:=by
 unfold QE
 rw[ha,Za,hb,Za,ea,eb]
 simp only[Qd,Zi,QeC]
 rw[if_pos (by omega)]
 unfold QT
 rw[← ZT,if_pos (Qg3 _)]
theorem Qli{p:Nat}:∀{l:List Nat},p∈l->∃j,QeE (p:Int) (l.map λ(q:Nat)=>(q:Int))=some j/\l[j]? =some p
 | a::l,h=>by
  by_cases e:a=p
  ·subst e
   exact⟨0,by simp[QeE],rfl⟩
  ·have h':p∈l:=by
    rcases Zl.mp h with z | z
    ·exact absurd z.symm e
    ·exact z
   obtain⟨j,h1,h2⟩:=Qli h'
   refine⟨j+1,?_,by simpa using h2⟩
   have e':¬((a:Int)=p):=by omega
   simp only[Zu,QeE,if_neg e',h1,ZO]
theorem QnU{x:Nat}{fa:DE}{ρ:En}{r:R}{l:List Nat}{p:Nat}{Q:Out->Prop}(hx:ρ[x]? =some (some (Qd l,true)))(ha:fa ρ=some r)(e:r.d= .int p)(hp:p∈l)(q:∀j,l[j]? =some p->Q (.nx (ρ.set x (some (Qd (l.eraseIdx j),true))))):Run (Qhh x Q1 fa) ρ Q:=by
 obtain⟨j,h1,h2⟩:=Qli hp
 refine⟨_,?_,q j h2⟩
 unfold Qhh
 rw[hx]
 have hd:QaI (l.map λ(p:Nat)=>D.int (p:Int))=some (l.map λ(q:Nat)=>(q:Int)):=by
  have:(l.map λ(p:Nat)=>D.int (p:Int))=(l.map λ(q:Nat)=>(q:Int)).map D.int:=by rw[Zac];rfl
  rw[this,Qci]
 simp only[Q1,Za,ha,e,Qd,Qa3,hd,h1,ZO,Qao]
 rw[← QeN (λ(q:Nat)=>(q:Int)) l j,Zac]
 rfl
theorem QfY{α:Type}:∀{l:List α}{j:Nat}{a:α},l[j]? =some a->(a::l.eraseIdx j).Perm l
 | [],_,_,h=>by simp at h
 | b::l,0,a,h=>by simp at h;subst h;exact List.Perm.refl _
 | b::l,j+1,a,h=>by
  have ih:=QfY (l:=l) (j:=j) (a:=a) (by simpa using h)
  rw[Zba]
  exact(List.Perm.swap b a _).trans (ih.cons b)
def Qke(R:List (Int×Int))(m:Nat)(O:List Nat):Prop:=∀i p,O[i]? =some p->0<(R.map (Qs p (O.take i++[m]))).sum
theorem Qgq{α:Type}{g:α->Int}:∀{S:List α},(∀s∈S,0<=g s)->(∃s∈S,0<g s)->0<(S.map g).sum
 | [],_,⟨_,h,_⟩=>absurd h (by simp)
 | a::S,h0,⟨s,hs,hp⟩=>by
  rw[Zu,ZS]
  have h1:=h0 a (by simp)
  have h2:=Qcw S λs hs=>h0 s (by simp[hs])
  rcases Zl.mp hs with rfl | hs
  ·omega
  ·have:=Qgq (λs hs=>h0 s (by simp[hs])) ⟨s,hs,hp⟩
   omega
theorem QmM{m:Nat}{R:List (Int×Int)}(hw:Qcx m R []):QjV m (Qu R []):=by
 obtain⟨W,h1,h2,h3,h4,h5⟩:=hw.ex
 have:=Qh2 h1
 rw[← h4,← h5]at this
 exact this
theorem QqE{m:Nat}{R:List (Int×Int)}(hw:Qcx m R [])(A:Nat->Prop)(hA:∃p,p<m/\A p):∃p,p<m/\A p/\∃s∈R,(s.1=p/\(s.2=m∨¬A s.2.toNat))∨(s.2=p/\(s.1=m∨¬A s.1.toNat)):=by
 obtain⟨s,h1,h2,h3,h4⟩:=QmM hw A hA
 unfold Qu at h1
 rw[Zaj]at h1
 have hg:=hw.good.1
 rcases ZJ.mp h1 with h | h
 ·obtain⟨g1,_⟩:=hg s h
  exact⟨s.1.toNat,by omega,h3,s,h,.inl ⟨by omega,h4⟩⟩
 ·obtain⟨r,hr,rfl⟩:=ZI.mp h
  obtain⟨g1,g2,_⟩:=hg r hr
  simp only[Zca,Prod.snd_swap]at h2 h3 h4
  exact⟨r.2.toNat,by omega,h3,r,hr,.inr ⟨by omega,h4⟩⟩
theorem Qq7{m:Nat}{R:List (Int×Int)}(hw:Qcx m R []){Fd Lf:List Nat}(hp:(Fd++Lf).Perm (List.range m))(ne:Lf≠[]):∃p∈Lf,0<(R.map (Qs p (Fd++[m]))).sum:=by
 have lt:∀p∈Lf,p<m:=λp h=>Zh.mp (hp.mem_iff.mp (Zd _ h))
 obtain⟨p0,hp0⟩:=List.exists_mem_of_ne_nil _ ne
 obtain⟨p,h1,h2,s,h3,h4⟩:=QqE hw (· ∈Lf) ⟨p0,lt p0 hp0,hp0⟩
 refine⟨p,h2,Qgq (λs _=>(Qd6 p _ s).1) ⟨s,h3,?_⟩⟩
 obtain⟨g1,g2,g3,g4,g5⟩:=hw.good.1 s h3
 have out:∀x:Int,0<=x->x<=m->(x=m∨¬x.toNat∈Lf)->x.toNat∈Fd++[m]:=λx x0 x1 h=>by
  by_cases e:x=m
  ·exact Zd _ (by simp;omega)
  ·have:x.toNat∈Fd++Lf:=hp.mem_iff.mpr (Zh.mpr (by omega))
   rcases ZJ.mp this with z | z
   ·exact Zg _ z
   ·rcases h with h | h
    ·exact absurd h e
    ·exact absurd z h
 unfold Qs
 rcases h4 with⟨e,h⟩ | ⟨e,h⟩
 ·rw[if_pos (.inl ⟨e,out s.2 g2 g4 h⟩)];decide
 ·rw[if_pos (.inr ⟨e,out s.1 g1 g3 h⟩)];decide
noncomputable def QdH(QB:Den)(QP:Den):DS:=(Qe (Qy 2 (QdN (Qm (Qa 1) (dC (.int 0))))) (Qe (Qy 3 (Q3 Qf)) (Qe (QaZ (Qbf (Qm (Qa 1) (dC (.int 0)))) (.nm 4) (Qe (Qy 5 (QE (Qar (Qv 2 QB [] (Qb (Qa 0) (Qb (QE (dC (.int 26)) (Qa 4)) Qf))) (dC (.int 69621))) (Qar (Qv 2 QB [] (Qb (Qa 0) (Qb (QE (dC (.int 2)) (Qa 4)) Qf))) (QE (Qar (Qa 4) (Qa 4)) (dC (.int 5)))))) (Qe (Qy 6 (Qab (QX (Qa 2)) (.nm 1) [none,none,some 3,some 1] (QC (dOp gGt (Qv 3 QP [] (Qb (Qa 3) (Qb (Qa 1) (Qb (QE (Qa 2) (Q3 (Qb (Qm (Qa 3) (dC (.int 0))) Qf))) Qf)))) (dC (.int 0)))) (Qa 1))) (Qe (Qch 3 Q1 (Qm (Qa 6) (dOp QaY (dOp QaY (Qa 5) (dC (.int 2147483629))) (dBf QbF (Qb (Qa 6) Qf))))) (Qe (Qhh 2 Q1 (Qm (Qa 3) (Qa 4))) Qp))))) (Qe (QS (Qa 3)) Qp))))
def Qhp(d:Den):Prop:=∀(ns:List Int) (m:Nat) (R:List (Int×Int)),m<=8->Qcx m R []->∃O,d [.lst (ns.map .int),Qg m R []]=some (Qd O,true)/\O.Perm (List.range m)/\Qke R m O
theorem Qo0{dc dr:Den}(hc:Qfj dc)(hr:Qed dr):Qhp (Qr 7 (QdH dc dr)):=λns m R m8 hw=>by
 have hR:=hw.good.1
 have key:Run (QdH dc dr) (Qal 7 [.lst (ns.map .int),Qg m R []]) (Rt λd fr=>∃O,d=Qd O/\fr=true/\O.Perm (List.range m)/\Qke R m O):=by
  have cell:∀(ρ:En) (fk:DE) (k:Nat),ρ[0]? =some (some (.lst (ns.map .int),false))->fk ρ=some ⟨.int k,true,[]⟩->Qv 2 dc [] (Qb (Qa 0) (Qb fk Qf)) ρ=some ⟨.int (ns.getD k 0),true,[]⟩:=λρ fk k h0 hk=>by
   refine Qw (Qj (Qae h0) (Qj hk (QL _))) ?_ rfl
   exact hc ns k
  refine run_seq (Qk (Qhr (n:=m) (r:=⟨.int m,true,[]⟩) rfl rfl (by omega)) ?_)
  rw[Qq]
  refine run_seq (Qk (r:=⟨Qd [],true,[]⟩) rfl ?_)
  rw[Qq]
  refine Qah (P:=λρ=>∃Fd Lf j4 j5 j6,Fd.length=m/\(Fd++Lf).Perm (List.range m)/\Qke R m Fd/\ρ=[some (.lst (ns.map .int),false),some (Qg m R [],false),some (Qd Lf,true),some (Qd Fd,true),j4,j5,j6]) ?_ ?_
  ·refine Q9 (toD:=λ(k:Nat)=> .int (k:Int)) (List.range m) (λk ρ=>∃Fd Lf j4 j5 j6,Fd.length=k/\(Fd++Lf).Perm (List.range m)/\Qke R m Fd/\ρ=[some (.lst (ns.map .int),false),some (Qg m R [],false),some (Qd Lf,true),some (Qd Fd,true),j4,j5,j6]) (Qcf (n:=m) (r:=⟨.int m,true,[]⟩) rfl rfl (by omega)) rfl ⟨[],List.range m,none,none,none,rfl,by simp,λi p h=>by simp at h,rfl⟩ ?_ ?_
   ·rintro i i' ρ hi ⟨Fd,Lf,j4,j5,j6,hlen,hperm,hord,rfl⟩
    have hi':i<m/\i=i':=by
     obtain⟨h1,h2⟩:=Zb.mp hi
     simp at h1 h2;exact⟨h1,h2⟩
    obtain⟨him,rfl⟩:=hi'
    have hl2:=hperm.length_eq
    rw[Zr,Zz,hlen]at hl2
    have ne:Lf≠[]:=λz=>by rw[z]at hl2;simp at hl2;omega
    have lt:∀p∈Lf,p<m:=λp h=>Zh.mp (hperm.mem_iff.mp (Zd _ h))
    refine⟨_,rfl,?_⟩
    refine run_seq (Qk (QM (a:=ns.getD (26+i) 0*69621) (b:=ns.getD (2+i) 0*((i:Int)*i+5)) (Qb6 (a:=ns.getD (26+i) 0) (b:=69621) (cell _ _ (26+i) rfl (QM (a:=26) (b:=i) rfl rfl rfl rfl)) rfl rfl rfl (Qdp (by decide))) rfl (Qb6 (a:=ns.getD (2+i) 0) (b:=(i:Int)*i+5) (cell _ _ (2+i) rfl (QM (a:=2) (b:=i) rfl rfl rfl rfl)) rfl (QM (a:=(i:Int)*i) (b:=5) (Qb6 (a:=i) (b:=i) rfl rfl rfl rfl (QfA (by omega))) rfl rfl rfl) rfl (Qdp (by
     have h1:(i:Int)*i<=8*8:=Int.mul_le_mul (by omega) (by omega) (by omega) (by omega)
     have h2:0<=(i:Int)*i:=ZbY (by omega) (by omega)
     omega))) rfl) ?_)
    rw[Qq]
    generalize ns.getD (26+i) 0*69621+ns.getD (2+i) 0*((i:Int)*i+5)=n
    have ec:=QcG (fi:=QX (Qa 2)) (t:= .nm 1) (cap:=[none,none,some 3,some 1]) (ft:=QC (dOp gGt (Qv 3 dr [] (Qb (Qa 3) (Qb (Qa 1) (Qb (QE (Qa 2) (Q3 (Qb (Qm (Qa 3) (dC (.int 0))) Qf))) Qf)))) (dC (.int 0)))) (fe:=Qa 1) (ρ:=[some (.lst (ns.map .int),false),some (Qg m R [],false),some (Qd Lf,true),some (Qd Fd,true),some (.int i,true),some (.int n,true),j6])
     (toD:=λ(p:Nat)=> .int (p:Int)) (keep:=λp=>decide (0<(R.map (Qs p (Fd++[m]))).sum)) (out:=λ(p:Nat)=> .int (p:Int)) Lf (Qba (r:=⟨Qd Lf,true,[2]⟩) rfl rfl) rfl λp hp=>⟨[none,some (.int p,true),some (Qd Fd,false),some (Qg m R [],false)],rfl,QF (QQ (d:= .bl (decide (0<(R.map (Qs p (Fd++[m]))).sum))) (rb:=⟨.int 0,true,[]⟩) (Qw (Qj (r:=⟨Qg m R [],false,[]⟩) rfl (Qj (r:=⟨.int p,true,[]⟩) rfl (Qj (QqA (l:=Fd) (k:=[m]) (ra:=⟨Qd Fd,false,[]⟩) (rb:=⟨Qd [m],true,[]⟩) rfl rfl rfl rfl (by simp;omega)) (QL _)))) (hr m R [] p (Fd++[m]) hR) rfl) rfl rfl) rfl,λ_=>⟨⟨.int p,true,[]⟩,rfl,rfl,rfl⟩⟩
    refine run_seq (Qk ec ?_)
    rw[Qq]
    obtain⟨p0,hp0,hp1⟩:=Qq7 hw hperm ne
    generalize hN:Lf.filter (λp=>decide (0<(R.map (Qs p (Fd++[m]))).sum))=N
    have hNp:0<N.length:=by
     rw[← hN]
     exact ZbW (ZN.mpr ⟨hp0,decide_eq_true hp1⟩)
    have x0:=Zab (n % 2147483629) (by omega:(N.length:Int)≠0)
    have x1:=ZX (n % 2147483629) (by omega:(0:Int)<N.length)
    obtain⟨p,hpN⟩:∃p,N[(n % 2147483629 % (N.length:Int)).toNat]? =some p:=⟨_,ZA (by omega)⟩
    have hpm:=ZD hpN
    rw[← hN]at hpm
    obtain⟨hpL,hpr⟩:=ZN.mp hpm
    have hpr:=of_decide_eq_true hpr
    refine run_seq (Qjv (l:=Fd) (v:=p) rfl (Qef (l:=N) (i:=n % 2147483629 % (N.length:Int)) (v:=p) (ra:=⟨Qd N,true,[6]⟩) rfl rfl (QaE (a:=n % 2147483629) (b:=N.length) (QaE (a:=n) (b:=2147483629) rfl rfl rfl rfl (by decide)) rfl (Qhu (l:=N) (r:=⟨Qd N,true,[6]⟩) rfl rfl) rfl (by omega)) rfl x0 hpN) rfl (by omega) ?_)
    refine run_seq (QnU (l:=Lf) (p:=p) rfl (Qef (l:=Fd++[p]) (i:=i) (v:=p) (ra:=⟨Qd (Fd++[p]),true,[3]⟩) (rb:=⟨.int i,true,[]⟩) rfl rfl rfl rfl (by omega) (by rw[Zy,← hlen];simp)) rfl hpL λj hj=>Ql ⟨Fd++[p],Lf.eraseIdx j,_,_,_,by simp[hlen],?_,?_,rfl⟩)
    ·refine List.Perm.trans ?_ hperm
     rw[Zat]
     refine List.Perm.append_left _ ?_
     exact QfY hj
    ·intro k q hk
     by_cases hkl:k<Fd.length
     ·rw[ZP hkl]at hk
      rw[List.take_append_of_le_length (by omega)]
      exact hord k q hk
     ·have hk2:k=Fd.length:=by
       have:=(Zb.mp hk).1
       simp at this;omega
      subst hk2
      rw[Zaw (by omega)]at hk
      simp at hk
      subst hk
      rw[List.take_left']
      ·exact hpr
      ·rfl
   ·rintro ρ ⟨Fd,Lf,j4,j5,j6,hlen,hperm,hord,rfl⟩
    rw[Zz]at hlen
    exact⟨Fd,Lf,_,_,_,hlen,hperm,hord,rfl⟩
  rintro ρ ⟨Fd,Lf,j4,j5,j6,hlen,hperm,hord,rfl⟩
  refine QN (r:=⟨Qd Fd,true,[3]⟩) rfl ⟨Fd,rfl,rfl,?_,hord⟩
  have hl2:=hperm.length_eq
  rw[Zr,Zz,hlen]at hl2
  have:Lf=[]:=Zae (by omega)
  rw[this,Zaj]at hperm
  exact hperm
 obtain⟨o,h1,h2⟩:=key
 cases o with
 | rt d fr=>
  obtain⟨O,rfl,rfl,h3⟩:=h2
  exact⟨O,by unfold Qr;rw[h1];rfl,h3⟩
 | _=>exact h2.elim
theorem QgB{α:Type}{f g h:α->Int}:∀{S:List α},(∀s∈S,f s+g s<=h s)->(S.map f).sum+(S.map g).sum<=(S.map h).sum
 | [],_=>by simp
 | a::S,H=>by
  have h1:=H a (by simp)
  have h2:=QgB (S:=S) λs hs=>H s (by simp[hs])
  simp only[Zu,ZS]
  omega
theorem QgY{α:Type}{f h:α->Int}:∀{S:List α},(∀s∈S,f s<=h s)->(S.map f).sum<=(S.map h).sum
 | [],_=>by simp
 | a::S,H=>by
  have h1:=H a (by simp)
  have h2:=QgY (S:=S) λs hs=>H s (by simp[hs])
  simp only[Zu,ZS]
  omega
theorem Qoa{m:Nat}{s:Int×Int}(g:Good m s){p:Nat}{l k:List Nat}(hd:∀x∈l,x∉k):Qs p l s+Qs p k s<=Qs p (List.range (m+1)) s:=by
 obtain⟨g1,g2,g3,g4,g5⟩:=g
 have e1:s.2.toNat∈List.range (m+1):=Zh.mpr (by omega)
 have e2:s.1.toNat∈List.range (m+1):=Zh.mpr (by omega)
 unfold Qs
 by_cases a:s.1=p
 ·have b:¬s.2=p:=by omega
  by_cases x:s.2.toNat∈l
  ·have y:=hd _ x
   simp[a,b,e1,x,y]
  ·by_cases y:s.2.toNat∈k<;>simp[a,b,e1,x,y]
 ·by_cases b:s.2=p
  ·by_cases x:s.1.toNat∈l
   ·have y:=hd _ x
    simp[a,b,e2,x,y]
   ·by_cases y:s.1.toNat∈k<;>simp[a,b,e2,x,y]
  ·simp[a,b]
theorem QsS{p:Nat}{l k:List Nat}{s:Int×Int}(hd:∀x∈l,x∈k):Qs p l s<=Qs p k s:=by
 unfold Qs
 by_cases c:(s.1=p/\s.2.toNat∈l)∨(s.2=p/\s.1.toNat∈l)
 ·rw[if_pos c,if_pos (c.elim (λz=> .inl ⟨z.1,hd _ z.2⟩) λz=> .inr ⟨z.1,hd _ z.2⟩)]
  exact ZaF _
 ·rw[if_neg c]
  split<;>omega
def Qhq(R:List (Int×Int))(h:Nat->Int)(O:List Nat):Prop:=∀k p,O[k]? =some p->(R.map (Qs p (O.drop (k+1)))).sum<=h p/\h p<QU R [] p
theorem Qmh{m:Nat}{R:List (Int×Int)}(hR:∀s∈R,Good m s){h:Nat->Int}{O:List Nat}(hp:O.Perm (List.range m))(hb:Qhq R h O):∀k p,O[k]? =some p->p∉Q2 (Qx m (Qu R [])) h m (k+1):=by
 intro k
 induction k using Nat.strongRecOn with
 | _ k ih=>
  intro p hk z
  obtain⟨z1,z2⟩:=Qdr.mp z
  have hpm:=Qdj z1
  apply z2
  refine QcW.mpr ⟨z1,?_⟩
  rw[QfM hR hpm (Qev _) (λo ho=>Qdj ho)]
  refine Zbe ?_ (hb k p hk).1
  refine QgY λs hs=>?_
  rw[← QgP (hR s hs)]
  refine QsS λo ho=>?_
  obtain⟨ho,hne⟩:=ZN.mp ho
  have hne:=of_decide_eq_true hne
  obtain⟨j,hj⟩:=Zai (hp.mem_iff.mpr (Zh.mpr (Qdj ho)))
  by_cases hjk:j<k
  ·exact absurd (Qcg (by omega) ho) (ih j hjk o hj)
  ·have:j≠k:=λe=>hne (by rw[e,hk]at hj;exact(Option.some.inj hj).symm)
   refine ZD (i:=j-(k+1)) ?_
   rw[List.getElem?_drop,show k+1+(j-(k+1))=j by omega]
   exact hj
theorem Qmd{m:Nat}{R:List (Int×Int)}(hR:∀s∈R,Good m s){h:Nat->Int}{O:List Nat}(hp:O.Perm (List.range m))(hb:Qhq R h O){k p:Nat}(hk:O[k]? =some p):∃t,QO (Qx m (Qu R [])) h m m p=some t/\1<=t/\t<=(k:Int)+1:=by
 have hpm:p<m:=Zh.mp (hp.mem_iff.mp (ZD hk))
 have hkm:k<m:=by
  have:=(Zb.mp hk).1
  rw[hp.length_eq,Zz]at this
  exact this
 have hc:=Qmh hR hp hb k p hk
 cases e:QO (Qx m (Qu R [])) h m m p with
 | none=>exact absurd (Qcg (by omega) ((Qfo m p hpm).mp e)) hc
 | some t=>
  obtain⟨j,h1,h2,h3,_⟩:=Qcl m p t e
  refine⟨t,rfl,by omega,?_⟩
  by_cases hj:k+1<=j
  ·exact absurd (Qcg hj h3) hc
  ·omega
noncomputable def QcC(QP:Den)(QB:Den)(Qbw:Den):DS:=(Qe (Qy 3 (Qar (Q3 (Qb (dC (.int 0)) Qf)) (Qm (Qa 1) (dC (.int 0))))) (Qe (QaZ (Qbf (Qm (Qa 1) (dC (.int 0)))) (.nm 4) (Qe (Qy 5 (QcZ (Qm (Qa 2) (Qa 4)))) (Qe (Qy 6 (Qv 3 QP [] (Qb (Qa 1) (Qb (Qa 5) (Qb (Qc4 (Qa 2) (QbI (QE (Qa 4) (dC (.int 1)))) Qdf) Qf))))) (Qe (Qy 7 (QE (Qar (Qv 2 QB [] (Qb (Qa 0) (Qb (QE (dC (.int 34)) (Qa 4)) Qf))) (dC (.int 48271))) (Qar (Qv 2 QB [] (Qb (Qa 0) (Qb (QE (dC (.int 3)) (Qa 4)) Qf))) (QE (Qa 4) (dC (.int 2)))))) (Qe (QcA 3 Q1 (Qa 5) (QE (Qa 6) (dOp QaY (dOp QaY (Qa 7) (dC (.int 2147483647))) (dOp QbK (Qv 2 Qbw [] (Qb (Qa 1) (Qb (Qa 5) Qf))) (Qa 6))))) Qp))))) (Qe (QS (Qa 3)) Qp)))
def Qgi(d:Den):Prop:=∀(ns:List Int) (m:Nat) (R:List (Int×Int)) (O:List Nat),m<=8->Qcx m R []->O.Perm (List.range m)->Qke R m O->∃h,d [.lst (ns.map .int),Qg m R [],Qd O]=some (Qc m h,true)/\Qhq R h O
theorem Qnx{dr dc ds:Den}(hr:Qed dr)(hc:Qfj dc)(hs:QhH ds):Qgi (Qr 8 (QcC dr dc ds)):=λns m R O m8 hw hperm hord=>by
 have hR:=hw.good.1
 have nd:O.Nodup:=hperm.nodup_iff.mpr ZaP
 have hlen:O.length=m:=by rw[hperm.length_eq,Zz]
 have key:Run (QcC dr dc ds) (Qal 8 [.lst (ns.map .int),Qg m R [],Qd O]) (Rt λd fr=>∃h,d=Qc m h/\fr=true/\Qhq R h O):=by
  have cell:∀(ρ:En) (fk:DE) (k:Nat),ρ[0]? =some (some (.lst (ns.map .int),false))->fk ρ=some ⟨.int k,true,[]⟩->Qv 2 dc [] (Qb (Qa 0) (Qb fk Qf)) ρ=some ⟨.int (ns.getD k 0),true,[]⟩:=λρ fk k h0 hk=>by
   refine Qw (Qj (Qae h0) (Qj hk (QL _))) ?_ rfl
   exact hc ns k
  refine run_seq (Qk (QjC (n:=m) (z:=0) (r:=⟨.int m,true,[]⟩) rfl rfl (by omega)) ?_)
  rw[Qq]
  refine Qah (P:=λρ=>∃g j4 j5 j6 j7,Qhq R g O/\ρ=[some (.lst (ns.map .int),false),some (Qg m R [],false),some (Qd O,false),some (Qc m g,true),j4,j5,j6,j7]) ?_ ?_
  ·refine Q9 (toD:=λ(k:Nat)=> .int (k:Int)) (List.range m) (λi ρ=>∃(g:Nat->Int) (j4 j5 j6 j7:Option (D×Bool)),(∀k p,k<i->O[k]? =some p->(R.map (Qs p (O.drop (k+1)))).sum<=g p/\g p<QU R [] p)/\ρ=[some (.lst (ns.map .int),false),some (Qg m R [],false),some (Qd O,false),some (Qc m g,true),j4,j5,j6,j7]) (Qcf (n:=m) (r:=⟨.int m,true,[]⟩) rfl rfl (by omega)) rfl ⟨λ_=>0,none,none,none,none,λk p hk=>absurd hk (by omega),rfl⟩ ?_ ?_
   ·rintro i i' ρ hi ⟨g,j4,j5,j6,j7,hg,rfl⟩
    have hi':i<m/\i=i':=by
     obtain⟨h1,h2⟩:=Zb.mp hi
     simp at h1 h2;exact⟨h1,h2⟩
    obtain⟨him,rfl⟩:=hi'
    obtain⟨p,hp⟩:∃p,O[i]? =some p:=⟨_,ZA (by omega)⟩
    have hpm:p<m:=Zh.mp (hperm.mem_iff.mp (ZD hp))
    refine⟨_,rfl,?_⟩
    refine run_seq (Qk (r:=⟨.int p,false,[]⟩) ?_ ?_)
    ·unfold QcZ
     rw[Qef (l:=O) (i:=i) (v:=p) (ra:=⟨Qd O,false,[]⟩) (rb:=⟨.int i,true,[]⟩) rfl rfl rfl rfl (by omega) hp]
     rfl
    rw[QjO rfl]
    refine run_seq (Qk (Qw (Qj (r:=⟨Qg m R [],false,[]⟩) rfl (Qj (r:=⟨.int p,true,[]⟩) rfl (Qj (Qq2 (l:=O) (n:=i+1) (ra:=⟨Qd O,false,[]⟩) rfl rfl (QM (a:=i) (b:=1) rfl rfl rfl rfl) rfl) (QL _)))) (hr m R [] p (O.drop (i+1)) hR) rfl) ?_)
    rw[Qq]
    have hpos:=hord i p hp
    have b0:0<=(R.map (Qs p (O.drop (i+1)))).sum:=Qcw R λs _=>(Qd6 p _ s).1
    have hdisj:=QgB (S:=R) (f:=Qs p (O.take i++[m])) (g:=Qs p (O.drop (i+1))) (h:=Qs p (List.range (m+1))) λs hs=>Qoa (hR s hs) λx hx hx2=>by
     rcases ZJ.mp hx with z | z
     ·have:(O.take i++O.drop i).Nodup:=by rw[ZaK];exact nd
      exact(Zan.mp this).2.2 x z x (List.mem_of_mem_drop (show x∈(O.drop i).drop 1 by rw[List.drop_drop];exact hx2)) rfl
     ·have:=Zh.mp (hperm.mem_iff.mp (List.mem_of_mem_drop hx2))
      simp at z;omega
    rw[QgG hR p]at hdisj
    generalize hbh:(R.map (Qs p (O.drop (i+1)))).sum=bh at *
    generalize (R.map (Qs p (O.take i++[m]))).sum=ah at *
    refine run_seq (Qk (QM (a:=ns.getD (34+i) 0*48271) (b:=ns.getD (3+i) 0*((i:Int)+2)) (Qb6 (a:=ns.getD (34+i) 0) (b:=48271) (cell _ _ (34+i) rfl (QM (a:=34) (b:=i) rfl rfl rfl rfl)) rfl rfl rfl (Qdp (by decide))) rfl (Qb6 (a:=ns.getD (3+i) 0) (b:=(i:Int)+2) (cell _ _ (3+i) rfl (QM (a:=3) (b:=i) rfl rfl rfl rfl)) rfl (QM (a:=(i:Int)) (b:=2) rfl rfl rfl rfl) rfl (Qdp (by omega))) rfl) ?_)
    rw[Qq]
    generalize ns.getD (34+i) 0*48271+ns.getD (3+i) 0*((i:Int)+2)=n
    have es:=hs m R [] p (by omega) hR
    generalize hsp:QU R [] p=sp at *
    have q0:=Zab (n % 2147483647) (by omega:sp-bh≠0)
    have q1:=ZX (n % 2147483647) (by omega:0<sp-bh)
    refine run_seq (Qge (m:=m) (f:=g) (i:=p) (v:=bh+n % 2147483647 % (sp-bh)) (ri:=⟨.int p,true,[]⟩) rfl rfl rfl (QM (a:=bh) (b:=n % 2147483647 % (sp-bh)) rfl rfl (QaE (a:=n % 2147483647) (b:=sp-bh) (QaE (a:=n) (b:=2147483647) rfl rfl rfl rfl (by decide)) rfl (QQ (d:= .int (sp-bh)) (rb:=⟨.int bh,true,[]⟩) (Qw (r:=⟨[Qg m R [],.int p],false,[]⟩) rfl es rfl) rfl rfl) rfl (by omega)) rfl) rfl (by omega) (by omega) (Ql ⟨_,_,_,_,_,λk q hk hq=>?_,rfl⟩))
    rw[Zy,QdA]
    by_cases e:k=i
    ·subst e
     rw[hp]at hq
     cases hq
     rw[if_pos rfl,hsp]
     rw[hbh]
     omega
    ·rw[if_neg (λz=>e ((List.getElem?_inj (by rw[hlen];omega) nd).mp (by rw[hq,hp,z])))]
     exact hg k q (by omega) hq
   ·rintro ρ ⟨g,j4,j5,j6,j7,hg,rfl⟩
    rw[Zz]at hg
    refine⟨g,_,_,_,_,λk p hk=>hg k p ?_ hk,rfl⟩
    have:=(Zb.mp hk).1
    omega
  rintro ρ ⟨g,j4,j5,j6,j7,hg,rfl⟩
  exact QN (r:=⟨Qc m g,true,[3]⟩) rfl ⟨g,rfl,rfl,hg⟩
 obtain⟨o,h1,h2⟩:=key
 cases o with
 | rt d fr=>
  obtain⟨f,rfl,rfl,h3⟩:=h2
  exact⟨f,by unfold Qr;rw[h1];rfl,h3⟩
 | _=>exact h2.elim
theorem Qm8{m:Nat}{R:List (Int×Int)}(hR:∀s∈R,Good m s){h:Nat->Int}{O:List Nat}(hp:O.Perm (List.range m))(hb:Qhq R h O):QdL R m h (QO (Qx m (Qu R [])) h m m)=true:=Qmi λi hi=>by
 obtain⟨k,hk⟩:=Zai (hp.mem_iff.mpr (Zh.mpr hi))
 obtain⟨t,h1,_⟩:=Qmd hR hp hb hk
 exact⟨by rw[h1];simp,(hb k i hk).2⟩
noncomputable def rd(R:List (Int×Int))(k:Nat):Int×Int:=R.getD k (0,0)
theorem Qki{R:List (Int×Int)}{k:Nat}(h:k<R.length):R[k]? =some (rd R k):=by
 unfold rd
 rw[ZK,ZA h];rfl
theorem Qap{R:List (Int×Int)}{k:Nat}(h:k<R.length):rd R k∈R:=ZD (Qki h)
theorem Qjj{β:Type}(R:List (Int×Int))(f:Int×Int->β):R.map f=(List.range R.length).map λk=>f (rd R k):=by
 refine Zao λk=>?_
 rw[Zo,Zo]
 by_cases h:k<R.length
 ·rw[Qki h,Zaa h];rfl
 ·rw[Zv (by omega),Zv (by simp;omega)];rfl
theorem Qn2(R:List (Int×Int)):Qt R= .lst ((List.range R.length).map λk=>pairD (rd R k)):=by
 unfold Qt;rw[Qjj R pairD]
noncomputable def Qai(p:Nat)(s:Int×Int):Bool:=decide (s.1=(p:Int)) || decide (s.2=(p:Int))
noncomputable def oe(p:Nat)(s:Int×Int):Nat:=(s.1+s.2-p).toNat
theorem Qay{m:Nat}{s:Int×Int}(g:Good m s){p:Nat}(hi:Qai p s=true):((s.1+s.2-p:Int)=oe p s)/\oe p s<=m/\oe p s≠p/\((s.1=p/\s.2=oe p s)∨(s.2=p/\s.1=oe p s)):=by
 obtain⟨g1,g2,g3,g4,g5⟩:=g
 unfold Qai at hi
 unfold oe
 simp only[ZaX,decide_eq_true_eq]at hi
 rcases hi with h | h
 ·refine⟨by omega,by omega,by omega,.inl ⟨h,by omega⟩⟩
 ·refine⟨by omega,by omega,by omega,.inr ⟨h,by omega⟩⟩
noncomputable def Q5(R:List (Int×Int))(p:Nat):List Nat:=(List.range R.length).filter λk=>Qai p (rd R k)
theorem Qen{R:List (Int×Int)}{p k:Nat}:k∈Q5 R p↔k<R.length/\Qai p (rd R k)=true:=by
 unfold Q5;rw[ZN,Zh]
noncomputable def QR(R:List (Int×Int))(dep:Nat->Int)(p:Nat):List Nat:=(Q5 R p).filter λk=>decide (dep (oe p (rd R k))=dep p-1)
noncomputable def QaD(R:List (Int×Int))(dep:Nat->Int)(p:Nat):List Nat:=(Q5 R p).filter λk=>decide (dep (oe p (rd R k))<dep p-1)
noncomputable def Qaq(t:List Nat):List Nat->Nat
 | []=>0
 | k::r=>if k∈t then 0 else Qaq t r+1
noncomputable def Q8(R:List (Int×Int))(dep:Nat->Int)(t:List Nat)(p:Nat):Int:=(Q5 R p).length-1-(QaD R dep p).length-Qaq t (QR R dep p)
structure QjU (R:List (Int×Int)) (m:Nat) (t:List Nat) (dep:Nat->Int):Prop where
 tl:∀k∈t,k<R.length
 pit:dep m=0
 val:∀v,v<m->1<=dep v/\dep v<=m
 pred:∀v,v<m->∃k∈t,Qai v (rd R k)=true/\dep (oe v (rd R k))=dep v-1
 low:∀v,v<m->∀k∈t,Qai v (rd R k)=true->dep v-1<=dep (oe v (rd R k))
theorem len_sub{α:Type}[DecidableEq α]:∀{l K:List α},l.Nodup->(∀x∈l,x∈K)->l.length<=K.length
 | [],_,_,_=>ZZ _
 | a::l,K,nd,h=>by
  have h1:=Zak.mp nd
  have ha:=h a (by simp)
  have:=len_sub (K:=K.erase a) h1.2 λx hx=>(Zbq (λe:x=a=>h1.1 (by rw[← e];exact hx))).mpr (h x (by simp[hx]))
  rw[ZaV ha]at this
  have:0<K.length:=ZbW ha
  simp;omega
theorem QoT{m:Nat}{R:List (Int×Int)}(hR:∀s∈R,Good m s)(p:Nat):((Q5 R p).length:Int)=QU R [] p:=by
 rw[← QmG hR p]
 congr 1
 have:R.filter (λs=>decide (s.1=(p:Int)) || decide (s.2=(p:Int)))=(Q5 R p).map (rd R):=by
  have e:=Qjj R id
  rw[List.map_id]at e
  conv=>lhs;rw[e]
  rw[List.filter_map]
  rfl
 rw[this,Zi]
noncomputable def Qcb(R:List (Int×Int))(dep:Nat->Int)(p:Nat):List Nat:=(Q5 R p).filter λk=>decide (dep p<=dep (oe p (rd R k)))
theorem QdU{R:List (Int×Int)}{dep:Nat->Int}{p:Nat}:(Q5 R p).length=(QR R dep p).length+(QaD R dep p).length+(Qcb R dep p).length:=by
 unfold QR QaD Qcb
 induction Q5 R p with
 | nil=>rfl
 | cons k r ih=>
  simp only[ZaE,Zq]
  by_cases a:dep (oe p (rd R k))=dep p-1
  ·have b:¬dep (oe p (rd R k))<dep p-1:=by omega
   have c:¬dep p<=dep (oe p (rd R k)):=by omega
   simp only[decide_eq_true a,decide_eq_false b,decide_eq_false c,if_true,if_false,Zq,ZY]
   omega
  ·by_cases b:dep (oe p (rd R k))<dep p-1
   ·have c:¬dep p<=dep (oe p (rd R k)):=by omega
    simp only[decide_eq_false a,decide_eq_true b,decide_eq_false c,if_true,if_false,Zq,ZY]
    omega
   ·have c:dep p<=dep (oe p (rd R k)):=by omega
    simp only[decide_eq_false a,decide_eq_false b,decide_eq_true c,if_true,if_false,Zq,ZY]
    omega
noncomputable def QeA(R:List (Int×Int))(t:List Nat):List (Int×Int):=t.map (rd R)
noncomputable def Qbr(R:List (Int×Int))(g:Nat->Int)(k:Nat):Nat->Int:=
 let a:=(rd R k).1.toNat
 let b:=(rd R k).2.toNat
 let g1:=up g a (if g b+1<g a then g b+1 else g a)
 up g1 b (if g1 a+1<g1 b then g1 a+1 else g1 b)
theorem QiV{m:Nat}{R:List (Int×Int)}(g:Nat->Int){k:Nat}(hg:Good m (rd R k))(v:Nat):Qbr R g k v<=g v:=by
 obtain⟨g1,g2,g3,g4,g5⟩:=hg
 have n:¬(rd R k).2.toNat=(rd R k).1.toNat:=by omega
 have n':¬(rd R k).1.toNat=(rd R k).2.toNat:=by omega
 unfold Qbr
 simp only[QdA]
 by_cases a:v=(rd R k).2.toNat
 ·subst a
  simp only[if_true,n,n',if_false]
  repeat' split
  all_goals omega
 ·by_cases b:v=(rd R k).1.toNat
  ·subst b
   simp only[if_true,n,n',if_false]
   split<;>omega
  ·simp only[a,b,if_false]
   exact ZaF _
theorem QnT{m:Nat}{R:List (Int×Int)}{dep g:Nat->Int}{k:Nat}(hg:Good m (rd R k))(h1:dep (rd R k).1.toNat<=dep (rd R k).2.toNat+1)(h2:dep (rd R k).2.toNat<=dep (rd R k).1.toNat+1)(hb:∀v,v<=m->dep v<=g v)(v:Nat)(hv:v<=m):dep v<=Qbr R g k v:=by
 obtain⟨g1,g2,g3,g4,g5⟩:=hg
 have n:¬(rd R k).2.toNat=(rd R k).1.toNat:=by omega
 have n':¬(rd R k).1.toNat=(rd R k).2.toNat:=by omega
 have b1:=hb (rd R k).1.toNat (by omega)
 have b2:=hb (rd R k).2.toNat (by omega)
 have b3:=hb v hv
 unfold Qbr
 simp only[QdA]
 by_cases a:v=(rd R k).2.toNat
 ·subst a
  simp only[if_true,n,n',if_false]
  repeat' split
  all_goals omega
 ·by_cases b:v=(rd R k).1.toNat
  ·subst b
   simp only[if_true,n,n',if_false]
   split<;>omega
  ·simp only[a,b,if_false]
   exact b3
theorem Qnz{m:Nat}{R:List (Int×Int)}(g:Nat->Int){k:Nat}(hg:Good m (rd R k)){v:Nat}(hi:Qai v (rd R k)=true):Qbr R g k v<=g (oe v (rd R k))+1:=by
 obtain⟨o1,o2,o3,o4⟩:=Qay hg hi
 obtain⟨g1,g2,g3,g4,g5⟩:=hg
 have n:¬(rd R k).2.toNat=(rd R k).1.toNat:=by omega
 have n':¬(rd R k).1.toNat=(rd R k).2.toNat:=by omega
 unfold Qbr
 simp only[QdA]
 rcases o4 with⟨a,b⟩ | ⟨a,b⟩
 ·have e1:v=(rd R k).1.toNat:=by omega
  have e2:oe v (rd R k)=(rd R k).2.toNat:=by omega
  rw[e2,e1]
  simp only[if_true,n,n',if_false]
  split<;>omega
 ·have e1:v=(rd R k).2.toNat:=by omega
  have e2:oe v (rd R k)=(rd R k).1.toNat:=by omega
  rw[e2,e1]
  simp only[if_true,n,n',if_false]
  repeat' split
  all_goals omega
noncomputable def roundF(R:List (Int×Int))(t:List Nat)(g:Nat->Int):Nat->Int:=t.foldl (Qbr R) g
noncomputable def Qbs(R:List (Int×Int))(m:Nat)(t:List Nat):Nat->Nat->Int
 | 0=>λv=>if v<m then(m:Int)+1 else 0
 | k+1=>roundF R t (Qbs R m t k)
theorem QfL{m:Nat}{R:List (Int×Int)}{dep:Nat->Int}(hR:∀s∈R,Good m s)(he:∀k,k<R.length->True):∀(t:List Nat) (g:Nat->Int),(∀k∈t,k<R.length/\dep (rd R k).1.toNat<=dep (rd R k).2.toNat+1/\dep (rd R k).2.toNat<=dep (rd R k).1.toNat+1)->(∀v,v<=m->dep v<=g v)→
  (∀v,v<=m->dep v<=roundF R t g v)/\(∀v,roundF R t g v<=g v)/\∀k∈t,∀v,Qai v (rd R k)=true->roundF R t g v<=g (oe v (rd R k))+1
 | [],g,_,hb=>⟨hb,λv=>ZaF _,λk hk=>absurd hk (by simp)⟩
 | k::t,g,ht,hb=>by
  obtain⟨k1,k2,k3⟩:=ht k (by simp)
  have hg:=hR _ (Qap k1)
  obtain⟨i1,i2,i3⟩:=QfL hR he t (Qbr R g k) (λk hk=>ht k (by simp[hk])) (QnT hg k2 k3 hb)
  refine⟨i1,λv=>Zbe (i2 v) (QiV g hg v),λk' hk' v hi=>?_⟩
  rcases Zl.mp hk' with e | e
  ·subst e
   exact Zbe (i2 v) (Qnz g hg hi)
  ·refine Zbe (i3 k' e v hi) ?_
   have:=QiV g hg (oe v (rd R k'))
   omega
theorem Qk5{m:Nat}{R:List (Int×Int)}{t:List Nat}{dep:Nat->Int}(hR:∀s∈R,Good m s)(D:QjU R m t dep):∀v,v<=m->Qbs R m t m v=dep v:=by
 have near1:∀v,v<=m->∀k∈t,Qai v (rd R k)=true->dep v<=dep (oe v (rd R k))+1:=λv hv k hk hi=>by
  by_cases e:v=m
  ·have ho:=(Qay (hR _ (Qap (D.tl k hk))) hi)
   have:=D.val (oe v (rd R k)) (by omega)
   rw[e,D.pit];rw[e]at this;omega
  ·have:=D.low v (by omega) k hk hi
   omega
 have cond:∀k∈t,k<R.length/\dep (rd R k).1.toNat<=dep (rd R k).2.toNat+1/\dep (rd R k).2.toNat<=dep (rd R k).1.toNat+1:=λk hk=>by
  have hg:=hR _ (Qap (D.tl k hk))
  obtain⟨g1,g2,g3,g4,g5⟩:=hg
  refine⟨D.tl k hk,?_,?_⟩
  ·have:=near1 (rd R k).1.toNat (by omega) k hk (by unfold Qai;simp;omega)
   rw[show oe (rd R k).1.toNat (rd R k)=(rd R k).2.toNat by unfold oe;omega]at this
   exact this
  ·have:=near1 (rd R k).2.toNat (by omega) k hk (by unfold Qai;simp;omega)
   rw[show oe (rd R k).2.toNat (rd R k)=(rd R k).1.toNat by unfold oe;omega]at this
   exact this
 have main:∀i:Nat,(∀v,v<=m->dep v<=Qbs R m t i v)/\∀v,v<=m->dep v<=i->Qbs R m t i v<=dep v:=by
  intro i
  induction i with
  | zero=>
   refine⟨λv hv=>?_,λv hv h=>?_⟩
   ·show dep v<=if v<m then(m:Int)+1 else 0
    by_cases e:v<m
    ·rw[if_pos e];have:=(D.val v e).2;omega
    ·rw[if_neg e,show v=m by omega,D.pit];exact ZaF _
   ·show(if v<m then(m:Int)+1 else 0)<=dep v
    by_cases e:v<m
    ·have:=(D.val v e).1;omega
    ·rw[if_neg e,show v=m by omega,D.pit];exact ZaF _
  | succ i ih=>
   obtain⟨f1,f2,f3⟩:=QfL hR (λ_ _=>trivial) t (Qbs R m t i) cond ih.1
   refine⟨f1,λv hv h=>?_⟩
   by_cases e:dep v<=i
   ·exact Zbe (f2 v) (ih.2 v hv e)
   ·have hvm:v<m:=by
     by_cases q:v=m
     ·rw[q,D.pit]at e;omega
     ·omega
    obtain⟨k,k1,k2,k3⟩:=D.pred v hvm
    have ho:=Qay (hR _ (Qap (D.tl k k1))) k2
    have:=f3 k k1 v k2
    have:=ih.2 _ ho.2.1 (by omega)
    show roundF R t (Qbs R m t i) v<=dep v
    omega
 intro v hv
 have h1:=(main m).1 v hv
 have h2:dep v<=m:=by
  by_cases e:v=m
  ·rw[e,D.pit];omega
  ·exact(D.val v (by omega)).2
 have:=(main m).2 v hv h2
 omega
theorem Qp6{fa fb:DE}{ρ:En}{ra rb:R}{A:List (Int×Int)}{i:Int}{s:Int×Int}(ha:fa ρ=some ra)(ea:ra.d=Qt A)(hb:fb ρ=some rb)(eb:rb.d= .int i)(h0:0<=i)(h:A[i.toNat]? =some s):Qm fa fb ρ=some ⟨pairD s,true,[]⟩:=by
 have hl:i<A.length:=by have:=(Zb.mp h).1;omega
 unfold Qm
 rw[ha,Za,hb,Za,ea,eb]
 simp only[Qt,D.items,Za]
 rw[Qfy h0 (by simpa using hl),Zo,h]
 rfl
theorem Qjg{fa fb:DE}{ρ:En}{ra rb:R}{R:List (Int×Int)}{k:Nat}(ha:fa ρ=some ra)(ea:ra.d=Qt R)(hb:fb ρ=some rb)(eb:rb.d= .int k)(h:k<R.length):Qm fa fb ρ=some ⟨pairD (rd R k),true,[]⟩:=Qp6 ha ea hb eb (by omega) (by rw[Zy];exact Qki h)
structure QtA (R:List (Int×Int)) (m:Nat) (t:List Nat):Prop where
 len:t.length=m
 inc:t.Pairwise (· < ·)
 lt:∀k∈t,k<R.length
 con:∀v,v<m->Qb9 (Qu (QeA R t) []) (QcE m) m v≠none
theorem Qru{t:List Nat}(h:t.Pairwise (· < ·)){i j a b:Nat}(hi:t[i]? =some a)(hj:t[j]? =some b)(hij:i<j):a<b:=by
 obtain⟨i1,i2⟩:=Zb.mp hi
 obtain⟨j1,j2⟩:=Zb.mp hj
 rw[← i2,← j2]
 exact ZbB.mp h i j i1 j1 hij
theorem QrG{α:Type}{xs:List α}(h:0<xs.length):atI xs (-1)=xs[xs.length-1]? :=by
 unfold atI ixN
 rw[if_neg (by decide),if_pos (by omega)]
 show xs[((-1:Int)+xs.length).toNat]? =_
 congr 1
 omega
noncomputable def QfT:DS:=(Qe (QS (Qab (Qb2 (Qm (Qa 0) (dC (.int 1)))) (.tp [1,2]) [none,none,none,some 1] (QC (dOp (gIn false) (Qa 3) (Qa 2))) (Qa1 (Qb (Qa 1) (Qb (dOp QbK (dBf Qct (Qb (Qa 2) Qf)) (Qa 3)) Qf))))) Qp)
noncomputable def QiP(R:List (Int×Int))(p:Nat):D:= .lst ((Q5 R p).map λ(k:Nat)=> .tup [.int (k:Int),.int (oe p (rd R k):Int)])
def Qhs(d:Den):Prop:=∀(m:Nat) (R:List (Int×Int)) (p:Nat),(∀s∈R,Good m s)->d [Qg m R [],.int p]=some (QiP R p,true)
theorem Qk7{fa:DE}{ρ:En}{r:R}{s:Int×Int}(h:fa ρ=some r)(e:r.d=pairD s):dBf Qct (Qb fa Qf) ρ=some ⟨.int (s.1+s.2),true,[]⟩:=by
 unfold dBf
 rw[Qj h (QL _),Za]
 have:QaI [D.int s.1,D.int s.2]=some [s.1,s.2]:=rfl
 simp only[e,pairD,Qct,this,ZO]
 simp
theorem Qpi:Qhs (Qr 2 QfT):=λm R p hR=>by
 have ec:=QcG (fi:=Qb2 (Qm (Qa 0) (dC (.int 1)))) (t:= .tp [1,2]) (cap:=[none,none,none,some 1]) (ft:=QC (dOp (gIn false) (Qa 3) (Qa 2))) (fe:=Qa1 (Qb (Qa 1) (Qb (dOp QbK (dBf Qct (Qb (Qa 2) Qf)) (Qa 3)) Qf))) (ρ:=[some (Qg m R [],false),some (.int p,true)])
  (toD:=λ(k:Nat)=> .tup [.int (k:Int),pairD (rd R k)]) (keep:=λk=>Qai p (rd R k)) (out:=λ(k:Nat)=> .tup [.int (k:Int),.int (oe p (rd R k):Int)]) (List.range R.length) (ir:=⟨Qce ((List.range R.length).map λk=>pairD (rd R k)),[]⟩) (by
   unfold Qb2
   rw[(Qbc (m:=m) (R:=R) (L:=[]) (Qae (d:=Qg m R []) (b:=false) rfl) rfl).2.1,Za,Qn2 R];rfl) (QgR (α:=Nat) _ _) λk hk=>⟨[none,some (.int k,true),some (pairD (rd R k),true),some (.int p,true)],rfl,QF (Qnu (x:=p) (s:=rd R k) (ra:=⟨.int p,true,[]⟩) (rb:=⟨pairD (rd R k),true,[]⟩) rfl rfl rfl rfl) rfl,λhi=>⟨⟨.tup [.int (k:Int),.int (oe p (rd R k):Int)],true,[]⟩,?_,rfl,rfl⟩⟩
 ·exact Qac (QN ec ⟨rfl,rfl⟩)
 ·have ho:=(Qay (hR _ (Qap (Zh.mp hk))) hi).1
  unfold Qa1
  refine(congrArg (λz=>Option.bind z _) (Qj (r:=⟨.int k,true,[]⟩) rfl (Qj (QQ (d:= .int (oe p (rd R k):Int)) (rb:=⟨.int p,true,[]⟩) (Qk7 (s:=rd R k) (r:=⟨pairD (rd R k),true,[]⟩) rfl rfl) rfl ?_) (QL _)))).trans ?_
  ·show some (D.int ((rd R k).1+(rd R k).2-(p:Int)))=_
   rw[ho]
  ·rfl
noncomputable def QeS(QbA:Den):DS:=(Qe (Qy 3 (Qv 2 QbA [] (Qb (Qa 0) (Qb (Qa 1) Qf)))) (Qe (Qy 4 (dOp QbK (Qm (Qa 2) (Qa 1)) (dC (.int 1)))) (Qe (Qy 5 (Qab (QX (Qa 3)) (.tp [1,2]) [none,none,none,some 4,some 2] (QC (dOp gEq (Qm (Qa 4) (Qa 2)) (Qa 3))) (Qa 1))) (Qe (Qy 6 (Qab (QX (Qa 3)) (.tp [1,2]) [none,none,none,some 4,some 2] (QC (dOp gLt (Qm (Qa 4) (Qa 2)) (Qa 3))) (Qa 1))) (Qe (QS (Qa1 (Qb (Qa 5) (Qb (dOp QbK (dOp QbK (dBf QbF (Qb (Qa 3) Qf)) (dC (.int 1))) (dBf QbF (Qb (Qa 6) Qf))) Qf)))) Qp)))))
def QlS(d:Den):Prop:=∀(m:Nat) (R:List (Int×Int)) (p:Nat) (dep:Nat->Int),p<m->(∀s∈R,Good m s)->d [Qg m R [],.int p,Qc (m+1) dep]=some (.tup [Qd (QR R dep p),.int ((Q5 R p).length-1-(QaD R dep p).length)],true)
theorem Qtm{de:Den}(he:Qhs de):QlS (Qr 7 (QeS de)):=λm R p dep hp hR=>by
 have ee:=he m R p hR
 refine Qac ?_
 refine run_seq (Qk (Qw (r:=⟨[Qg m R [],.int p],false,[]⟩) rfl ee rfl) ?_)
 rw[Qq]
 refine run_seq (Qk (QQ (d:= .int (dep p-1)) (rb:=⟨.int 1,true,[]⟩) (QaH (m:=m+1) (f:=dep) (i:=p) (ra:=⟨Qc (m+1) dep,false,[]⟩) (rb:=⟨.int p,true,[]⟩) rfl rfl rfl rfl (by omega)) rfl rfl) ?_)
 rw[Qq]
 have sel:∀(g:D->D->Option D) (C:Int->Int->Bool) (x5:Option (D×Bool)),(∀a b:Int,g (.int a) (.int b)=some (.bl (C a b)))->Qab (QX (Qa 3)) (.tp [1,2]) [none,none,none,some 4,some 2] (QC (dOp g (Qm (Qa 4) (Qa 2)) (Qa 3))) (Qa 1) [some (Qg m R [],false),some (.int p,true),some (Qc (m+1) dep,false),some (QiP R p,true),some (.int (dep p-1),true),x5,none]=some ⟨Qd ((Q5 R p).filter λk=>C (dep (oe p (rd R k))) (dep p-1)),true,[]⟩:=λg C x5 hg=>
  QcG (toD:=λ(k:Nat)=> .tup [.int (k:Int),.int (oe p (rd R k):Int)]) (keep:=λk=>C (dep (oe p (rd R k))) (dep p-1)) (out:=λ(k:Nat)=> .int (k:Int)) (Q5 R p) (Qba (r:=⟨QiP R p,true,[3]⟩) rfl rfl) rfl λk hk=>by
   obtain⟨k1,k2⟩:=Qen.mp hk
   have ho:=(Qay (hR _ (Qap k1)) k2).2.1
   refine⟨[none,some (.int k,true),some (.int (oe p (rd R k):Int),true),some (.int (dep p-1),true),some (Qc (m+1) dep,false)],rfl,QF (QQ (d:= .bl (C (dep (oe p (rd R k))) (dep p-1))) (rb:=⟨.int (dep p-1),true,[]⟩) (QaH (m:=m+1) (f:=dep) (i:=oe p (rd R k)) (ra:=⟨Qc (m+1) dep,false,[]⟩) (rb:=⟨.int (oe p (rd R k):Int),true,[]⟩) rfl rfl rfl rfl (by omega)) rfl (hg _ _)) rfl,λ_=>⟨⟨.int k,true,[]⟩,rfl,rfl,rfl⟩⟩
 refine run_seq (Qk (sel gEq (λa b=>decide (a=b)) none λa b=>by
  show(if(D.int a).sim 8 && (D.int b).sim 8 then some (D.bl (deq (.int a) (.int b)))else none)=_
  rw[Qdl];rfl) ?_)
 rw[Qq]
 refine run_seq (Qk (sel gLt (λa b=>decide (a<b)) _ λa b=>rfl) ?_)
 rw[Qq]
 refine QN (r:=⟨.tup [Qd (QR R dep p),.int ((Q5 R p).length-1-(QaD R dep p).length)],true,[5]⟩) ?_ ⟨rfl,rfl⟩
 unfold Qa1
 have el:∀ρ:En,ρ[3]? =some (some (QiP R p,true))->dBf QbF (Qb (Qa 3) Qf) ρ=some ⟨.int (Q5 R p).length,true,[]⟩:=λρ h=>by
  rw[QdC (xs:=(Q5 R p).map λ(k:Nat)=> .tup [.int (k:Int),.int (oe p (rd R k):Int)]) (Qae h) rfl,Zi]
 refine(congrArg (λz=>Option.bind z _) (Qj (r:=⟨Qd (QR R dep p),true,[5]⟩) rfl (Qj (QQ (d:= .int ((Q5 R p).length-1-(QaD R dep p).length)) (QQ (d:= .int ((Q5 R p).length-1)) (rb:=⟨.int 1,true,[]⟩) (el _ rfl) rfl rfl) (Qhu (l:=QaD R dep p) (r:=⟨Qd (QaD R dep p),true,[6]⟩) rfl rfl) rfl) (QL _)))).trans ?_
 rfl
noncomputable def Qdu(Qbh:Den):DS:=(Qe (sIf (bOr (Qc9 (QC (Qg5 "list" (Qa 0)))) (QC (dOp gNe (dBf QbF (Qb (Qa 0) Qf)) (Qa 1)))) (Qe (QS (dC (.bl false))) Qp) Qp) (Qe (QaZ (QX (Qa 0)) (.nm 2) (Qe (sIf (Qc9 (QC (Qv 1 Qbh [] (Qb (Qa 2) Qf)))) (Qe (QS (dC (.bl false))) Qp) Qp) Qp)) (Qe (QS (dC (.bl true))) Qp)))
def QjW(d:Den):Prop:=∀(n:Nat) (a:Nat->Int),d [Qc n a,.int n]=some (.bl true,true)
theorem Qqf{dw:Den}(hw:Qhx dw):QjW (Qr 3 (Qdu dw)):=λn a=>by
 refine Qac ?_
 refine Qa0 (Q7 (b:=false) (QcV (a:=false) (b:=false) (QdI (b:=true) (QF (b:=true) rfl rfl)) (QF (b:=false) (r:=⟨.bl false,true,[]⟩) ((Qg2 (a:=n) (b:=n) (Qrj (m:=n) (f:=a) (r:=⟨Qc n a,false,[]⟩) rfl rfl) rfl (rb:=⟨.int n,true,[]⟩) rfl rfl).trans (by simp)) rfl)) (λh=>by cases h) (λ_=>Ql ?_))
 refine Qa0 (Q9 (toD:=λ(i:Nat)=> .int (a i)) (List.range n) (λ_ ρ=>∃j2,ρ=[some (Qc n a,false),some (.int n,true),j2]) (ir:=⟨(List.range n).map λi=> .int (a i),[]⟩) rfl rfl ⟨none,rfl⟩ ?_ ?_)
 ·rintro i i' ρ hi ⟨j2,rfl⟩
  refine⟨[some (Qc n a,false),some (.int n,true),some (.int (a i'),true)],rfl,?_⟩
  exact Qa0 (Q7 (b:=false) (QdI (b:=true) (QF (b:=true) (Qw (r:=⟨[.int (a i')],true,[]⟩) rfl (hw (a i')) rfl) rfl)) (λh=>by cases h) (λ_=>Ql (Ql ⟨_,rfl⟩)))
 ·rintro ρ ⟨j2,rfl⟩
  exact QN (r:=⟨.bl true,true,[]⟩) rfl ⟨rfl,rfl⟩
noncomputable def QeX:DS:=(Qe (Qy 2 (QE (Qar (Q3 (Qb (QE (Qm (Qa 0) (dC (.int 0))) (dC (.int 1))) Qf)) (Qm (Qa 0) (dC (.int 0)))) (Q3 (Qb (dC (.int 0)) Qf)))) (Qe (QaZ (Qbf (Qm (Qa 0) (dC (.int 0)))) (.nm 3) (Qe (QaZ (QX (Qa 1)) (.nm 4) (Qe (Qgp (.tp [5,6]) (Qm (Qm (Qa 0) (dC (.int 1))) (Qa 4))) (Qe (QcA 2 Q1 (Qa 5) (dBf QdP (Qb (Qm (Qa 2) (Qa 5)) (Qb (QE (Qm (Qa 2) (Qa 6)) (dC (.int 1))) Qf)))) (Qe (QcA 2 Q1 (Qa 6) (dBf QdP (Qb (Qm (Qa 2) (Qa 6)) (Qb (QE (Qm (Qa 2) (Qa 5)) (dC (.int 1))) Qf)))) Qp)))) Qp)) (Qe (QS (Qa 2)) Qp)))
def Qgo(d:Den):Prop:=∀(m:Nat) (R:List (Int×Int)) (t:List Nat),m<=8->(∀s∈R,Good m s)->(∀k∈t,k<R.length)->d [Qg m R [],Qd t]=some (Qc (m+1) (Qbs R m t m),true)
theorem QkD{fa fb:DE}{ρ:En}{ra rb:R}{a b:Int}(ha:fa ρ=some ra)(ea:ra.d= .int a)(hb:fb ρ=some rb)(eb:rb.d= .int b):dBf QdP (Qb fa (Qb fb Qf)) ρ=some ⟨.int (if b<a then b else a),true,[]⟩:=Qqj ha ea hb eb
theorem Qrd:Qgo (Qr 7 QeX):=λm R t m8 hR ht=>by
 have it:∀{ρ:En},ρ[0]? =some (some (Qg m R [],false))->Qa 0 ρ=some ⟨Qg m R [],false,[]⟩:=λh=>Qae h
 refine Qac ?_
 refine run_seq (Qk (r:=⟨Qc (m+1) (Qbs R m t 0),true,[]⟩) ?_ ?_)
 ·refine(Qii (m:=m) (f:=λ_=>(m:Int)+1) (ra:=⟨Qc m (λ_=>(m:Int)+1),true,[]⟩) ?_ rfl (by omega)).trans ?_
  ·unfold Qar
   rw[(QmT (rs:=⟨[.int ((m:Int)+1)],true,[]⟩) (Qj (QM (a:=m) (b:=1) (Qbc (it rfl) rfl).1 rfl rfl rfl) (QL _)) (by simp)),Za,(Qbc (it rfl) rfl).1,Za]
   show _=_
   have hr:=QjC (n:=m) (z:=(m:Int)+1) (fb:=dC (.int m)) (ρ:=Qal 7 [Qg m R [],Qd t]) (r:=⟨.int m,true,[]⟩) rfl rfl (by omega)
   unfold Qar at hr
   exact hr
  ·congr 2
 rw[Qq]
 refine Qah (P:=λρ=>∃j3 j4 j5 j6,ρ=[some (Qg m R [],false),some (Qd t,false),some (Qc (m+1) (Qbs R m t m),true),j3,j4,j5,j6]) ?_ ?_
 ·refine Q9 (toD:=λ(k:Nat)=> .int (k:Int)) (List.range m) (λi ρ=>∃j3 j4 j5 j6,ρ=[some (Qg m R [],false),some (Qd t,false),some (Qc (m+1) (Qbs R m t i),true),j3,j4,j5,j6]) (Qcf (n:=m) (r:=⟨.int m,true,[]⟩) rfl rfl (by omega)) rfl ⟨none,none,none,none,rfl⟩ ?_ ?_
  ·rintro i i' ρ hi ⟨j3,j4,j5,j6,rfl⟩
   have hi':i<m/\i=i':=by
    obtain⟨h1,h2⟩:=Zb.mp hi
    simp at h1 h2;exact⟨h1,h2⟩
   obtain⟨him,rfl⟩:=hi'
   refine⟨[some (Qg m R [],false),some (Qd t,false),some (Qc (m+1) (Qbs R m t i),true),some (.int i,true),j4,j5,j6],rfl,?_⟩
   refine Qah (P:=λρ=>∃j4 j5 j6,ρ=[some (Qg m R [],false),some (Qd t,false),some (Qc (m+1) (Qbs R m t (i+1)),true),some (.int i,true),j4,j5,j6]) ?_ ?_
   ·refine Q9 (toD:=λ(k:Nat)=> .int (k:Int)) t (λa ρ=>∃j4 j5 j6,ρ=[some (Qg m R [],false),some (Qd t,false),some (Qc (m+1) ((t.take a).foldl (Qbr R) (Qbs R m t i)),true),some (.int i,true),j4,j5,j6]) (Qba (r:=⟨Qd t,false,[]⟩) rfl rfl) rfl ⟨j4,j5,j6,rfl⟩ ?_ ?_
    ·rintro a k ρ hk ⟨j4,j5,j6,rfl⟩
     have hkR:=ht k (ZD hk)
     obtain⟨g1,g2,g3,g4,g5⟩:=hR _ (Qap hkR)
     have etake:(t.take (a+1)).foldl (Qbr R) (Qbs R m t i)=Qbr R ((t.take a).foldl (Qbr R) (Qbs R m t i)) k:=by
      rw[ZbZ,hk]
      simp
     generalize (t.take a).foldl (Qbr R) (Qbs R m t i)=g at *
     refine⟨[some (Qg m R [],false),some (Qd t,false),some (Qc (m+1) g,true),some (.int i,true),some (.int k,true),j5,j6],rfl,?_⟩
     refine run_seq (Q:=_) ⟨Out.nx [some (Qg m R [],false),some (Qd t,false),some (Qc (m+1) g,true),some (.int i,true),some (.int k,true),some (.int (rd R k).1,true),some (.int (rd R k).2,true)],?_,?_⟩
     ·unfold Qgp
      rw[Qjg (R:=R) (k:=k) (Qbc (m:=m) (R:=R) (L:=[]) (it rfl) rfl).2.1 rfl (rb:=⟨.int k,true,[]⟩) rfl rfl hkR]
      rfl
     obtain⟨a1,ea⟩:∃a1:Nat,(rd R k).1=a1:=⟨(rd R k).1.toNat,by omega⟩
     obtain⟨b1,eb⟩:∃b1:Nat,(rd R k).2=b1:=⟨(rd R k).2.toNat,by omega⟩
     have e2:Qbr R g k=up (up g a1 (if g b1+1<g a1 then g b1+1 else g a1)) b1 (if up g a1 (if g b1+1<g a1 then g b1+1 else g a1) a1+1<up g a1 (if g b1+1<g a1 then g b1+1 else g a1) b1 then up g a1 (if g b1+1<g a1 then g b1+1 else g a1) a1+1 else up g a1 (if g b1+1<g a1 then g b1+1 else g a1) b1):=by
      unfold Qbr
      rw[ea,eb];rfl
     rw[etake,e2,ea,eb]
     refine run_seq (Qge (m:=m+1) (f:=g) (i:=a1) (v:=if g b1+1<g a1 then g b1+1 else g a1) (ri:=⟨.int a1,true,[]⟩) rfl rfl rfl (QkD (a:=g a1) (b:=g b1+1) (QaH (m:=m+1) (f:=g) (i:=a1) (ra:=⟨Qc (m+1) g,true,[2]⟩) (rb:=⟨.int a1,true,[]⟩) rfl rfl rfl rfl (by omega)) rfl (QM (a:=g b1) (b:=1) (QaH (m:=m+1) (f:=g) (i:=b1) (ra:=⟨Qc (m+1) g,true,[2]⟩) (rb:=⟨.int b1,true,[]⟩) rfl rfl rfl rfl (by omega)) rfl rfl rfl) rfl) rfl (by omega) (by omega) ?_)
     rw[Zy]
     generalize up g a1 (if g b1+1<g a1 then g b1+1 else g a1)=q
     refine run_seq (Qge (m:=m+1) (f:=q) (i:=b1) (v:=if q a1+1<q b1 then q a1+1 else q b1) (ri:=⟨.int b1,true,[]⟩) rfl rfl rfl (QkD (a:=q b1) (b:=q a1+1) (QaH (m:=m+1) (f:=q) (i:=b1) (ra:=⟨Qc (m+1) q,true,[2]⟩) (rb:=⟨.int b1,true,[]⟩) rfl rfl rfl rfl (by omega)) rfl (QM (a:=q a1) (b:=1) (QaH (m:=m+1) (f:=q) (i:=a1) (ra:=⟨Qc (m+1) q,true,[2]⟩) (rb:=⟨.int a1,true,[]⟩) rfl rfl rfl rfl (by omega)) rfl rfl rfl) rfl) rfl (by omega) (by omega) (Ql ⟨some (.int k,true),some (.int a1,true),some (.int b1,true),?_⟩))
     rw[Zy];rfl
    ·rintro ρ ⟨j4,j5,j6,rfl⟩
     rw[ZaQ]
     exact⟨_,_,_,rfl⟩
   rintro ρ ⟨j4,j5,j6,rfl⟩
   exact Ql ⟨_,_,_,_,rfl⟩
  ·rintro ρ ⟨j3,j4,j5,j6,rfl⟩
   rw[Zz]
   exact⟨_,_,_,_,rfl⟩
 rintro ρ ⟨j3,j4,j5,j6,rfl⟩
 exact QN (r:=⟨Qc (m+1) (Qbs R m t m),true,[2]⟩) rfl ⟨rfl,rfl⟩
noncomputable def Qe5(Q0:Den):DS:=(Qe (Qy 2 (Qv 2 Q0 [] (Qb (Qa 0) (Qb (Qa 1) Qf)))) (Qe (Qy 3 (Q3 Qf)) (Qe (QaZ (Qbf (Qm (Qa 0) (dC (.int 0)))) (.nm 4) (Qe (Qy 5 (QdM (dC (.int 1)))) (Qe (Qy 6 (dC (.bl false))) (Qe (QaZ (Qbf (dBf QbF (Qb (Qm (Qa 0) (dC (.int 1))) Qf))) (.nm 7) (Qe (sIf (QC (dOp (gIn false) (Qa 4) (Qm (Qm (Qa 0) (dC (.int 1))) (Qa 7)))) (Qe (Qy 8 (dOp QbK (dBf Qct (Qb (Qm (Qm (Qa 0) (dC (.int 1))) (Qa 7)) Qf)) (Qa 4))) (Qe (sIf (QC (dOp gEq (Qm (Qa 2) (Qa 8)) (dOp QbK (Qm (Qa 2) (Qa 4)) (dC (.int 1))))) (Qe (Qy 6 (dOr (Qa 6) (dOp (gIn false) (Qa 7) (Qa 1)))) (Qe (Qy 5 (QE (Qa 5) (dBf Ql7 (Qb (Qa 6) Qf)))) Qp)) (Qe (sIf (QC (dOp gGe (Qm (Qa 2) (Qa 8)) (Qm (Qa 2) (Qa 4)))) (Qe (Qy 5 (QE (Qa 5) (dC (.int 1)))) Qp) Qp) Qp)) Qp)) Qp) Qp)) (Qe (Qch 3 Q1 (Qa 5)) Qp))))) (Qe (QS (Qa 3)) Qp))))
noncomputable def Qdy(R:List (Int×Int))(dep:Nat->Int)(t:List Nat)(p:Nat)(st:Bool×Int)(k:Nat):Bool×Int:=
  if Qai p (rd R k)=true then
    (if dep (oe p (rd R k))=dep p-1 then(st.1 || t.contains k,st.2+if(st.1 || t.contains k)=true then 1 else 0)
     else if dep p<=dep (oe p (rd R k))then(st.1,st.2+1)else st)
  else st
noncomputable def QiU(R:List (Int×Int))(dep:Nat->Int)(p:Nat)(L:List Nat):List Nat:=(L.filter λk=>Qai p (rd R k)).filter λk=>decide (dep (oe p (rd R k))=dep p-1)
noncomputable def QpH(R:List (Int×Int))(dep:Nat->Int)(p:Nat)(L:List Nat):List Nat:=(L.filter λk=>Qai p (rd R k)).filter λk=>decide (dep p<=dep (oe p (rd R k)))
theorem Qgw{t:List Nat}:∀(l:List Nat) (k:Nat),Qaq t (l++[k])=if l.any (λx=>t.contains x)then Qaq t l else if k∈t then l.length else l.length+1
 | [],k=>by
  show Qaq t [k]=_
  unfold Qaq Qaq
  by_cases e:k∈t<;>simp[e]
 | a::l,k=>by
  rw[Zbj]
  unfold Qaq
  by_cases e:a∈t
  ·rw[if_pos e,if_pos e,if_pos (by simp[e])]
  ·rw[if_neg e,if_neg e,Qgw l k]
   have:(a::l).any (λx=>t.contains x)=l.any (λx=>t.contains x):=by simp[e]
   rw[this]
   by_cases h:l.any (λx=>t.contains x)=true
   ·rw[if_pos h,if_pos h]
   ·rw[if_neg h,if_neg h]
    split<;>simp
theorem Qgz{t:List Nat}:∀(l:List Nat),l.any (λx=>t.contains x)=false->Qaq t l=l.length
 | [],_=>rfl
 | a::l,h=>by
  have h':¬a∈t/\l.any (λx=>t.contains x)=false:=by simpa using h
  unfold Qaq
  rw[if_neg h'.1,Qgz l h'.2];simp
theorem Qom{R:List (Int×Int)}{dep:Nat->Int}{t:List Nat}{p:Nat}:∀n:Nat,(List.range n).foldl (Qdy R dep t p) (false,-1)=((QiU R dep p (List.range n)).any (λx=>t.contains x),-1+((QpH R dep p (List.range n)).length:Int)+(((QiU R dep p (List.range n)).length:Int)-Qaq t (QiU R dep p (List.range n)))):=by
 intro n
 induction n with
 | zero=>rfl
 | succ n ih=>
  rw[Zap,ZbF,ih]
  unfold QiU QpH
  simp only[List.filter_append,ZaW,List.foldl_nil]
  unfold Qdy
  by_cases hi:Qai p (rd R n)=true
  ·rw[if_pos hi]
   simp only[ZaE,List.filter_nil,hi,if_true]
   by_cases a:dep (oe p (rd R n))=dep p-1
   ·have b:¬dep p<=dep (oe p (rd R n)):=by omega
    simp only[if_pos a,decide_eq_true a,decide_eq_false b,if_true,ZY,if_false,Zaj,Qgw,List.any_append,ZbI,List.any_nil,Bool.or_false]
    generalize ((List.range n).filter λk=>Qai p (rd R k)).filter (λk=>decide (dep (oe p (rd R k))=dep p-1))=l
    refine Prod.ext rfl ?_
    dsimp only
    by_cases h:l.any (λx=>t.contains x)=true
    ·simp only[h,Bool.true_or,if_true,Zr,Zq,Zbv]
     omega
    ·have h':l.any (λx=>t.contains x)=false:=by simpa using h
     have hf:=Qgz l h'
     simp only[h',Bool.false_or,ZY,if_false,Zr,Zq,Zbv]
     by_cases e:n∈t
     ·simp only[Zbt,e,decide_true,if_true];omega
     ·simp only[Zbt,e,decide_false,if_false,ZY];omega
   ·by_cases b:dep p<=dep (oe p (rd R n))
    ·simp only[if_neg a,if_pos b,decide_eq_false a,decide_eq_true b,if_true,ZY,if_false,Zaj,Zr,Zq,Zbv]
     refine Prod.ext rfl ?_
     dsimp only
     omega
    ·simp only[if_neg a,if_neg b,decide_eq_false a,decide_eq_false b,ZY,if_false,Zaj]
  ·rw[if_neg hi]
   simp only[ZaE,List.filter_nil,hi,if_false,ZY,Zaj]
theorem Qpa{R:List (Int×Int)}{dep:Nat->Int}{t:List Nat}{p:Nat}:((List.range R.length).foldl (Qdy R dep t p) (false,-1)).2=Q8 R dep t p:=by
 rw[Qom]
 have h:=QdU (R:=R) (dep:=dep) (p:=p)
 show-1+((Qcb R dep p).length:Int)+((QR R dep p).length-Qaq t (QR R dep p))=Q8 R dep t p
 unfold Q8
 omega
def Qi2(d:Den):Prop:=∀(m:Nat) (R:List (Int×Int)) (t:List Nat) (dep:Nat->Int),m<=8->R.length<=200->(∀s∈R,Good m s)->QjU R m t dep->d [Qg m R [],Qd t]=some (Qc m (Q8 R dep t),true)
theorem QpM{dd:Den}(hd:Qgo dd):Qi2 (Qr 9 (Qe5 dd)):=λm R t dep m8 hRl hR Dp=>by
 have ed:=hd m R t m8 hR Dp.tl
 rw[QfH (m:=m+1) λv hv=>Qk5 hR Dp v (by omega)]at ed
 have it:∀{ρ:En},ρ[0]? =some (some (Qg m R [],false))->Qa 0 ρ=some ⟨Qg m R [],false,[]⟩:=λh=>Qae h
 refine Qac ?_
 refine run_seq (Qk (Qw (r:=⟨[Qg m R [],Qd t],false,[]⟩) rfl ed rfl) ?_)
 rw[Qq]
 refine run_seq (Qk (r:=⟨Qc 0 (Q8 R dep t),true,[]⟩) rfl ?_)
 rw[Qq]
 refine Qah (P:=λρ=>∃j4 j5 j6 j7 j8,ρ=[some (Qg m R [],false),some (Qd t,false),some (Qc (m+1) dep,true),some (Qc m (Q8 R dep t),true),j4,j5,j6,j7,j8]) ?_ ?_
 ·refine Q9 (toD:=λ(k:Nat)=> .int (k:Int)) (List.range m) (λi ρ=>∃j4 j5 j6 j7 j8,ρ=[some (Qg m R [],false),some (Qd t,false),some (Qc (m+1) dep,true),some (Qc i (Q8 R dep t),true),j4,j5,j6,j7,j8]) (Qcf (n:=m) (r:=⟨.int m,true,[]⟩) rfl rfl (by omega)) rfl ⟨none,none,none,none,none,rfl⟩ ?_ ?_
  ·rintro i i' ρ hi ⟨j4,j5,j6,j7,j8,rfl⟩
   have hi':i<m/\i=i':=by
    obtain⟨h1,h2⟩:=Zb.mp hi
    simp at h1 h2;exact⟨h1,h2⟩
   obtain⟨him,rfl⟩:=hi'
   refine⟨[some (Qg m R [],false),some (Qd t,false),some (Qc (m+1) dep,true),some (Qc i (Q8 R dep t),true),some (.int i,true),j5,j6,j7,j8],rfl,?_⟩
   refine run_seq (Qk (r:=⟨.int (-1),true,[]⟩) rfl ?_)
   rw[Qq]
   refine run_seq (Qk (r:=⟨.bl false,true,[]⟩) rfl ?_)
   rw[Qq]
   refine Qah (P:=λρ=>∃j6 j7 j8,ρ=[some (Qg m R [],false),some (Qd t,false),some (Qc (m+1) dep,true),some (Qc i (Q8 R dep t),true),some (.int i,true),some (.int (Q8 R dep t i),true),j6,j7,j8]) ?_ ?_
   ·refine Q9 (toD:=λ(k:Nat)=> .int (k:Int)) (List.range R.length) (λn ρ=>∃j7 j8,ρ=[some (Qg m R [],false),some (Qd t,false),some (Qc (m+1) dep,true),some (Qc i (Q8 R dep t),true),some (.int i,true),some (.int ((List.range n).foldl (Qdy R dep t i) (false,-1)).2,true),some (.bl ((List.range n).foldl (Qdy R dep t i) (false,-1)).1,true),j7,j8]) (Qcf (n:=R.length) (by rw[QdC (xs:=R.map pairD) (Qbc (m:=m) (R:=R) (L:=[]) (it rfl) rfl).2.1 rfl,Zi]) rfl (by omega)) rfl ⟨j7,j8,rfl⟩ ?_ ?_
    ·rintro k k' ρ hk ⟨j7,j8,rfl⟩
     have hk':k<R.length/\k=k':=by
      obtain⟨h1,h2⟩:=Zb.mp hk
      simp at h1 h2;exact⟨h1,h2⟩
     obtain⟨hkR,rfl⟩:=hk'
     have estep:(List.range (k+1)).foldl (Qdy R dep t i) (false,-1)=Qdy R dep t i ((List.range k).foldl (Qdy R dep t i) (false,-1)) k:=by rw[Zap,ZbF];rfl
     rw[estep]
     generalize (List.range k).foldl (Qdy R dep t i) (false,-1)=st
     obtain⟨mt,gr⟩:=st
     have er:∀{ρ:En},ρ[0]? =some (some (Qg m R [],false))->ρ[7]? =some (some (.int k,true))->Qm (Qm (Qa 0) (dC (.int 1))) (Qa 7) ρ=some ⟨pairD (rd R k),true,[]⟩:=λ{ρ} h1 h2=>Qjg (R:=R) (k:=k) (Qbc (m:=m) (R:=R) (L:=[]) (it h1) rfl).2.1 rfl (Qae h2) rfl hkR
     refine⟨[some (Qg m R [],false),some (Qd t,false),some (Qc (m+1) dep,true),some (Qc i (Q8 R dep t),true),some (.int i,true),some (.int gr,true),some (.bl mt,true),some (.int k,true),j8],rfl,?_⟩
     refine run_seq (Q7 (b:=Qai i (rd R k)) (QF (Qnu (x:=i) (s:=rd R k) (ra:=⟨.int i,true,[]⟩) rfl rfl (er rfl rfl) rfl) rfl) (λhinc=>?_) (λhinc=>?_))
     ·obtain⟨o1,o2,o3,o4⟩:=Qay (hR _ (Qap hkR)) hinc
      refine run_seq (Qk (QQ (d:= .int (oe i (rd R k):Int)) (rb:=⟨.int i,true,[]⟩) (Qk7 (s:=rd R k) (er rfl rfl) rfl) rfl (by
       show some (D.int ((rd R k).1+(rd R k).2-(i:Int)))=_
       rw[o1])) ?_)
      rw[Qq]
      unfold Qdy
      simp only[hinc,if_true]
      have e8:∀{ρ:En},ρ[2]? =some (some (Qc (m+1) dep,true))->ρ[8]? =some (some (.int (oe i (rd R k):Int),true))->Qm (Qa 2) (Qa 8) ρ=some ⟨.int (dep (oe i (rd R k))),true,[]⟩:=λ{ρ} h1 h2=>QaH (m:=m+1) (f:=dep) (i:=oe i (rd R k)) (Qae h1) rfl (Qae h2) rfl (by omega)
      have e4:∀{ρ:En},ρ[2]? =some (some (Qc (m+1) dep,true))->ρ[4]? =some (some (.int (i:Int),true))->Qm (Qa 2) (Qa 4) ρ=some ⟨.int (dep i),true,[]⟩:=λ{ρ} h1 h2=>QaH (m:=m+1) (f:=dep) (i:=i) (Qae h1) rfl (Qae h2) rfl (by omega)
      refine run_seq (Q7 (b:=decide (dep (oe i (rd R k))=dep i-1)) (QF (Qfk (a:=dep (oe i (rd R k))) (b:=dep i-1) (e8 rfl rfl) rfl (QQ (d:= .int (dep i-1)) (rb:=⟨.int 1,true,[]⟩) (e4 rfl rfl) rfl rfl) rfl) rfl) (λha=>?_) (λha=>?_))
      ·have ha:=of_decide_eq_true ha
       rw[if_pos ha]
       refine run_seq (Qk (Qtv (a:=mt) (b:=t.contains k) rfl (Qkm (neg:=false) (o:=k) (l:=t) (ra:=⟨.int k,true,[]⟩) (rb:=⟨Qd t,false,[]⟩) rfl rfl rfl rfl)) ?_)
       rw[Qq]
       refine run_seq (Qk (QM (a:=gr) (b:=if(mt || t.contains k)=true then 1 else 0) rfl rfl (rb:=⟨.int (if(mt || t.contains k)=true then 1 else 0),true,[]⟩) rfl rfl) (Ql (Ql (Ql ?_))))
       rw[Qq]
       exact⟨_,_,rfl⟩
      ·have ha:=of_decide_eq_false ha
       rw[if_neg ha]
       refine run_seq (Q7 (b:=decide (dep i<=dep (oe i (rd R k)))) (QF (QQ (d:= .bl (decide (dep i<=dep (oe i (rd R k))))) (e8 rfl rfl) (e4 rfl rfl) rfl) rfl) (λhb=>?_) (λhb=>?_))
       ·have hb:=of_decide_eq_true hb
        rw[if_pos hb]
        refine run_seq (Qk (QM (a:=gr) (b:=1) rfl rfl rfl rfl) (Ql (Ql (Ql (Ql ?_)))))
        rw[Qq]
        exact⟨_,_,rfl⟩
       ·have hb:=of_decide_eq_false hb
        rw[if_neg hb]
        exact Ql (Ql (Ql (Ql ⟨_,_,rfl⟩)))
     ·unfold Qdy
      rw[if_neg (by rw[hinc];simp)]
      exact Ql (Ql ⟨_,_,rfl⟩)
    ·rintro ρ ⟨j7,j8,rfl⟩
     rw[Zz,Qpa]
     exact⟨_,_,_,rfl⟩
   rintro ρ ⟨j6,j7,j8,rfl⟩
   refine run_seq (QiZ (i:=i) (g:=Q8 R dep t) (v:=Q8 R dep t i) (r:=⟨.int (Q8 R dep t i),true,[]⟩) rfl rfl rfl (by omega) (Ql ⟨some (.int i,true),some (.int (Q8 R dep t i),true),j6,j7,j8,?_⟩))
   have:Qc (i+1) (up (Q8 R dep t) i (Q8 R dep t i))=Qc (i+1) (Q8 R dep t):=QfH λj _=>by
    rw[QdA];split
    ·rename_i e;rw[e]
    ·rfl
   rw[this];rfl
  ·rintro ρ ⟨j4,j5,j6,j7,j8,rfl⟩
   rw[Zz]
   exact⟨_,_,_,_,_,rfl⟩
 rintro ρ ⟨j4,j5,j6,j7,j8,rfl⟩
 exact QN (r:=⟨Qc m (Q8 R dep t),true,[3]⟩) rfl ⟨rfl,rfl⟩
structure QeK (R:List (Int×Int)) (m:Nat) (dn tr:List Nat):Prop where
 nd:dn.Nodup
 le:∀x∈dn,x<=m
 hd:dn[0]? =some m
 tnd:tr.Nodup
 tin:∀k∈tr,k<R.length/\(rd R k).1.toNat∈dn/\(rd R k).2.toNat∈dn
 way:∀i q,0<i->dn[i]? =some q->∃k∈tr,Qai q (rd R k)=true/\∃j,j<i/\dn[j]? =some (oe q (rd R k))
theorem QeK.mem{R:List (Int×Int)}{m:Nat}{dn tr:List Nat}(G:QeK R m dn tr):m∈dn:=ZD G.hd
theorem QeK.step{m:Nat}{R:List (Int×Int)}(hR:∀s∈R,Good m s){dn tr:List Nat}(G:QeK R m dn tr){k q:Nat}(hk:k<R.length)(hq:q∉dn)(hi:Qai q (rd R k)=true)(ho:oe q (rd R k)∈dn):QeK R m (dn++[q]) (tr++[k]):=by
 obtain⟨o1,o2,o3,o4⟩:=Qay (hR _ (Qap hk)) hi
 obtain⟨g1,g2,g3,g4,g5⟩:=hR _ (Qap hk)
 have ends:(rd R k).1.toNat∈dn++[q]/\(rd R k).2.toNat∈dn++[q]:=by
  rcases o4 with⟨a,b⟩ | ⟨a,b⟩
  ·exact⟨Zd _ (by simp;omega),Zg _ (by rw[show(rd R k).2.toNat=oe q (rd R k) by omega];exact ho)⟩
  ·exact⟨Zg _ (by rw[show(rd R k).1.toNat=oe q (rd R k) by omega];exact ho),Zd _ (by simp;omega)⟩
 have knew:k∉tr:=λz=>by
  obtain⟨_,t1,t2⟩:=G.tin k z
  rcases o4 with⟨a,b⟩ | ⟨a,b⟩
  ·exact hq (by rw[show q=(rd R k).1.toNat by omega];exact t1)
  ·exact hq (by rw[show q=(rd R k).2.toNat by omega];exact t2)
 refine⟨Zan.mpr ⟨G.nd,by simp,λx hx y hy e=>?_⟩,λx hx=>?_,?_,Zan.mpr ⟨G.tnd,by simp,λx hx y hy e=>?_⟩,λx hx=>?_,λi v h0 hv=>?_⟩
 ·simp at hy;subst hy;subst e;exact hq hx
 ·rcases ZJ.mp hx with h | h
  ·exact G.le x h
  ·simp at h;subst h
   rcases o4 with⟨a,b⟩ | ⟨a,b⟩<;>omega
 ·have:=(Zb.mp G.hd).1
  rw[ZP this];exact G.hd
 ·simp at hy;subst hy;subst e;exact knew hx
 ·rcases ZJ.mp hx with h | h
  ·obtain⟨t0,t1,t2⟩:=G.tin x h
   exact⟨t0,Zg _ t1,Zg _ t2⟩
  ·simp at h;subst h
   exact⟨hk,ends.1,ends.2⟩
 ·by_cases hl:i<dn.length
  ·rw[ZP hl]at hv
   obtain⟨k',h1,h2,j,h3,h4⟩:=G.way i v h0 hv
   exact⟨k',Zg _ h1,h2,j,h3,by rw[ZP (by omega)];exact h4⟩
  ·rw[Zaw (by omega)]at hv
   have hi0:i-dn.length=0:=by
    have:=(Zb.mp hv).1
    simpa using this
   rw[hi0]at hv
   simp at hv
   subst hv
   obtain⟨j,hj⟩:=Zai ho
   have hjl:=(Zb.mp hj).1
   exact⟨k,by simp,hi,j,by omega,by rw[ZP hjl];exact hj⟩
theorem QeK.tree{m:Nat}{R:List (Int×Int)}(m0:0<m)(hR:∀s∈R,Good m s){dn tr:List Nat}(G:QeK R m dn tr)(hl:dn.length=m+1)(htl:tr.length=m){t:List Nat}(hp:t.Perm tr)(hs:t.Pairwise (· < ·)):QtA R m t:=by
 have htlt:∀k∈t,k<R.length:=λk hk=>(G.tin k (hp.mem_iff.mp hk)).1
 refine⟨by rw[hp.length_eq,htl],hs,htlt,λv hv hn=>?_⟩
 have hT:∀s∈QeA R t,Good m s:=λs hs=>by
  obtain⟨k,hk,rfl⟩:=ZI.mp hs
  exact hR _ (Qap (htlt k hk))
 have gS:=QbZ (L:=[]) hT (λs hs=>absurd hs (by simp))
 have I:=Qof gS m
 have lend:=λ{v:Nat} hv hn=>QoU (v:=v) m0 gS hv hn
 generalize Qb9 (Qu (QeA R t) []) (QcE m) m=F at *
 have hall:∀v,v<m->v∈dn:=λv hv=>ZbC λz=>by
  have:=len_sub (K:=(List.range (m+1)).erase v) G.nd λx hx=>(Zbq (λe:x=v=>z (by rw[← e];exact hx))).mpr (Zh.mpr (by have:=G.le x hx;omega))
  rw[ZaV (Zh.mpr (by omega)),Zz]at this
  omega
 have key:∀(i q:Nat),dn[i]? =some q->F q≠none:=by
  intro i
  induction i using Nat.strongRecOn with
  | _ i ih=>
   intro q hq z
   by_cases i0:i=0
   ·subst i0
    rw[G.hd]at hq
    cases hq
    rw[I.pit]at z;cases z
   ·obtain⟨k,h1,h2,j,h3,h4⟩:=G.way i q (by omega) hq
    have hkt:k∈t:=hp.mem_iff.mpr h1
    have hg:=hR _ (Qap (htlt k hkt))
    obtain⟨o1,o2,o3,o4⟩:=Qay hg h2
    obtain⟨g1,g2,g3,g4,g5⟩:=hg
    have hqm:q<m:=by
     have:=G.le q (ZD hq)
     by_cases e:q=m
     ·rw[e,I.pit]at z;cases z
     ·omega
    have mem:rd R k∈QeA R t:=ZI.mpr ⟨k,hkt,rfl⟩
    have sm:∀s,s∈QeA R t∨s.swap∈QeA R t->s∈Qu (QeA R t) []:=λs h=>by
     unfold Qu
     rw[Zaj,ZJ,ZI]
     rcases h with h | h
     ·exact .inl h
     ·exact .inr ⟨s.swap,h,by simp⟩
    rcases o4 with⟨a,b⟩ | ⟨a,b⟩
    ·have:=lend hqm z (rd R k) (sm _ (.inl mem)) (by omega)
     rw[show(rd R k).2.toNat=oe q (rd R k) by omega]at this
     exact ih j h3 _ h4 this
    ·have:=lend hqm z (rd R k).swap (sm _ (.inr (by simpa using mem))) (by simp;omega)
     rw[show(rd R k).swap.2.toNat=oe q (rd R k) by simp;omega]at this
     exact ih j h3 _ h4 this
 obtain⟨i,hi⟩:=Zai (hall v hv)
 exact key i v hi hn
theorem Qm4(tr:List Nat):∃t:List Nat,t.Perm tr/\(Qbp (tr.map λ(p:Nat)=>(p:Int))).map D.int=t.map (λ(p:Nat)=>D.int (p:Int))/\(tr.Nodup->t.Pairwise (· < ·)):=by
 have hp:=QaW (tr.map λ(p:Nat)=>(p:Int))
 have hs:=Qb7 (tr.map λ(p:Nat)=>(p:Int))
 generalize Qbp (tr.map λ(p:Nat)=>(p:Int))=S at hp hs
 have h0:∀x∈S,0<=x:=λx hx=>by
  obtain⟨n,_,rfl⟩:=ZI.mp (hp.mem_iff.mp hx)
  omega
 have ht:(S.map Int.toNat).Perm tr:=by
  have:=hp.map Int.toNat
  rw[Zac]at this
  have e:(Int.toNat ∘ λ(p:Nat)=>(p:Int))=id:=by funext p;simp
  rw[e,List.map_id]at this
  exact this
 refine⟨S.map Int.toNat,ht,?_,λnd=>?_⟩
 ·rw[Zac]
  exact ZL λx hx=>by
   have:=h0 x hx
   show D.int x=D.int (x.toNat:Int)
   rw[ZaU this]
 ·have nd':(S.map Int.toNat).Nodup:=ht.nodup_iff.mpr nd
  have hle:(S.map Int.toNat).Pairwise (· <= ·):=by
   rw[ZaM]
   exact hs.imp λh=>by omega
  have hne:(S.map Int.toNat).Pairwise (· ≠ ·):=nd'
  exact(hle.and hne).imp λ⟨a,b⟩=>by omega
theorem QoA{fa:DE}{ρ:En}{ra:R}{m:Nat}{f:Nat->Int}(ha:fa ρ=some ra)(ea:ra.d=Qc m f)(hm:m<=1000):QE fa (Q3 (Qb (QdM (dC (.int 1))) Qf)) ρ=some ⟨Qc (m+1) (up f m (-1)),true,[]⟩:=by
 have hb:Q3 (Qb (QdM (dC (.int 1))) Qf) ρ=some ⟨.lst [.int (-1)],true,[]⟩:=rfl
 unfold QE
 rw[ha,Za,hb,Za,ea]
 simp only[Qc,Zi,Zz,QeC]
 rw[if_pos (by simp;omega)]
 unfold QT
 rw[if_pos (by rw[Qcp,Zk];exact⟨Qat (λ_=>rfl) _,rfl⟩)]
 congr 3
 rw[Zap,ZT]
 congr 1
 ·refine ZL λi hi=>?_
  rw[QdA,if_neg (by have:=Zh.mp hi;omega)]
 ·show _=[D.int (up f m (-1) m)]
  rw[QdA,if_pos rfl]
theorem Qpn{ρ:En}{l:List Nat}{fs:DA}{rs:RA}(h:fs ρ=some rs)(e:rs.ds=[Qd l]):dList fs ρ=some ⟨Qd l,true,[]⟩:=by
 unfold dList
 rw[h,Za,e]
 unfold Qd QT
 simp only[]
 rw[if_pos (Qat (λ_=>rfl) _)]
theorem Qtj{m:Nat}{s:Int×Int}(g:Good m s){p:Nat}{l:List Nat}:Qs p l s=if(Qai p s && decide (oe p s∈l))=true then 1 else 0:=by
 unfold Qs
 by_cases hi:Qai p s=true
 ·obtain⟨_,_,ne,alt⟩:=Qay g hi
  rw[hi,Zbn]
  rcases alt with⟨a,b⟩ | ⟨a,b⟩
  ·by_cases z:oe p s∈l
   ·rw[if_pos (.inl ⟨a,by rw[b,Zy];exact z⟩),if_pos (decide_eq_true z)]
   ·rw[if_neg,if_neg (by rw[decide_eq_false z];decide)]
    rintro(⟨_,q⟩ | ⟨q,_⟩)
    ·rw[b,Zy]at q;exact z q
    ·omega
  ·by_cases z:oe p s∈l
   ·rw[if_pos (.inr ⟨a,by rw[b,Zy];exact z⟩),if_pos (decide_eq_true z)]
   ·rw[if_neg,if_neg (by rw[decide_eq_false z];decide)]
    rintro(⟨q,_⟩ | ⟨_,q⟩)
    ·omega
    ·rw[b,Zy]at q;exact z q
 ·have h2:¬s.1=(p:Int)/\¬s.2=(p:Int):=by
   unfold Qai at hi
   rw[ZaX,decide_eq_true_iff,decide_eq_true_iff]at hi
   exact not_or.mp hi
  rw[if_neg (by rintro(⟨q,_⟩ | ⟨q,_⟩);exact h2.1 q;exact h2.2 q),if_neg (by rw[Bool.not_eq_true]at hi;rw[hi,Bool.false_and];decide)]
theorem Qqc{m:Nat}{R:List (Int×Int)}(hR:∀s∈R,Good m s){p:Nat}{l:List Nat}:(R.map (Qs p l)).sum=(((Q5 R p).filter λk=>decide (oe p (rd R k)∈l)).length:Int):=by
 rw[Qjj]
 unfold Q5
 have key:∀K:List Nat,(∀k∈K,k<R.length)->(K.map λk=>Qs p l (rd R k)).sum=(((K.filter λk=>Qai p (rd R k)).filter λk=>decide (oe p (rd R k)∈l)).length:Int):=by
  intro K
  induction K with
  | nil=>intro _;rfl
  | cons k r ih=>
   intro hK
   rw[Zu,ZS,ih (λx hx=>hK x (Zc _ hx)),Qtj (hR _ (Qap (hK k Zj))),ZaE]
   cases Qai p (rd R k)with
   | false=>simp
   | true=>
    simp only[if_true,ZaE,Zbn]
    cases decide (oe p (rd R k)∈l)with
    | false=>simp
    | true=>simp;omega
 exact key _ λk hk=>Zh.mp hk
theorem Qq0{R:List (Int×Int)}{dep:Nat->Int}{p:Nat}:((Q5 R p).filter λk=>decide (dep p-1<=dep (oe p (rd R k)))).length=(QR R dep p).length+(Qcb R dep p).length:=by
 unfold QR Qcb
 induction Q5 R p with
 | nil=>rfl
 | cons k r ih=>
  simp only[ZaE]
  by_cases a:dep (oe p (rd R k))=dep p-1
  ·have b:dep p-1<=dep (oe p (rd R k)):=by omega
   have c:¬dep p<=dep (oe p (rd R k)):=by omega
   simp only[decide_eq_true a,decide_eq_true b,decide_eq_false c,if_true,if_false,Zq,ZY]
   omega
  ·by_cases b:dep p-1<=dep (oe p (rd R k))
   ·have c:dep p<=dep (oe p (rd R k)):=by omega
    simp only[decide_eq_false a,decide_eq_true b,decide_eq_true c,if_true,if_false,Zq,ZY]
    omega
   ·have c:¬dep p<=dep (oe p (rd R k)):=by omega
    simp only[decide_eq_false a,decide_eq_false b,decide_eq_false c,if_true,if_false,ZY]
    omega
structure Qcs (R:List (Int×Int)) (m:Nat) (h mk:Nat->Int):Prop where
 pit:mk m=0
 val:∀v,v<m->1<=mk v/\mk v<=m
 lo:∀v,v<m->((Qcb R mk v).length:Int)<=h v
 hi:∀v,v<m->h v<(Qcb R mk v).length+(QR R mk v).length
theorem QoV{m:Nat}{R:List (Int×Int)}{h:Nat->Int}(hR:∀s∈R,Good m s)(hc:QdL R m h (QO (Qx m (Qu R [])) h m m)=true):∃mk:Nat->Int,Qcs R m h mk/\∀v,v<m->QO (Qx m (Qu R [])) h m m v=some (mk v):=by
 unfold QdL at hc
 rw[Zk,ZV,Zau,ZaL]at hc
 obtain⟨hc1,hc2⟩:=hc
 have hs:∀v,v<m->h v<QU R [] v:=λv hv=>by simpa using hc1 v (Zh.mpr hv)
 obtain⟨mk,hmk⟩:∃mk:Nat->Int,mk=λv=>if v<m then(QO (Qx m (Qu R [])) h m m v).getD 0 else 0:=⟨_,rfl⟩
 have e1:∀v,v<m->QO (Qx m (Qu R [])) h m m v=some (mk v):=λv hv=>by
  rw[hmk]
  show _=some (if v<m then(QO (Qx m (Qu R [])) h m m v).getD 0 else 0)
  rw[if_pos hv]
  cases e:QO (Qx m (Qu R [])) h m m v with
  | none=>have:=hc2 v (Zh.mpr hv);rw[e]at this;exact absurd rfl this
  | some t=>rfl
 have pit:mk m=0:=by rw[hmk];exact if_neg (ZR _)
 generalize hT:Qx m (Qu R [])=T at *
 have cold:∀(j:Nat),j<=m->∀v,v<m->(v∈Q2 T h m j↔(j:Int)+1<=mk v):=λj hj v hv=>by
  rw[QoG hv hj,e1 v hv]
  constructor
  ·rintro(z | ⟨t,z,y⟩)
   ·cases z
   ·cases z;exact y
  ·exact λy=> .inr ⟨_,rfl,y⟩
 have val:∀v,v<m->1<=mk v/\mk v<=m:=λv hv=>by
  obtain⟨j,h1,h2,_⟩:=Qcl m v (mk v) (e1 v hv)
  omega
 have num:∀(j:Nat),j<=m->∀v,v<m->Qb5 T v (Q2 T h m j)=(((Q5 R v).filter λk=>decide ((j:Int)+1<=mk (oe v (rd R k)))).length:Int):=λj hj v hv=>by
  rw[← hT,QfM hR hv (Qev j) (λo ho=>Qdj ho),Qqc hR,hT]
  congr 2
  refine List.filter_congr λk hk=>?_
  obtain⟨k1,k2⟩:=Qen.mp hk
  obtain⟨_,om,_,_⟩:=Qay (hR _ (Qap k1)) k2
  by_cases z:oe v (rd R k)<m
  ·rw[decide_eq_decide,cold j hj _ z]
  ·have e:oe v (rd R k)=m:=by omega
   rw[e,pit,decide_eq_false (λq=>absurd (Qdj q) (ZR _)),decide_eq_false (by omega)]
 refine⟨mk,⟨pit,val,λv hv=>?_,λv hv=>?_⟩,e1⟩
 ·obtain⟨j,h1,h2,_,_,h5⟩:=Qcl m v (mk v) (e1 v hv)
  rw[num j (by omega) v hv,← h2]at h5
  exact h5
 ·obtain⟨j,h1,h2,h3,_,_⟩:=Qcl m v (mk v) (e1 v hv)
  cases j with
  | zero=>
   have a:=QdU (R:=R) (dep:=mk) (p:=v)
   have b:=QoT hR v
   have c:(QaD R mk v).length=0:=by
    unfold QaD
    rw[List.length_eq_zero_iff,ZbV]
    intro k hk
    obtain⟨k1,k2⟩:=Qen.mp hk
    obtain⟨_,om,_,_⟩:=Qay (hR _ (Qap k1)) k2
    have:0<=mk (oe v (rd R k)):=by
     by_cases z:oe v (rd R k)<m
     ·have:=val _ z;omega
     ·rw[show oe v (rd R k)=m by omega,pit];exact ZaF _
    simp;omega
   have:=hs v hv
   omega
  | succ i=>
   have h6:=Qdr.mp (show v∈Qey T h (Q2 T h m i)from h3)
   have h7:h v<Qb5 T v (Q2 T h m i):=by
    by_cases z:Qb5 T v (Q2 T h m i)<=h v
    ·exact absurd (QcW.mpr ⟨h6.1,z⟩) h6.2
    ·omega
   rw[num i (by omega) v hv,show((i:Int)+1)=mk v-1 by omega,Qq0]at h7
   omega
theorem Qjs{t:List Nat}:∀{l:List Nat}{i k:Nat},l[i]? =some k->k∈t->(∀j k',j<i->l[j]? =some k'->k'∉t)->Qaq t l=i
 | [],i,k,h,_,_=>by simp at h
 | a::r,0,k,h,hk,_=>by
  cases h
  unfold Qaq
  rw[if_pos hk]
 | a::r,i+1,k,h,hk,hn=>by
  unfold Qaq
  rw[if_neg (hn 0 a (by omega) rfl),Qjs (l:=r) (i:=i) (by simpa using h) hk λj k' hj e=>hn (j+1) k' (by omega) (by simpa using e)]
noncomputable def QaG(R:List (Int×Int))(mk h:Nat->Int)(p:Nat):Nat:=(QR R mk p).getD ((QR R mk p).length+(Qcb R mk p).length-1-h p).toNat 0
section
variable {R:List (Int×Int)}{m:Nat}{h mk:Nat->Int}
theorem Qcs.own(M:Qcs R m h mk){p:Nat}(hp:p<m):(QR R mk p)[((QR R mk p).length+(Qcb R mk p).length-1-h p:Int).toNat]? =some (QaG R mk h p):=by
 have a:=M.lo p hp
 have b:=M.hi p hp
 unfold QaG
 rw[ZK]
 obtain⟨x,hx⟩:∃x,(QR R mk p)[((QR R mk p).length+(Qcb R mk p).length-1-h p:Int).toNat]? =some x:=⟨_,ZA (by omega)⟩
 rw[hx];rfl
theorem Qcs.QcH(M:Qcs R m h mk){p:Nat}(hp:p<m):QaG R mk h p<R.length/\Qai p (rd R (QaG R mk h p))=true/\mk (oe p (rd R (QaG R mk h p)))=mk p-1:=by
 have:=ZD (M.own hp)
 unfold QR at this
 obtain⟨h1,h2⟩:=ZN.mp this
 obtain⟨h3,h4⟩:=Qen.mp h1
 exact⟨h3,h4,of_decide_eq_true h2⟩
theorem Qcs.QiS(hR:∀s∈R,Good m s)(M:Qcs R m h mk){p q:Nat}(hp:p<m)(hi:Qai q (rd R (QaG R mk h p))=true):q=p∨(oe q (rd R (QaG R mk h p))=p/\mk q=mk p-1):=by
 obtain⟨h1,h2,h3⟩:=M.QcH hp
 have g:=hR _ (Qap h1)
 generalize rd R (QaG R mk h p)=s at *
 obtain⟨a1,a2,a3,a4⟩:=Qay g h2
 obtain⟨b1,b2,b3,b4⟩:=Qay g hi
 by_cases z:q=p
 ·exact .inl z
 ·have e1:oe q s=p:=by omega
  have e2:oe p s=q:=by omega
  exact .inr ⟨e1,by rw[← h3,e2]⟩
theorem Qcs.inj(hR:∀s∈R,Good m s)(M:Qcs R m h mk){p q:Nat}(hp:p<m)(hq:q<m)(e:QaG R mk h p=QaG R mk h q):p=q:=by
 rcases M.QiS hR hp (q:=q) (by rw[e];exact(M.QcH hq).2.1)with z | ⟨_,z⟩
 ·exact z.symm
 ·rcases M.QiS hR hq (q:=p) (by rw[← e];exact(M.QcH hp).2.1)with y | ⟨_,y⟩
  ·exact y
  ·omega
theorem Qcs.tree(hR:∀s∈R,Good m s)(M:Qcs R m h mk){t:List Nat}(ht:t.Perm ((List.range m).map (QaG R mk h))):QjU R m t mk/\∀p,p<m->Q8 R mk t p=h p:=by
 have mem:∀k,k∈t↔∃p,p<m/\QaG R mk h p=k:=λk=>by
  rw[ht.mem_iff,ZI]
  exact⟨λ⟨p,a,b⟩=>⟨p,Zh.mp a,b⟩,λ⟨p,a,b⟩=>⟨p,Zh.mpr a,b⟩⟩
 refine⟨⟨λk hk=>?_,M.pit,M.val,λv hv=>⟨_,(mem _).mpr ⟨v,hv,rfl⟩,(M.QcH hv).2⟩,λv hv k hk hi=>?_⟩,λp hp=>?_⟩
 ·obtain⟨p,hp,rfl⟩:=(mem k).mp hk
  exact(M.QcH hp).1
 ·obtain⟨p,hp,rfl⟩:=(mem k).mp hk
  rcases M.QiS hR hp hi with rfl | ⟨e,z⟩
  ·rw[(M.QcH hp).2.2];exact ZaF _
  ·rw[e];omega
 ·have e:Qaq t (QR R mk p)=((QR R mk p).length+(Qcb R mk p).length-1-h p:Int).toNat:=by
   refine Qjs (M.own hp) ((mem _).mpr ⟨p,hp,rfl⟩) λj k' hj hk' hkt=>?_
   obtain⟨q,hq,rfl⟩:=(mem k').mp hkt
   have hm:=ZD hk'
   unfold QR at hm
   obtain⟨h1,h2⟩:=ZN.mp hm
   have h2:=of_decide_eq_true h2
   rcases M.QiS hR hq (Qen.mp h1).2 with rfl | ⟨e,z⟩
   ·have pw:(QR R mk p).Pairwise (· < ·):=by unfold QR Q5;exact(Zbf.filter _).filter _
    exact absurd (Qru pw hk' (M.own hp) hj) (ZR _)
   ·rw[e]at h2;omega
  have a:=M.lo p hp
  have b:=M.hi p hp
  have c:=QdU (R:=R) (dep:=mk) (p:=p)
  unfold Q8
  rw[e]
  omega
end
noncomputable def QhY(Qcv:Den)(QaO:Den)(QaQ:Den):DS:=(Qe (Qy 2 (Qv 2 Qcv [] (Qb (Qa 0) (Qb (Qa 1) Qf)))) (Qe (sIf (Qc9 (QC (Qv 2 QaO [] (Qb (Qa 0) (Qb (Qa 1) Qf))))) (Qe QH Qp) Qp) (Qe (Qy 3 (Q3 Qf)) (Qe (QaZ (Qb2 (Qa 1)) (.tp [4,5]) (Qe (Qy 6 (Qv 3 QaQ [] (Qb (Qa 0) (Qb (Qa 4) (Qb (QE (Qa 2) (Q3 (Qb (dC (.int 0)) Qf))) Qf))))) (Qe (Qch 3 Q1 (Qm (Qm (Qa 6) (dC (.int 0))) (dOp QbK (Qm (Qa 6) (dC (.int 1))) (Qa 5)))) Qp))) (Qe (QS (QiL (Qb (Qa 3) Qf))) Qp)))))
def Qgh(d:Den):Prop:=∀(m:Nat) (R:List (Int×Int)) (h:Nat->Int),0<m->m<=8->R.length<=200->(∀s∈R,Good m s)->(∀j,j<m->0<=h j)->QdL R m h (QO (Qx m (Qu R [])) h m m)=true->∃t mk,d [Qg m R [],Qc m h]=some (Qd t,true)/\t.length=m/\t.Pairwise (· < ·)/\QjU R m t mk/\∀p,p<m->Q8 R mk t p=h p
theorem QlJ{fa:DE}{ρ:En}{ra:HS.R}{n:Nat}{f:Nat->Int}(ha:fa ρ=some ra)(ea:ra.d=Qc n f):Qb2 fa ρ=some ⟨(List.range n).map λ(i:Nat)=> .tup [.int i,.int (f i)],ra.M⟩:=by
 unfold Qb2
 rw[ha,Za,ea]
 show some (IR.mk (Qce ((List.range n).map λi=>D.int (f i))) ra.M)=_
 congr 2
 unfold Qce
 refine Zao λi=>?_
 rw[Zo,Zo,Zbp,Zo]
 by_cases z:i<n
 ·rw[Zaa z];simp
 ·rw[Zv (by simp;omega)];rfl
theorem QnR{df da dw:Den}(hf:Qgt df)(ha:QhF da)(hw:QlS dw):Qgh (Qr 7 (QhY df da dw)):=λm R h m0 m8 hRl hR hpos hc=>by
 obtain⟨mk,M,hF⟩:=QoV hR hc
 obtain⟨t,tp,te,ts⟩:=Qm4 ((List.range m).map (QaG R mk h))
 have nd:((List.range m).map (QaG R mk h)).Nodup:=by
  unfold List.Nodup
  rw[ZaM]
  exact ZbJ (λ{a b} x y ne e=>ne (M.inj hR (Zh.mp x) (Zh.mp y) e)) ZaP
 obtain⟨Dp,hh⟩:=M.tree hR tp
 refine⟨t,mk,?_,by rw[tp.length_eq];simp,ts nd,Dp,hh⟩
 have ef:=hf m R h m0 (by omega) (by omega) hR hpos
 have ec:=ha m R h m0 (by omega) (by omega) hR hpos
 rw[hc]at ec
 have efar:QaF m (QO (Qx m (Qu R [])) h m m)=Qc m mk:=by
  unfold QaF Qc
  congr 1
  exact ZL λv hv=>by rw[hF v (Zh.mp hv)];rfl
 rw[efar]at ef
 have edep:Qc (m+1) (Qgj m mk)=Qc (m+1) mk:=QfH λj hj=>by
  unfold Qgj
  by_cases e:j<m
  ·rw[if_pos e]
  ·rw[if_neg e,show j=m by omega,M.pit]
 refine Qac ?_
 refine run_seq (Qk (Qw (r:=⟨[Qg m R [],Qc m h],false,[]⟩) rfl ef rfl) ?_)
 rw[Qq]
 refine run_seq (Q7 (b:=false) (QdI (b:=true) (QF (Qw (r:=⟨[Qg m R [],Qc m h],false,[]⟩) rfl ec rfl) rfl)) (λh=>by cases h) (λ_=>Ql ?_))
 refine run_seq (Qk (r:=⟨Qd [],true,[]⟩) rfl ?_)
 rw[Qq]
 change Run _ [some (Qg m R [],false),some (Qc m h,false),some (Qc m mk,true),some (Qd [],true),none,none,none] _
 refine run_seq (Q9 (toD:=λ(i:Nat)=> .tup [.int i,.int (h i)]) (List.range m) (λi ρ=>∃j4 j5 j6,ρ=[some (Qg m R [],false),some (Qc m h,false),some (Qc m mk,true),some (Qd ((List.range i).map (QaG R mk h)),true),j4,j5,j6]) (QlJ rfl rfl) rfl ⟨none,none,none,rfl⟩ ?_ ?_)
 ·rintro i i' ρ hi ⟨j4,j5,j6,rfl⟩
  obtain⟨h1,rfl⟩:=Zb.mp hi
  rw[List.getElem_range]
  have him:i<m:=by simpa using h1
  refine⟨[some (Qg m R [],false),some (Qc m h,false),some (Qc m mk,true),some (Qd ((List.range i).map (QaG R mk h)),true),some (.int i,true),some (.int (h i),true),j6],rfl,?_⟩
  refine run_seq (Qk (Qw (Qj (r:=⟨Qg m R [],false,[]⟩) rfl (Qj (r:=⟨.int i,true,[]⟩) rfl (Qj (r:=⟨Qc (m+1) mk,true,[]⟩) ((Qii (m:=m) (f:=mk) (ra:=⟨Qc m mk,true,[2]⟩) rfl rfl (by omega)).trans (by rw[edep])) (QL _)))) (hw m R i mk him hR) rfl) ?_)
  rw[Qq]
  change Run _ [some (Qg m R [],false),some (Qc m h,false),some (Qc m mk,true),some (Qd ((List.range i).map (QaG R mk h)),true),some (.int i,true),some (.int (h i),true),some (.tup [Qd (QR R mk i),.int ((Q5 R i).length-1-(QaD R mk i).length)],true)] _
  have c:=QdU (R:=R) (dep:=mk) (p:=i)
  have b:=M.hi i him
  have own:=M.own him
  rw[show((QR R mk i).length+(Qcb R mk i).length-1-h i:Int)=(Q5 R i).length-1-(QaD R mk i).length-h i by omega]at own
  refine run_seq (Qjv (l:=(List.range i).map (QaG R mk h)) (v:=QaG R mk h i) rfl (Qef (l:=QR R mk i) (ra:=⟨Qd (QR R mk i),true,[6]⟩) rfl rfl (QQ (d:= .int ((Q5 R i).length-1-(QaD R mk i).length-h i)) (ra:=⟨.int ((Q5 R i).length-1-(QaD R mk i).length),true,[]⟩) (rb:=⟨.int (h i),true,[]⟩) rfl rfl rfl) rfl (by omega) own) rfl (by simp;omega) (Ql ⟨some (.int i,true),some (.int (h i),true),some (.tup [Qd (QR R mk i),.int ((Q5 R i).length-1-(QaD R mk i).length)],true),?_⟩))
  rw[Zap,ZT]
  rfl
 ·rintro ρ ⟨j4,j5,j6,rfl⟩
  rw[Zz]
  refine QN (r:=⟨Qd t,true,[]⟩) ?_ ⟨rfl,rfl⟩
  unfold QiL
  show(QaI (((List.range m).map (QaG R mk h)).map λ(p:Nat)=>D.int (p:Int))).bind _=_
  have:=Qci (((List.range m).map (QaG R mk h)).map λ(p:Nat)=>(p:Int))
  rw[Zac]at this
  rw[show(((List.range m).map (QaG R mk h)).map λ(p:Nat)=>D.int (p:Int))=((List.range m).map (QaG R mk h)).map (D.int ∘ λ(p:Nat)=>(p:Int))from rfl,this,Za,if_pos (by simp;omega),te]
  rfl
end HS
namespace HS
open PySem L2
theorem QpP{fa:DE}{ρ:En}{r:HS.R}{t:List Nat}(h:fa ρ=some r)(e:r.d=Qd t)(hp:t.Pairwise (· < ·))(hl:t.length<=18):Qfw fa ρ=some ⟨Qd t,true,[]⟩:=by
 unfold Qfw
 rw[h,Za,e,Qh0]
 show(QaI ((t.map λ(p:Nat)=>(p:Int)).map D.int)).bind _=_
 have hi:(t.map λ(p:Nat)=>(p:Int)).Pairwise (· < ·):=by rw[ZaM];exact hp.imp λh=>by omega
 rw[Qci,Za,if_pos (by simpa using hl),Qmu (hi.imp λh=>by omega),QlK (hi.imp λh=>by omega)]
theorem QjK(t:List Nat):Qd t=Qc t.length λi=>((t.getD i 0:Nat):Int):=by
 unfold Qd Qc
 congr 1
 refine Zao λi=>?_
 rw[Zo,Zo]
 by_cases z:i<t.length
 ·rw[Zaa z,ZA z]
  show some (D.int ((t[i]:Nat):Int))=some (D.int ((t.getD i 0:Nat):Int))
  rw[ZK,ZA z];rfl
 ·rw[Zv (by omega),Zv (by simp;omega)];rfl
noncomputable def QcY(Qaz:Den)(Q0:Den):DS:=(Qe (sIf (bOr (Qc9 (QC (Qv 2 Qaz [] (Qb (Qa 1) (Qb (Qm (Qa 0) (dC (.int 0))) Qf))))) (bOr (QC (dOp gNe (Qa 1) (Qfw (Qa 1)))) (QC (dOp gNe (dBf QbF (Qb (Qa 1) Qf)) (Qm (Qa 0) (dC (.int 0))))))) (Qe (QS (dC (.bl false))) Qp) Qp) (Qe (sIf (bOr (QC (dOp gLt (Qm (Qa 1) (dC (.int 0))) (dC (.int 0)))) (QC (dOp gGe (Qm (Qa 1) (QdM (dC (.int 1)))) (dBf QbF (Qb (Qm (Qa 0) (dC (.int 1))) Qf))))) (Qe (QS (dC (.bl false))) Qp) Qp) (Qe (QS (dOp gLe (dBf QcU (Qb (Qv 2 Q0 [] (Qb (Qa 0) (Qb (Qa 1) Qf))) Qf)) (Qm (Qa 0) (dC (.int 0))))) Qp)))
def Qf8(d:Den):Prop:=∀(m:Nat) (R:List (Int×Int)) (t:List Nat) (dep:Nat->Int),0<m->m<=8->(∀s∈R,Good m s)->t.length=m->t.Pairwise (· < ·)->QjU R m t dep->d [Qg m R [],Qd t]=some (.bl true,true)
theorem QkW{du dd:Den}(hu:QjW du)(hd:Qgo dd):Qf8 (Qr 2 (QcY du dd)):=λm R t dep m0 m8 hR tl tp Dp=>by
 have eu:=hu t.length λi=>((t.getD i 0:Nat):Int)
 rw[← QjK,tl]at eu
 have ed:=hd m R t m8 hR Dp.tl
 have efar:=Qk5 hR Dp
 obtain⟨a,ha⟩:∃a,t[0]? =some a:=⟨_,ZA (by omega)⟩
 obtain⟨b,hb⟩:∃b,t[m-1]? =some b:=⟨_,ZA (by omega)⟩
 have bl:=Dp.tl b (ZD hb)
 obtain⟨v,⟨i,hi,ei⟩,_,hv⟩:=Qqq (by omega:0<m+1) (Qbs R m t m)
 have vm:v<=m:=by
  rw[ei,efar i (by omega)]
  by_cases z:i<m
  ·exact(Dp.val i z).2
  ·rw[show i=m by omega,Dp.pit];omega
 have last:∀(ρ:En),ρ[1]? =some (some (Qd t,false))->Qm (Qa 1) (QdM (dC (.int 1))) ρ=some ⟨.int b,true,[]⟩:=λρ h1=>by
  unfold Qm
  rw[Qae h1,Za]
  show(atI (t.map λ(p:Nat)=>D.int (p:Int)) (-1)).map _=_
  rw[QrG (by simp;omega),Zi,Zo,tl,hb]
  rfl
 refine Qac ?_
 refine Qa0 (Q7 (b:=false) (QcV (a:=false) (b:=false) (QdI (b:=true) (QF (Qw (r:=⟨[Qd t,.int m],false,[]⟩) rfl eu rfl) rfl)) (QcV (a:=false) (b:=false) (QF (b:=false) (Qg0 (d:=Qd t) (ra:=⟨Qd t,false,[]⟩) rfl rfl (QpP (r:=⟨Qd t,false,[]⟩) rfl rfl tp (by omega)) rfl (Qgl 7 _)) rfl) (QF (b:=false) (r:=⟨.bl false,true,[]⟩) ((Qg2 (a:=(m:Int)) (b:=m) ((Qhu (l:=t) (r:=⟨Qd t,false,[]⟩) rfl rfl).trans (by rw[tl])) rfl (rb:=⟨.int m,true,[]⟩) rfl rfl).trans (by simp)) rfl))) (λh=>by cases h) (λ_=>Ql ?_))
 refine Qa0 (Q7 (b:=false) (QcV (a:=false) (b:=false) (QF (b:=false) (QQ (d:= .bl (decide ((a:Int)<0))) (Qef (l:=t) (i:=0) (v:=a) (ra:=⟨Qd t,false,[]⟩) (rb:=⟨.int 0,true,[]⟩) rfl rfl rfl rfl (by decide) ha) (rb:=⟨.int 0,true,[]⟩) rfl rfl) (by rw[decide_eq_false (by omega)])) (QF (b:=false) (QQ (d:= .bl (decide ((R.length:Int)<=b))) (last _ rfl) (rb:=⟨.int R.length,true,[]⟩) ((QdC (xs:=R.map pairD) (r:=⟨Qt R,false,[]⟩) rfl rfl).trans (by rw[Zi])) rfl) (by rw[decide_eq_false (by omega)]))) (λh=>by cases h) (λ_=>Ql ?_))
 exact QN (r:=⟨.bl true,true,[]⟩) ((QQ (d:= .bl (decide (v<=(m:Int)))) (hv (r:=⟨Qc (m+1) (Qbs R m t m),true,[]⟩) (Qw (r:=⟨[Qg m R [],Qd t],false,[]⟩) rfl ed rfl) rfl) (rb:=⟨.int m,true,[]⟩) rfl rfl).trans (by rw[decide_eq_true vm])) ⟨rfl,rfl⟩
theorem Qlq{fa fb:DE}{ρ:En}{ra rb:HS.R}{ns:List Int}{n:Nat}(ha:fa ρ=some ra)(ea:ra.d= .lst (ns.map .int))(hb:fb ρ=some rb)(eb:rb.d= .int n):Qc4 fa (QbI fb) Qdf ρ=some ⟨.lst ((ns.drop n).map .int),true,[]⟩:=by
 have cut:cutD (ns.map D.int) (some (n:Int)) none=(ns.drop n).map D.int:=by
  unfold cutD
  simp only[Zi,HT.Qjf,HT.Qla,Nat.sub_zero]
  rw[← Zcb,← Zcc]
  congr 1
  by_cases h:n<=ns.length
  ·rw[Nat.min_eq_left h,ZaH (by simp)]
  ·rw[Nat.min_eq_right (by omega),ZaI (by omega),ZaI (by omega)];simp
 unfold Qc4 Qdf QbI
 simp only[ha,hb,Za,ea,eb,cut,QT,Qfq,if_true]
noncomputable def Qil(QbX:Den)(QaC:Den)(Qa2:Den)(Qbo:Den)(Qag:Den)(Qbq:Den):DS:=(Qe (Qy 1 (Qv 1 QbX [] (Qb (Qa 0) Qf))) (Qe (Qy 2 (Qv 3 Qa2 [] (Qb (Qa 0) (Qb (Qa 1) (Qb (Qv 2 QaC [] (Qb (Qa 0) (Qb (Qa 1) Qf))) Qf))))) (Qe (Qy 3 (Q3 (Qb (dList (Qb (Qa 2) Qf)) (Qb (Qa1 (Qb (Qm (Qa 1) (dC (.int 0))) (Qb (dList (Qb (Qm (Qa 1) (dC (.int 1))) Qf)) (Qb (Q3 Qf) Qf)))) Qf)))) (Qe (Qy 4 (Qv 2 Qbo [] (Qb (Qm (Qa 3) (dC (.int 1))) (Qb (Qm (Qa 3) (dC (.int 0))) Qf)))) (Qe (sIf (bOr (Qc9 (QC (Qv 2 Qag [] (Qb (Qa 1) (Qb (Qa 4) Qf))))) (bOr (QC (dOp gNe (Qv 2 Qbq [] (Qb (Qa 1) (Qb (Qa 4) Qf))) (Qa 2))) (QC (dOp gNe (Qa 3) (Q3 (Qb (Qa 2) (Qb (Qa 1) Qf))))))) (Qe (QS (dC (.bl false))) Qp) Qp) (Qe (Qy 5 (dList (Qb (Qa 4) Qf))) (Qe (Qy 6 (Qv 3 Qa2 [] (Qb (Qc4 (Qa 0) (QbI (dC (.int 9))) Qdf) (Qb (Qa 1) (Qb (Qv 2 QaC [] (Qb (Qc4 (Qa 0) (QbI (dC (.int 11))) Qdf) (Qb (Qa 1) Qf))) Qf))))) (Qe (Qch 4 Q1 (QdM (dC (.int 1)))) (Qe (QcA 3 (Qdi Q1 (dC (.int 0))) (dC (.int 0)) (Qm (Qa 6) (dC (.int 0)))) (Qe (Qy 7 (Qv 2 Qbo [] (Qb (Qa 1) (Qb (Qa 6) Qf)))) (Qe (sIf (bOr (Qc9 (QC (Qv 2 Qag [] (Qb (Qa 1) (Qb (Qa 7) Qf))))) (QC (dOp gNe (Qv 2 Qbq [] (Qb (Qa 1) (Qb (Qa 7) Qf))) (Qa 6)))) (Qe (QS (dC (.bl false))) Qp) Qp) (Qe (QS (Qga (dOp gEq (Qv 2 Qbo [] (Qb (Qa 1) (Qb (Qa 2) Qf))) (Qa 5)) (dOp gEq (Qa 4) (QE (Qa 5) (Q3 (Qb (QdM (dC (.int 1))) Qf)))))) Qp))))))))))))
set_option maxHeartbeats 0 in
theorem Qs9{dn dor dh dt di dd:Den}(hn:QkB dn)(ho:Qhp dor)(hh:Qgi dh)(ht:Qgh dt)(hi:Qf8 di)(hd:Qi2 dd)(ns:List Int)(hl:ns.length<=63):Qr 8 (Qil dn dor dh dt di dd) [.lst (ns.map .int)]=some (.bl true,true):=by
 obtain⟨m,R,en,m0,m8,hw⟩:=hn ns hl
 have hR:=hw.good.1
 have hRl:R.length<=200:=hw.good.2.2.1
 have one:∀(u v:List Int),∃(O:List Nat) (h:Nat->Int) (t:List Nat),dor [.lst (u.map .int),Qg m R []]=some (Qd O,true)/\dh [.lst (v.map .int),Qg m R [],Qd O]=some (Qc m h,true)/\dt [Qg m R [],Qc m h]=some (Qd t,true)/\di [Qg m R [],Qd t]=some (.bl true,true)/\dd [Qg m R [],Qd t]=some (Qc m h,true)/\t.length=m:=λu v=>by
  obtain⟨O,eo,hperm,hord⟩:=ho u m R m8 hw
  obtain⟨h,eh,hbeh⟩:=hh v m R O m8 hw hperm hord
  have h0:∀j,j<m->0<=h j:=λj hj=>by
   obtain⟨k,hk⟩:=Zai (hperm.mem_iff.mpr (Zh.mpr hj))
   have:=(hbeh k j hk).1
   have:=Qcw (g:=Qs j (O.drop (k+1))) R λs _=>(Qd6 j (O.drop (k+1)) s).1
   omega
  obtain⟨t,mk,et,tl,tp,Dp,eH⟩:=ht m R h m0 m8 hRl hR h0 (Qm8 hR hperm hbeh)
  have ed:=hd m R t mk m8 hRl hR Dp
  rw[QfH eH]at ed
  exact⟨O,h,t,eo,eh,et,hi m R t mk m0 m8 hR tl tp Dp,ed,tl⟩
 obtain⟨O,h,t,eo,eh,et,ei,ed,tl⟩:=one ns ns
 obtain⟨O2,h2,t2,eo2,eh2,et2,ei2,ed2,tl2⟩:=one (ns.drop 11) (ns.drop 9)
 have sN:∀n,(Qg m R []).sim (n+4)=true:=λn=>by
  unfold Qg
  simp only[D.sim,List.all_cons,List.all_nil,Bool.and_true,Zbn,Zk]
  exact⟨Qim _ R,Qim _ []⟩
 have sH:(D.lst [Qc m h,Qg m R []]).sim 8=true:=by
  simp only[D.sim,List.all_cons,List.all_nil,Bool.and_true,Zk]
  exact⟨Qfz 6 _ _,sN 3⟩
 refine Qac ?_
 refine run_seq (Qk (Qw (r:=⟨[.lst (ns.map .int)],false,[]⟩) rfl en rfl) ?_)
 rw[Qq]
 refine run_seq (Qk (Qw (Qj (r:=⟨.lst (ns.map .int),false,[]⟩) rfl (Qj (r:=⟨Qg m R [],true,[1]⟩) rfl (Qj (Qw (r:=⟨[.lst (ns.map .int),Qg m R []],false,[1]⟩) rfl eo rfl) (QL _)))) eh rfl) ?_)
 rw[Qq]
 refine run_seq (Qk (r:=⟨.lst [Qc m h,Qg m R []],true,[]⟩) ?_ ?_)
 ·refine(QmT (rs:=⟨[Qc m h,Qg m R []],true,[]⟩) ?_ (by simp)).trans rfl
  exact Qj (Qn6 (m:=m) (f:=h) (rs:=⟨[Qc m h],true,[2]⟩) rfl rfl) (Qj (Ql9 (r:=⟨Qg m R [],true,[1]⟩) rfl rfl) (QL _))
 rw[Qq]
 change Run _ [some (.lst (ns.map .int),false),some (Qg m R [],true),some (Qc m h,true),some (.lst [Qc m h,Qg m R []],true),none,none,none,none] _
 refine run_seq (Qk (Qw (r:=⟨[Qg m R [],Qc m h],true,[3,3]⟩) rfl et rfl) ?_)
 rw[Qq]
 refine Qa0 (Q7 (b:=false) (QcV (a:=false) (b:=false) (QdI (b:=true) (QF (Qw (r:=⟨[Qg m R [],Qd t],true,[1,4]⟩) rfl ei rfl) rfl)) (QcV (a:=false) (b:=false) (QF (b:=false) (Qg0 (d:=Qc m h) (Qw (r:=⟨[Qg m R [],Qd t],true,[1,4]⟩) rfl ed rfl) rfl (rb:=⟨Qc m h,true,[2]⟩) rfl rfl (Qfz 7 _ _)) rfl) (QF (b:=false) (Qg0 (d:= .lst [Qc m h,Qg m R []]) (ra:=⟨.lst [Qc m h,Qg m R []],true,[3]⟩) rfl rfl (rb:=⟨.lst [Qc m h,Qg m R []],true,[2,1]⟩) rfl rfl sH) rfl))) (λh=>by cases h) (λ_=>Ql ?_))
 refine run_seq (Qk (Qpn (l:=t) (rs:=⟨[Qd t],true,[4]⟩) rfl rfl) ?_)
 rw[Qq]
 change Run _ [some (.lst (ns.map .int),false),some (Qg m R [],true),some (Qc m h,true),some (.lst [Qc m h,Qg m R []],true),some (Qd t,true),some (Qd t,true),none,none] _
 refine run_seq (Qk (Qw (Qj (Qlq (ns:=ns) (n:=9) (ra:=⟨.lst (ns.map .int),false,[]⟩) rfl rfl (Qe2 _ _) rfl) (Qj (r:=⟨Qg m R [],true,[1]⟩) rfl (Qj (Qw (Qj (Qlq (ns:=ns) (n:=11) (ra:=⟨.lst (ns.map .int),false,[]⟩) rfl rfl (Qe2 _ _) rfl) (Qj (r:=⟨Qg m R [],true,[1]⟩) rfl (QL _))) eo2 rfl) (QL _)))) eh2 rfl) ?_)
 rw[Qq]
 have en1:Qd (t)=Qc m λi=>((t.getD i 0:Nat):Int):=by rw[← tl];exact QjK t
 rw[en1]
 refine run_seq (QiZ (i:=m) (g:=λi=>((t.getD i 0:Nat):Int)) (v:= -1) rfl rfl rfl (by omega) ?_)
 refine run_seq (Qnh (m:=m) (f:=h) (b:=Qg m R []) (i:=0) (v:=h2 0) (ri:=⟨.int 0,true,[]⟩) rfl rfl rfl (QaH (m:=m) (f:=h2) (i:=0) (ra:=⟨Qc m h2,true,[6]⟩) (rb:=⟨.int 0,true,[]⟩) rfl rfl rfl rfl m0) rfl (by decide) (by omega) ?_)
 change Run _ [some (.lst (ns.map .int),false),some (Qg m R [],true),some (Qc m h,true),some (.lst [Qc m (up h 0 (h2 0)),Qg m R []],true),some (Qc (m+1) (up (λi=>((t.getD i 0:Nat):Int)) m (-1)),true),some (Qc m λi=>((t.getD i 0:Nat):Int),true),some (Qc m h2,true),none] _
 refine run_seq (Qk (Qw (r:=⟨[Qg m R [],Qc m h2],true,[1,6]⟩) rfl et2 rfl) ?_)
 rw[Qq]
 refine Qa0 (Q7 (b:=false) (QcV (a:=false) (b:=false) (QdI (b:=true) (QF (Qw (r:=⟨[Qg m R [],Qd t2],true,[1,7]⟩) rfl ei2 rfl) rfl)) (QF (b:=false) (Qg0 (d:=Qc m h2) (Qw (r:=⟨[Qg m R [],Qd t2],true,[1,7]⟩) rfl ed2 rfl) rfl (rb:=⟨Qc m h2,true,[6]⟩) rfl rfl (Qfz 7 _ _)) rfl)) (λh=>by cases h) (λ_=>Ql ?_))
 exact QN (QmV (a:=true) (b:=true) (Qle (d:=Qd t) (Qw (r:=⟨[Qg m R [],Qc m h],true,[1,2]⟩) rfl et rfl) rfl (rb:=⟨Qc m λi=>((t.getD i 0:Nat):Int),true,[5]⟩) rfl en1.symm (Qgl 7 _)) (Qle (d:=Qc (m+1) (up (λi=>((t.getD i 0:Nat):Int)) m (-1))) (ra:=⟨Qc (m+1) (up (λi=>((t.getD i 0:Nat):Int)) m (-1)),true,[4]⟩) rfl rfl (QoA (m:=m) (f:=λi=>((t.getD i 0:Nat):Int)) (ra:=⟨Qc m λi=>((t.getD i 0:Nat):Int),true,[5]⟩) rfl rfl (by omega)) rfl (Qfz 7 _ _))) ⟨rfl,rfl⟩
end HS
theorem HS.some_of{α:Type}{x:Option α}{d:α}(h:x.isSome=true):x=some (x.getD d):=by cases x with | none=>cases h | some a=>rfl
namespace Law
open PySem L2 HS
noncomputable section
def top(i:Nat):Stmt:=PySem.Challenge.pw_heapstill_k51_tree_of_a_heap.main.body.getD i (.Pass ⟨0,0,0,0⟩)
abbrev cst:List (Str×Int):=[]
abbrev Sc(s:Stmt)(P:List Str):Prop:=QbY (namesOf (Qo s)) P (Qo s)
theorem scM{s:Stmt}{P:List Str}(h1:(Qo s).kind= .function)(h2:(Qo s).isCoroutine=false)(h3:(Qo s).isGenerator=false)(h4:(namesOf (Qo s)).Nodup/\(namesOf (Qo s)).take P.length=P/\(∀x∈P,(Qo s).names.lookup x=some .local ∨(Qo s).names.lookup x=some .cell)/\∀y∈(Qo s).names,y.2≠ .free):Sc s P:=⟨h1,h2,h3,h4.1,h4.2.1,h4.2.2.1,h4.2.2.2⟩
noncomputable abbrev Cp(s:Stmt)(Γ:List (Str×FnR)):Option DS:=Qbj 60 (Qhc s Γ cst) (Qbd s)
noncomputable abbrev Dn(s:Stmt)(g:DS):Den:=Qr (namesOf (Qo s)).length g
noncomputable abbrev Gc(x:Str)(n:Nat)(d:Den)(Γ:List (Str×FnR)):List (Str×FnR):=(x,⟨n,[],d⟩)::Γ
abbrev QbD:=top 7
theorem Qjk:Sc QbD ["net","rows"]:=scM rfl rfl rfl (by decide+kernel)
theorem QkN:QA "need_rows" QbD ["net","rows"]:=λ_ _ _ _ _ _=>lc λ_=>lc λ_=>l0 rfl
def QfS:=(Cp QbD []).getD QH
theorem QkL:Cp QbD []=some QfS:=some_of (by decide+kernel)
abbrev Qbv:=Dn QbD QfS
abbrev Qd5:=Gc "need_rows" 2 Qbv []
abbrev Qbi:=top 8
theorem Qit:Sc Qbi ["net","heaps"]:=scM rfl rfl rfl (by decide+kernel)
theorem Qj1:QA "need_heaps" Qbi ["net","heaps"]:=λ_ _ _ _ _ _=>lc λ_=>lc λ_=>l0 rfl
def Qe9:=(Cp Qbi Qd5).getD QH
theorem Qkw:Cp Qbi Qd5=some Qe9:=some_of (by decide+kernel)
abbrev Qbn:=Dn Qbi Qe9
abbrev QdG:=Gc "need_heaps" 2 Qbn Qd5
abbrev Qdk:=top 10
theorem QoR:Sc Qdk ["roads","lanes"]:=scM rfl rfl rfl (by decide+kernel)
theorem Qql:QA "steps" Qdk ["roads","lanes"]:=λ_ _ _ _ _ _=>lc λ_=>lc λ_=>l0 rfl
def Qlw:=(Cp Qdk QdG).getD QH
theorem QqN:Cp Qdk QdG=some Qlw:=some_of (by decide+kernel)
abbrev Qcm:=Dn Qdk Qlw
abbrev Qg6:=Gc "steps" 2 Qcm QdG
abbrev Qa8:=top 11
theorem QiE:Sc Qa8 ["net"]:=scM rfl rfl rfl (by decide+kernel)
theorem Qj4:QA "toll_table" Qa8 ["net"]:=λ_ _ _ _ _ _=>lc λ_=>l0 rfl
def Qe3:=(Cp Qa8 Qg6).getD QH
theorem QjZ:Cp Qa8 Qg6=some Qe3:=some_of (by decide+kernel)
abbrev Q6:=Dn Qa8 Qe3
abbrev QdB:=Gc "toll_table" 1 Q6 Qg6
abbrev QbB:=top 12
theorem QjP:Sc QbB ["net"]:=scM rfl rfl rfl (by decide+kernel)
theorem QkO:QA "span_list" QbB ["net"]:=λ_ _ _ _ _ _=>lc λ_=>l0 rfl
def QfV:=(Cp QbB QdB).getD QH
theorem QkY:Cp QbB QdB=some QfV:=some_of (by decide+kernel)
abbrev Qby:=Dn QbB QfV
abbrev QdW:=Gc "span_list" 1 Qby QdB
abbrev QbR:=top 14
theorem QkX:Sc QbR ["net"]:=scM rfl rfl rfl (by decide+kernel)
theorem QlW:QA "is_plain" QbR ["net"]:=λ_ _ _ _ _ _=>lc λ_=>l0 rfl
def Qg1:=(Cp QbR QdW).getD QH
theorem Qmm:Cp QbR QdW=some Qg1:=some_of (by decide+kernel)
abbrev QbS:=Dn QbR Qg1
abbrev QeP:=Gc "is_plain" 1 QbS QdW
abbrev Qbm:=top 15
theorem QiA:Sc Qbm ["net"]:=scM rfl rfl rfl (by decide+kernel)
theorem Qjr:QA "need_plain" Qbm ["net"]:=λ_ _ _ _ _ _=>lc λ_=>l0 rfl
def Qfp:=(Cp Qbm QeP).getD QH
theorem QjI:Cp Qbm QeP=some Qfp:=some_of (by decide+kernel)
abbrev Qbb:=Dn Qbm Qfp
abbrev Qdx:=Gc "need_plain" 1 Qbb QeP
abbrev QaR:=top 17
theorem Qhj:Sc QaR ["toll","place","places"]:=scM rfl rfl rfl (by decide+kernel)
theorem Qir:QA "roads_among" QaR ["toll","place","places"]:=λ_ _ _ _ _ _=>lc λ_=>lc λ_=>lc λ_=>l0 rfl
def QeR:=(Cp QaR Qdx).getD QH
theorem Qip:Cp QaR Qdx=some QeR:=some_of (by decide+kernel)
abbrev QaP:=Dn QaR QeR
abbrev Qc2:=Gc "roads_among" 3 QaP Qdx
abbrev Qek:=top 19
theorem Qp7:Sc Qek ["net","heap"]:=scM rfl rfl rfl (by decide+kernel)
theorem QrX:QA "fire" Qek ["net","heap"]:=λ_ _ _ _ _ _=>lc λ_=>lc λ_=>l0 rfl
def QnC:=(Cp Qek Qc2).getD QH
theorem Qr0:Cp Qek Qc2=some QnC:=some_of (by decide+kernel)
abbrev Qcv:=Dn Qek QnC
abbrev Qjn:=Gc "fire" 2 Qcv Qc2
abbrev QaM:=top 20
theorem QhL:Sc QaM ["net","heap"]:=scM rfl rfl rfl (by decide+kernel)
theorem Qiu:QA "comes_again" QaM ["net","heap"]:=λ_ _ _ _ _ _=>lc λ_=>lc λ_=>l0 rfl
def QeQ:=(Cp QaM Qjn).getD QH
theorem Qiq:Cp QaM Qjn=some QeQ:=some_of (by decide+kernel)
abbrev QaO:=Dn QaM QeQ
abbrev Qda:=Gc "comes_again" 2 QaO Qjn
abbrev QbE:=top 24
theorem Qkn:Sc QbE ["net","place"]:=scM rfl rfl rfl (by decide+kernel)
theorem QkP:QA "road_ends" QbE ["net","place"]:=λ_ _ _ _ _ _=>lc λ_=>lc λ_=>l0 rfl
def QfW:=(Cp QbE Qda).getD QH
theorem QkJ:Cp QbE Qda=some QfW:=some_of (by decide+kernel)
abbrev QbA:=Dn QbE QfW
abbrev Qd0:=Gc "road_ends" 2 QbA Qda
abbrev QaL:=top 23
theorem QhB:Sc QaL ["net","place","marks"]:=scM rfl rfl rfl (by decide+kernel)
theorem Qix:QA "own_choices" QaL ["net","place","marks"]:=λ_ _ _ _ _ _=>lc λ_=>lc λ_=>lc λ_=>l0 rfl
def QeY:=(Cp QaL Qd0).getD QH
theorem Qiv:Cp QaL Qd0=some QeY:=some_of (by decide+kernel)
abbrev QaQ:=Dn QaL QeY
abbrev Qc5:=Gc "own_choices" 3 QaQ Qd0
abbrev Qck:=top 22
theorem Qmt:Sc Qck ["net","heap"]:=scM rfl rfl rfl (by decide+kernel)
theorem Qnv:QA "tree_of" Qck ["net","heap"]:=λ_ _ _ _ _ _=>lc λ_=>lc λ_=>l0 rfl
def QhZ:=(Cp Qck Qc5).getD QH
theorem Qns:Cp Qck Qc5=some QhZ:=some_of (by decide+kernel)
abbrev Qbo:=Dn Qck QhZ
abbrev Qe7:=Gc "tree_of" 2 Qbo Qc5
abbrev Qau:=top 26
theorem QgZ:Sc Qau ["_law_script","_law_k"]:=scM rfl rfl rfl (by decide+kernel)
theorem Qhz:QA "_law_cell_at" Qau ["_law_script","_law_k"]:=λ_ _ _ _ _ _=>lc λ_=>lc λ_=>l0 rfl
def Qeo:=(Cp Qau Qe7).getD QH
theorem Qhw:Cp Qau Qe7=some Qeo:=some_of (by decide+kernel)
abbrev QB:=Dn Qau Qeo
abbrev QcP:=Gc "_law_cell_at" 2 QB Qe7
abbrev Qbg:=top 27
theorem Qis:Sc Qbg ["_law_found"]:=scM rfl rfl rfl (by decide+kernel)
theorem QjJ:QA "_law_whole" Qbg ["_law_found"]:=λ_ _ _ _ _ _=>lc λ_=>l0 rfl
def Qfh:=(Cp Qbg QcP).getD QH
theorem Qkt:Cp Qbg QcP=some Qfh:=some_of (by decide+kernel)
abbrev Qbh:=Dn Qbg Qfh
abbrev QdK:=Gc "_law_whole" 1 Qbh QcP
abbrev QbU:=top 28
theorem QkH:Sc QbU ["_law_script"]:=scM rfl rfl rfl (by decide+kernel)
theorem QlO:QA "_law_net" QbU ["_law_script"]:=λ_ _ _ _ _ _=>lc λ_=>l0 rfl
def QgQ:=(Cp QbU QdK).getD QH
theorem Ql2:Cp QbU QdK=some QgQ:=some_of (by decide+kernel)
abbrev QbX:=Dn QbU QgQ
abbrev Qew:=Gc "_law_net" 1 QbX QdK
abbrev Qbk:=top 29
theorem Qiz:Sc Qbk ["_law_net_here","_law_place","_law_others"]:=scM rfl rfl rfl (by decide+kernel)
theorem Qkd:QA "_law_roads" Qbk ["_law_net_here","_law_place","_law_others"]:=λ_ _ _ _ _ _=>lc λ_=>lc λ_=>lc λ_=>l0 rfl
def Qe1:=(Cp Qbk Qew).getD QH
theorem Qkx:Cp Qbk Qew=some Qe1:=some_of (by decide+kernel)
abbrev QP:=Dn Qbk Qe1
abbrev QdD:=Gc "_law_roads" 3 QP Qew
abbrev Qbz:=top 30
theorem Qi6:Sc Qbz ["_law_net_here","_law_place"]:=scM rfl rfl rfl (by decide+kernel)
theorem QkS:QA "_law_span" Qbz ["_law_net_here","_law_place"]:=λ_ _ _ _ _ _=>lc λ_=>lc λ_=>l0 rfl
def QfZ:=(Cp Qbz QdD).getD QH
theorem QkG:Cp Qbz QdD=some QfZ:=some_of (by decide+kernel)
abbrev Qbw:=Dn Qbz QfZ
abbrev Qd3:=Gc "_law_span" 2 Qbw QdD
abbrev Qbl:=top 31
theorem Qiy:Sc Qbl ["_law_script","_law_net_here"]:=scM rfl rfl rfl (by decide+kernel)
theorem Qi8:QA "_law_order" Qbl ["_law_script","_law_net_here"]:=λ_ _ _ _ _ _=>lc λ_=>lc λ_=>l0 rfl
def Qe0:=(Cp Qbl Qd3).getD QH
theorem QjH:Cp Qbl Qd3=some Qe0:=some_of (by decide+kernel)
abbrev QaC:=Dn Qbl Qe0
abbrev QdF:=Gc "_law_order" 2 QaC Qd3
abbrev Qbu:=top 32
theorem Qjm:Sc Qbu ["_law_script","_law_net_here","_law_order_here"]:=scM rfl rfl rfl (by decide+kernel)
theorem QkE:QA "_law_heap" Qbu ["_law_script","_law_net_here","_law_order_here"]:=λ_ _ _ _ _ _=>lc λ_=>lc λ_=>lc λ_=>l0 rfl
def QfK:=(Cp Qbu QdF).getD QH
theorem QkQ:Cp Qbu QdF=some QfK:=some_of (by decide+kernel)
abbrev Qa2:=Dn Qbu QfK
abbrev QdZ:=Gc "_law_heap" 3 Qa2 QdF
abbrev Qaw:=top 33
theorem QgT:Sc Qaw ["_law_found","_law_many"]:=scM rfl rfl rfl (by decide+kernel)
theorem Qho:QA "_law_numbers" Qaw ["_law_found","_law_many"]:=λ_ _ _ _ _ _=>lc λ_=>lc λ_=>l0 rfl
def Qeh:=(Cp Qaw QdZ).getD QH
theorem QhK:Cp Qaw QdZ=some Qeh:=some_of (by decide+kernel)
abbrev Qaz:=Dn Qaw Qeh
abbrev QcQ:=Gc "_law_numbers" 2 Qaz QdZ
abbrev QaN:=top 34
theorem Qhy:Sc QaN ["_law_net_here","_law_tree"]:=scM rfl rfl rfl (by decide+kernel)
theorem QiH:QA "_law_depths" QaN ["_law_net_here","_law_tree"]:=λ_ _ _ _ _ _=>lc λ_=>lc λ_=>l0 rfl
def QeV:=(Cp QaN QcQ).getD QH
theorem QiG:Cp QaN QcQ=some QeV:=some_of (by decide+kernel)
abbrev Q0:=Dn QaN QeV
abbrev Qc3:=Gc "_law_depths" 2 Q0 QcQ
abbrev Qax:=top 35
theorem Qgr:Sc Qax ["_law_net_here","_law_tree"]:=scM rfl rfl rfl (by decide+kernel)
theorem Qhn:QA "_law_is_tree" Qax ["_law_net_here","_law_tree"]:=λ_ _ _ _ _ _=>lc λ_=>lc λ_=>l0 rfl
def Qel:=(Cp Qax Qc3).getD QH
theorem Qhd:Cp Qax Qc3=some Qel:=some_of (by decide+kernel)
abbrev Qag:=Dn Qax Qel
abbrev QcL:=Gc "_law_is_tree" 2 Qag Qc3
abbrev Qb0:=top 36
theorem QkU:Sc Qb0 ["_law_net_here","_law_tree"]:=scM rfl rfl rfl (by decide+kernel)
theorem Qml:QA "_law_due" Qb0 ["_law_net_here","_law_tree"]:=λ_ _ _ _ _ _=>lc λ_=>lc λ_=>l0 rfl
def QgU:=(Cp Qb0 QcL).getD QH
theorem Ql3:Cp Qb0 QcL=some QgU:=some_of (by decide+kernel)
abbrev Qbq:=Dn Qb0 QgU
abbrev QgI:=Gc "_law_due" 2 Qbq QcL
abbrev QfG:=top 37
theorem Qsz:Sc QfG ["_law_script"]:=scM rfl rfl rfl (by decide+kernel)
theorem Qt0:QA "law" QfG ["_law_script"]:=λ_ _ _ _ _ _=>lc λ_=>l0 rfl
def Qpw:=(Cp QfG QgI).getD QH
theorem Qtw:Cp QfG QgI=some Qpw:=some_of (by decide+kernel)
abbrev QlQ:=Dn QfG Qpw
theorem QkR:Qbv=Qr 3 (HS.QdX):=by kernel_rfl
theorem Qjl:Qbn=Qr 3 (HS.Qdv Qbv):=by kernel_rfl
theorem Qq4:Qcm=Qr 4 (HS.Qhi):=by kernel_rfl
theorem QjG:Q6=Qr 5 (HS.Qdq Qcm):=by kernel_rfl
theorem QkM:Qby=Qr 1 (HS.Qd2 Q6):=by kernel_rfl
theorem Qmb:QbS=Qr 1 (HS.Qgx):=by kernel_rfl
theorem Qi4:Qbb=Qr 1 (HS.QdJ QbS):=by kernel_rfl
theorem Qiw:QaP=Qr 3 (HS.QeW):=by kernel_rfl
theorem QsF:Qcv=Qr 8 (HS.Qm9 Qbb Qbn Q6 QaP):=by kernel_rfl
theorem QiF:QaO=Qr 4 (HS.QeT Qcv Qby):=by kernel_rfl
theorem QkK:QbA=Qr 2 (HS.QfT):=by kernel_rfl
theorem QiB:QaQ=Qr 7 (HS.QeS QbA):=by kernel_rfl
theorem QmK:Qbo=Qr 7 (HS.QhY Qcv QaO QaQ):=by kernel_rfl
theorem QhI:QB=Qr 2 (HS.Qej):=by kernel_rfl
theorem QjR:Qbh=Qr 1 (HS.Qe8):=by kernel_rfl
theorem QlU:QbX=Qr 9 (HS.QdE QB):=by kernel_rfl
theorem Qi0:QP=Qr 6 (HS.Qdt):=by kernel_rfl
theorem QkZ:Qbw=Qr 2 (HS.QeU QP):=by kernel_rfl
theorem QiW:QaC=Qr 7 (HS.QdH QB QP):=by kernel_rfl
theorem QkI:Qa2=Qr 8 (HS.QcC QP QB Qbw):=by kernel_rfl
theorem QhO:Qaz=Qr 3 (HS.Qdu Qbh):=by kernel_rfl
theorem QiD:Q0=Qr 7 (HS.QeX):=by kernel_rfl
theorem QhC:Qag=Qr 2 (HS.QcY Qaz Q0):=by kernel_rfl
theorem Ql5:Qbq=Qr 9 (HS.Qe5 Q0):=by kernel_rfl
theorem QtX:QlQ=Qr 8 (HS.Qil QbX QaC Qa2 Qbo Qag Qbq):=by kernel_rfl
end
end Law
namespace HS
open PySem PySem.Spec L2
noncomputable def Qox(mg:Str->Option Value):List Str->Prop
 | []=>True
 | x::r=>mg x=none/\Qox mg r
theorem Qkk{mg:Str->Option Value}:∀{l:List Str},Qox mg l->∀x∈l,mg x=none
 | [],_,x,h=>by simp at h
 | y::r,h,x,hx=>by
  rcases Zl.mp hx with rfl | hx
  ·exact h.1
  ·exact Qkk h.2 x hx
noncomputable def Qpo(mg:Str->Option Value):List (Str×Int)->Prop
 | []=>True
 | (x,i)::r=>(∃t,mg x=some (.int i t))/\Qpo mg r
theorem QjS{mg:Str->Option Value}:∀{l:List (Str×Int)},Qpo mg l->∀x i,look x l=some i->∃t,mg x=some (.int i t)
 | [],_,x,i,h=>by cases h
 | (y,j)::r,h,x,i,hx=>by
  unfold look at hx
  split at hx
  ·rename_i e;cases hx;subst e;exact h.1
  ·exact QjS h.2 x i hx
theorem Qsf{mg:Str->Option Value}{cs:List (Str×Int)}(b:Qox mg Qkl)(c:Qpo mg cs):Qeu mg cs:=⟨Qkk b,QjS c⟩
end HS
namespace Law
open HS
theorem Qmk:Qfj QB:=by rw[QhI];exact QpR
theorem Qsu:Qhx Qbh:=by rw[QjR];exact Qo2
theorem QuE:QkB QbX:=by rw[QlU];exact Qro Qmk
theorem Qi5:Qed QP:=by rw[Qi0];exact QlI
theorem QtM:QhH Qbw:=by rw[QkZ];exact QoM Qi5
theorem QsW:Qhp QaC:=by rw[QiW];exact Qo0 Qmk Qi5
theorem QtS:Qgi Qa2:=by rw[QkI];exact Qnx Qi5 Qmk QtM
theorem QuJ:QjW Qaz:=by rw[QhO];exact Qqf Qsu
theorem Qse:Qgo Q0:=by rw[QiD];exact Qrd
theorem QuH:Qf8 Qag:=by rw[QhC];exact QkW QuJ Qse
theorem Quu:Qi2 Qbq:=by rw[Ql5];exact QpM Qse
theorem QpE:Qff Q6:=by rw[QjG,Qq4];exact QqK
theorem QtH:Qjw Qbv:=by rw[QkR];exact QqJ
theorem Qsj:Qg9 Qbn:=by rw[Qjl];exact Qpc QtH
theorem Qsw:QhM QbS:=by rw[Qmb];exact Qo6
theorem Qs7:QhD Qbb:=by rw[Qi4];exact QnX Qsw
theorem Qtd:QhQ QaP:=by rw[Qiw];exact Qo7
theorem Qpu:Qgt Qcv:=by rw[QsF];exact Qrv Qs7 Qsj QpE Qtd
theorem Qsv:Qko Qby:=by rw[QkM];exact Qqd QpE
theorem QsY:QhF QaO:=by rw[QiF];exact Qn5 Qpu Qsv
theorem Qtu:Qhs QbA:=by rw[QkK];exact Qpi
theorem Qus:QlS QaQ:=by rw[QiB];exact Qtm Qtu
theorem Qrs:Qgh Qbo:=by rw[QmK];exact QnR Qpu QsY Qus
theorem Qsr(ns:List Int)(h:ns.length<=63):∃fr,QlQ [.lst (ns.map .int)]=some (.bl true,fr):=by
 rw[QtX]
 exact⟨true,Qs9 QuE QsW QtS Qrs QuH Quu ns h⟩
end Law
namespace PySem.W.Fast
def tw7969594755346164937:=0
def tw13446612133860113486:=0
def tw2009138077758601077:=0
def tw11130286422810276580:=0
def tw2458253852663822744:=0
def tw1764925625246959814:=0
def tw6904725671134646349:=0
def tw12417195977328522343:=0
def tw11189257989310136252:=0
def tw6311649455099194348:=0
def tw15104067724901671406:=0
def tw18146409761541969802:=0
def tw9695414764735763232:=0
def tw14231019805405044402:=0
def tw7383846008167089821:=0
def tw11239171840950285852:=0
def tw11808229591346689611:=0
def tw15595401523710396925:=0
def tw4186366240331920354:=0
def tw3375813420449511233:=0
def tw3229776622556502452:=0
def tw9027106155370866109:=0
def tw16347900634107866608:=0
def tw14641093592472006795:=0
def tw15788689852748878478:=0
def tw11141679017182400094:=0
def tw5963870967140971890:=0
def tw14167741700345689133:=0
def tw10010607458886723197:=0
def tw6885580776251440442:=0
def tw12372163439818269460:=0
def tw2640971223094102416:=0
def tw12431318896098010273:=0
def tw13105807350142256470:=0
def tw11501974743087566275:=0
def tw2662405627246710331:=0
def tw6434621178381255687:=0
def tw12256638996284588537:=0
def tw18066754224812200967:=0
def tw7310048181667122801:=0
def tw14908000471040682144:=0
def tw16954948754000106620:=0
def tw15013809492242608768:=0
def tw14355953554074861777:=0
def tw10088197028253535648:=0
def tw7893944465385652572:=0
def tw8127367034940563970:=0
def tw12972240664914268674:=0
def tw7700798899305134869:=0
def tw16871493928603547162:=0
def tw6269450023494713439:=0
def tw1630499115693160343:=0
def tw17462392047605014785:=0
def tw16412239135396614612:=0
def tw2467395653200982426:=0
def tw2133844088802653834:=0
def tw4506969460085640825:=0
def tw15277934985804347732:=0
def tw13569015836292077390:=0
def tw8847992877160782149:=0
def tw4014813576152241083:=0
def tw1293601487224161834:=0
def tw18183076664742030318:=0
def tw1423322439762054872:=0
def tw6758939698052783231:=0
def tw13048741765811501982:=0
def tw15893760476213283160:=0
def tw12697408302689814308:=0
def tw8212357945540021417:=0
def tw2377269083343452863:=0
def tw8522513005141178502:=0
def tw18436762510899644798:=0
def tw14985411979788910429:=0
def tw4230295310660937244:=0
def tw16846413405314204453:=0
def tw3408633079654806005:=0
def tw16515264075271577913:=0
def tw17267357165895805271:=0
def tw1686669914521457073:=0
def tw14904689486024462144:=0
def tw15508241847077809245:=0
def tw15171387130187305754:=0
def tw14683775805287676829:=0
def tw11506089449581352154:=0
def tw9060441007113728051:=0
end PySem.W.Fast
open PySem PySem.W PyProof.Rows HS
set_option maxRecDepth 100000 in
set_option maxHeartbeats 0 in
theorem PySem.Challenge.cw_heapstill_k51_tree_of_a_heap_holds : PySem.Challenge.rw_heapstill_k51_tree_of_a_heap.Holds := by
 w_on;o_law;k_head;(case hw=>w_witness2)
 k_fill
 refine HS.Qn1 (l:=PySem.Challenge.rw_heapstill_k51_tree_of_a_heap) (k:=25) (x:= "_law_script") (den:=Law.QlQ) rfl rfl ⟨rfl,by decide,by decide⟩ (λw h Y=>PySem.W.kIn_of Y) Law.Qsr ?F
 case F=>
  intro w mg fa h KX G hmg
  obtain⟨f_need_rows,f_need_heaps,f_steps,f_toll_table,f_span_list,f_is_plain,f_need_plain,f_roads_among,f_fire,f_comes_again,f_road_ends,f_own_choices,f_tree_of,f__law_cell_at,f__law_whole,f__law_net,f__law_roads,f__law_span,f__law_order,f__law_heap,f__law_numbers,f__law_depths,f__law_is_tree,f__law_due,f_law⟩:HS.Fact (L2.KOf KX) "need_rows" Law.QbD/\HS.Fact (L2.KOf KX) "need_heaps" Law.Qbi/\HS.Fact (L2.KOf KX) "steps" Law.Qdk/\HS.Fact (L2.KOf KX) "toll_table" Law.Qa8/\HS.Fact (L2.KOf KX) "span_list" Law.QbB/\HS.Fact (L2.KOf KX) "is_plain" Law.QbR/\HS.Fact (L2.KOf KX) "need_plain" Law.Qbm/\HS.Fact (L2.KOf KX) "roads_among" Law.QaR/\HS.Fact (L2.KOf KX) "fire" Law.Qek/\HS.Fact (L2.KOf KX) "comes_again" Law.QaM/\HS.Fact (L2.KOf KX) "road_ends" Law.QbE/\HS.Fact (L2.KOf KX) "own_choices" Law.QaL/\HS.Fact (L2.KOf KX) "tree_of" Law.Qck/\HS.Fact (L2.KOf KX) "_law_cell_at" Law.Qau/\HS.Fact (L2.KOf KX) "_law_whole" Law.Qbg/\HS.Fact (L2.KOf KX) "_law_net" Law.QbU/\HS.Fact (L2.KOf KX) "_law_roads" Law.Qbk/\HS.Fact (L2.KOf KX) "_law_span" Law.Qbz/\HS.Fact (L2.KOf KX) "_law_order" Law.Qbl/\HS.Fact (L2.KOf KX) "_law_heap" Law.Qbu/\HS.Fact (L2.KOf KX) "_law_numbers" Law.Qaw/\HS.Fact (L2.KOf KX) "_law_depths" Law.QaN/\HS.Fact (L2.KOf KX) "_law_is_tree" Law.Qax/\HS.Fact (L2.KOf KX) "_law_due" Law.Qb0/\HS.Fact (L2.KOf KX) "law" Law.QfG:=by
   refine⟨?_,?_,?_,?_,?_,?_,?_,?_,?_,?_,?_,?_,?_,?_,?_,?_,?_,?_,?_,?_,?_,?_,?_,?_,?_⟩<;>(dsimp only[L2.KOf];refine' HS.fact_mk ?a ?l ?c ?k;(case a=>k_is);(case l=>k_is);(case c=>k_is);(case k=>k_is))
  have M:HS.Qeu mg Law.cst:=by
   obtain⟨n_range,n_enumerate,n_zip,n_len,n_list,n_min,n_max,n_sum,n_abs,n_isinstance,n_int,n_bool,n_tuple,n_str,n_divmod,n_sorted,n_any,n_all,n_set⟩:PySem.W.nsIn (L2.KOf KX) mainGlobals "range" =some none/\PySem.W.nsIn (L2.KOf KX) mainGlobals "enumerate" =some none/\PySem.W.nsIn (L2.KOf KX) mainGlobals "zip" =some none/\PySem.W.nsIn (L2.KOf KX) mainGlobals "len" =some none/\PySem.W.nsIn (L2.KOf KX) mainGlobals "list" =some none/\PySem.W.nsIn (L2.KOf KX) mainGlobals "min" =some none/\PySem.W.nsIn (L2.KOf KX) mainGlobals "max" =some none/\PySem.W.nsIn (L2.KOf KX) mainGlobals "sum" =some none/\PySem.W.nsIn (L2.KOf KX) mainGlobals "abs" =some none/\PySem.W.nsIn (L2.KOf KX) mainGlobals "isinstance" =some none/\PySem.W.nsIn (L2.KOf KX) mainGlobals "int" =some none/\PySem.W.nsIn (L2.KOf KX) mainGlobals "bool" =some none/\PySem.W.nsIn (L2.KOf KX) mainGlobals "tuple" =some none/\PySem.W.nsIn (L2.KOf KX) mainGlobals "str" =some none/\PySem.W.nsIn (L2.KOf KX) mainGlobals "divmod" =some none/\PySem.W.nsIn (L2.KOf KX) mainGlobals "sorted" =some none/\PySem.W.nsIn (L2.KOf KX) mainGlobals "any" =some none/\PySem.W.nsIn (L2.KOf KX) mainGlobals "all" =some none/\PySem.W.nsIn (L2.KOf KX) mainGlobals "set" =some none:=by refine⟨?_,?_,?_,?_,?_,?_,?_,?_,?_,?_,?_,?_,?_,?_,?_,?_,?_,?_,?_⟩<;>(dsimp only[L2.KOf];k_is)
   exact HS.Qsf ⟨PySem.W.mg_none_of KX G n_range,PySem.W.mg_none_of KX G n_enumerate,PySem.W.mg_none_of KX G n_zip,PySem.W.mg_none_of KX G n_len,PySem.W.mg_none_of KX G n_list,PySem.W.mg_none_of KX G n_min,PySem.W.mg_none_of KX G n_max,PySem.W.mg_none_of KX G n_sum,PySem.W.mg_none_of KX G n_abs,PySem.W.mg_none_of KX G n_isinstance,PySem.W.mg_none_of KX G n_int,PySem.W.mg_none_of KX G n_bool,PySem.W.mg_none_of KX G n_tuple,PySem.W.mg_none_of KX G n_str,PySem.W.mg_none_of KX G n_divmod,PySem.W.mg_none_of KX G n_sorted,PySem.W.mg_none_of KX G n_any,PySem.W.mg_none_of KX G n_all,PySem.W.mg_none_of KX G n_set,True.intro⟩ True.intro
  have t0:∀base:Heap,HS.Qca (PySem.Challenge.rw_heapstill_k51_tree_of_a_heap).prog w (L2.KOf KX) mg base 0 []:=λ_=>HS.Qca.nil
  have t_need_rows:=λb=>(t0 b).cons (HS.QG KX G f_need_rows Law.Qjk Law.QkN M (t0 b) Law.QkL)
  have t_need_heaps:=λb=>(t_need_rows b).cons (HS.QG KX G f_need_heaps Law.Qit Law.Qj1 M (t_need_rows b) Law.Qkw)
  have t_steps:=λb=>(t_need_heaps b).cons (HS.QG KX G f_steps Law.QoR Law.Qql M (t_need_heaps b) Law.QqN)
  have t_toll_table:=λb=>(t_steps b).cons (HS.QG KX G f_toll_table Law.QiE Law.Qj4 M (t_steps b) Law.QjZ)
  have t_span_list:=λb=>(t_toll_table b).cons (HS.QG KX G f_span_list Law.QjP Law.QkO M (t_toll_table b) Law.QkY)
  have t_is_plain:=λb=>(t_span_list b).cons (HS.QG KX G f_is_plain Law.QkX Law.QlW M (t_span_list b) Law.Qmm)
  have t_need_plain:=λb=>(t_is_plain b).cons (HS.QG KX G f_need_plain Law.QiA Law.Qjr M (t_is_plain b) Law.QjI)
  have t_roads_among:=λb=>(t_need_plain b).cons (HS.QG KX G f_roads_among Law.Qhj Law.Qir M (t_need_plain b) Law.Qip)
  have t_fire:=λb=>(t_roads_among b).cons (HS.QG KX G f_fire Law.Qp7 Law.QrX M (t_roads_among b) Law.Qr0)
  have t_comes_again:=λb=>(t_fire b).cons (HS.QG KX G f_comes_again Law.QhL Law.Qiu M (t_fire b) Law.Qiq)
  have t_road_ends:=λb=>(t_comes_again b).cons (HS.QG KX G f_road_ends Law.Qkn Law.QkP M (t_comes_again b) Law.QkJ)
  have t_own_choices:=λb=>(t_road_ends b).cons (HS.QG KX G f_own_choices Law.QhB Law.Qix M (t_road_ends b) Law.Qiv)
  have t_tree_of:=λb=>(t_own_choices b).cons (HS.QG KX G f_tree_of Law.Qmt Law.Qnv M (t_own_choices b) Law.Qns)
  have t__law_cell_at:=λb=>(t_tree_of b).cons (HS.QG KX G f__law_cell_at Law.QgZ Law.Qhz M (t_tree_of b) Law.Qhw)
  have t__law_whole:=λb=>(t__law_cell_at b).cons (HS.QG KX G f__law_whole Law.Qis Law.QjJ M (t__law_cell_at b) Law.Qkt)
  have t__law_net:=λb=>(t__law_whole b).cons (HS.QG KX G f__law_net Law.QkH Law.QlO M (t__law_whole b) Law.Ql2)
  have t__law_roads:=λb=>(t__law_net b).cons (HS.QG KX G f__law_roads Law.Qiz Law.Qkd M (t__law_net b) Law.Qkx)
  have t__law_span:=λb=>(t__law_roads b).cons (HS.QG KX G f__law_span Law.Qi6 Law.QkS M (t__law_roads b) Law.QkG)
  have t__law_order:=λb=>(t__law_span b).cons (HS.QG KX G f__law_order Law.Qiy Law.Qi8 M (t__law_span b) Law.QjH)
  have t__law_heap:=λb=>(t__law_order b).cons (HS.QG KX G f__law_heap Law.Qjm Law.QkE M (t__law_order b) Law.QkQ)
  have t__law_numbers:=λb=>(t__law_heap b).cons (HS.QG KX G f__law_numbers Law.QgT Law.Qho M (t__law_heap b) Law.QhK)
  have t__law_depths:=λb=>(t__law_numbers b).cons (HS.QG KX G f__law_depths Law.Qhy Law.QiH M (t__law_numbers b) Law.QiG)
  have t__law_is_tree:=λb=>(t__law_depths b).cons (HS.QG KX G f__law_is_tree Law.Qgr Law.Qhn M (t__law_depths b) Law.Qhd)
  have t__law_due:=λb=>(t__law_is_tree b).cons (HS.QG KX G f__law_due Law.QkU Law.Qml M (t__law_is_tree b) Law.Ql3)
  exact HS.Qt5 KX G hmg f_law Law.Qsz Law.Qt0 M (λbase=>t__law_due base) Law.Qtw
