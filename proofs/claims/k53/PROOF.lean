import PyProof.Rows.All
import Wide.All
import OpenK.AllK
import Wide.FinOn
import Lean
import PyProof.EqAt
import PyProof.EqKinds
import PyProof.TupleCall
import PyProof.ZipIter
import PyProof.EnumMake
import PyProof.Rows.FactsT2
import PyProof.Rows.EnumRows
import PyProof.P3In
import PyProof.NeData
import KE.KUnpack
import PyProof.Rows.SumAny
import PyProof.Rows.MinMaxN
import PyProof.Rows.ListRangeD
import PyProof.Rows.Range3
import PyProof.Rows.RuleM_int
import PyProof.Rows.SortShell
import PyProof.Rows.SetFrom
import PyProof.CollectIter
import PyProof.SetRoads
import PySem.Challenge.RW_heapstill_k53_whole_there_and_back
set_option Elab.async false
set_option linter.all false
set_option maxRecDepth 100000
def Za:= @Option.bind_some
def Zb:= @List.getElem?_eq_some_iff
def Zc:= @List.mem_cons_of_mem
def Zd:= @List.length_map
def Ze:= @Option.map_eq_some_iff
def Zf:= @List.mem_range
def Zg:= @PySem.Heap.get?_push_of_some
def Zh:= @List.mem_cons_self
def Zi:= @List.mem_append_left
def Zj:= @List.getElem?_set_ne
def Zk:= @Bool.and_eq_true
def Zl:= @List.mem_append_right
def Zm:= @List.getElem?_map
def Zn:= @List.mem_cons
def Zo:= @List.length_cons
def Zp:= @List.getElem?_eq_getElem
def Zq:= @Nat.le_refl
def Zr:= @PySem.Heap.lt_size
def Zs:= @Array.length_toList
def Zt:= @List.length_append
def Zu:= @List.size_toArray
def Zv:= @List.getElem?_eq_none
def Zw:= @Int.toNat_natCast
def Zx:= @List.map_cons
def Zy:= @List.mem_of_getElem?
def Zz:= @PySem.Heap.get?_push_size
def ZA:= @List.mem_map
def ZC:= @List.lookup_cons
def ZD:= @List.map_congr_left
def ZE:= @List.length_range
def ZF:= @List.mem_singleton
def ZG:= @List.mem_filter
def ZH:= @List.getElem?_set_self
def ZI:= @Nat.lt_of_lt_of_le
def ZJ:= @Nat.ne_of_lt
def ZK:= @List.mem_append
def ZL:= @Int.emod_lt_of_pos
def ZM:= @Nat.le_trans
def ZN:= @Int.emod_nonneg
def ZO:= @Option.map_some
def ZP:= @List.map_map
def ZQ:= @Array.getElem?_eq_getElem
def ZR:= @List.sum_cons
def ZS:= @Array.getElem?_toList
def ZT:= @List.getElem?_range
def ZU:= @Nat.lt_irrefl
def ZV:= @List.getElem?_append_left
def ZW:= @PyProof.Rows.callWith_type1
def ZX:= @List.getD_eq_getElem?_getD
def ZY:= @List.map_append
def ZZ:= @Nat.zero_le
def Zaa:= @List.all_eq_true
def Zab:= @List.count_eq_zero
def Zac:= @List.nodup_cons
def Zad:= @Nat.lt_succ_of_lt
def Zae:= @List.eq_nil_of_length_eq_zero
def Zaf:= @PySem.Heap.size_push
def Zag:= @List.append_nil
def Zah:= @List.length_take
def Zai:= @List.filter_cons
def Zaj:= @PySem.mem_of_lookup
def Zak:= @List.replicate_succ
def Zal:= @List.count_append
def Zam:= @List.getElem?_of_mem
def Zan:= @List.length_drop
def Zao:= @List.nodup_range
def Zap:= @List.drop_eq_getElem_cons
def Zaq:= @Classical.byContradiction
def Zar:= @List.flatten_cons
def Zas:= @Bool.not_eq_true'
def Zat:= @Bool.false_ne_true
def Zau:= @Int.le_refl
def Zav:= @List.any_eq_false
def Zaw:= @List.nodup_nil
def Zax:= @List.nodup_append
def Zay:= @List.pairwise_map
def Zaz:= @List.ext_getElem?
def ZaA:= @List.count_pos_iff
def ZaB:= @List.nodup_iff_count
def ZaC:= @PySem.F.plainAttrs_list
def ZaD:= @List.length_set
def ZaE:= @List.range_succ
def ZaF:= @Nat.lt_succ_self
def ZaG:= @List.getElem?_append_right
def ZaH:= @List.pairwise_cons
def ZaI:= @Bool.false_eq_true
def ZaJ:= @List.length_singleton
def ZaK:= @List.take_append_drop
def ZaL:= @List.length_filter_le
def ZaM:= @List.set_eq_take_append_cons_drop
def ZaN:= @Bool.or_eq_true
def ZaO:= @List.count_cons
def ZaP:= @Nat.le_succ
def ZaQ:= @List.append_assoc
def ZaR:= @Int.add_mul
def ZaS:= @List.eraseIdx_cons_succ
def ZaT:= @Int.mul_le_mul_of_nonneg_right
def ZaU:= @PySem.Heap.get?_update_other
def ZaV:= @List.take_of_length_le
def ZaW:= @PySem.W.kia_one
def ZaX:= @Int.ediv_nonneg
def ZaY:= @List.nodup_iff_pairwise_ne
def ZaZ:= @List.filterMap_cons
def Zba:= @List.map_eq_nil_iff
def Zbb:= @PyProof.noPylong_of_log2
def Zbc:= @PySem.F.slot_list_append
def Zbd:= @PySem.F.type_list_append
def Zbe:= @List.length_erase_of_mem
def Zbf:= @List.Pairwise.imp_of_mem
def Zbg:= @List.mem_filterMap
def Zbh:= @Nat.eq_zero_or_pos
def Zbi:= @Nat.le_of_lt
def Zbj:= @Nat.ne_of_gt
def Zbk:= @PyProof.Rows.boot_list
def Zbl:= @Int.le_trans
def Zbm:= @List.pairwise_lt_range
def Zbn:= @Int.zero_mul
def Zbo:= @Int.mul_nonneg
def Zbp:= @List.filter_congr
def Zbq:= @PySem.Heap.get?_update_self
def Zbr:= @PyProof.Rows.callWith_builtin1
def Zbs:= @List.cons_append
def Zbt:= @List.mem_flatten
def Zbu:= @Nat.min_le_right
def Zbv:= @List.take_length
def Zbw:= @Nat.add_le_add_right
def Zbx:= @List.getElem?_zipIdx
def Zby:= @List.mem_erase_of_ne
def Zbz:= @Nat.pow_le_pow_right
def ZbA:= @List.foldl_cons
def ZbB:= @List.nil_append
def ZbC:= @List.take_succ_cons
def ZbD:= @PySem.Heap.SameBut.update
def ZbE:= @List.filter_eq_self
def ZbF:= @List.sum_append_int
def ZbG:= @Int.toNat_of_nonneg
def ZbH:= @List.all_map
def ZbI:= @Int.natCast_nonneg
def ZbJ:= @Int.fdiv_eq_ediv_of_nonneg
def ZbK:= @PySem.Calls.spliced_cons
def ZbL:= @Nat.lt_of_le_of_lt
def ZbM:= @List.getElem?_eq_none_iff
def ZbN:= @List.getElem?_zip_eq_some
def ZbO:= @List.pairwise_iff_getElem
def ZbP:= @PySem.Value.isInt_shape
def ZbQ:= @PySem.Calls.spliced_nil
def ZbR:= @List.foldl_append
def ZbS:= @Option.isSome_iff_exists
def ZbT:= @Bool.true_and
def ZbU:= @Prod.fst_swap
def ZbV:= @List.map_take
def ZbW:= @List.getElem?_replicate
def ZbX:= @List.not_mem_nil
def ZbY:= @List.foldlM_cons
def ZbZ:= @List.drop_length
def Zca:= @List.getElem_mem
def Zcb:= @Classical.axiomOfChoice
def Zcc:= @List.filter_cons_of_pos
def Zcd:= @PySem.W.cellsFrom_some
def Zce:= @List.map_nil
def Zcf:= @Nat.lt_trans
def Zcg:= @Nat.zero_add
def Zch:= @List.range_succ_eq_map
def Zci:= @List.append_eq_nil_iff
def Zcj:= @List.drop_of_length_le
def Zck:= @List.filter_eq_nil_iff
def Zcl:= @List.length_pos_of_mem
def Zcm:= @List.of_mem_zip
def Zcn:= @List.sum_append
def Zco:= @Nat.min_eq_left
def Zcp:= @Nat.log2_lt
def Zcq:= @Int.one_mul
def Zcr:= @List.take_succ
def Zcs:= @List.map_drop
def Zct:= @Int.mul_assoc
def Zcu:= @Prod.snd_swap
def Zcv:= @List.any_cons
namespace L2
open PySem PySem.Spec PyProof.Rows
noncomputable abbrev Key:=Sum Int Str
noncomputable def QrI:Key->Value->Bool
 | .inl k,v=>Value.isInt k v
 | .inr x,v=>Value.isStrOf x v
noncomputable def Qxq(w:World):Key->Int
 | .inl k=>hashInt k
 | .inr x=>hashStr w x
theorem QaM:∀{k:Key}{v:Value},QrI k v=true->(∃i t,k=Sum.inl i/\v=Value.int i t)∨(∃x t,k=Sum.inr x/\v=Value.str x t)
 | .inl i,v,h=>by
  obtain⟨t,e⟩:=ZbP (k:=i) (v:=v) h
  exact .inl ⟨i,t,rfl,e⟩
 | .inr x,v,h=>by
  obtain⟨t,e⟩:=Value.isStrOf_shape (x:=x) (v:=v) h
  exact .inr ⟨x,t,rfl,e⟩
theorem QvN(a b:Int):decide ((Sum.inl a:Key)=Sum.inl b)=(a == b):=by
 by_cases e:a=b
 ·subst e;simp
 ·have h:¬(Sum.inl a:Key)=Sum.inl b:=λq=>e (Sum.inl.inj q)
  rw[decide_eq_false h]
  exact(beq_eq_false_iff_ne.mpr e).symm
theorem Qug(a b:Str):decide ((Sum.inr a:Key)=Sum.inr b)=decide (a=b):=by
 by_cases e:a=b
 ·subst e;simp
 ·have h:¬(Sum.inr a:Key)=Sum.inr b:=λq=>e (Sum.inr.inj q)
  rw[decide_eq_false h,decide_eq_false e]
theorem Qt6(a:Int)(b:Str):decide ((Sum.inl a:Key)=Sum.inr b)=false:=decide_eq_false (λq=>nomatch q)
theorem Qud(a:Str)(b:Int):decide ((Sum.inr a:Key)=Sum.inl b)=false:=decide_eq_false (λq=>nomatch q)
noncomputable def QiA(prog:Program)(w:World):PySem.KeyKind prog w Key where
 is:=QrI
 hash:=Qxq w
 inj:=λv a b ha hb=>by
  rcases QaM ha with⟨i,t,rfl,rfl⟩ | ⟨x,t,rfl,rfl⟩
  ·rcases QaM hb with⟨j,u,rfl,e⟩ | ⟨y,u,rfl,e⟩
   ·injection e with e1 _;rw[e1]
   ·exact nomatch e
  ·rcases QaM hb with⟨j,u,rfl,e⟩ | ⟨y,u,rfl,e⟩
   ·exact nomatch e
   ·injection e with e1 _;rw[e1]
 byValue:=λk v h=>by
  rcases QaM h with⟨i,t,rfl,rfl⟩ | ⟨x,t,rfl,rfl⟩<;>rfl
 pyHash:=λhv h=>by
  rcases QaM hv with⟨i,t,rfl,rfl⟩ | ⟨x,t,rfl,rfl⟩
  ·exact wpAny_pyHash_int h
  ·exact wpAny_pyHash_str h
 eqBool:=λhu hv h=>by
  rcases QaM hu with⟨i,t,rfl,rfl⟩ | ⟨x,t,rfl,rfl⟩
  ·rcases QaM hv with⟨j,u,rfl,rfl⟩ | ⟨y,u,rfl,rfl⟩
   ·rw[QvN]at h;exact wpAny_eqBool_int h
   ·rw[Qt6]at h;exact SeqAt.EqAt.int_str i t y u _ _ _ _ h
  ·rcases QaM hv with⟨j,u,rfl,rfl⟩ | ⟨y,u,rfl,rfl⟩
   ·rw[Qud]at h;exact SeqAt.EqAt.str_int x t j u _ _ _ _ h
   ·rw[Qug]at h;exact wpAny_eqBool_str h
 «strs» :=λk x t v h=>by
  rcases QaM h with⟨i,u,rfl,e⟩ | ⟨y,u,rfl,e⟩
  ·exact nomatch e
  ·injection e with e1 _
   subst e1
   cases v<;>rfl
end L2
namespace L2
open PySem PySem.Spec PyProof.Rows
inductive V where
 | non | bl (b:Bool) | int (i:Int) | str (x:Str) | byt (b:Array UInt8) | flt (b:UInt64) | ref (a:Addr) | ty (n:String)
 deriving DecidableEq
noncomputable def RelV:V->Value->Prop
 | .non,u=>u=Value.none
 | .bl b,u=>u=Value.bool b
 | .int i,u=>∃t,u=Value.int i t
 | .str x,u=>∃t,u=Value.str x t
 | .byt b,u=>∃t,u=Value.bytes b t
 | .flt b,u=>∃t,u=Value.float b t
 | .ref a,u=>u=Value.ref a
 | .ty n,u=>u=Value.type n
noncomputable abbrev Qt:List V->List Value->Prop:=Paired RelV
theorem Qt.length{xs:List V}{us:List Value}(r:Qt xs us):xs.length=us.length:=Paired.length r
theorem Qt.get:∀{xs:List V}{us:List Value}{i:Nat}{x:V},Qt xs us->xs[i]? =some x->∃u,us[i]? =some u/\RelV x u
 | _,_,_,_,.nil,e=>by simp at e
 | _,_,0,_,.cons r _,e=>by simp at e;subst e;exact⟨_,rfl,r⟩
 | _,_,i+1,x,.cons _ t,e=>by
  obtain⟨u,h1,h2⟩:=Qt.get (i:=i) (x:=x) t (by simpa using e)
  exact⟨u,by simpa using h1,h2⟩
theorem Qt.set{x:V}{u:Value}(r:RelV x u):∀{xs:List V}{us:List Value}(i:Nat),Qt xs us->Qt (xs.set i x) (us.set i u)
 | _,_,_,.nil=> .nil
 | _,_,0,.cons _ t=> .cons r t
 | _,_,i+1,.cons q t=> .cons q (Qt.set r i t)
theorem exK{α β γ δ:Type}{P Q R:α->β->γ->δ->Prop}{G:Prop}(k:∀a b c d,P a b c d->Q a b c d->R a b c d->G)(h:∃a b c d,P a b c d/\Q a b c d/\R a b c d):G:=let ⟨a,b,c,d,p,q,r⟩:=h;k a b c d p q r
theorem exJ{α β:Type}{P Q R:α->β->Prop}{G:Prop}(k:∀a b,P a b->Q a b->R a b->G)(h:∃a b,P a b/\Q a b/\R a b):G:=let ⟨a,b,p,q,r⟩:=h;k a b p q r
theorem Qt.append{xs ys:List V}{us ws:List Value}(h:Qt xs us)(s:Qt ys ws):Qt (xs++ys) (us++ws):=by
 induction h with
 | nil=>exact s
 | cons r t ih=>exact .cons r ih
theorem Qt.take:∀{xs:List V}{us:List Value}(n:Nat),Qt xs us->Qt (xs.take n) (us.take n)
 | _,_,0,_=> .nil
 | _,_,_+1,.nil=> .nil
 | _,_,n+1,.cons r t=> .cons r (Qt.take n t)
theorem Qt.drop:∀{xs:List V}{us:List Value}(n:Nat),Qt xs us->Qt (xs.drop n) (us.drop n)
 | _,_,0,r=>r
 | _,_,_+1,.nil=> .nil
 | _,_,n+1,.cons _ t=>Qt.drop n t
theorem Qt.none_of:∀{xs:List V}{us:List Value}{i:Nat},Qt xs us->xs[i]? =none->us[i]? =none:=λ{xs us i} r e=>by
 have h1:=r.length
 have h2:xs.length<=i:=ZbM.mp e
 exact ZbM.mpr (by omega)
noncomputable def QiI:Option V->Option Value->Prop
 | some v,some u=>RelV v u
 | none,none=>True
 | _,_=>False
noncomputable def KV{κ:Type}:List (κ×V)->List (κ×Value)->Prop:=Paired λ(p:κ×V) (q:κ×Value)=>p.1=q.1/\RelV p.2 q.2
noncomputable def kV:Key->V
 | .inl i=> .int i
 | .inr x=> .str x
inductive HO where
 | lst (xs:List V)
 | tup (xs:List V)
 | dK (kvs:List (Key×V)) | dT (kvs:List (List Key×V))
 | set (S:Int->Bool) (n:Nat)
 | ins (C dx:Addr) (fs:List (Str×V))
 | own (x:Addr)
 | xd (fs:List (Str×V))
 | met (f x:Addr)
 | rng (lo hi:Int)
 | frz (o:Obj) (u:HO)
 | tbl (ps:Array Value)
 | ext (φ:Heap->Prop)
noncomputable abbrev Hp:=Addr->Option HO
noncomputable def upd(H:Hp)(a:Addr)(o:HO):Hp:=λb=>if b=a then some o else H b
theorem QaF{H:Hp}{a:Addr}{o:HO}:upd H a o a=some o:=by unfold upd;rw[if_pos rfl]
theorem QJ{H:Hp}{a b:Addr}{o:HO}(h:b≠a):upd H a o b=H b:=by unfold upd;rw[if_neg h]
theorem Qkh{H:Hp}{a b:Addr}{o u:HO}(h:H a=some o)(h':H b=some u)(d:o≠u):a≠b:=by
 intro e;subst e;rw[h]at h';exact d (Option.some.inj h')
theorem Qbr{H:Hp}{a b:Addr}{o:HO}(h:H a=some o)(h':H b=none):a≠b:=by
 intro e;subst e;rw[h]at h';cases h'
section
variable (P:Program) (w:World)
noncomputable def Qcr(H:Hp)(h:Heap)(a:Addr):HO->Prop
 | .lst xs=>xs.length<=sizeLine/\∃(its:List Value) (n:Nat),Qt xs its/\h.get? a=some {cls:= .type "list",data:= .seq its.toArray n}
 | .tup xs=>xs.length<=sizeLine/\∃its:List Value,Qt xs its/\IsTup h a its.toArray
 | .dK kvs=>kvs.length<=sizeLine/\(a == sysModules)=false/\∃vs,KV kvs vs/\h.DictOf (QiA P w) a vs
 | .dT kvs=>kvs.length<=sizeLine/\(a == sysModules)=false/\∃xs:List (List Key×Addr×Value),
   Paired (λ(p:List Key×V) (q:List Key×Addr×Value)=>p.1=q.1/\H q.2.1=some (.tup (p.1.map kV))/\RelV p.2 q.2.2) kvs xs∧
   ∃o es ep,h.get? a=some o/\o.ExactDict/\o.data= .dict es ep/\es.toList=xs.map (entryOfKey (tupleKind (QiA P w)))/\(xs.map (·.1)).Nodup
 | .set S n=>h.SetOf (intKind P w) a S n
 | .ins C dx fs=>H dx=some (.own a)/\fs.length<=1000/\dx≠a/\h.get? a=some (PySem.W.instObj C dx)∧
   ∃mA,h.Ns1 dx mA/\(∀f,QiI (fs.lookup f) (mA f))/\PySem.Within mA (fs.map (·.1))
 | .own _=>∃o,h.get? a=some o
 | .xd fs=>∃mA,h.Ns1 a mA/\∀f,QiI (fs.lookup f) (mA f)
 | .rng lo hi=>∃t u v,h.get? a=some {cls:= .type "range",data:= .fields #[.int lo t,.int hi u,.int 1 v]}
 | .frz o u=>h.get? a=some o/\Qcr H h a u
 | .tbl ps=>h.get? a=some {cls:= .none,data:= .fields ps}
 | .met f x=>h.get? a=some (PySem.W.methodObj (.ref f) (.ref x))
 | .ext φ=>φ h/\(∃o,h.get? a=some o)/\∀h1 h2:Heap,φ h1->(∀o,h1.get? a=some o->h2.get? a=some o)->φ h2
def HOk(H:Hp)(h:Heap):Prop:=∀a o,H a=some o->Qcr P w H h a o
end
section
variable {P:Program}{w:World}{H H':Hp}{h h':Heap}{a:Addr}{o:HO}
theorem Qcr.lt(x:Qcr P w H h a o):a<h.objs.size:=by
 cases o with
 | lst xs=>obtain⟨_,_,_,_,e⟩:=x;exact Zr e
 | tup xs=>obtain⟨_,_,_,p⟩:=x;exact p.lt
 | dK kvs=>obtain⟨_,_,_,_,o,_,_,e,_⟩:=x;exact Zr e
 | dT kvs=>obtain⟨_,_,_,_,o,_,_,e,_⟩:=x;exact Zr e
 | set S n=>obtain⟨o,_,_,_,e,_⟩:=x;exact Zr e
 | ins C dx fs=>obtain⟨_,_,_,e,_⟩:=x;exact Zr e
 | own y=>obtain⟨_,e⟩:=x;exact Zr e
 | xd fs=>obtain⟨_,⟨_,_,_,e,_⟩,_⟩:=x;exact Zr e
 | rng lo hi=>obtain⟨_,_,_,e⟩:=x;exact Zr e
 | frz ob u=>obtain⟨e,_⟩:=x;exact Zr e
 | tbl ps=>exact Zr (show h.get? a=some _ from x)
 | met f y=>exact Zr (show h.get? a=some _ from x)
 | ext φ=>obtain⟨_,⟨_,e⟩,_⟩:=x;exact Zr e
theorem Paired.QuJ{α β:Type}{F G:α->β->Prop}:∀{l₁:List α}{l₂:List β},Paired F l₁ l₂->(∀a b,F a b->G a b)->Paired G l₁ l₂
 | _,_,.nil,_=> .nil
 | _,_,.cons r t,f=> .cons (f _ _ r) (Paired.QuJ t f)
theorem Qcr.QeS(x:Qcr P w H h a o)(k:∀b u,(b=a∨H b=some (.own a))->h.get? b=some u->h'.get? b=some u)
  (ho:∀b,H b=some (.own a)->H' b=some (.own a)) (ht:∀b xs,H b=some (.tup xs)->H' b=some (.tup xs)):Qcr P w H' h' a o:=by
 induction o with
 | lst xs=>obtain⟨z,its,n,r,e⟩:=x;exact⟨z,its,n,r,k _ _ (.inl rfl) e⟩
 | tup xs=>obtain⟨z,its,r,ob,e,c⟩:=x;exact⟨z,its,r,ob,k _ _ (.inl rfl) e,c⟩
 | dK kvs=>obtain⟨z,y,vs,r,ob,es,ep,e,c⟩:=x;exact⟨z,y,vs,r,ob,es,ep,k _ _ (.inl rfl) e,c⟩
 | dT kvs=>
  obtain⟨z,y,xs,r,ob,es,ep,e,c⟩:=x
  exact⟨z,y,xs,Paired.QuJ r λp q z=>⟨z.1,ht _ _ z.2.1,z.2.2⟩,ob,es,ep,k _ _ (.inl rfl) e,c⟩
 | set S n=>obtain⟨ob,es,ep,t,e,c⟩:=x;exact⟨ob,es,ep,t,k _ _ (.inl rfl) e,c⟩
 | ins C dx fs=>
  obtain⟨d,z,ne,e,mA,⟨od,es,ep,e2,c⟩,r⟩:=x
  exact⟨ho _ d,z,ne,k _ _ (.inl rfl) e,mA,⟨od,es,ep,k _ _ (.inr d) e2,c⟩,r⟩
 | own y=>obtain⟨ob,e⟩:=x;exact⟨ob,k _ _ (.inl rfl) e⟩
 | xd fs=>obtain⟨mA,⟨od,es,ep,e,c⟩,r⟩:=x;exact⟨mA,⟨od,es,ep,k _ _ (.inl rfl) e,c⟩,r⟩
 | rng lo hi=>obtain⟨t,u,v,e⟩:=x;exact⟨t,u,v,k _ _ (.inl rfl) e⟩
 | frz ob u ih=>obtain⟨e,q⟩:=x;exact⟨k _ _ (.inl rfl) e,ih q⟩
 | tbl ps=>
  have e:h.get? a=some {cls:= .none,data:= .fields ps}:=x
  show h'.get? a=some {cls:= .none,data:= .fields ps}
  exact k a _ (.inl rfl) e
 | met f y=>
  have e:h.get? a=some (PySem.W.methodObj (.ref f) (.ref y)):=x
  show h'.get? a=some (PySem.W.methodObj (.ref f) (.ref y))
  exact k a _ (.inl rfl) e
 | ext φ=>obtain⟨p,⟨o,e⟩,st⟩:=x;exact⟨st _ _ p λo q=>k _ _ (.inl rfl) q,⟨o,k _ _ (.inl rfl) e⟩,st⟩
theorem HOk.lt(x:HOk P w H h)(e:H a=some o):a<h.objs.size:=(x a o e).lt
theorem HOk.fresh(x:HOk P w H h)(e:h.objs.size<=a):H a=none:=by
 cases q:H a with
 | none=>rfl
 | some u=>exact absurd (ZI (x.lt q) e) (ZU _)
theorem HOk.kept(x:HOk P w H h)(k:∀b u,h.get? b=some u->h'.get? b=some u):HOk P w H h':=λa o e=>
 (x a o e).QeS (λb u _ q=>k b u q) (λ_ q=>q) λ_ _ q=>q
theorem HOk.laid(x:HOk P w H h)(k:∀b u,h.get? b=some u->h'.get? b=some u)(hp:h.objs.size<=a)(new:Qcr P w (upd H a o) h' a o):HOk P w (upd H a o) h':=λb u e=>by
 have hn:=x.fresh hp
 by_cases hb:b=a
 ·subst hb;rw[QaF]at e;cases e;exact new
 ·rw[QJ hb]at e
  exact(x b u e).QeS (λc v _ q=>k c v q) (λc q=>by rw[QJ (Qbr q hn)];exact q) λc xs q=>by rw[QJ (Qbr q hn)];exact q
end
def Rd(H:Hp)(a:Addr)(u:HO):Prop:=H a=some u∨∃o,H a=some (.frz o u)
theorem Rd.of{H:Hp}{a:Addr}{u:HO}(h:H a=some u):Rd H a u:= .inl h
theorem Rd.ok{P:Program}{w:World}{H:Hp}{h:Heap}{a:Addr}{u:HO}(r:Rd H a u)(x:HOk P w H h):Qcr P w H h a u:=by
 rcases r with r | ⟨o,r⟩
 ·exact x a u r
 ·obtain⟨_,q⟩:=x a _ r
  exact q
noncomputable def Mut:Option HO->Prop
 | some (.lst _)=>True
 | some (.dK _)=>True
 | some (.dT _)=>True
 | some (.set _ _)=>True
 | some (.ins _ _ _)=>True
 | some (.ext _)=>True
 | _=>False
section
variable {P:Program}{w:World}{H:Hp}{h h':Heap}{x e:Addr}{o':HO}
theorem HOk.write(ok:HOk P w H h)(mu:Mut (H x))(he:e=x∨H e=some (.own x))(k:∀b u,b≠e->h.get? b=some u->h'.get? b=some u)(heo:∃u,h'.get? e=some u)
  (new:Qcr P w (upd H x o') h' x o'):HOk P w (upd H x o') h':=λb u q=>by
 have nown:∀c y,H c=some (.own y)->c≠x:=λc y r z=>by subst z;rw[r]at mu;exact mu
 have ntup:∀c xs,H c=some (.tup xs)->c≠x:=λc xs r z=>by subst z;rw[r]at mu;exact mu
 by_cases hb:b=x
 ·subst hb;rw[QaF]at q;cases q;exact new
 ·rw[QJ hb]at q
  by_cases hbe:b=e
  ·have q':H b=some (.own x):=by
    rcases he with z | z
    ·exact absurd (hbe.trans z) hb
    ·rw[hbe];exact z
   rw[q]at q';cases q'
   obtain⟨v,hv⟩:=heo
   exact⟨v,by rw[hbe];exact hv⟩
  ·refine(ok b u q).QeS (λc v hc r=>k c v ?_ r) (λc r=>by rw[QJ (nown c b r)];exact r) λc xs r=>by rw[QJ (ntup c xs r)];exact r
   rcases hc with rfl | hc
   ·exact hbe
   ·rintro rfl
    rcases he with z | z
    ·exact nown c b hc z
    ·rw[hc]at z;cases z;exact hb rfl
end
structure Un (fs ex:List Addr) (H H':Hp) (h h':Heap):Prop where
 keep:∀b o,h.get? b=some o->H b=none->b∉fs->b∉ex->h'.get? b=some o
 slot:∀b o,h.get? b=some o->H b=none->b∈fs->b∉ex->∃sl,h'.get? b=some {o with slots:=sl}
 free:∀b o,h.get? b=some o->H b=none->b∉ex->H' b=none
 there:∀b o,h.get? b=some o->b∉ex->∃o',h'.get? b=some o'
 tups:∀b xs,H b=some (.tup xs)->H' b=some (.tup xs)
 frzs:∀b o u,H b=some (.frz o u)->H' b=some (.frz o u)
 tbls:∀b ps,H b=some (.tbl ps)->∃more,H' b=some (.tbl (ps++more))
section
variable {fs fs' ex ex':List Addr}{H H1 H2:Hp}{h h1 h2 h':Heap}{a x e:Addr}{o:HO}
theorem Un.any(u:Un fs ex H H1 h h1){b:Addr}{ob:Obj}(q:h.get? b=some ob)(n:H b=none)(hx:b∉ex):∃sl,h1.get? b=some {ob with slots:=sl}:=by
 by_cases hb:b∈fs
 ·exact u.slot b ob q n hb hx
 ·exact⟨ob.slots,u.keep b ob q n hb hx⟩
theorem Un.trans(a:Un fs ex H H1 h h1)(b:Un fs ex H1 H2 h1 h2):Un fs ex H H2 h h2 where
 keep:=λc ob q n hc hx=>b.keep c ob (a.keep c ob q n hc hx) (a.free c ob q n hx) hc hx
 slot:=λc ob q n hc hx=>by
  obtain⟨sl,e1⟩:=a.slot c ob q n hc hx
  obtain⟨sl',e2⟩:=b.slot c _ e1 (a.free c ob q n hx) hc hx
  exact⟨sl',e2⟩
 free:=λc ob q n hx=>by
  obtain⟨o',e1⟩:=a.there c ob q hx
  exact b.free c o' e1 (a.free c ob q n hx) hx
 there:=λc ob q hx=>by
  obtain⟨o',e1⟩:=a.there c ob q hx
  exact b.there c o' e1 hx
 tups:=λc xs q=>b.tups c xs (a.tups c xs q)
 frzs:=λc ob xs q=>b.frzs c ob xs (a.frzs c ob xs q)
 tbls:=λc ps q=>by
  obtain⟨m1,e1⟩:=a.tbls c ps q
  obtain⟨m2,e2⟩:=b.tbls c _ e1
  exact⟨m1++m2,by rw[e2,Array.append_assoc]⟩
theorem Un.kept(k:∀b u,h.get? b=some u->h'.get? b=some u):Un fs ex H H h h':=
 ⟨λb ob q _ _ _=>k b ob q,λb ob q _ _ _=>⟨ob.slots,k b ob q⟩,λ_ _ _ n _=>n,λb ob q _=>⟨ob,k b ob q⟩,λ_ _ q=>q,λ_ _ _ q=>q,λ_ ps q=>⟨#[],by rw[q];simp⟩⟩
theorem Un.refl:Un fs ex H H h h:=Un.kept λ_ _ q=>q
theorem Un.laid(k:∀b u,h.get? b=some u->h'.get? b=some u)(hp:h.objs.size<=a)(hn:H a=none):Un fs ex H (upd H a o) h h' where
 keep:=λb u q _ _ _=>k b u q
 slot:=λb u q _ _ _=>⟨u.slots,k b u q⟩
 free:=λb u q n _=>by rw[QJ (ZJ (ZI (Zr q) hp))];exact n
 there:=λb u q _=>⟨u,k b u q⟩
 tups:=λb xs q=>by rw[QJ (Qbr q hn)];exact q
 frzs:=λb u xs q=>by rw[QJ (Qbr q hn)];exact q
 tbls:=λb ps q=>⟨#[],by rw[QJ (Qbr q hn),q];simp⟩
theorem Un.write(mu:Mut (H x))(he:e=x∨H e=some (.own x))(k:∀b u,b≠e->h.get? b=some u->h'.get? b=some u)(heo:∃u,h'.get? e=some u):Un fs ex H (upd H x o) h h':=by
 have hx:∀b,H b=none->b≠x:=λb n z=>by subst z;rw[n]at mu;exact mu
 have hb:∀b,H b=none->b≠e:=λb n z=>by
  subst z
  rcases he with r | r
  ·exact hx b n r
  ·rw[n]at r;cases r
 have hm:∀b u,H b=some u->¬Mut (some u)->b≠x:=λb u q nm z=>by subst z;rw[q]at mu;exact nm mu
 refine⟨λb u q n _ _=>k b u (hb b n) q,λb u q n _ _=>⟨u.slots,k b u (hb b n) q⟩,λb u q n _=>by rw[QJ (hx b n)];exact n,λb u q _=>?_,
  λb xs q=>by rw[QJ (hm b _ q λz=>z)];exact q,λb u xs q=>by rw[QJ (hm b _ q λz=>z)];exact q,λb ps q=>⟨#[],by rw[QJ (hm b _ q λz=>z),q];simp⟩⟩
 by_cases hbe:b=e
 ·subst hbe;exact heo
 ·exact⟨u,k b u hbe q⟩
theorem Un.mono(u:Un fs ex H H1 h h1)(hs:∀b∈fs,b∈fs')(hx:∀b∈ex,b∈ex'):Un fs' ex' H H1 h h1:=
 ⟨λb ob q n hb he=>u.keep b ob q n (λz=>hb (hs b z)) λz=>he (hx b z),λ_ _ q n _ he=>u.any q n λz=>he (hx _ z),λb ob q n he=>u.free b ob q n λz=>he (hx b z),λb ob q he=>u.there b ob q λz=>he (hx b z),u.tups,u.frzs,u.tbls⟩
end
noncomputable def trk(h:Heap)(H:Hp):List Addr:=(List.range h.objs.size).filter λa=>(H a).isSome
noncomputable def QfP(h:Heap)(H:Hp):Heap:=PySem.W.hideAll h (trk h H)
theorem Qpl(h:Heap)(H:Hp):(QfP h H).objs.size=h.objs.size:=PySem.W.hideAll_size _ _
theorem QrE{h:Heap}{H:Hp}{b:Addr}{o:Obj}(e:h.get? b=some o)(n:H b=none):(QfP h H).get? b=some o:=
 PySem.W.hideAll_get _ e λhm=>by
  have q:(H b).isSome=true:=(ZG.mp hm).2
  rw[n]at q;simp at q
theorem Qto{h:Heap}{H:Hp}{b:Addr}{o:Obj}(e:(QfP h H).get? b=some o):h.get? b=some o/\H b=none:=by
 have e':h.get? b=some o:=PySem.W.of_hideAll (trk h H) e
 refine⟨e',?_⟩
 cases q:H b with
 | none=>rfl
 | some x=>
  have hm:b∈trk h H:=ZG.mpr ⟨Zf.mpr (Zr e'),by simp[q]⟩
  have z:(QfP h H).get? b=none:=PySem.W.hideAll_none (trk h H) hm
  rw[z]at e;cases e
noncomputable def QtH(g h:Heap)(L:Addr):List (Addr×Obj):=(List.range h.objs.size).filterMap λa=>if a=L∨(g.get? a).isSome=true then none else(h.get? a).map λo=>(a,o)
noncomputable def rest(g h:Heap)(L d:Addr):List (Addr×Obj):=(QtH g h L).filter λp=>decide (p.1≠d)
end L2
namespace L2
open PySem PySem.Spec PyProof.Rows
structure Mod (K:PySem.W.Frag) (mg:Str->Option Value) (base:Heap):Prop where
 kin:K.In base
 glob:base.Ns mainGlobals mg
 blt:∃mb,base.Ns builtinsNs mb/\∀x:Str,x≠ "__name__" ->mb x=bootBuiltins x
 nolimit:base.NoLimit
structure Cx where
 prog:Program
 w:World
 K:PySem.W.Frag
 mg:Str->Option Value
 base:Heap
 A:Around
 N:List Str
 s₀:Shared
 H₀:Hp
 env:Env
 outer:List Env
 stack:List Env
 ex:List Addr
 fn:Str->Bool
 calm:Bool
 pn:List (Addr×Obj)
 xe:Value->Shared->Prop
noncomputable def frs(l:List Env):List Addr:=l.filterMap (·.frame)
noncomputable abbrev Cx.fs(X:Cx):List Addr:=frs X.outer
def Vis(sc:Scope)(x:Str):Prop:=sc.names.lookup x=some .local ∨sc.names.lookup x=some .cell∨sc.names.lookup x=some .free
def Loc(sc:Scope)(x:Str):Prop:=sc.names.lookup x=some .local ∨sc.names.lookup x=some .cell
def Look(env:Env)(h:Heap)(m:Str->Option Value)(x:Str)(u:Value):Prop:=
 (env.kindOf x=some .local /\m x=some u)∨((env.kindOf x=some .cell∨env.kindOf x=some .free)/\∃c,env.cells.lookup x=some c/\h.IsCell c (some u))
structure Cx.Ok (X:Cx):Prop where
 mod:Mod X.K X.mg X.base
 kind:X.env.scope.kind= .function
 glob:X.env.globals=mainGlobals
 blt:X.env.builtins=builtinsNs
 above:X.s₀.heap.objs.size<=X.env.locals
 inj:∀x y c,X.env.cells.lookup x=some c->X.env.cells.lookup y=some c->x=y
 has:∀x,(X.env.kindOf x=some .cell∨X.env.kindOf x=some .free)->∃c,X.env.cells.lookup x=some c
 cab:∀x c,X.fn x=true->X.env.cells.lookup x=some c->X.s₀.heap.objs.size<=c
 hd:X.calm=true->X.A.handled=none
 frames:X.A.frames=some X.stack
 stk:X.stack=X.outer∨(X.stack=X.env::X.outer/\X.env.frame=some X.env.locals)
 exf:∀b∈X.ex,b≠X.env.locals/\∀x c,X.env.cells.lookup x=some c->c≠b
 bs:∀b o,X.base.get? b=some o->X.s₀.heap.get? b=some o/\X.H₀ b=none
 bsz:X.base.objs.size<=X.s₀.heap.objs.size
 noex:∀b o,X.base.get? b=some o->b∉X.ex
 exfs:∀b∈X.ex,b∉X.fs
 Qdq:X.s₀.heap.FunFrames X.base X.outer
 frf:∀b∈X.fs,X.H₀ b=none
structure Inv (X:Cx) (pins:List (Addr×Obj)) (σ:List (Option V)) (H:Hp) (s:Shared):Prop where
 ok:X.Ok
 os:s.os=X.s₀.os
 bare:AllBare s.gens
 base:Un X.fs X.ex X.H₀ H X.s₀.heap s.heap
 loc:∃m,s.heap.Ns X.env.locals m/\∀(i:Nat) (x:Str) (v:V),X.N[i]? =some x->σ[i]? =some (some v)->Vis X.env.scope x->∃u,RelV v u/\Look X.env s.heap m x u
 cell:∀x c,X.env.cells.lookup x=some c->∃v,s.heap.IsCell c v
 free:H X.env.locals=none
 freeC:∀x c,X.env.cells.lookup x=some c->H c=none
 pin:∀p∈X.pn++pins,s.heap.get? p.1=some p.2/\H p.1=none/\p.1≠X.env.locals/\p.1∉X.fs/\∀v,p.2.data≠ .cell v
 hok:HOk X.prog X.w H s.heap
 len:σ.length=X.N.length
section
variable {X:Cx}{pins:List (Addr×Obj)}{σ:List (Option V)}{H H':Hp}{s:Shared}{h':Heap}
theorem Cx.Ok.Qw6(ok:X.Ok){b:Addr}{o:Obj}(e:X.base.get? b=some o):b∉X.fs:=λhb=>by
 have:=(ok.Qdq.mem hb).1
 rw[e]at this;cases this
theorem Inv.bs(I:Inv X pins σ H s):∀b o,X.base.get? b=some o->s.heap.get? b=some o/\H b=none:=λb o e=>
 ⟨I.base.keep b o (I.ok.bs b o e).1 (I.ok.bs b o e).2 (I.ok.Qw6 e) (I.ok.noex b o e),I.base.free b o (I.ok.bs b o e).1 (I.ok.bs b o e).2 (I.ok.noex b o e)⟩
theorem Inv.bk(I:Inv X pins σ H s):∀b o,X.base.get? b=some o->s.heap.get? b=some o:=λb o e=>(I.bs b o e).1
theorem Inv.mod(I:Inv X pins σ H s):Mod X.K X.mg X.base:=I.ok.mod
theorem Inv.kIn(I:Inv X pins σ H s):X.K.In s.heap:=I.ok.mod.kin.keeps I.bk
theorem Inv.nolimit(I:Inv X pins σ H s):s.heap.NoLimit:=I.ok.mod.nolimit.keeps I.bk
theorem Inv.fr(I:Inv X pins σ H s):∃m,Fr X.base X.env.locals s.heap m:=
 let ⟨m,hn,_⟩:=I.loc
 ⟨m,hn,I.bk,ZM I.ok.bsz I.ok.above⟩
theorem Inv.lt(I:Inv X pins σ H s):X.env.locals<s.heap.objs.size:=let ⟨_,hn,_⟩:=I.loc;hn.lt
theorem Inv.sz(I:Inv X pins σ H s):X.s₀.heap.objs.size<=s.heap.objs.size:=ZM I.ok.above (Zbi I.lt)
theorem Inv.QxB(I:Inv X pins σ H s){a:Addr}(h:s.heap.objs.size<=a):a∉X.fs:=λhb=>by
 obtain⟨_,o,ho,_⟩:=I.ok.Qdq.mem hb
 exact absurd (ZI (Zr ho) (ZM I.sz h)) (ZU _)
theorem Inv.cne(I:Inv X pins σ H s):∀x c,X.env.cells.lookup x=some c->c≠X.env.locals:=λx c e z=>by
 obtain⟨v,o,ho,hd⟩:=I.cell x c e
 obtain⟨m,⟨o',es,ep,ho',hd',_⟩,_⟩:=I.loc
 rw[z,ho']at ho;cases ho;rw[hd']at hd;cases hd
theorem Inv.Qdq(I:Inv X pins σ H s):s.heap.FunFrames X.base X.outer:=by
 have all:∀(l:List Env),(∀b∈frs l,b∈X.fs)->X.s₀.heap.FunFrames X.base l->s.heap.FunFrames X.base l:=by
  intro l
  induction l with
  | nil=>intro _ _;trivial
  | cons env r ih=>
   intro hs hl
   obtain⟨hk,⟨L,o,hf,hn,ho,hd⟩,hr⟩:=hl
   have hL:L∈X.fs:=hs L (by unfold frs;rw[ZaZ,hf];exact Zh)
   obtain⟨sl,e⟩:=I.base.slot L o ho (I.ok.frf L hL) hL λz=>I.ok.exfs L z hL
   exact⟨hk,⟨L,_,hf,hn,e,hd⟩,ih (λb hb=>hs b (by unfold frs;rw[ZaZ,hf];exact Zc _ hb)) hr⟩
 exact all X.outer (λ_ hb=>hb) I.ok.Qdq
theorem Inv.stack(I:Inv X pins σ H s):s.heap.FunFrames X.base X.stack:=by
 rcases I.ok.stk with e | ⟨e,hf⟩
 ·rw[e];exact I.Qdq
 ·rw[e]
  obtain⟨m,hn,_⟩:=I.loc
  refine .cons (by rw[I.ok.kind];decide) hf hn ?_ I.Qdq
  exact Heap.get?_none_of_le (ZM I.ok.bsz I.ok.above)
theorem Inv.QhY(I:Inv X pins σ H s):∀b∈frs X.stack,b∈X.env.locals::X.fs:=λb hb=>by
 rcases I.ok.stk with e | ⟨e,hf⟩
 ·rw[e]at hb;exact Zc _ hb
 ·rw[e]at hb
  unfold frs at hb
  rw[ZaZ,hf]at hb
  exact hb
theorem Inv.Qm9(I:Inv X pins σ H s):∀b∈frs X.stack,H b=none:=λb hb=>by
 rcases Zn.mp (I.QhY b hb)with e | hb
 ·rw[e];exact I.free
 ·obtain⟨_,o,ho,_⟩:=I.ok.Qdq.mem hb
  exact I.base.free b o ho (I.ok.frf b hb) λz=>I.ok.exfs b z hb
theorem Inv.step{g':Array GenState}{t':Nat}{d':Drawn}{ch:List Addr}(I:Inv X pins σ H s)
  (hch:∀b∈ch,(b∈X.ex∨X.s₀.heap.objs.size<=b)/\b≠X.env.locals/\(∀x c,X.env.cells.lookup x=some c->c≠b)/\∀p∈X.pn++pins,p.1≠b)
  (keep:∀b o,b≠X.env.locals->b∉X.fs->b∉ch->s.heap.get? b=some o->H b=none->h'.get? b=some o)
  (slot:∀b o,b≠X.env.locals->b∈X.fs->b∉ch->s.heap.get? b=some o->H b=none->∃sl,h'.get? b=some {o with slots:=sl}) (free:∀b o,b∉ch->s.heap.get? b=some o->H b=none->H' b=none)
  (there:∀b o,b∉ch->s.heap.get? b=some o->∃o',h'.get? b=some o')
  (tups:∀b xs,H b=some (.tup xs)->H' b=some (.tup xs)) (frzs:∀b o u,H b=some (.frz o u)->H' b=some (.frz o u)) (tbls:∀b ps,H b=some (.tbl ps)->∃more,H' b=some (.tbl (ps++more)))
  (ns:∀m,s.heap.Ns X.env.locals m->h'.Ns X.env.locals m) (hok:HOk X.prog X.w H' h') (hg:AllBare g'):
  Inv X pins σ H' {s with heap:=h',gens:=g',drawn:=d',toks:=t'}:=by
 have neL:∀b o,X.s₀.heap.get? b=some o->b≠X.env.locals:=λb o e=>ZJ (ZI (Zr e) I.ok.above)
 have neC:∀b o,X.s₀.heap.get? b=some o->b∉X.ex->b∉ch:=λb o e hx hb=>by
  rcases(hch b hb).1 with z | z
  ·exact hx z
  ·exact absurd (ZI (Zr e) z) (ZU _)
 have cellK:∀x c,X.env.cells.lookup x=some c->∀v,s.heap.IsCell c v->h'.IsCell c v:=λx c e v hpt=>by
  obtain⟨o,ho,hd⟩:=hpt
  have nch:c∉ch:=λz=>(hch c z).2.2.1 x c e rfl
  by_cases hc:c∈X.fs
  ·obtain⟨sl,q⟩:=slot c o (I.cne x c e) hc nch ho (I.freeC x c e)
   exact⟨_,q,hd⟩
  ·exact⟨o,keep c o (I.cne x c e) hc nch ho (I.freeC x c e),hd⟩
 refine⟨I.ok,I.os,hg,⟨λb o e n hb hx=>?_,λb o e n hb hx=>?_,λb o e n hx=>?_,λb o e hx=>?_,λb xs e=>tups b xs (I.base.tups b xs e),λb o xs e=>frzs b o xs (I.base.frzs b o xs e),λb ps e=>?_⟩,?_,λx c e=>?_,?_,λx c e=>?_,λp hp=>?_,hok,I.len⟩
 ·exact keep b o (neL b o e) hb (neC b o e hx) (I.base.keep b o e n hb hx) (I.base.free b o e n hx)
 ·obtain⟨sl,e1⟩:=I.base.slot b o e n hb hx
  obtain⟨sl',e2⟩:=slot b _ (neL b o e) hb (neC b o e hx) e1 (I.base.free b o e n hx)
  exact⟨sl',e2⟩
 ·obtain⟨o',e1⟩:=I.base.there b o e hx
  exact free b o' (neC b o e hx) e1 (I.base.free b o e n hx)
 ·obtain⟨o',e1⟩:=I.base.there b o e hx
  exact there b o' (neC b o e hx) e1
 ·obtain⟨m1,e1⟩:=I.base.tbls b ps e
  obtain⟨m2,e2⟩:=tbls b _ e1
  exact⟨m1++m2,by rw[e2,Array.append_assoc]⟩
 ·obtain⟨m,hn,hl⟩:=I.loc
  refine⟨m,ns m hn,λi x v e1 e2 e3=>?_⟩
  obtain⟨u,r,l⟩:=hl i x v e1 e2 e3
  refine⟨u,r,?_⟩
  rcases l with l | ⟨k,c,e,z⟩
  ·exact .inl l
  ·exact .inr ⟨k,c,e,cellK x c e _ z⟩
 ·obtain⟨v,z⟩:=I.cell x c e
  exact⟨v,cellK x c e v z⟩
 ·obtain⟨m,⟨o,_,_,ho,_⟩,_⟩:=I.loc
  exact free _ o (λz=>(hch _ z).2.1 rfl) ho I.free
 ·obtain⟨v,o,ho,hd⟩:=I.cell x c e
  exact free c o (λz=>(hch c z).2.2.1 x c e rfl) ho (I.freeC x c e)
 ·obtain⟨e,n,ne,nf,d⟩:=I.pin p hp
  have nch:p.1∉ch:=λz=>(hch p.1 z).2.2.2 p hp rfl
  exact⟨keep p.1 p.2 ne nf nch e n,free p.1 p.2 nch e n,ne,nf,d⟩
theorem Inv.un{t':Nat}(I:Inv X pins σ H s)(u:Un X.fs [] H H' s.heap h')(hok:HOk X.prog X.w H' h'):Inv X pins σ H' {s with heap:=h',toks:=t'}:=by
 obtain⟨m,⟨o,es,ep,ho,r⟩,_⟩:=id I.loc
 obtain⟨sl,hL⟩:=u.any ho I.free (by simp)
 exact I.step (g':=s.gens) (d':=s.drawn) (ch:=[]) (λ_ z=>nomatch z) (λb o _ hb _ e n=>u.keep b o e n hb (by simp)) (λb o _ hb _ e n=>u.slot b o e n hb (by simp)) (λb o _ e n=>u.free b o e n (by simp)) (λb o _ e=>u.there b o e (by simp)) u.tups u.frzs u.tbls (λm' hm=>by
  obtain⟨o',es',ep',ho',r'⟩:=hm
  rw[ho]at ho';cases ho'
  exact⟨_,es',ep',hL,r'⟩) hok I.bare
theorem Inv.call{g':Array GenState}{t':Nat}{d':Drawn}{ch:List Addr}(I:Inv X pins σ H s)(u:Un (frs X.stack) ch H H' s.heap h')(hok:HOk X.prog X.w H' h')(hg:AllBare g')
  (hch:∀b∈ch,(b∈X.ex∨X.s₀.heap.objs.size<=b)/\b≠X.env.locals/\(∀x c,X.env.cells.lookup x=some c->c≠b)/\∀p∈X.pn++pins,p.1≠b):
  Inv X pins σ H' {s with heap:=h',gens:=g',drawn:=d',toks:=t'}:=by
 obtain⟨m,⟨o,es,ep,ho,r⟩,_⟩:=id I.loc
 obtain⟨sl,hL⟩:=u.any ho I.free λz=>(hch _ z).2.1 rfl
 exact I.step (ch:=ch) hch (λb o hL hb hc e n=>u.keep b o e n (λz=>(Zn.mp (I.QhY b z)).elim hL hb) hc) (λb o _ _ hc e n=>u.any e n hc) (λb o hc e n=>u.free b o e n hc) (λb o hc e=>u.there b o e hc) u.tups u.frzs u.tbls (λm' hm=>by
  obtain⟨o',es',ep',ho',r'⟩:=hm
  rw[ho]at ho';cases ho'
  exact⟨_,es',ep',hL,r'⟩) hok hg
theorem Inv.turned{t':Nat}{it:Addr}(I:Inv X pins σ H s)(k:∀b o,b≠it->s.heap.get? b=some o->h'.get? b=some o)(hn:H it=none)(hL:it≠X.env.locals)
  (h1:it∈X.ex∨X.s₀.heap.objs.size<=it) (h2:∀x c,X.env.cells.lookup x=some c->c≠it) (h3:∀p∈X.pn++pins,p.1≠it):Inv X pins σ H {s with heap:=h',toks:=t'}:=by
 have nit:∀b u,H b=some u->b≠it:=λb u e z=>by rw[z,hn]at e;cases e
 refine I.step (g':=s.gens) (d':=s.drawn) (ch:=[it]) (λb hb=>?_) (λb o _ _ hc e _=>k b o (λz=>hc (by simp[z])) e) (λb o _ _ hc e _=>⟨o.slots,k b o (λz=>hc (by simp[z])) e⟩) (λ_ _ _ _ n=>n)
  (λb o hc e=>⟨o,k b o (λz=>hc (by simp[z])) e⟩) (λ_ _ e=>e) (λ_ _ _ e=>e) (λb ps e=>⟨#[],by rw[e];simp⟩) (λm hm=>?_) (λb u e=>?_) I.bare
 ·have e:b=it:=by simpa using hb
  subst e
  exact⟨h1,hL,h2,h3⟩
 ·obtain⟨o,es,ep,ho,r⟩:=hm
  exact⟨o,es,ep,k _ o (Ne.symm hL) ho,r⟩
 ·refine(I.hok b u e).QeS (λc v hc q=>k c v ?_ q) (λ_ q=>q) λ_ _ q=>q
  rcases hc with z | z
  ·rw[z];exact nit b u e
  ·exact nit c _ z
theorem Inv.tok(I:Inv X pins σ H s)(t:Nat):Inv X pins σ H {s with toks:=t}:=I.un (h':=s.heap) (t':=t) Un.refl I.hok
theorem Inv.kept{t':Nat}(I:Inv X pins σ H s)(k:∀b u,s.heap.get? b=some u->h'.get? b=some u):Inv X pins σ H {s with heap:=h',toks:=t'}:=I.un (Un.kept k) (I.hok.kept k)
theorem Inv.laid{a:Addr}{o:HO}{t':Nat}(I:Inv X pins σ H s)(k:∀b u,s.heap.get? b=some u->h'.get? b=some u)(hp:s.heap.objs.size<=a)(new:Qcr X.prog X.w (upd H a o) h' a o):
  Inv X pins σ (upd H a o) {s with heap:=h',toks:=t'}:=I.un (Un.laid k hp (I.hok.fresh hp)) (I.hok.laid k hp new)
theorem Inv.write{x e:Addr}{o:HO}{t':Nat}(I:Inv X pins σ H s)(mu:Mut (H x))(he:e=x∨H e=some (.own x))(k:∀b u,b≠e->s.heap.get? b=some u->h'.get? b=some u)(heo:∃u,h'.get? e=some u)
  (new:Qcr X.prog X.w (upd H x o) h' x o):Inv X pins σ (upd H x o) {s with heap:=h',toks:=t'}:=I.un (Un.write mu he k heo) (I.hok.write mu he k heo new)
theorem Inv.weak{σ':List (Option V)}(I:Inv X pins σ H s)(hl:σ'.length=σ.length)(w:∀(i:Nat) v,σ'[i]? =some (some v)->σ[i]? =some (some v)):Inv X pins σ' H s:=
 ⟨I.ok,I.os,I.bare,I.base,let ⟨m,hn,hl'⟩:=I.loc;⟨m,hn,λi x v e1 e2 e3=>hl' i x v e1 (w i v e2) e3⟩,I.cell,I.free,I.freeC,I.pin,I.hok,hl.trans I.len⟩
theorem Inv.Qmp{pins':List (Addr×Obj)}(I:Inv X pins σ H s)(h:∀p∈pins',s.heap.get? p.1=some p.2/\H p.1=none/\p.1≠X.env.locals/\p.1∉X.fs/\∀v,p.2.data≠ .cell v):Inv X pins' σ H s:=
 ⟨I.ok,I.os,I.bare,I.base,I.loc,I.cell,I.free,I.freeC,λp hp=>(ZK.mp hp).elim (λz=>I.pin p (Zi _ z)) (h p),I.hok,I.len⟩
theorem QlQ{N:List Str}(hN:N.Nodup){i j:Nat}{x:Str}(a:N[i]? =some x)(b:N[j]? =some x):i=j:=by
 obtain⟨h1,e1⟩:=Zb.mp a
 obtain⟨h2,e2⟩:=Zb.mp b
 exact(List.getElem_inj hN).mp (e1.trans e2.symm)
theorem Qjw{M:Model}{A:Around}{E:Value->Shared->Prop}{i:Nat}{x:Str}{v:V}{u:Value}{Q:Unit->Shared->Prop}(I:Inv X pins σ H s)(hN:X.N.Nodup)(hi:X.N[i]? =some x)(hx:Loc X.env.scope x)(r:RelV v u)
  (h:∀s',Inv X pins (σ.set i (some v)) H s'->(∃a,Heap.SameBut a s.heap s'.heap/\(a=X.env.locals∨X.env.cells.lookup x=some a))->Q () s') (hf:X.fn x=true∨X.env.scope.names.lookup x=some .local :=by first | exact .inl rfl | exact .inr rfl | assumption):wpAny M A (storeName X.env x u) Q E s:=by
 obtain⟨m,hn,hl⟩:=id I.loc
 have hcls:(X.env.scope.kind == .class || (X.env.scope.kind == .module && X.env.locals != X.env.globals))=false:=by rw[I.ok.kind];rfl
 have hiσ:i<σ.length:=by rw[I.len];exact(Zb.mp hi).1
 have cne:=I.cne
 have tracked:∀{a:Addr}{h':Heap},(∃o,s.heap.get? a=some o/\H a=none)->Heap.SameBut a s.heap h'->HOk X.prog X.w H h':=λ{a h'} ha hs b ob e=>by
  obtain⟨_,_,hfree⟩:=ha
  refine(I.hok b ob e).QeS (λc w' hc q=>(hs.2 c ?_).trans q) (λ_ q=>q) λ_ _ q=>q
  rintro rfl
  rcases hc with rfl | hc
  ·rw[hfree]at e;cases e
  ·rw[hfree]at hc;cases hc
 rcases hx with hk | hk
 ·refine wpAny_storeName_local hk hn (λh' hn' hs=>?_) hcls
  obtain⟨oL,_,_,hoL,_⟩:=id hn
  refine h _ ⟨I.ok,I.os,I.bare,⟨λb o e n hb hx=>?_,λb o e n hb hx=>?_,I.base.free,λb o e hx=>?_,I.base.tups,I.base.frzs,I.base.tbls⟩,⟨_,hn',λj y v' e1 e2 e3=>?_⟩,λy c e=>?_,I.free,I.freeC,λp hp=>?_,tracked ⟨oL,hoL,I.free⟩ hs,by simpa using I.len⟩ ⟨_,hs,.inl rfl⟩
  ·exact(hs.2 b (ZJ (ZI (Zr e) I.ok.above))).trans (I.base.keep b o e n hb hx)
  ·obtain⟨sl,e1⟩:=I.base.slot b o e n hb hx
   exact⟨sl,(hs.2 b (ZJ (ZI (Zr e) I.ok.above))).trans e1⟩
  ·obtain⟨o',e1⟩:=I.base.there b o e hx
   exact⟨o',(hs.2 b (ZJ (ZI (Zr e) I.ok.above))).trans e1⟩
  ·by_cases hj:j=i
   ·subst hj
    rw[hi]at e1;cases e1
    rw[ZH hiσ]at e2
    cases e2
    exact⟨u,r,.inl ⟨hk,by simp⟩⟩
   ·rw[Zj (Ne.symm hj)]at e2
    obtain⟨u',r',q⟩:=hl j y v' e1 e2 e3
    refine⟨u',r',?_⟩
    rcases q with⟨k,e⟩ | ⟨k,c,e,z⟩
    ·refine .inl ⟨k,?_⟩
     have:y≠x:=λe=>hj (QlQ hN e1 (e▸hi))
     simp[this,e]
    ·exact .inr ⟨k,c,e,z.sameBut hs (cne y c e)⟩
  ·obtain⟨w',z⟩:=I.cell y c e
   exact⟨w',z.sameBut hs (cne y c e)⟩
  ·obtain⟨e,n,ne,nf,d⟩:=I.pin p hp
   exact⟨(hs.2 p.1 ne).trans e,n,ne,nf,d⟩
 ·have hfn:X.fn x=true:=by
   rcases hf with z | z
   ·exact z
   ·rw[z]at hk;cases hk
  obtain⟨c,hc⟩:=I.ok.has x (.inl hk)
  obtain⟨w',z⟩:=I.cell x c hc
  refine wpAny_storeName_cell I.ok.kind hk hc z (λh' hc' hs=>?_)
  obtain⟨oc,hoc,hocd⟩:=id z
  refine h {s with heap:=h'} ⟨I.ok,I.os,I.bare,⟨λb o e n hb hx=>?_,λb o e n hb hx=>?_,I.base.free,λb o e hx=>?_,I.base.tups,I.base.frzs,I.base.tbls⟩,⟨m,hn.sameBut hs (Ne.symm (cne x c hc)),λj y v' e1 e2 e3=>?_⟩,λy c' e=>?_,I.free,I.freeC,λp hp=>?_,tracked ⟨oc,hoc,I.freeC x c hc⟩ hs,by simpa using I.len⟩ ⟨c,hs,.inr hc⟩
  ·exact(hs.2 b (ZJ (ZI (Zr e) (I.ok.cab x c hfn hc)))).trans (I.base.keep b o e n hb hx)
  ·obtain⟨sl,e1⟩:=I.base.slot b o e n hb hx
   exact⟨sl,(hs.2 b (ZJ (ZI (Zr e) (I.ok.cab x c hfn hc)))).trans e1⟩
  ·obtain⟨o',e1⟩:=I.base.there b o e hx
   exact⟨o',(hs.2 b (ZJ (ZI (Zr e) (I.ok.cab x c hfn hc)))).trans e1⟩
  ·by_cases hj:j=i
   ·subst hj
    rw[hi]at e1;cases e1
    rw[ZH hiσ]at e2
    cases e2
    exact⟨u,r,.inr ⟨.inl hk,c,hc,hc'⟩⟩
   ·rw[Zj (Ne.symm hj)]at e2
    obtain⟨u',r',q⟩:=hl j y v' e1 e2 e3
    refine⟨u',r',?_⟩
    rcases q with q | ⟨k,c',e,z'⟩
    ·exact .inl q
    ·refine .inr ⟨k,c',e,z'.sameBut hs ?_⟩
     rintro rfl
     exact hj (QlQ hN e1 (I.ok.inj _ _ _ e hc▸hi))
  ·by_cases hcc:c'=c
   ·subst hcc;exact⟨_,hc'⟩
   ·obtain⟨w2,z2⟩:=I.cell y c' e
    exact⟨w2,z2.sameBut hs hcc⟩
  ·obtain⟨e,n,ne,nf,d⟩:=I.pin p hp
   refine⟨(hs.2 p.1 ?_).trans e,n,ne,nf,d⟩
   intro q
   rw[q,hoc]at e
   have q':oc=p.2:=Option.some.inj e
   exact d w' (by rw[← q'];exact hocd)
theorem Qlc{M:Model}{A:Around}{E:Value->Shared->Prop}{i:Nat}{x:Str}{v:V}{u:Value}{Q:Unit->Shared->Prop}(I:Inv X pins σ H s)(hN:X.N.Nodup)(hi:X.N[i]? =some x)(hx:Loc X.env.scope x)(r:RelV v u)
  (h:∀s',Inv X pins (σ.set i (some v)) H s'->Q () s') (hf:X.fn x=true∨X.env.scope.names.lookup x=some .local :=by first | exact .inl rfl | exact .inr rfl | assumption):wpAny M A (storeName X.env x u) Q E s:=
 Qjw I hN hi hx r (λs' I' _=>h s' I') hf
theorem Inv.Qwf{s':Shared}{ch:List Addr}(I:Inv X pins σ H s)(ho:s'.os=s.os)(u:Un (frs X.stack) ch H H' s.heap s'.heap)(hok:HOk X.prog X.w H' s'.heap)(hg:AllBare s'.gens)
  (hch:∀b∈ch,(b∈X.ex∨X.s₀.heap.objs.size<=b)/\b≠X.env.locals/\(∀x c,X.env.cells.lookup x=some c->c≠b)/\∀p∈X.pn++pins,p.1≠b):Inv X pins σ H' s':=by
 obtain⟨h',g',d',t',o'⟩:=s'
 have e:o'=s.os:=ho
 subst e
 exact I.call (g':=g') (t':=t') (d':=d') u hok hg hch
end
noncomputable abbrev XK:=Value->Option Addr->Hp->Prop
noncomputable abbrev St:=List (Option V)
noncomputable abbrev VK:=V->Hp->Prop
noncomputable abbrev TE:=St->Hp->VK->Prop
noncomputable abbrev TT:=St->Hp->(Bool->Hp->Prop)->Prop
noncomputable abbrev TA:=St->Hp->(List V->Hp->Prop)->Prop
structure Ends where
 nx:St->Hp->Prop
 rt:VK
 bk:St->Hp->Prop:=λ_ _=>False
 ct:St->Hp->Prop:=λ_ _=>False
noncomputable abbrev TS:=Ends->St->Hp->Prop
def EP(X:Cx)(pins:List (Addr×Obj))(σ:St)(Q:VK)(u:Value)(s':Shared):Prop:=∃v H',Inv X pins σ H' s'/\RelV v u/\Q v H'
def TP(X:Cx)(pins:List (Addr×Obj))(σ:St)(Q:Bool->Hp->Prop)(b:Bool)(s':Shared):Prop:=∃H',Inv X pins σ H' s'/\Q b H'
def AP(X:Cx)(pins:List (Addr×Obj))(σ:St)(Q:List V->Hp->Prop)(us:List Value)(s':Shared):Prop:=∃vs H',Inv X pins σ H' s'/\Qt vs us/\Q vs H'
def SP(X:Cx)(pins:List (Addr×Obj))(D:Ends)(f:Flow)(s':Shared):Prop:=
 match f with
 | .next=>∃σ' H',Inv X pins σ' H' s'/\D.nx σ' H'
 | .brk=>∃σ' H',Inv X pins σ' H' s'/\D.bk σ' H'
 | .cont=>∃σ' H',Inv X pins σ' H' s'/\D.ct σ' H'
 | .ret u=>∃v σ' H',Inv X pins σ' H' s'/\RelV v u/\D.rt v H'
def PE(X:Cx)(e:Expr)(t:TE):Prop:=
 ∀(pins:List (Addr×Obj)) (s:Shared) (σ:St) (H:Hp) (Q:VK),Inv X pins σ H s->t σ H Q->wpAny (model X.prog X.w) X.A (eval e X.env) (EP X pins σ Q) X.xe s
def PT(X:Cx)(e:Expr)(t:TT):Prop:=
 ∀(pins:List (Addr×Obj)) (s:Shared) (σ:St) (H:Hp) (Q:Bool->Hp->Prop),Inv X pins σ H s->t σ H Q->wpAny (model X.prog X.w) X.A (isTrue e X.env (eval e X.env)) (TP X pins σ Q) X.xe s
def PW(X:Cx)(e:Expr)(t:TT):Prop:=
 ∀(whole:Sem Value) (pins:List (Addr×Obj)) (s:Shared) (σ:St) (H:Hp) (Q:Bool->Hp->Prop),Inv X pins σ H s->t σ H Q->wpAny (model X.prog X.w) X.A (isTrue e X.env whole) (TP X pins σ Q) X.xe s
theorem PW.pt{X:Cx}{e:Expr}{t:TT}(h:PW X e t):PT X e t:=h _
def PA(X:Cx)(es:List Expr)(t:TA):Prop:=
 ∀(pos:Pos) (pins:List (Addr×Obj)) (s:Shared) (σ:St) (H:Hp) (Q:List V->Hp->Prop),Inv X pins σ H s->t σ H Q->wpAny (model X.prog X.w) X.A (spliced (backTo pos (starEach es X.env))) (AP X pins σ Q) X.xe s
def PS(X:Cx)(st:Stmt)(t:TS):Prop:=
 ∀(pins:List (Addr×Obj)) (s:Shared) (σ:St) (H:Hp) (D:Ends),Inv X pins σ H s->t D σ H->wpAny (model X.prog X.w) X.A (exec st X.env) (SP X pins D) X.xe s
def PSs(X:Cx)(st:List Stmt)(t:TS):Prop:=
 ∀(pins:List (Addr×Obj)) (s:Shared) (σ:St) (H:Hp) (D:Ends),Inv X pins σ H s->t D σ H->wpAny (model X.prog X.w) X.A (execs st X.env) (SP X pins D) X.xe s
theorem thn{α:Type}{t:Sem α}{Q Q':α->Shared->Prop}{M:Model}{A:Around}{E:Value->Shared->Prop}{s:Shared}(h:wpAny M A t Q E s)(hQ:∀a s,Q a s->Q' a s):wpAny M A t Q' E s:=wpAny_mono h hQ λ_ _ x=>x
end L2
namespace L2
open PySem PySem.Spec PyProof.Rows
section
variable {X:Cx}
noncomputable def QiH(i:Nat):TE:=λσ H Q=>∃v,σ[i]? =some (some v)/\Q v H
noncomputable def tC(v:V):TE:=λ_ H Q=>Q v H
theorem Qox{i:Nat}{x:Str}{pos:Pos}(hN:X.N[i]? =some x)(hv:Vis X.env.scope x)(hd:(x == ("__debug__" :Str))=false:=by decide)(hcd:(x == ("__classdict__" :Str))=false:=by decide):PE X (.Name x pos) (QiH i):=by
 intro pins s σ H Q I h
 obtain⟨v,e,h⟩:=h
 obtain⟨m,hn,hl⟩:=I.loc
 obtain⟨u,r,l⟩:=hl i x v hN e hv
 have fin:EP X pins σ Q u s:=⟨v,H,I,r,h⟩
 rcases l with⟨hk,hm⟩ | ⟨hk,c,hc,hcell⟩
 ·exact wpAny_Name (wpAny_loadName_local I.ok.kind hk hn hm fin) hd
 ·rcases hk with hk | hk
  ·exact wpAny_Name (wpAny_loadName_cell I.ok.kind hk hc hcell fin) hd
  ·exact wpAny_Name (wpAny_loadName_free I.ok.kind hk hc hcell fin hcd) hd
theorem Qu7{i j pos}:PE X (.Constant (.int i) j pos) (tC (.int i)):=λ_ _ _ H _ I h=>wpAny_Constant_int ⟨.int i,H,I.tok _,⟨_,rfl⟩,h⟩
theorem Qws{b j pos}:PE X (.Constant (.bool b) j pos) (tC (.bl b)):=λ_ _ _ H _ I h=>Constant_bool ⟨.bl b,H,I,rfl,h⟩
theorem QuK{j pos}:PE X (.Constant .none j pos) (tC .non):=λ_ _ _ H _ I h=>Constant_none ⟨.non,H,I,rfl,h⟩
theorem Qt4{x j pos}:PE X (.Constant (.str x) j pos) (tC (.str x)):=λ_ _ _ H _ I h=>Calls.Constant_str ⟨.str x,H,I.tok _,⟨_,rfl⟩,h⟩
def Gl(X:Cx)(x:Str):Prop:=X.env.kindOf x=some .globalImplicit
theorem Qiu{E:Value->Shared->Prop}{pins:List (Addr×Obj)}{s:Shared}{σ:St}{H:Hp}{x:Str}{u:Value}{pos:Pos}{Q:Value->Shared->Prop}(I:Inv X pins σ H s)(hg:Gl X x)(hm:X.mg x=some u)(h:Q u s)
  (hd:(x == ("__debug__" :Str))=false:=by decide):wpAny (model X.prog X.w) X.A (eval (.Name x pos) X.env) Q E s:=
 Calls.Name_function_global I.ok.kind hg (Calls.loadGlobal_global (by rw[I.ok.glob];exact I.mod.glob.keeps I.bk) hm h) hd
theorem Qca{E:Value->Shared->Prop}{pins:List (Addr×Obj)}{s:Shared}{σ:St}{H:Hp}{x:Str}{u:Value}{pos:Pos}{Q:Value->Shared->Prop}(I:Inv X pins σ H s)(hg:Gl X x)(hm:X.mg x=none)(hv:bootBuiltins x=some u)(h:Q u s)
  (hn:x≠ "__name__" :=by decide) (hd:(x == ("__debug__" :Str))=false:=by decide):wpAny (model X.prog X.w) X.A (eval (.Name x pos) X.env) Q E s:=by
 obtain⟨mb,h1,h2⟩:=I.mod.blt
 exact Calls.Name_function_global I.ok.kind hg (Calls.loadGlobal_builtin (by rw[I.ok.glob];exact I.mod.glob.keeps I.bk) hm (by rw[I.ok.blt];exact h1.keeps I.bk) ((h2 x hn).trans hv) h) hd
theorem QsY{x:Str}{v:V}{u:Value}{pos:Pos}(hg:Gl X x)(hm:X.mg x=some u)(r:RelV v u)(hd:(x == ("__debug__" :Str))=false:=by decide):PE X (.Name x pos) (tC v):=
 λ_ _ _ H _ I h=>Qiu I hg hm ⟨v,H,I,r,h⟩ hd
theorem Qfg{x:Str}{v:V}{u:Value}{pos:Pos}(hg:Gl X x)(hm:X.mg x=none)(hv:bootBuiltins x=some u)(r:RelV v u)(hn:x≠ "__name__" :=by decide)(hd:(x == ("__debug__" :Str))=false:=by decide):PE X (.Name x pos) (tC v):=
 λ_ _ _ H _ I h=>Qca I hg hm hv ⟨v,H,I,r,h⟩ hn hd
variable {a b:Expr}{ta tb:TE}{pos:Pos}
variable {tA tB':TT}{rest:List Expr}
noncomputable def QwZ(t u:TT):TT:=λσ H Q=>t σ H λc H1=>if c=true then u σ H1 Q else Q false H1
noncomputable def tOr(t u:TT):TT:=λσ H Q=>t σ H λc H1=>if c=true then Q true H1 else u σ H1 Q
noncomputable def Qxy(t:TT):TT:=λσ H Q=>t σ H λc H1=>Q (!c) H1
theorem QtE(ha:PT X a tA):PW X (.BoolOp .And [a] pos) tA:=by
 intro wh pins s σ H Q I h
 refine isTrue_and (thn (ha pins s σ H Q I h) λc s1 e=>?_)
 cases c with
 | true=>exact isTrue_and_nil e
 | false=>exact e
theorem Qul(ha:PT X a tA):PW X (.BoolOp .Or [a] pos) tA:=by
 intro wh pins s σ H Q I h
 refine isTrue_or (thn (ha pins s σ H Q I h) λc s1 e=>?_)
 cases c with
 | false=>exact isTrue_or_nil e
 | true=>exact e
theorem Qva(ha:PT X a tA)(hb:PW X (.BoolOp .And (b::rest) pos) tB'):PW X (.BoolOp .And (a::b::rest) pos) (QwZ tA tB'):=by
 intro wh pins s σ H Q I h
 refine isTrue_and (thn (ha pins s σ H _ I h) λc s1 hpt=>?_)
 obtain⟨H1,I1,q1⟩:=hpt
 cases c with
 | true=>exact hb wh pins s1 σ H1 Q I1 q1
 | false=>exact⟨H1,I1,q1⟩
theorem Qwr(ha:PT X a tA)(hb:PW X (.BoolOp .Or (b::rest) pos) tB'):PW X (.BoolOp .Or (a::b::rest) pos) (tOr tA tB'):=by
 intro wh pins s σ H Q I h
 refine isTrue_or (thn (ha pins s σ H _ I h) λc s1 hpt=>?_)
 obtain⟨H1,I1,q1⟩:=hpt
 cases c with
 | true=>exact⟨H1,I1,q1⟩
 | false=>exact hb wh pins s1 σ H1 Q I1 q1
theorem Quf(ha:PT X a tA):PT X (.UnaryOp .Not a pos) (Qxy tA):=by
 intro pins s σ H Q I h
 exact isTrue_not (ha pins s σ H (λc H1=>Q (!c) H1) I h)
theorem QvV{op}{t:TE}(h:PE X a t):PE X (.BoolOp op [a] pos) t:=λpins s σ H Q I hw=>BoolOp_one (h pins s σ H Q I hw)
end
end L2
namespace L2
open PySem PySem.Spec PyProof.Rows
def SqL(K:PySem.W.Frag)(H:Hp)(a:Addr)(xs:List V):Prop:=
 Rd H a (.lst xs)∨
  ∃(o:Obj) (its:Array Value) (n:Nat),K.lookup a=some o/\o.cls= .type "list" /\o.dict=none/\o.data= .seq its n/\its.size<=sizeLine/\Qt xs its.toList
def SqT(K:PySem.W.Frag)(H:Hp)(a:Addr)(xs:List V):Prop:=
 Rd H a (.tup xs)∨
  ∃(o:Obj) (its:Array Value) (n:Nat),K.lookup a=some o/\o.cls= .type "tuple" /\o.data= .seq its n/\its.size<=sizeLine/\Qt xs its.toList
noncomputable def Qw0:Value->Option V
 | .none=>some .non
 | .bool b=>some (.bl b)
 | .int i _=>some (.int i)
 | .str x _=>some (.str x)
 | .bytes b _=>some (.byt b)
 | .float b _=>some (.flt b)
 | .ref a=>some (.ref a)
 | .type n=>some (.ty n)
 | _=>none
theorem RelV.abs{x:V}{u:Value}(r:RelV x u):Qw0 u=some x:=by
 cases x with
 | non=>cases r;rfl
 | bl _=>cases r;rfl
 | int _=>obtain⟨t,rfl⟩:=r;rfl
 | str _=>obtain⟨t,rfl⟩:=r;rfl
 | byt _=>obtain⟨t,rfl⟩:=r;rfl
 | flt _=>obtain⟨t,rfl⟩:=r;rfl
 | ref _=>cases r;rfl
 | ty _=>cases r;rfl
theorem RelV.inj{x y:V}{u:Value}(r:RelV x u)(q:RelV y u):x=y:=Option.some.inj (r.abs.symm.trans q.abs)
theorem Qt.inj:∀{xs ys:List V}{us:List Value},Qt xs us->Qt ys us->xs=ys
 | _,_,_,.nil,.nil=>rfl
 | _,_,_,.cons r t,.cons r' t'=>by rw[r.inj r',Qt.inj t t']
section
variable {X:Cx}{pins:List (Addr×Obj)}{σ:St}{H:Hp}{s:Shared}{a:Addr}{xs ys:List V}
theorem SqL.of{K:PySem.W.Frag}(h:H a=some (.lst xs)):SqL K H a xs:= .inl (.inl h)
theorem SqT.of{K:PySem.W.Frag}(h:H a=some (.tup xs)):SqT K H a xs:= .inl (.inl h)
theorem Inv.list(I:Inv X pins σ H s)(h:SqL X.K H a xs):∃its:List Value,Qt xs its/\PlainL s.heap a its.toArray/\xs.length<=sizeLine:=by
 rcases h with h | ⟨o,its,n,hk,hc,hd,hs,hz,r⟩
 ·obtain⟨z,its,n,r,e⟩:=h.ok I.hok
  exact⟨its,r,⟨_,n,e,rfl,rfl,rfl⟩,z⟩
 ·refine⟨its.toList,r,⟨o,n,I.kIn a o hk,hc,hd,by simpa using hs⟩,?_⟩
  have e:=r.length
  simp only[Zs]at e
  omega
theorem Inv.tuple(I:Inv X pins σ H s)(h:SqT X.K H a xs):∃its:List Value,Qt xs its/\IsTup s.heap a its.toArray/\xs.length<=sizeLine:=by
 rcases h with h | ⟨o,its,n,hk,hc,hs,hz,r⟩
 ·obtain⟨z,its,r,p⟩:=h.ok I.hok
  exact⟨its,r,p,z⟩
 ·refine⟨its.toList,r,⟨o,I.kIn a o hk,hc,n,by simpa using hs⟩,?_⟩
  have e:=r.length
  simp only[Zs]at e
  omega
theorem Inv.QfN(I:Inv X pins σ H s)(h:SqL X.K H a xs)(h':SqL X.K H a ys):xs=ys:=by
 obtain⟨its,r,⟨o,n,e,_,_,d⟩,_⟩:=I.list h
 obtain⟨its',r',⟨o',n',e',_,_,d'⟩,_⟩:=I.list h'
 rw[e]at e';cases e'
 rw[d]at d'
 injection d' with d1 _
 have:its=its':=by simpa using congrArg Array.toList d1
 subst this
 exact r.inj r'
theorem Inv.Qoo(I:Inv X pins σ H s)(h:SqT X.K H a xs)(h':SqT X.K H a ys):xs=ys:=by
 obtain⟨its,r,⟨o,e,_,n,d⟩,_⟩:=I.tuple h
 obtain⟨its',r',⟨o',e',_,n',d'⟩,_⟩:=I.tuple h'
 rw[e]at e';cases e'
 rw[d]at d'
 injection d' with d1 _
 have:its=its':=by simpa using congrArg Array.toList d1
 subst this
 exact r.inj r'
end
noncomputable abbrev Cx.Qdu(X:Cx)(E:Value->Shared->Prop):Cx:={X with xe:=E}
noncomputable abbrev Cx.nox(X:Cx):Cx:=X.Qdu λ_ _=>False
theorem Cx.Ok.Qdu{X:Cx}(ok:X.Ok)(E:Value->Shared->Prop):(X.Qdu E).Ok:=
 ⟨ok.mod,ok.kind,ok.glob,ok.blt,ok.above,ok.inj,ok.has,ok.cab,ok.hd,ok.frames,ok.stk,ok.exf,ok.bs,ok.bsz,ok.noex,ok.exfs,ok.Qdq,ok.frf⟩
theorem Cx.Ok.QcQ{X:Cx}{E:Value->Shared->Prop}(ok:(X.Qdu E).Ok):X.Ok:=
 ⟨ok.mod,ok.kind,ok.glob,ok.blt,ok.above,ok.inj,ok.has,ok.cab,ok.hd,ok.frames,ok.stk,ok.exf,ok.bs,ok.bsz,ok.noex,ok.exfs,ok.Qdq,ok.frf⟩
section
variable {X:Cx}{pins:List (Addr×Obj)}{σ:St}{H:Hp}{s:Shared}{E:Value->Shared->Prop}
theorem Inv.Qdu(I:Inv X pins σ H s)(E:Value->Shared->Prop):Inv (X.Qdu E) pins σ H s:=⟨I.ok.Qdu E,I.os,I.bare,I.base,I.loc,I.cell,I.free,I.freeC,I.pin,I.hok,I.len⟩
theorem Inv.QcQ(I:Inv (X.Qdu E) pins σ H s):Inv X pins σ H s:=⟨I.ok.QcQ,I.os,I.bare,I.base,I.loc,I.cell,I.free,I.freeC,I.pin,I.hok,I.len⟩
theorem SP.QcQ{D:Ends}{f:Flow}{s':Shared}(h:SP (X.Qdu E) pins D f s'):SP X pins D f s':=by
 cases f with
 | next=>obtain⟨σ',H',I,q⟩:=h;exact⟨σ',H',I.QcQ,q⟩
 | brk=>obtain⟨σ',H',I,q⟩:=h;exact⟨σ',H',I.QcQ,q⟩
 | cont=>obtain⟨σ',H',I,q⟩:=h;exact⟨σ',H',I.QcQ,q⟩
 | ret u=>obtain⟨v,σ',H',I,r,q⟩:=h;exact⟨v,σ',H',I.QcQ,r,q⟩
theorem PE.nox{e:Expr}{t:TE}(h:PE X.nox e t):PE X e t:=λpins s σ H Q I hw=>
 wpAny_mono (h pins s σ H Q (I.Qdu _) hw) (λ_ _ ⟨v,H',I',r,q⟩=>⟨v,H',I'.QcQ,r,q⟩) λ_ _ z=>False.elim z
theorem PT.nox{e:Expr}{t:TT}(h:PT X.nox e t):PT X e t:=λpins s σ H Q I hw=>
 wpAny_mono (h pins s σ H Q (I.Qdu _) hw) (λ_ _ ⟨H',I',q⟩=>⟨H',I'.QcQ,q⟩) λ_ _ z=>False.elim z
theorem PSs.nox{st:List Stmt}{t:TS}(h:PSs X.nox st t):PSs X st t:=λpins s σ H D I hw=>
 wpAny_mono (h pins s σ H D (I.Qdu _) hw) (λ_ _ q=>q.QcQ) λ_ _ z=>False.elim z
end
section
variable {X:Cx}{st:Stmt}{rest:List Stmt}{t u:TS}{e:Expr}{te:TE}{pos:Pos}
noncomputable def QnP:TS:=λD σ H=>D.nx σ H
noncomputable def Qxn(t u:TS):TS:=λD σ H=>t {D with nx:=u D} σ H
theorem Qna:PSs X [] QnP:=λ_ _ σ H _ I h=>wpAny_execs_nil ⟨σ,H,I,h⟩
theorem Qb0(h1:PS X st t)(h2:PSs X rest u):PSs X (st::rest) (Qxn t u):=by
 intro pins s σ H D I h
 refine wpAny_execs_cons (thn (h1 pins s σ H {D with nx:=u D} I h) λf s1 q=>?_)
 cases f with
 | next=>
  obtain⟨σ',H',I',q⟩:=q
  exact h2 pins s1 σ' H' D I' q
 | ret v=>exact q
 | brk=>exact q
 | cont=>exact q
noncomputable def QuD:TS:=λD σ H=>D.bk σ H
noncomputable def Qwx:TS:=λD σ H=>D.ct σ H
theorem Qsf:PS X (.Pass pos) QnP:=λ_ _ σ H _ I h=>wpAny_Pass ⟨σ,H,I,h⟩
theorem QqD:PS X (.Break pos) QuD:=λ_ _ σ H _ I h=>wpAny_Break ⟨σ,H,I,h⟩
theorem QlY:PS X (.Continue pos) Qwx:=λ_ _ σ H _ I h=>wpAny_Continue ⟨σ,H,I,h⟩
theorem Inv.quiet{pins:List (Addr×Obj)}{σ:St}{H:Hp}{s:Shared}(I:Inv X pins σ H s):interactive X.env=false:=by simp[interactive,I.ok.kind]
theorem Qvj{x j pos pos'}:PS X (.Expr (.Constant (.str x) j pos) pos') QnP:=λ_ s σ H _ I h=>wpAny_Expr (Calls.Constant_str (show SP X _ _ .next {s with toks:=s.toks+1}from⟨σ,H,I.tok _,h⟩)) I.quiet
noncomputable def Qey(te:TE):TS:=λD σ H=>te σ H λ_ H1=>D.nx σ H1
theorem Qfi(he:PE X e te)(hs:swapsWith e none pos.line X.env=pure false:=by rfl):PS X (.Expr e pos) (Qey te):=by
 intro pins s σ H D I h
 exact wpAny_Expr_any (thn (he pins s σ H _ I h) λv s1 ⟨x,H1,I1,r1,q1⟩=>⟨σ,H1,I1,q1⟩) I.quiet hs
noncomputable def Qxv(te:TE):TS:=λD σ H=>te σ H D.rt
theorem Qvy(he:PE X e te):PS X (.Return (some e) pos) (Qxv te):=by
 intro pins s σ H D I h
 exact wpAny_Return_some (thn (he pins s σ H _ I h) λv s1 ⟨x,H1,I1,r1,q1⟩=>⟨x,σ,H1,I1,r1,q1⟩)
noncomputable def Qw4(c:TT)(t u:TS):TS:=λD σ H=>c σ H λb H1=>if b=true then t D σ H1 else u D σ H1
theorem QwK{c:Expr}{a b:List Stmt}{tc:TT}(hc:PT X c tc)(ha:PSs X a t)(hb:PSs X b u):PS X (.If c a b pos) (Qw4 tc t u):=by
 intro pins s σ H D I h
 refine wpAny_If (thn (hc pins s σ H _ I h) λd s1 hpt=>?_)
 obtain⟨H1,I1,q1⟩:=hpt
 cases d with
 | true=>exact ha pins s1 σ H1 D I1 q1
 | false=>exact hb pins s1 σ H1 D I1 q1
noncomputable def QvM:TS:=λ_ _ _=>False
theorem Qp5:PS X st QvM:=λ_ _ _ _ _ _ h=>h.elim
end
noncomputable abbrev TG:=V->St->Hp->(St->Hp->Prop)->Prop
noncomputable abbrev TGs:=List V->St->Hp->(St->Hp->Prop)->Prop
def PG(X:Cx)(target:Expr)(t:TG):Prop:=
 ∀(pins:List (Addr×Obj)) (s:Shared) (σ:St) (H:Hp) (v:V) (u:Value) (Q:St->Hp->Prop),Inv X pins σ H s->RelV v u->t v σ H Q→
  wpAny (model X.prog X.w) X.A (assign target X.env u) (λ_ s'=>∃σ' H',Inv X pins σ' H' s'/\Q σ' H') X.xe s
def PGs(X:Cx)(ts:List Expr)(t:TGs):Prop:=
 ∀(pins:List (Addr×Obj)) (s:Shared) (σ:St) (H:Hp) (vs:List V) (us:List Value) (Q:St->Hp->Prop),Inv X pins σ H s->Qt vs us->t vs σ H Q→
  wpAny (model X.prog X.w) X.A (assignInOrder ((assignEach ts X.env).map (·.2)) us) (λ_ s'=>∃σ' H',Inv X pins σ' H' s'/\Q σ' H') X.xe s
noncomputable abbrev QlG:=V->V->V->Hp->(Hp->Prop)->Prop
def Qqq(X:Cx)(t:QlG):Prop:=
 ∀(pins:List (Addr×Obj)) (s:Shared) (σ:St) (H:Hp) (o i v:V) (ov iv u:Value) (Q:Hp->Prop),Inv X pins σ H s->RelV o ov->RelV i iv->RelV v u->t o i v H Q→
  wpAny (model X.prog X.w) X.A (setItem ov iv u) (λ_ s'=>∃H',Inv X pins σ H' s'/\Q H') X.xe s
noncomputable abbrev TIp:=V->V->Hp->VK->Prop
def PIp(X:Cx)(op:Operator)(t:TIp):Prop:=
 ∀(pins:List (Addr×Obj)) (s:Shared) (σ:St) (H:Hp) (x y:V) (v u:Value) (Q:VK),Inv X pins σ H s->RelV x v->RelV y u->t x y H Q→
  wpAny (model X.prog X.w) X.A (inplaceOp op v u) (EP X pins σ Q) X.xe s
section
variable {X:Cx}{pos:Pos}
noncomputable def QdR(i:Nat):TG:=λv σ H Q=>Q (σ.set i (some v)) H
theorem QmO{i:Nat}{x:Str}(hN:X.N.Nodup)(hi:X.N[i]? =some x)(hx:Loc X.env.scope x)(hf:X.fn x=true∨X.env.scope.names.lookup x=some .local :=by first | exact .inl rfl | exact .inr rfl | assumption):PG X (.Name x pos) (QdR i):=by
 intro pins s σ H v u Q I r h
 exact wpAny_assign_Name (Qlc I hN hi hx r (λs' I'=>⟨_,H,I',h⟩) hf)
noncomputable def QuE:TGs:=λvs σ H Q=>vs=[]/\Q σ H
noncomputable def QrK(t:TG)(u:TGs):TGs:=λvs σ H Q=>∃v r,vs=v::r/\t v σ H λσ' H'=>u r σ' H' Q
theorem QsR:PGs X [] QuE:=by
 intro pins s σ H vs us Q I r h
 obtain⟨e,h⟩:=h
 subst e
 cases r
 exact assignInOrder_nil ⟨σ,H,I,h⟩
theorem Qqv{e:Expr}{es:List Expr}{t:TG}{u:TGs}(h1:PG X e t)(h2:PGs X es u)
  (hs:(assignEach (e::es) X.env).map (·.2)=assign e X.env::(assignEach es X.env).map (·.2):=by rfl):PGs X (e::es) (QrK t u):=by
 intro pins s σ H vs us Q I r h
 obtain⟨v,vr,e1,h⟩:=h
 subst e1
 cases r with
 | cons r rr=>
  rw[hs]
  refine assignInOrder_cons (thn (h1 pins s σ H _ _ _ I r h) λ_ s1 hpt=>?_)
  obtain⟨σ1,H1,I1,q1⟩:=hpt
  exact h2 pins s1 σ1 H1 _ _ Q I1 rr q1
noncomputable def Qxm(K:PySem.W.Frag)(n:Nat)(t:TGs):TG:=λv σ H Q=>∃a xs,v= .ref a/\SqT K H a xs/\xs.length=n/\t xs σ H Q
theorem Qvf{es:List Expr}{k:Nat}{t:TGs}{n:Nat}(hc:X.calm=true)(h:PGs X es t)
  (hn:(assignEach es X.env).length=n:=by rfl) (hst:(assignEach es X.env).findIdx? (·.1)=none:=by rfl):PG X (.Tuple es k pos) (Qxm X.K n t):=by
 intro pins s σ H v u Q I r hw
 obtain⟨a,xs,e1,hq,hl,hw⟩:=hw
 subst e1
 cases r
 obtain⟨its,rv,ht,hz⟩:=I.tuple hq
 refine assign_Tuple_tuple (I.ok.hd hc) ht (by simp[hn,← hl,rv.length]) hst λh' hx=>?_
 have I1:Inv X pins σ H {s with heap:=h'}:=I.kept (t':=s.toks) λb o e=>hx b o (ZJ (Zr e)) e
 exact h pins _ σ H xs _ Q I1 (by simpa using rv) hw
noncomputable def Qb2(to ti:TE)(t:QlG):TG:=λv σ H Q=>to σ H λo H1=>ti σ H1 λi H2=>t o i v H2 λH3=>Q σ H3
theorem Qt5{o i:Expr}{to ti:TE}{t:QlG}(ho:PE X o to)(hi:PE X i ti)(hs:Qqq X t)
  (ha:∀v,assign (.Subscript o i pos) X.env v=(do
   let ov ← holding [v] (eval o X.env)
   let iv ← holding [v,ov] (eval i X.env)
   standAt pos
   holding [v,ov,iv] (setItem ov iv v)
   release [v,ov,iv] []):=by intro _;rfl):PG X (.Subscript o i pos) (Qb2 to ti t):=by
 intro pins s σ H v u Q I r h
 rw[ha]
 refine wpAny_bind (wpAny_holding (thn (ho pins s σ H _ I h) λov s1=>exJ λx H1 I1 r1 q1=>?_))
 refine wpAny_bind (wpAny_holding (thn (hi pins s1 σ H1 _ I1 q1) λiv s2=>exJ λy H2 I2 r2 q2=>?_))
 refine wpAny_bind (wpAny_standAt (wpAny_bind (wpAny_holding (thn (hs pins s2 σ H2 x y v ov iv u _ I2 r1 r2 r q2) λ_ s3 hpt=>?_))))
 obtain⟨H3,I3,q3⟩:=hpt
 exact wpAny_release ⟨σ,H3,I3,q3⟩
noncomputable def QfL(te:TE)(g:TG):TS:=λD σ H=>te σ H λx H1=>g x σ H1 D.nx
theorem QkV{tg e:Expr}{te:TE}{g:TG}(he:PE X e te)(hg:PG X tg g)(hs:swapsWithSole [tg] e pos.line X.env=pure false:=by rfl)(hw:swappedStores [tg] e X.env=pure none:=by rfl)
  (h1:(assignEach [tg] X.env).map (·.2)=[assign tg X.env]:=by rfl):PS X (.Assign [tg] e pos) (QfL te g):=by
 intro pins s σ H D I h
 refine wpAny_Assign_stores (thn (he pins s σ H _ I h) λv s1 ⟨x,H1,I1,r1,q1⟩=>?_) hs hw
 rw[h1]
 exact thn (hg pins s1 σ H1 x v _ I1 r1 q1) λ_ s2 q=>q
theorem QeZ{i:Nat}{x:Str}{e:Expr}{te:TE}{pos':Pos}(hN:X.N.Nodup)(hi:X.N[i]? =some x)(hx:Loc X.env.scope x)(he:PE X e te)(hs:swapsWith e (some (.Name x pos')) pos.line X.env=pure false:=by rfl)(hf:X.fn x=true∨X.env.scope.names.lookup x=some .local :=by first | exact .inl rfl | exact .inr rfl | assumption):
  PS X (.Assign [.Name x pos'] e pos) (QfL te (QdR i)):=by
 intro pins s σ H D I h
 refine wpAny_Assign_Name (thn (he pins s σ H _ I h) λv s1 ⟨y,H1,I1,r1,q1⟩=>?_) hs
 exact Qlc I1 hN hi hx r1 (λs2 I2=>⟨_,H1,I2,q1⟩) hf
noncomputable def QwH(to ti te:TE)(tget:V->V->Hp->VK->Prop)(tip:TIp)(tset:QlG):TS:=λD σ H=>to σ H λo H1=>ti σ H1 λi H2=>tget o i H2 λx H3=>te σ H3 λy H4=>tip x y H4 λz H5=>tset o i z H5 λH6=>D.nx σ H6
def QuI(X:Cx)(t:V->V->Hp->VK->Prop):Prop:=
 ∀(pins:List (Addr×Obj)) (s:Shared) (σ:St) (H:Hp) (o i:V) (ov iv:Value) (Q:VK),Inv X pins σ H s->RelV o ov->RelV i iv->t o i H Q→
  wpAny (model X.prog X.w) X.A (getItem ov iv) (EP X pins σ Q) X.xe s
theorem Qsm{o i e:Expr}{to ti te:TE}{tget:V->V->Hp->VK->Prop}{tip:TIp}{tset:QlG}{op:Operator}{tpos:Pos}(ho:PE X o to)(hi:PE X i ti)(hg:QuI X tget)(he:PE X e te)(hp:PIp X op tip)(hs:Qqq X tset)
  (ha:∀ov iv new,augStore i ov iv new=(do holding [new,ov,iv] (setItem ov iv new);release [new,ov,iv] [];pure .next):=by intros;rfl):PS X (.AugAssign (.Subscript o i tpos) op e pos) (QwH to ti te tget tip tset):=by
 intro pins s σ H D I h
 refine wpAny_AugAssign_SubscriptAny (thn (ho pins s σ H _ I h) λov s1 ⟨x1,H1,I1,r1,q1⟩=>?_) ha
 refine thn (hi pins s1 σ H1 _ I1 q1) λiv s2=>exJ λx2 H2 I2 r2 q2=>?_
 refine thn (hg pins s2 σ H2 x1 x2 ov iv _ I2 r1 r2 q2) λold s3=>exJ λx3 H3 I3 r3 q3=>?_
 refine thn (he pins s3 σ H3 _ I3 q3) λv s4=>exJ λx4 H4 I4 r4 q4=>?_
 refine thn (hp pins s4 σ H4 x3 x4 old v _ I4 r3 r4 q4) λnew s5=>exJ λx5 H5 I5 r5 q5=>?_
 exact thn (hs pins s5 σ H5 x1 x2 x5 ov iv new _ I5 r1 r2 r5 q5) λ_ s6 ⟨H6,I6,q6⟩=>⟨σ,H6,I6,q6⟩
end
section
variable {X:Cx}{pos:Pos}
noncomputable def QvT(c:TT)(tb:TS):TS:=λD σ H=>∃W:Nat->St->Hp->Prop,(∃m,W m σ H)/\∀m σ H,W m σ H→
 c σ H λb H1=>if b=true then ∃N:St->Hp->Prop,(∀σ' H',N σ' H'->∃m',m'<m/\W m' σ' H')/\tb {D with nx:=N,ct:=N,bk:=D.nx} σ H1 else D.nx σ H1
theorem Qrc{c:Expr}{body:List Stmt}{tc:TT}{tb:TS}(hp:PassesOwn (model X.prog X.w) X.A X.env X.xe)(hc:PT X c tc)(hb:PSs X body tb):PS X (.While c body [] pos) (QvT tc tb):=by
 intro pins s σ H D I h
 obtain⟨W,⟨m0,w0⟩,turn⟩:=h
 refine wpAny_While (codeAny_whileLoop (λn s'=>∃σ' H',Inv X pins σ' H' s'/\W n σ' H') ?_ m0 ⟨σ,H,I,w0⟩)
 rintro n s1 ⟨σ1,H1,I1,w1⟩
 refine wpAny_passesOwn hp (thn (hc pins s1 σ1 H1 _ I1 (turn n σ1 H1 w1)) λb s2 hpt=>?_)
 obtain⟨H2,I2,q2⟩:=hpt
 cases b with
 | true=>
  obtain⟨N,hN,q2⟩:=q2
  rw[if_pos rfl]
  refine wpAny_passesOwn hp (thn (hb pins s2 σ1 H2 _ I2 q2) λf s3 q3=>?_)
  cases f with
  | next=>
   obtain⟨σ3,H3,I3,n3⟩:=q3
   obtain⟨m',hm,w3⟩:=hN σ3 H3 n3
   exact⟨m',hm,σ3,H3,I3,w3⟩
  | cont=>
   obtain⟨σ3,H3,I3,n3⟩:=q3
   obtain⟨m',hm,w3⟩:=hN σ3 H3 n3
   exact⟨m',hm,σ3,H3,I3,w3⟩
  | brk=>exact q3
  | ret v=>exact q3
 | false=>
  rw[if_neg Zat]
  exact wpAny_execs_nil ⟨σ1,H2,I2,q2⟩
end
structure It where
 go:Nat->Hp->Prop
 yld:Nat->Hp->V->Hp->Prop
 stop:Nat->Hp->Prop
def Qc6(X:Cx)(pins:List (Addr×Obj))(H:Hp)(b:Addr):Prop:=
 H b=none/\b≠X.env.locals/\b∉X.fs/\(b∈X.ex∨X.s₀.heap.objs.size<=b)/\(∀x c,X.env.cells.lookup x=some c->c≠b)/\∀p∈X.pn++pins,p.1≠b
theorem Inv.Qie{X:Cx}{pins:List (Addr×Obj)}{σ:St}{H H':Hp}{s:Shared}{b:Addr}(I:Inv X pins σ H s)(hb:s.heap.objs.size<=b)(hn:H' b=none):Qc6 X pins H' b:=by
 refine⟨hn,Zbj (ZI I.lt hb),I.QxB hb,.inr (ZM I.sz hb),λx c e z=>?_,λp hp z=>?_⟩
 ·obtain⟨v,q⟩:=I.cell x c e
  exact absurd (ZI q.lt (by rw[z];exact hb)) (ZU _)
 ·exact absurd (ZI (Zr (I.pin p hp).1) (by rw[z];exact hb)) (ZU _)
structure Turn (P:Program) (w:World) (K:PySem.W.Frag) (tg:Expr) (J:It) (fp:List Addr) (it:Addr) (tn:Nat->Heap->Prop):Prop where
 mem:it∈fp
 obj:∀i h,tn i h->∀b∈fp,∃o,h.get? b=some o/\∀v,o.data≠ .cell v
 keep:∀i h h',tn i h->(∀b∈fp,∀o,h.get? b=some o->h'.get? b=some o)->tn i h'
 item:∀(X:Cx),X.prog=P->X.w=w->X.K=K->X.calm=true->∀(i:Nat) (pins:List (Addr×Obj)) (s:Shared) (σ:St) (H:Hp) (E:Value->Shared->Prop),Inv X pins σ H s->(∀b∈fp,Qc6 X pins H b)->tn i s.heap->J.go i H→
  wpAny (model P w) X.A (pyNext (.ref it)) (λr s1=>∃u,r=some u∧
   wpAny (model P w) X.A (letOwnedTupleGo tg (.ref it) u) (λ_ s2=>∃x H',Inv X pins σ H' s2/\RelV x u/\J.yld i H x H'/\tn (i+1) s2.heap/\∀b∈fp,H' b=none) E s1) E s
 done:∀(X:Cx),X.prog=P->X.w=w->X.K=K->X.calm=true->∀(i:Nat) (pins:List (Addr×Obj)) (s:Shared) (σ:St) (H:Hp) (E:Value->Shared->Prop),Inv X pins σ H s->(∀b∈fp,Qc6 X pins H b)->tn i s.heap->J.stop i H→
  wpAny (model P w) X.A (pyNext (.ref it)) (λr s1=>r=none/\Inv X pins σ H s1) E s
 self:∀(A:Around) (i:Nat) (s:Shared) (Q:Value->Shared->Prop) (E:Value->Shared->Prop),tn i s.heap->Q (.ref it) s->wpAny (model P w) A (pyIter (.ref it)) Q E s
noncomputable abbrev TI:=St->Hp->(It->Hp->Prop)->Prop
def PIE(X:Cx)(pins:List (Addr×Obj))(σ:St)(tg:Expr)(R:It->Hp->Prop)(itv:Value)(s2:Shared):Prop:=
 ∃(it:Addr) (fp:List Addr) (tn:Nat->Heap->Prop) (J:It) (H':Hp),itv= .ref it/\Inv X pins σ H' s2/\Turn X.prog X.w X.K tg J fp it tn/\tn 0 s2.heap/\(∀b∈fp,Qc6 X pins H' b)/\R J H'
def PI(X:Cx)(tg iter:Expr)(wi:TI):Prop:=
 ∀(pins:List (Addr×Obj)) (s:Shared) (σ:St) (H:Hp) (R:It->Hp->Prop),Inv X pins σ H s->wi σ H R→
  wpAny (model X.prog X.w) X.A (eval iter X.env) (λv s1=>wpAny (model X.prog X.w) X.A (pyIter v) (PIE X pins σ tg R) X.xe s1) X.xe s
theorem Qke{M:Model}{A:Around}{E:Value->Shared->Prop}{s:Shared}{tg:Expr}{it:Addr}{u:Value}{o:Obj}{n:String}{vs:Array Value}{Q:Unit->Shared->Prop}(ho:s.heap.get? it=some o)(hc:o.cls= .type n)(hd:o.data= .fields vs)
    (hn:["enumerate","zip","dict_itemiterator","dict_reverseitemiterator","odict_iterator","itertools.zip_longest","itertools.pairwise"].contains n=false) (hQ:Q () s):wpAny M A (letOwnedTupleGo tg (.ref it) u) Q E s:=by
  unfold letOwnedTupleGo
  cases tg<;>first
    | exact wpAny_pure hQ
    | (cases u<;>first
        | exact wpAny_pure hQ
        | (refine wpAny_bind (wpAny_load ho ?_)
           rw[hc,hd]
           show wpAny M A (if(["enumerate","zip","dict_itemiterator","dict_reverseitemiterator","odict_iterator","itertools.zip_longest","itertools.pairwise"].contains n && vs[0]? == some (rawInt _))=true then _ else _) Q E s
           rw[if_neg (by intro h;rw[hn,Bool.false_and]at h;cases h)]
           exact wpAny_pure hQ))
noncomputable def Itl(K:PySem.W.Frag)(a:Addr):It:=
 ⟨λi H=>∃xs x,SqL K H a xs/\xs[i]? =some x,λi H x H'=>H'=H/\∀xs,SqL K H a xs->xs[i]? =some x,λi H=>∃xs,SqL K H a xs/\xs.length<=i⟩
noncomputable def Itt(K:PySem.W.Frag)(a:Addr):It:=
 ⟨λi H=>∃xs x,SqT K H a xs/\xs[i]? =some x,λi H x H'=>H'=H/\∀xs,SqT K H a xs->xs[i]? =some x,λi H=>∃xs,SqT K H a xs/\xs.length<=i⟩
noncomputable def Itr(lo:Int)(n:Nat):It:=⟨λi _=>i<n,λi H x H'=>H'=H/\x= .int (lo+i),λi _=>n<=i⟩
theorem QoD{P:Program}{w:World}{K:PySem.W.Frag}{tg:Expr}(a it:Addr):Turn P w K tg (Itl K a) [it] it (λi h=>h.IsListIter it a i) where
 mem:=by simp
 obj:=λi h st b hb=>by
  have e:b=it:=by simpa using hb
  subst e
  obtain⟨o,e,c,d⟩:=st
  exact⟨o,e,λv z=>by rw[d]at z;cases z⟩
 keep:=λi h h' st k=>st.at λo e=>k it (by simp) o e
 item:=by
  intro X hP hw hK hc i pins s σ H E I hf st hg
  subst hP hw hK
  obtain⟨xs,x,hq,hx⟩:=hg
  obtain⟨its,rv,p,hz⟩:=I.list hq
  obtain⟨u,hu,ru⟩:=rv.get hx
  obtain⟨f0,f1,f2,f3,f4,f5⟩:=hf it (by simp)
  refine wpAny_pyNext_list_item st p.isList (x:=u) (by simpa using hu) λh' st' sb=>?_
  have I1:Inv X pins σ H {s with heap:=h'}:=I.turned (t':=s.toks) (λb o hb e=>(sb.2 b hb).trans e) f0 f1 f3 f4 f5
  obtain⟨o,e,c,d⟩:=id st'
  exact⟨u,rfl,Qke (s:={s with heap:=h'}) e c d (by decide) ⟨x,H,I1,ru,⟨rfl,λys hy=>by rw[I.QfN hy hq];exact hx⟩,st',λb hb=>(hf b hb).1⟩⟩
 done:=by
  intro X hP hw hK hc i pins s σ H E I hf st hg
  subst hP hw hK
  obtain⟨xs,hq,hx⟩:=hg
  obtain⟨its,rv,p,hz⟩:=I.list hq
  obtain⟨f0,f1,f2,f3,f4,f5⟩:=hf it (by simp)
  have hl:=rv.length
  exact wpAny_pyNext_list_end (I.ok.hd hc) st p.isList (by simp;omega) λh' eb=>⟨rfl,I.turned (t':=s.toks) (λb o hb e=>eb b o hb e) f0 f1 f3 f4 f5⟩
 self:=λ_ _ _ _ _ st h=>wpAny_pyIter_listiter st h
theorem Qnc{P:Program}{w:World}{K:PySem.W.Frag}{tg:Expr}(a it:Addr):Turn P w K tg (Itt K a) [it] it (λi h=>h.IsTupleIter it a i) where
 mem:=by simp
 obj:=λi h st b hb=>by
  have e:b=it:=by simpa using hb
  subst e
  obtain⟨o,e,c,d⟩:=st
  exact⟨o,e,λv z=>by rw[d]at z;cases z⟩
 keep:=λi h h' st k=>st.at λo e=>k it (by simp) o e
 item:=by
  intro X hP hw hK hc i pins s σ H E I hf st hg
  subst hP hw hK
  obtain⟨xs,x,hq,hx⟩:=hg
  obtain⟨its,rv,p,hz⟩:=I.tuple hq
  obtain⟨u,hu,ru⟩:=rv.get hx
  obtain⟨f0,f1,f2,f3,f4,f5⟩:=hf it (by simp)
  refine wpAny_pyNext_tuple_item st (show s.heap.IsTuple a its.toArray from p) (x:=u) (by simpa using hu) λh' st' sb=>?_
  have I1:Inv X pins σ H {s with heap:=h'}:=I.turned (t':=s.toks) (λb o hb e=>(sb.2 b hb).trans e) f0 f1 f3 f4 f5
  obtain⟨o,e,c,d⟩:=id st'
  exact⟨u,rfl,Qke (s:={s with heap:=h'}) e c d (by decide) ⟨x,H,I1,ru,⟨rfl,λys hy=>by rw[I.Qoo hy hq];exact hx⟩,st',λb hb=>(hf b hb).1⟩⟩
 done:=by
  intro X hP hw hK hc i pins s σ H E I hf st hg
  subst hP hw hK
  obtain⟨xs,hq,hx⟩:=hg
  obtain⟨its,rv,p,hz⟩:=I.tuple hq
  obtain⟨f0,f1,f2,f3,f4,f5⟩:=hf it (by simp)
  have hl:=rv.length
  exact wpAny_pyNext_tuple_end (I.ok.hd hc) st (show s.heap.IsTuple a its.toArray from p) (by simp;omega) λh' eb=>⟨rfl,I.turned (t':=s.toks) (λb o hb e=>eb b o hb e) f0 f1 f3 f4 f5⟩
 self:=λ_ _ _ _ _ st h=>wpAny_pyIter_tupleiter st h
theorem Qn2{P:Program}{w:World}{K:PySem.W.Frag}{tg:Expr}(it:Addr)(lo:Int)(n:Nat):Turn P w K tg (Itr lo n) [it] it (λi h=>IsRangeIter h it (lo+(i:Nat)*1) ((n:Int)-(i:Nat)) 1) where
 mem:=by simp
 obj:=λi h st b hb=>by
  have e:b=it:=by simpa using hb
  subst e
  exact⟨_,st,λv z=>by
   have z':Data.fields _=Data.cell v:=z
   cases z'⟩
 keep:=λi h h' st k=>k it (by simp) _ st
 item:=by
  intro X hP hw hK hc i pins s σ H E I hf st hg
  subst hP hw hK
  obtain⟨f0,f1,f2,f3,f4,f5⟩:=hf it (by simp)
  have W:=Walks.range (prog:=X.prog) (w:=X.w) (I.ok.hd hc) it lo 1 n
  refine W.item i s _ _ hg st λv h' tk hv st' kk=>?_
  obtain⟨t,rfl⟩:=hv
  have I1:Inv X pins σ H {s with heap:=h',toks:=tk}:=I.turned (λb o hb e=>kk b o (by simpa using hb) e) f0 f1 f3 f4 f5
  refine⟨_,rfl,Qke (s:={s with heap:=h',toks:=tk}) (n:= "range_iterator") st' rfl rfl (by decide) ⟨.int (lo+i),H,I1,⟨t,?_⟩,⟨rfl,rfl⟩,st',λb hb=>(hf b hb).1⟩⟩
  rw[Int.mul_one]
 done:=by
  intro X hP hw hK hc i pins s σ H E I hf st hg
  subst hP hw hK
  obtain⟨f0,f1,f2,f3,f4,f5⟩:=hf it (by simp)
  exact wpAny_pyNext_range_end (I.ok.hd hc) st (by have:n<=i:=hg;omega) λh' eb=>⟨rfl,I.turned (t':=s.toks) (λb o hb e=>eb b o hb e) f0 f1 f3 f4 f5⟩
 self:=λ_ _ _ _ _ st h=>wpAny_pyIter_rangeiter st h
end L2
namespace L2
open PySem PySem.Spec PyProof.Rows
section
variable {X:Cx}{tg:Expr}
theorem Qkw{pins:List (Addr×Obj)}{σ:St}{H:Hp}{s:Shared}{R:It->Hp->Prop}{E:Value->Shared->Prop}{lo hi:Int}{t u v:Tok}{tk:Nat}(I:Inv X pins σ H s)(h1: -(2^62)<=lo)(h2:lo<2^62)(h3: -(2^62)<=hi)(h4:hi<2^62)
  (q:R (Itr lo (hi-lo).toNat) H):wpAny (model X.prog X.w) X.A (pyIter (.ref s.heap.objs.size)) (PIE X pins σ tg R) E {s with heap:=s.heap.push {cls:= .type "range",data:= .fields #[.int lo t,.int hi u,.int 1 v]},toks:=tk}:=by
 refine wpAny_pyIter_range (IsRange.new ..) (small_one h1 h2 h3 h4) ?_
 have I1:Inv X pins σ H {s with heap:=s.heap.push {cls:= .type "range",data:= .fields #[.int lo t,.int hi u,.int 1 v]},toks:=tk}:=I.kept λb o e=>Zg _ e
 refine⟨(s.heap.push {cls:= .type "range",data:= .fields #[.int lo t,.int hi u,.int 1 v]}).objs.size,[(s.heap.push {cls:= .type "range",data:= .fields #[.int lo t,.int hi u,.int 1 v]}).objs.size],_,_,H,rfl,
  I1.kept (t':=tk) λb o e=>Zg _ e,Qn2 _ lo (hi-lo).toNat,?_,λb hb=>?_,q⟩
 ·have e1:lo+((0:Nat):Int)*1=lo:=by simp
  have e2:(((hi-lo).toNat:Nat):Int)-((0:Nat):Int)=Builtin.Range.rangeSize lo hi 1:=by rw[rangeSize_one];split<;>omega
  show IsRangeIter _ _ (lo+((0:Nat):Int)*1) ((((hi-lo).toNat:Nat):Int)-((0:Nat):Int)) 1
  rw[e1,e2]
  exact Zz _ rfl
 ·have e:b=(s.heap.push {cls:= .type "range",data:= .fields #[.int lo t,.int hi u,.int 1 v]}).objs.size:=by simpa using hb
  subst e
  exact I1.Qie (Zq _) (I1.hok.fresh (Zq _))
noncomputable def Qwo(ta:TA):TI:=λσ H R=>ta σ H λvs H1=>∃j:Int,vs=[.int j]/\ -(2^62)<=j/\j<2^62/\R (Itr 0 j.toNat) H1
noncomputable def Qv6(ta:TA):TI:=λσ H R=>ta σ H λvs H1=>∃i j:Int,vs=[.int i,.int j]/\(-(2^62)<=i/\i<2^62/\ -(2^62)<=j/\j<2^62)/\R (Itr i (j-i).toNat) H1
theorem Qos{a:Expr}{ta:TA}{p pos:Pos}(hg:Gl X "range")(hm:X.mg "range" =none)(ha:PA X [a] ta)(hs:starEach [a] X.env=[(false,eval a X.env)]:=by rfl):PI X tg (.Call (.Name "range" p) [a] [] pos) (Qwo ta):=by
 intro pins s σ H R I h
 refine Call_ (Qca I hg hm boot_range (ZW (thn (ha pos pins s σ H _ I h) λus s1 ⟨vs,H1,I1,r1,q1⟩=>?_) hs rfl))
 obtain⟨j,e,q1,q2,q⟩:=q1
 subst e
 cases r1 with
 | cons r rr=>
  cases rr
  obtain⟨t,rfl⟩:=r
  exact call_range_1 (Qkw I1 (by omega) (by omega) q1 q2 (by simpa using q))
theorem Qo7{a b:Expr}{ta:TA}{p pos:Pos}(hg:Gl X "range")(hm:X.mg "range" =none)(ha:PA X [a,b] ta)(hs:starEach [a,b] X.env=[(false,eval a X.env),(false,eval b X.env)]:=by rfl)(hs2:starEach [b] X.env=[(false,eval b X.env)]:=by rfl):
  PI X tg (.Call (.Name "range" p) [a,b] [] pos) (Qv6 ta):=by
 intro pins s σ H R I h
 refine Call_ (Qca I hg hm boot_range (ZW (thn (ha pos pins s σ H _ I h) λus s1 ⟨vs,H1,I1,r1,q1⟩=>?_) (by rw[hs,hs2]) (by rw[hs2];rfl)))
 obtain⟨i,j,e,⟨q1,q2,q3,q4⟩,q⟩:=q1
 subst e
 cases r1 with
 | cons r rr=>
  cases rr with
  | cons r' rr=>
   cases rr
   obtain⟨t,rfl⟩:=r
   obtain⟨t',rfl⟩:=r'
   exact call_range_2 (Qkw I1 q1 q2 q3 q4 q)
noncomputable def Qxu(wi:TI)(g:TG)(tb:TS):TS:=λD σ H=>wi σ H λJ H1=>∃W:Nat->Nat->St->Hp->Prop,(∃m,W 0 m σ H1)/\∀i m σ H,W i m σ H→
 (J.stop i H/\D.nx σ H)∨(J.go i H/\∃N:St->Hp->Prop,(∀σ' H',N σ' H'->∃m',m'<m/\W (i+1) m' σ' H')/\∀x H',J.yld i H x H'->g x σ H' λσ2 H2=>tb {D with nx:=N,ct:=N,bk:=D.nx} σ2 H2)
noncomputable def Qgq(fp:List Addr)(h:Heap):List (Addr×Obj):=fp.filterMap λb=>(h.get? b).map λo=>(b,o)
theorem Qfr{fp:List Addr}{h:Heap}{b:Addr}{o:Obj}(hb:b∈fp)(e:h.get? b=some o):(b,o)∈Qgq fp h:=Zbg.mpr ⟨b,hb,by rw[e];rfl⟩
theorem Qpt{fp:List Addr}{h:Heap}{p:Addr×Obj}(hp:p∈Qgq fp h):p.1∈fp/\h.get? p.1=some p.2:=by
 obtain⟨b,hb,e⟩:=Zbg.mp hp
 cases q:h.get? b with
 | none=>rw[q]at e;cases e
 | some o=>
  rw[q]at e
  have e':(b,o)=p:=Option.some.inj e
  subst e'
  exact⟨hb,q⟩
theorem Inv.pinned{pins:List (Addr×Obj)}{σ:St}{H:Hp}{s:Shared}{fp:List Addr}(I:Inv X pins σ H s)(hf:∀b∈fp,Qc6 X pins H b)(ho:∀b∈fp,∃o,s.heap.get? b=some o/\∀v,o.data≠ .cell v):Inv X (pins++Qgq fp s.heap) σ H s:=
 I.Qmp λp hp=>(ZK.mp hp).elim (λz=>I.pin p (Zl _ z)) λz=>by
  obtain⟨hb,e⟩:=Qpt z
  obtain⟨f0,f1,f2,_⟩:=hf p.1 hb
  obtain⟨o,e',d⟩:=ho p.1 hb
  rw[e]at e';cases e'
  exact⟨e,f0,f1,f2,d⟩
theorem Inv.QfB{pins pl:List (Addr×Obj)}{σ:St}{H:Hp}{s:Shared}(I:Inv X (pins++pl) σ H s):Inv X pins σ H s:=I.Qmp λp hp=>I.pin p (Zl _ (Zi _ hp))
theorem QoL{iter:Expr}{body:List Stmt}{wi:TI}{g:TG}{tb:TS}{pos:Pos}(hp:PassesOwn (model X.prog X.w) X.A X.env X.xe)(hc:X.calm=true)(hi:PI X tg iter wi)(hg:PG X tg g)(hb:PSs X body tb)
  (hs:∀x,foldedSetIterable iter X.env x=pure x:=by intro _;rfl):PS X (.For tg iter body [] pos) (Qxu wi g tb):=by
 intro pins s σ H D I h
 refine wpAny_For (thn (hi pins s σ H _ I h) λv s1 h1=>thn h1 λitv s2 h2=>?_) hs
 obtain⟨it,fp,tn,J,H2,e,I2,T,st2,f2,W,⟨m0,w0⟩,turn⟩:=h2
 subst e
 have stat:∀{H':Hp},(∀b∈fp,H' b=none)->∀b∈fp,Qc6 X pins H' b:=λhn b hb=>⟨hn b hb,(f2 b hb).2⟩
 refine codeAny_forLoop_any (λn s'=>∃i σ' H',Inv X pins σ' H' s'/\tn i s'.heap/\(∀b∈fp,H' b=none)/\W i n σ' H') ?_ m0 ⟨0,σ,H2,I2,st2,λb hb=>(f2 b hb).1,w0⟩
 rintro n s3 ⟨i,σ3,H3,I3,st3,fr3,w3⟩
 rcases turn i n σ3 H3 w3 with⟨stop,qn⟩ | ⟨go,N,hN,step⟩
 ·refine wpAny_passesOwn hp (thn (T.done X rfl rfl rfl hc i pins s3 σ3 H3 X.xe I3 (stat fr3) st3 stop) λr s4 hpt=>?_)
  obtain⟨hr,I4⟩:=hpt
  subst hr
  exact wpAny_execs_nil ⟨σ3,H3,I4,qn⟩
 ·refine wpAny_passesOwn hp (thn (T.item X rfl rfl rfl hc i pins s3 σ3 H3 X.xe I3 (stat fr3) st3 go) λr s4 hpt=>?_)
  obtain⟨u,hr,h4⟩:=hpt
  subst hr
  refine wpAny_passesOwn hp (thn h4 λ_ s5 hpt=>?_)
  obtain⟨x,H5,I5,r5,y5,st5,fr5⟩:=hpt
  have I5':=I5.pinned (stat fr5) (T.obj _ _ st5)
  refine wpAny_passesOwn hp (thn (hg _ s5 σ3 H5 x u _ I5' r5 (step x H5 y5)) λ_ s6 hpt=>?_)
  obtain⟨σ6,H6,I6,q6⟩:=hpt
  refine wpAny_passesOwn hp (thn (hb _ s6 σ6 H6 _ I6 q6) λf s7 q7=>?_)
  have again:∀{σ7:St}{H7:Hp},Inv X (pins++Qgq fp s5.heap) σ7 H7 s7->N σ7 H7->∃m,m<n/\∃i σ' H',Inv X pins σ' H' s7/\tn i s7.heap/\(∀b∈fp,H' b=none)/\W i m σ' H':=λ{σ7 H7} I7 n7=>by
   obtain⟨m',hm,w7⟩:=hN σ7 H7 n7
   refine⟨m',hm,i+1,σ7,H7,I7.QfB,T.keep _ _ _ st5 λb hb o e=>(I7.pin (b,o) (Zl _ (Zl _ (Qfr hb e)))).1,λb hb=>?_,w7⟩
   obtain⟨o,e,d⟩:=T.obj _ _ st5 b hb
   exact(I7.pin (b,o) (Zl _ (Zl _ (Qfr hb e)))).2.1
  cases f with
  | next=>obtain⟨σ7,H7,I7,n7⟩:=q7;exact again I7 n7
  | cont=>obtain⟨σ7,H7,I7,n7⟩:=q7;exact again I7 n7
  | brk=>obtain⟨σ7,H7,I7,q7⟩:=q7;exact⟨σ7,H7,I7.QfB,q7⟩
  | ret v=>obtain⟨x7,σ7,H7,I7,r7,q7⟩:=q7;exact⟨x7,σ7,H7,I7.QfB,r7,q7⟩
end
end L2
namespace L2
open PySem PySem.Spec PyProof.Rows
noncomputable abbrev R2:=V->V->Hp->VK->Prop
def OpR(X:Cx)(f:Value->Value->Sem Value)(r:R2):Prop:=
 ∀(pins:List (Addr×Obj)) (s:Shared) (σ:St) (H:Hp) (x y:V) (v u:Value) (Q:VK),Inv X pins σ H s->RelV x v->RelV y u->r x y H Q→
  wpAny (model X.prog X.w) X.A (f v u) (EP X pins σ Q) X.xe s
def UnR(X:Cx)(f:Value->Sem Value)(r:V->Hp->VK->Prop):Prop:=
 ∀(pins:List (Addr×Obj)) (s:Shared) (σ:St) (H:Hp) (x:V) (v:Value) (Q:VK),Inv X pins σ H s->RelV x v->r x H Q→
  wpAny (model X.prog X.w) X.A (f v) (EP X pins σ Q) X.xe s
def Qa5(X:Cx)(f:Value)(r:List V->Hp->VK->Prop):Prop:=
 ∀(pins:List (Addr×Obj)) (s:Shared) (σ:St) (H:Hp) (xs:List V) (us:List Value) (Q:VK),Inv X pins σ H s->Qt xs us->r xs H Q→
  wpAny (model X.prog X.w) X.A (call f us) (EP X pins σ Q) X.xe s
def QxD(X:Cx)(r:V->Hp->(Bool->Hp->Prop)->Prop):Prop:=
 ∀(pins:List (Addr×Obj)) (s:Shared) (σ:St) (H:Hp) (x:V) (v:Value) (Q:Bool->Hp->Prop),Inv X pins σ H s->RelV x v->r x H Q→
  wpAny (model X.prog X.w) X.A (truthy v) (TP X pins σ Q) X.xe s
noncomputable def tOp(r:R2)(ta tb:TE):TE:=λσ H Q=>ta σ H λx H1=>tb σ H1 λy H2=>r x y H2 Q
noncomputable def tUn(r:V->Hp->VK->Prop)(ta:TE):TE:=λσ H Q=>ta σ H λx H1=>r x H1 Q
noncomputable def rI(C:Int->Int->Prop)(g:Int->Int->V):R2:=λx y H Q=>∃i j,x= .int i/\y= .int j/\C i j/\Q (g i j) H
noncomputable def rI0(g:Int->Int->V):R2:=λx y H Q=>∃i j,x= .int i/\y= .int j/\Q (g i j) H
noncomputable def rU(g:Int->V):V->Hp->VK->Prop:=λx H Q=>∃i,x= .int i/\Q (g i) H
section
variable {X:Cx}{a b c:Expr}{ta tb tc:TE}{pos:Pos}
theorem QqN(ha:PE X a ta)(hb:PE X b tb){pins:List (Addr×Obj)}{s:Shared}{σ:St}{H:Hp}{R:V->V->Hp->Prop}(I:Inv X pins σ H s)
  (h:ta σ H λx H1=>tb σ H1 λy H2=>R x y H2) {Q:Value->Shared->Prop}{f:Value->Value->Sem Value}
  (hf:∀v u s2 x y H2,Inv X pins σ H2 s2->RelV x v->RelV y u->R x y H2->wpAny (model X.prog X.w) X.A (f v u) Q X.xe s2):
  wpAny (model X.prog X.w) X.A (eval a X.env) (λv s₁=>wpAny (model X.prog X.w) X.A (eval b X.env) (λu s₂=>wpAny (model X.prog X.w) X.A (f v u) Q X.xe s₂) X.xe s₁) X.xe s:=by
 refine thn (ha pins s σ H _ I h) λv s1=>exJ λx H1 I1 r1 q1=>?_
 refine thn (hb pins s1 σ H1 _ I1 q1) λu s2=>exJ λy H2 I2 r2 q2=>?_
 exact hf v u s2 x y H2 I2 r1 r2 q2
theorem Qnp{op:Operator}{r:R2}(ho:OpR X (binaryOp op) r)(ha:PE X a ta)(hb:PE X b tb):PE X (.BinOp a op b pos) (tOp r ta tb):=by
 intro pins s σ H Q I h
 exact wpAny_BinOp (QqN ha hb I h λv u s2 x y H2 I2 rx ry q=>ho pins s2 σ H2 x y v u Q I2 rx ry q)
theorem QvZ{op:UnaryOp}{r:V->Hp->VK->Prop}(ho:UnR X (unaryOp op) r)(ha:PE X a ta):PE X (.UnaryOp op a pos) (tUn r ta):=by
 intro pins s σ H Q I h
 exact UnaryOp_ (thn (ha pins s σ H _ I h) λv s1 ⟨x,H1,I1,r1,q1⟩=>ho pins s1 σ H1 x v Q I1 r1 q1)
theorem QwX{op:Operator}{r:R2}(ho:OpR X (inplaceOp op) r){pins:List (Addr×Obj)}{s:Shared}{σ:St}{H:Hp}{x y:V}{v u:Value}{Q:VK}(I:Inv X pins σ H s)
  (rx:RelV x v) (ry:RelV y u) (q:r x y H Q):wpAny (model X.prog X.w) X.A (inplaceOp op v u) (EP X pins σ Q) X.xe s:=ho pins s σ H x y v u Q I rx ry q
theorem opI{f:Value->Value->Sem Value}{C:Int->Int->Prop}{g:Int->Int->Int}
  (rule:∀(i j:Int) (t u:Tok) (s:Shared) (Q:Value->Shared->Prop) (E:Value->Shared->Prop),C i j->Q (.int (g i j) s.toks) {s with toks:=s.toks+1}->wpAny (model X.prog X.w) X.A (f (.int i t) (.int j u)) Q E s):
  OpR X f (rI C λi j=> .int (g i j)):=by
 intro pins s σ H x y v u Q I rx ry h
 obtain⟨i,j,rfl,rfl,hc,q⟩:=h
 obtain⟨t,rfl⟩:=rx
 obtain⟨t',rfl⟩:=ry
 exact rule i j t t' s _ _ hc ⟨.int (g i j),H,I.tok _,⟨_,rfl⟩,q⟩
theorem Qny{f:Value->Value->Sem Value}{g:Int->Int->Int}
  (rule:∀(i j:Int) (t u:Tok) (s:Shared) (Q:Value->Shared->Prop) (E:Value->Shared->Prop),Q (.int (g i j) s.toks) {s with toks:=s.toks+1}->wpAny (model X.prog X.w) X.A (f (.int i t) (.int j u)) Q E s):
  OpR X f (rI0 λi j=> .int (g i j)):=by
 intro pins s σ H x y v u Q I rx ry h
 obtain⟨i,j,rfl,rfl,q⟩:=h
 obtain⟨t,rfl⟩:=rx
 obtain⟨t',rfl⟩:=ry
 exact rule i j t t' s _ _ ⟨.int (g i j),H,I.tok _,⟨_,rfl⟩,q⟩
theorem QnT{f:Value->Value->Sem Value}{g:Int->Int->Bool}
  (rule:∀(i j:Int) (t u:Tok) (s:Shared) (Q:Value->Shared->Prop) (E:Value->Shared->Prop),Q (.bool (g i j)) s->wpAny (model X.prog X.w) X.A (f (.int i t) (.int j u)) Q E s):
  OpR X f (rI0 λi j=> .bl (g i j)):=by
 intro pins s σ H x y v u Q I rx ry h
 obtain⟨i,j,rfl,rfl,q⟩:=h
 obtain⟨t,rfl⟩:=rx
 obtain⟨t',rfl⟩:=ry
 exact rule i j t t' s _ _ ⟨.bl (g i j),H,I,rfl,q⟩
def Qux(i j:Int):Prop:=(-(2^64)<i/\i<2^64)∨(-(2^64)<j/\j<2^64)
theorem Qux.ok{i j:Int}(h:Qux i j):IntMulOk i j:=by
 rcases h with⟨h1,h2⟩ | ⟨h1,h2⟩
 ·exact .of_left (intBits_le_64 h1 h2)
 ·exact .of_right (intBits_le_64 h1 h2)
theorem QnC(k:Nat):(0:Int)<=2^k:=by
 rw[two_pow_cast]
 exact ZbI _
theorem QuU:OpR X (binaryOp .Add) (rI0 λi j=> .int (i+j)):=Qny λ_ _ _ _ _ _ _ q=>add_int q
theorem Qvi:OpR X (binaryOp .Sub) (rI0 λi j=> .int (i-j)):=Qny λ_ _ _ _ _ _ _ q=>sub_int q
theorem QvG:OpR X (binaryOp .RShift) (rI (λ_ j=>0<=j) λi j=> .int (i / 2^j.toNat)):=opI λi j _ _ _ _ _ hc q=>
 rshift_int hc (by rw[ZbJ i (QnC _)];exact q)
theorem QsA:OpR X (inplaceOp .Add) (rI0 λi j=> .int (i+j)):=Qny λ_ _ _ _ _ _ _ q=>iadd_int q
theorem Qta:OpR X (inplaceOp .Sub) (rI0 λi j=> .int (i-j)):=Qny λ_ _ _ _ _ _ _ q=>isub_int q
theorem unI{f:Value->Sem Value}{g:Int->Int}
  (rule:∀(i:Int) (t:Tok) (s:Shared) (Q:Value->Shared->Prop) (E:Value->Shared->Prop),Q (.int (g i) s.toks) {s with toks:=s.toks+1}->wpAny (model X.prog X.w) X.A (f (.int i t)) Q E s):
  UnR X f (rU λi=> .int (g i)):=by
 intro pins s σ H x v Q I rx h
 obtain⟨i,rfl,q⟩:=h
 obtain⟨t,rfl⟩:=rx
 exact rule i t s _ _ ⟨.int (g i),H,I.tok _,⟨_,rfl⟩,q⟩
theorem Qu5:UnR X (unaryOp .USub) (rU λi=> .int (-i)):=unI λ_ _ _ _ _ q=>neg_int q
end
section
variable {X:Cx}{a b c:Expr}{ta tb tc:TE}{pos:Pos}
theorem Qh2{pins:List (Addr×Obj)}{σ:St}{H:Hp}{s:Shared}{Q:VK}{k k':Bool}(I:Inv X pins σ H s)(q:Q (.bl k) H)(e:k=k'):EP X pins σ Q (.bool k') s:=by
 subst e
 exact⟨.bl k,H,I,rfl,q⟩
theorem Qwb:OpR X (compareOp .Lt) (rI0 λi j=> .bl (decide (i<j))):=QnT λ_ _ _ _ _ _ _ q=>lt_int q
theorem QwB:OpR X (compareOp .LtE) (rI0 λi j=> .bl (decide (i<=j))):=QnT λ_ _ _ _ _ _ _ q=>le_int q
theorem QwO:OpR X (compareOp .Gt) (rI0 λi j=> .bl (decide (j<i))):=QnT λ_ _ _ _ _ _ _ q=>gt_int q
theorem QwS:OpR X (compareOp .GtE) (rI0 λi j=> .bl (decide (j<=i))):=QnT λ_ _ _ _ _ _ _ q=>ge_int q
theorem Qvs:OpR X (compareOp .Is) (λx y H Q=>y= .non/\Q (.bl (decide (x= .non))) H):=by
 intro pins s σ H x y v u Q I rx ry h
 obtain⟨rfl,q⟩:=h
 cases ry
 refine is_none_gen (Qh2 I q ?_)
 cases x<;>first
  | (cases rx;rfl)
  | (obtain⟨t,rfl⟩:=rx;rfl)
theorem QsB:OpR X (compareOp .IsNot) (λx y H Q=>y= .non/\Q (.bl (!decide (x= .non))) H):=by
 intro pins s σ H x y v u Q I rx ry h
 obtain⟨rfl,q⟩:=h
 cases ry
 refine isnot_none_gen (Qh2 I q ?_)
 cases x<;>first
  | (cases rx;rfl)
  | (obtain⟨t,rfl⟩:=rx;rfl)
theorem OpR.or{f:Value->Value->Sem Value}{r r':R2}(h:OpR X f r)(h':OpR X f r'):OpR X f (λx y H Q=>r x y H Q∨r' x y H Q):=by
 intro pins s σ H x y v u Q I rx ry q
 rcases q with q | q
 ·exact h pins s σ H x y v u Q I rx ry q
 ·exact h' pins s σ H x y v u Q I rx ry q
theorem QxG(b:Expr){op:CmpOp}(h:op≠ .In:=by decide)(h2:op≠ .NotIn:=by decide):behindInMarks op b=false:=by
 have e1:(op == CmpOp.In)=false:=by cases op<;>first | rfl | exact absurd rfl h
 have e2:(op == CmpOp.NotIn)=false:=by cases op<;>first | rfl | exact absurd rfl h2
 cases b<;>simp[behindInMarks,e1,e2]
theorem Qsb{op:CmpOp}{r:R2}(ho:OpR X (compareOp op) r)(ha:PE X a ta)(hb:PE X b tb)(hm:behindInMarks op b=false):PE X (.Compare a [op] [b] pos) (tOp r ta tb):=by
 intro pins s σ H Q I h
 exact wpAny_Compare1 (QqN ha hb I h λv u s2 x y H2 I2 rx ry q=>ho pins s2 σ H2 x y v u Q I2 rx ry q) hm
noncomputable def QwC(t:TE):TT:=λσ H Q=>t σ H λx H'=>∃k,x= .bl k/\Q k H'
theorem QtK{op:CmpOp}{r:R2}(ho:OpR X (compareOp op) r)(ha:PE X a ta)(hb:PE X b tb)(hm:behindInMarks op b=false):PT X (.Compare a [op] [b] pos) (QwC (tOp r ta tb)):=by
 intro pins s σ H Q I h
 refine wpAny_isTrue_Compare1 (thn (ha pins s σ H _ I h) λv s1 ⟨x,H1,I1,r1,q1⟩=>thn (hb pins s1 σ H1 _ I1 q1) λu s2 ⟨y,H2,I2,r2,q2⟩=>
  thn (ho pins s2 σ H2 x y v u _ I2 r1 r2 q2) λc s3 ⟨z,H3,I3,r3,k,e,q3⟩=>?_) hm
 subst e
 cases r3
 exact wpAny_truthy_bool ⟨H3,I3,q3⟩
def Qqy(K:PySem.W.Frag)(x:V)(H:Hp)(k:Bool):Prop:=
 match x with
 | .non=>k=false
 | .bl b=>k=b
 | .int i=>k=(i != 0)
 | .str y=>y.length<=sizeLine/\k=((y.length:Int) != 0)
 | .byt y=>y.size<=sizeLine/\k=((y.size:Int) != 0)
 | .ref p=>(∃xs,SqL K H p xs/\k= !xs.isEmpty)∨(∃xs,SqT K H p xs/\k= !xs.isEmpty)∨∃kvs,H p=some (.dK kvs)/\k= !kvs.isEmpty
 | _=>False
theorem Qnw{κ:Type}{kvs:List (κ×V)}{vs:List (κ×Value)}(r:KV kvs vs):(!vs.isEmpty)= !kvs.isEmpty:=by
 cases r<;>rfl
theorem Qh5{xs:List V}{its:List Value}(r:Qt xs its):(!its.toArray.isEmpty)= !xs.isEmpty:=by
 cases r<;>simp
theorem Qfa:(sizeLine:Nat)<2^63:=by rw[sizeLine_eq];decide
theorem QhO:QxD X (λx H Q=>∃k,Qqy X.K x H k/\Q k H):=by
 intro pins s σ H x v Q I rx h
 obtain⟨k,e,q⟩:=h
 have hl:=Qfa
 have hs:sizeLine=16777216:=sizeLine_eq
 cases x with
 | non=>
  cases rx
  have e':k=false:=e
  subst e'
  exact truthy_none ⟨H,I,q⟩
 | bl b=>
  cases rx
  have e':k=b:=e
  subst e'
  exact wpAny_truthy_bool ⟨H,I,q⟩
 | int i=>
  obtain⟨t,rfl⟩:=rx
  have e':k=(i != 0):=e
  subst e'
  exact PySem.P.truthy_int ⟨H,I,q⟩
 | str y=>
  obtain⟨t,rfl⟩:=rx
  obtain⟨hy,e'⟩:y.length<=sizeLine/\k=((y.length:Int) != 0):=e
  subst e'
  exact PySem.P.truthy_str (by omega) ⟨H,I.tok _,q⟩
 | byt y=>
  obtain⟨t,rfl⟩:=rx
  obtain⟨hy,e'⟩:y.size<=sizeLine/\k=((y.size:Int) != 0):=e
  subst e'
  exact PySem.W.truthy_bytes (by omega) ⟨H,I.tok _,q⟩
 | ref p=>
  cases rx
  have e':(∃xs,SqL X.K H p xs/\k= !xs.isEmpty)∨(∃xs,SqT X.K H p xs/\k= !xs.isEmpty)∨∃kvs,H p=some (.dK kvs)/\k= !kvs.isEmpty:=e
  rcases e' with⟨xs,hx,e'⟩ | ⟨xs,hx,e'⟩ | ⟨kvs,hx,e'⟩
  ·subst e'
   obtain⟨its,r,pl,hz⟩:=I.list hx
   have hlen:=r.length
   exact wpAny_truthy_list pl.isList (by simp only[Zu];omega) ⟨H,I.tok _,by rw[Qh5 r];exact q⟩
  ·subst e'
   obtain⟨its,r,pl,hz⟩:=I.tuple hx
   have hlen:=r.length
   exact truthy_tuple pl (by simp only[Zu];omega) ⟨H,I.tok _,by rw[Qh5 r];exact q⟩
  ·subst e'
   obtain⟨hz,hS,vs,r,m⟩:kvs.length<=sizeLine/\(p == sysModules)=false/\∃vs,KV kvs vs/\s.heap.DictOf (QiA X.prog X.w) p vs:=I.hok p _ hx
   have hlen:kvs.length=vs.length:=Paired.length r
   exact wpAny_truthy_dict hS m (by omega) ⟨H,I.tok _,by rw[Qnw r];exact q⟩
 | _=>exact(show False from e).elim
theorem Qp6(ha:PE X a ta)(he:∀whole,isTrue a X.env whole=(do let v ← whole;standAt a.pos;holding [v] (truthy v))):
  PT X a (λσ H Q=>ta σ H λx H'=>∃k,Qqy X.K x H' k/\Q k H'):=by
 intro pins s σ H Q I h
 exact isTrue_plain (thn (ha pins s σ H _ I h) λv s1 ⟨x,H1,I1,r1,q1⟩=>QhO pins s1 σ H1 x v Q I1 r1 q1) (he _)
theorem vals1{x:V}{us:List Value}(r:Qt [x] us):∃u,us=[u]/\RelV x u:=by
 cases r with
 | cons r1 r2=>cases r2;exact⟨_,rfl,r1⟩
theorem vals2{x y:V}{us:List Value}(r:Qt [x,y] us):∃u w',us=[u,w']/\RelV x u/\RelV y w':=by
 cases r with
 | cons r1 r2=>
  cases r2 with
  | cons r3 r4=>cases r4;exact⟨_,_,rfl,r1,r3⟩
theorem Qo2(hc:X.calm=true):Qa5 X (.builtin "min") (λxs H Q=>∃i j,xs=[.int i,.int j]/\Q (.int (if j<i then j else i)) H):=by
 intro pins s σ H xs us Q I r h
 obtain⟨i,j,rfl,q⟩:=h
 obtain⟨u,w',rfl,⟨t,rfl⟩,⟨t',rfl⟩⟩:=vals2 r
 refine min_two_ints (I.ok.hd hc) λh' tk k=>⟨_,H,I.kept k,?_,q⟩
 by_cases hj:j<i
 ·rw[if_pos hj,if_pos hj];exact⟨_,rfl⟩
 ·rw[if_neg hj,if_neg hj];exact⟨_,rfl⟩
end
end L2
namespace L2
open PySem PySem.Spec PyProof.Rows
structure QuX (h:Heap) (x dx C:Addr) (mA:Str->Option Value):Prop where
 obj:h.get? x=some (PySem.W.instObj C dx)
 ns:h.Ns1 dx mA
 ne:dx≠x
theorem Qpw{h:Heap}{dx:Addr}{mA:Str->Option Value}(n:h.Ns1 dx mA):∃od,h.get? dx=some od/\∀name,PySem.W.lookIn name od=some (mA name):=by
 obtain⟨o,es,ep,ho,hd,hk,_,hm⟩:=n
 refine⟨o,ho,λname=>?_⟩
 have e:=hm name
 unfold nsFind findBy at e
 rw[← Array.find?_toList]at e
 unfold PySem.W.lookIn
 rw[hd]
 dsimp only
 split
 ·rename_i y q
  rw[q]at e
  exact congrArg some e
 ·rename_i q
  rw[q]at e
  have a:es.toList.any (·.refKey)=false:=by
   rw[Zav]
   intro y hy
   obtain⟨z,t,hkey⟩:=hk y (Array.mem_toList_iff.mp hy)
   simp[DictEntry.refKey,hkey]
  have a':¬es.toList.any (·.refKey)=true:=by rw[a];exact Zat
  rw[if_neg a']
  exact congrArg some e
theorem QuX.look{h:Heap}{x dx C:Addr}{mA:Str->Option Value}(I:QuX h x dx C mA):∃od,PySem.W.InstAt h x (PySem.W.instObj C dx) C (some od)/\∀name,PySem.W.lookIn name od=some (mA name):=
 let ⟨od,ho,hl⟩:=Qpw I.ns
 ⟨od,⟨I.obj,rfl,rfl,ho⟩,hl⟩
section
variable {prog:Program}{w:World}{A:Around}{E:Value->Shared->Prop}{s:Shared}{K:PySem.W.Frag}{x dx C f:Addr}{mA:Str->Option Value}{name:Str}{v:Value}
end
theorem QiI.some_of{v:V}{o:Option Value}(r:QiI (some v) o):∃u,o=some u/\RelV v u:=by
 cases o with
 | none=>exact(show False from r).elim
 | some u=>exact⟨u,rfl,r⟩
theorem QiI.none_of{o:Option Value}(r:QiI none o):o=none:=by
 cases o with
 | none=>rfl
 | some u=>exact(show False from r).elim
section
variable {P:Program}{w:World}{H H':Hp}{h h':Heap}{a C dx:Addr}{fs fs':List (Str×V)}
end
structure Cls (K:PySem.W.Frag) (C:Addr):Prop where
 pg:PySem.W.plainGet K C Str.empty=true
 hd:PySem.W.hasDictIn K C=true
 po:PySem.W.plainOver K C=true
 sa:PySem.W.findIn K (.ref C) "__setattr__" =some (some (.builtin "object.__setattr__"))
theorem Cls.get{K:PySem.W.Frag}{C:Addr}(c:Cls K C)(f:Str):PySem.W.plainGet K C f=true:=c.pg
structure Con (K:PySem.W.Frag) (C:Addr) (f:Str) (v:V) (u:Value):Prop where
 at_:PySem.W.findIn K (.ref C) f=some (some u)
 rel:RelV v u
 get:PySem.W.specialIn K u "__get__" =some none
 cp:PySem.W.copiedNames.contains f=false
structure QxK (K:PySem.W.Frag) (C:Addr) (m:Str) (f:Addr):Prop where
 at_:PySem.W.findIn K (.ref C) m=some (some (.ref f))
 fn:PySem.W.isFn K (.ref f)=true
 kp:PySem.W.keepIn K (.ref f)=true
section
variable {X:Cx}{pins:List (Addr×Obj)}{σ:St}{H:Hp}{s:Shared}{a C dx:Addr}{fs:List (Str×V)}{f:Str}{v:V}{A:Around}{E:Value->Shared->Prop}
theorem Inv.made(I:Inv X pins σ H s):Inv X pins σ (upd (upd H s.heap.objs.size (.own (s.heap.objs.size+1))) (s.heap.objs.size+1) (.ins C s.heap.objs.size []))
  {s with heap:=(s.heap.push PySem.W.emptyDict).push (PySem.W.instObj C s.heap.objs.size)}:=by
 have e1:(s.heap.push PySem.W.emptyDict).get? s.heap.objs.size=some PySem.W.emptyDict:=Zz s.heap rfl
 have e2:((s.heap.push PySem.W.emptyDict).push (PySem.W.instObj C s.heap.objs.size)).get? (s.heap.objs.size+1)=some (PySem.W.instObj C s.heap.objs.size):=by
  have:=Zz (s.heap.push PySem.W.emptyDict) (o:=PySem.W.instObj C s.heap.objs.size) rfl
  rwa[Zaf]at this
 have e3:(s.heap.push PySem.W.emptyDict).Ns s.heap.objs.size (λ_=>none):=⟨PySem.W.emptyDict,#[],_,e1,rfl,(λe he=>absurd he (by simp)),λ_=>rfl⟩
 have I1:=I.laid (a:=s.heap.objs.size) (o:= .own (s.heap.objs.size+1)) (h':=s.heap.push PySem.W.emptyDict) (t':=s.toks) (λb u q=>Zg _ q) (Zq _) ⟨_,e1⟩
 refine I1.laid (a:=s.heap.objs.size+1) (o:= .ins C s.heap.objs.size []) (t':=s.toks) (λb u q=>Zg _ q) (Nat.le_of_eq (Zaf _ _)) ?_
 have ne:s.heap.objs.size≠s.heap.objs.size+1:=ZJ (ZaF _)
 refine⟨by rw[QJ ne,QaF],ZZ _,ne,e2,λ_=>none,(Heap.Ns1.of_empty e3).at λo q=>Zg _ q,λ_=>True.intro,λy hy=>absurd rfl hy⟩
end
section
variable {X:Cx}{o e value:Expr}{f:Str}{pos pos' tpos:Pos}{ta tv:TE}
end
section
variable {X:Cx}{pins:List (Addr×Obj)}{σ:St}{H:Hp}{s:Shared}{A:Around}{E:Value->Shared->Prop}{Q:Value->Shared->Prop}{c:Value}{b:Bool}
end
end L2
namespace L2
open PySem PySem.Spec PyProof.Rows
structure Qas (k:Nat) (A:Around):Prop where
 hd:A.handled=none
 dp:A.depth+3*k+5<recursionLimit
 un:A.units+16*k+200<cLine
theorem Qas.mono{j k:Nat}{A:Around}(r:Qas k A)(h:j<=k):Qas j A:=⟨r.hd,by have:=r.dp;omega,by have:=r.un;omega⟩
theorem Qas.deeper{k:Nat}{A:Around}(r:Qas (k+1) A)(env:Env):Qas k (A.deeper env):=
 ⟨r.hd,by have:=r.dp;show A.depth+1+3*k+5<_;omega,by have:=r.un;show A.units+3+16*k+200<_;omega⟩
theorem Qas.in1{k:Nat}{A:Around}(r:Qas (k+1) A):Qas k A.in1:=
 ⟨r.hd,by have:=r.dp;show A.depth+3*k+5<_;omega,by have:=r.un;show A.units+1+16*k+200<_;omega⟩
theorem Qnm{A:Around}{C:Addr}{us:List Value}{kw:List (Str×Value)}:(A.under (.builtin "type.__call__" ⟨.ref C::us,kw⟩)).depth=A.depth+1:=by
 first | rfl | simp[Around.under,Code.weight,Code.isCreation,Code.isGuard,Code.isCaller,Code.frames,Code.isFrame,guardIds]
theorem Qnr{A:Around}{C:Addr}{us:List Value}{kw:List (Str×Value)}:(A.under (.builtin "type.__call__" ⟨.ref C::us,kw⟩)).units=A.units+1:=by
 first | rfl | simp[Around.under,Code.cUnits,Code.frames,Code.isFrame]
theorem Qas.make{k:Nat}{A:Around}(r:Qas (k+1) A)(C:Addr)(us:List Value)(kw:List (Str×Value)):Qas k (A.under (.builtin "type.__call__" ⟨.ref C::us,kw⟩)):=
 ⟨r.hd,by have:=r.dp;rw[Qnm];omega,by have:=r.un;rw[Qnr];omega⟩
theorem Qas.depth{k:Nat}{A:Around}(r:Qas k A):A.depth<recursionLimit:=by have:=r.dp;omega
theorem Qas.units{k:Nat}{A:Around}(r:Qas k A):A.units+64<cLine:=by have:=r.un;omega
noncomputable def Qdf:TA:=λ_ H Q=>Q [] H
noncomputable def Qb1(ta:TE)(tr:TA):TA:=λσ H Q=>ta σ H λx H1=>tr σ H1 λxs H2=>Q (x::xs) H2
section
variable {X:Cx}{e:Expr}{es:List Expr}{te:TE}{t:TA}{pos:Pos}
theorem Qa2:PA X [] Qdf:=λ_ _ _ _ H Q I h=>ZbQ ⟨[],H,I,.nil,h⟩
theorem Q5(ha:PE X e te)(hr:PA X es t)(hs:starEach (e::es) X.env=(false,eval e X.env)::starEach es X.env:=by rfl):PA X (e::es) (Qb1 te t):=by
 intro pos pins s σ H Q I h
 rw[hs]
 show wpAny _ _ (spliced ((false,eval e X.env)::backTo pos (starEach es X.env))) _ _ s
 refine ZbK (thn (ha pins s σ H _ I h) λu s1=>exJ λx H1 I1 r1 q1=>?_)
 exact thn (hr pos pins s1 σ H1 _ I1 q1) λus s2 ⟨xs,H2,I2,r2,q2⟩=>⟨x::xs,H2,I2,.cons r1 r2,q2⟩
noncomputable def Qw3(t:TA):TE:=λσ H Q=>t σ H λxs H1=>xs.length<=sizeLine/\∀p,H1 p=none->Q (.ref p) (upd H1 p (.tup xs))
noncomputable def Qw5(t:TA):TE:=λσ H Q=>t σ H λxs H1=>xs.length<=sizeLine/\∀p,H1 p=none->Q (.ref p) (upd H1 p (.lst xs))
theorem Qvg{x1}(h:PA X es t):PE X (.Tuple es x1 pos) (Qw3 t):=by
 intro pins s σ H Q I hq
 refine wpAny_Tuple_spliced (thn (h pos pins s σ H _ I hq) λus s1 ⟨xs,H1,I1,r,z,q⟩=>⟨by rw[← r.length];exact z,?_⟩)
 have hf:H1 s1.heap.objs.size=none:=I1.hok.fresh (Zq _)
 refine⟨.ref s1.heap.objs.size,upd H1 s1.heap.objs.size (.tup xs),I1.laid (t':=s1.toks) (λb u e=>Zg _ e) (Zq _) ?_,rfl,q _ hf⟩
 exact⟨z,us,r,⟨_,Zz _ rfl,rfl,_,rfl⟩⟩
theorem QvP(h:PA X es t):PE X (.List es pos) (Qw5 t):=by
 intro pins s σ H Q I hq
 refine wpAny_List_spliced (thn (h pos pins s σ H _ I hq) λus s1 ⟨xs,H1,I1,r,z,q⟩=>⟨by rw[← r.length];exact z,?_⟩)
 have hf:H1 s1.heap.objs.size=none:=I1.hok.fresh (Zq _)
 refine⟨.ref s1.heap.objs.size,upd H1 s1.heap.objs.size (.lst xs),I1.laid (t':=s1.toks) (λb u e=>Zg _ e) (Zq _) ?_,rfl,q _ hf⟩
 exact⟨z,us,0,r,Zz _ rfl⟩
end
noncomputable abbrev Sp:=List V->Hp->VK->XK->Prop
noncomputable abbrev CXT:=List Env->Hp->Shared->XK->Value->Shared->Prop
structure QeO (P:Program) (w:World) (K:PySem.W.Frag) (mg:Str->Option Value) (base:Heap) (A:Around) (outer:List Env) (s:Shared) (H:Hp):Prop where
 frames:A.frames=some outer
 mod:Mod K mg base
 bs:∀b o,base.get? b=some o->s.heap.get? b=some o/\H b=none
 bsz:base.objs.size<=s.heap.objs.size
 Qdq:s.heap.FunFrames base outer
 frf:∀b∈frs outer,H b=none
 hok:HOk P w H s.heap
 bare:AllBare s.gens
def CE(outer:List Env)(P:Program)(w:World)(H:Hp)(s:Shared)(Q:VK)(u:Value)(s':Shared):Prop:=
 ∃v H',s'.os=s.os/\AllBare s'.gens/\Un (frs outer) [] H H' s.heap s'.heap/\HOk P w H' s'.heap/\RelV v u/\Q v H'
def CR(CX:CXT)(outer:List Env)(P:Program)(w:World)(H:Hp)(s:Shared)(Q:VK)(E:XK)(r:Result)(s':Shared):Prop:=
 match r with
 | .ok (.ret u)=>CE outer P w H s Q u s'
 | .ok _=>False
 | .error e=>CX outer H s E e s'
structure QbD (P:Program) (w:World) (K:PySem.W.Frag) (mg:Str->Option Value) (base:Heap) (CX:CXT) (k:Nat) (f:Addr) (fd:FuncData) (ps:List Str) (sp:Sp):Prop where
 len:∀vs H Q E,sp vs H Q E->vs.length=ps.length
 run:∀(A:Around) (outer:List Env) (s:Shared) (H:Hp) (args:Args) (us:List Value) (vs:List V) (Q:VK) (E:XK),Qas k A->QeO P w K mg base A outer s H->BindsTo s fd args (ps.zip us)->Qt vs us->sp vs H Q E→
  codeAny (model P w) A (.call (.ref f) args) (CR CX outer P w H s Q E) s
theorem QbD.mono{P:Program}{w:World}{K:PySem.W.Frag}{mg:Str->Option Value}{base:Heap}{CX:CXT}{j k:Nat}{f:Addr}{fd:FuncData}{ps:List Str}{sp:Sp}(F:QbD P w K mg base CX j f fd ps sp)(h:j<=k):
  QbD P w K mg base CX k f fd ps sp:=⟨F.len,λA outer s H args us vs Q E hr=>F.run A outer s H args us vs Q E (hr.mono h)⟩
theorem QbD.imp{P:Program}{w:World}{K:PySem.W.Frag}{mg:Str->Option Value}{base:Heap}{CX:CXT}{k:Nat}{f:Addr}{fd:FuncData}{ps:List Str}{sp sp':Sp}(F:QbD P w K mg base CX k f fd ps sp)
  (h:∀vs H Q E,sp' vs H Q E->sp vs H Q E):QbD P w K mg base CX k f fd ps sp':=
 ⟨λvs H Q E q=>F.len vs H Q E (h _ _ _ _ q),λA outer s H args us vs Q E hr he hb hv hs=>F.run A outer s H args us vs Q E hr he hb hv (h _ _ _ _ hs)⟩
theorem QeO.make{P:Program}{w:World}{K:PySem.W.Frag}{mg:Str->Option Value}{base:Heap}{A:Around}{outer:List Env}{s:Shared}{H:Hp}(e:QeO P w K mg base A outer s H)(C:Addr)(us:List Value)(kw:List (Str×Value)):
  QeO P w K mg base (A.under (.builtin "type.__call__" ⟨.ref C::us,kw⟩)) outer s H:=⟨by first | exact e.frames | (simpa[Around.under,Code.envs,Code.isFrame,pushEnvs]using e.frames),e.mod,e.bs,e.bsz,e.Qdq,e.frf,e.hok,e.bare⟩
theorem QeO.in1{P:Program}{w:World}{K:PySem.W.Frag}{mg:Str->Option Value}{base:Heap}{A:Around}{outer:List Env}{s:Shared}{H:Hp}(e:QeO P w K mg base A outer s H):
  QeO P w K mg base A.in1 outer s H:=⟨e.frames,e.mod,e.bs,e.bsz,e.Qdq,e.frf,e.hok,e.bare⟩
section
variable {X:Cx}{pins:List (Addr×Obj)}{σ:St}{H:Hp}{s s':Shared}
theorem Inv.Qxa(I:Inv X pins σ H s):QeO X.prog X.w X.K X.mg X.base X.A X.stack s H:=
 ⟨I.ok.frames,I.ok.mod,I.bs,ZM I.ok.bsz I.sz,I.stack,I.Qm9,I.hok,I.bare⟩
theorem Inv.after{Q:VK}{u:Value}(I:Inv X pins σ H s)(h:CE X.stack X.prog X.w H s Q u s'):EP X pins σ Q u s':=by
 obtain⟨v,H',os,bare,un,hok,r,q⟩:=h
 obtain⟨hh,g,d,t,os'⟩:=s'
 obtain rfl:os'=s.os:=os
 exact⟨v,H',I.call (h':=hh) (g':=g) (d':=d) (t':=t) (ch:=[]) un hok bare (λb z=>absurd z (by simp)),r,q⟩
end
noncomputable def QnE(sp:Sp)(dvs:List V)(E:XK)(t:TA):TE:=λσ H Q=>t σ H λvs H1=>sp (vs++dvs) H1 Q E
def Binds(K:PySem.W.Frag)(fd:FuncData)(ps:List Str)(ds:List Value):Prop:=
 ∀(s:Shared) (us:List Value),K.In s.heap->(us++ds).length=ps.length->BindsTo s fd ⟨us,[]⟩ (ps.zip (us++ds))
theorem Binds.all{K:PySem.W.Frag}{fd:FuncData}{ps:List Str}(h:∀us:List Value,us.length=ps.length->bindArgs fd ⟨us,[]⟩=pure (ps.zip us)):Binds K fd ps []:=λs us _ hl=>by
 rw[Zag]at hl ⊢
 exact .of_eq (h us hl)
def Qh8(CX:CXT)(X:Cx)(E:XK):Prop:=∀(pins:List (Addr×Obj)) (σ:St) (H:Hp) (s:Shared) (e:Value) (s':Shared),Inv X pins σ H s->CX X.stack H s E e s'->X.xe e s'
section
variable {X:Cx}{CX:CXT}{k:Nat}{f C:Addr}{fd:FuncData}{ps:List Str}{sp:Sp}{dvs:List V}{ds:List Value}{E:XK}{x m:Str}{p pos apos:Pos}{e o:Expr}{es:List Expr}{ta:TE}{t:TA}
theorem QoX{pins:List (Addr×Obj)}{σ:St}{H:Hp}{s:Shared}{Q:VK}{us:List Value}{vs:List V}(F:QbD X.prog X.w X.K X.mg X.base CX k f fd ps sp)(hr:Qas k X.A)(hb:Binds X.K fd ps ds)(hd:Qt dvs ds)(hx:Qh8 CX X E)
  (I:Inv X pins σ H s) (r:Qt vs us) (h:sp (vs++dvs) H Q E):wpAny (model X.prog X.w) X.A (call (.ref f) us) (EP X pins σ Q) X.xe s:=by
 have r2:Qt (vs++dvs) (us++ds):=r.append hd
 have hl:(us++ds).length=ps.length:=by rw[← r2.length];exact F.len _ _ _ _ h
 refine wpAny_call (codeAny_mono (F.run X.A X.stack s H ⟨us,[]⟩ (us++ds) (vs++dvs) Q E hr I.Qxa (hb s us I.kIn hl) r2 h) λr s' hq=>?_)
 cases r with
 | error e=>exact hx pins σ H s e s' I hq
 | ok fl=>
  cases fl with
  | ret u=>exact I.after hq
  | next=>exact False.elim hq
  | brk=>exact False.elim hq
  | cont=>exact False.elim hq
theorem Qti(F:QbD X.prog X.w X.K X.mg X.base CX k f fd ps sp)(hr:Qas k X.A)(hg:Gl X x)(hm:X.mg x=some (.ref f))(hk:PySem.W.keepIn X.K (.ref f)=true)(hb:Binds X.K fd ps ds)(hd:Qt dvs ds)(hx:Qh8 CX X E)
  (ha:PA X (e::es) t) (hdb:(x == ("__debug__" :Str))=false:=by decide) (he:starEach (e::es) X.env=(false,eval e X.env)::starEach es X.env:=by rfl) (hpl:(backTo pos (starEach es X.env)).any (·.1)=false:=by rfl):
  PE X (.Call (.Name x p) (e::es) [] pos) (QnE sp dvs E t):=by
 intro pins s σ H Q I h
 refine wpAny_Call_Name_kw (Qiu I hg hm ?_ hdb)
 refine PySem.W.callWith_K (h₀:=X.base) I.ok.mod.kin hk (thn (ha pos pins s σ H _ I h) λus s1 ⟨vs,H1,I1,r,q⟩=>⟨I1.kIn,?_⟩) he hpl
 exact QoX F hr hb hd hx I1 r q
theorem Qqt(F:QbD X.prog X.w X.K X.mg X.base CX k f fd ps sp)(hr:Qas k X.A)(hg:Gl X x)(hm:X.mg x=some (.ref f))(hk:PySem.W.keepIn X.K (.ref f)=true)(hb:Binds X.K fd ps ds)(hd:Qt dvs ds)(hx:Qh8 CX X E)
  (hdb:(x == ("__debug__" :Str))=false:=by decide):PE X (.Call (.Name x p) [] [] pos) (QnE sp dvs E Qdf):=by
 intro pins s σ H Q I h
 refine wpAny_Call_Name_kw (Qiu I hg hm ?_ hdb)
 exact PySem.W.callWith_K0 I.kIn hk (QoX (us:=[]) F hr hb hd hx I .nil h)
structure Mk (K:PySem.W.Frag) (C f:Addr):Prop where
 makes:PySem.W.makesIn K C=true
 init:PySem.W.findIn K (.ref C) "__init__" =some (some (.ref f))
 fn:PySem.W.isFn K (.ref f)=true
 kp:PySem.W.keepIn K (.ref C)=true
end
section
variable {X:Cx}{CX:CXT}{k:Nat}{f C:Addr}{fd:FuncData}{ps ks:List Str}{sp:Sp}{E:XK}{x m:Str}{p pos apos kpos:Pos}{e o:Expr}{es:List Expr}{kws:List Keyword}{te ta:TE}{t tk:TA}{nm:Option Str}
structure QxH (K:PySem.W.Frag) (fd:FuncData) (ps ks:List Str) (g:List Value->List Value->List Value) (gV:List V->List V->List V):Prop where
 to:∀(s:Shared) (us ws:List Value),K.In s.heap->(g us ws).length=ps.length->BindsTo s fd ⟨us,ks.zip ws⟩ (ps.zip (g us ws))
 rel:∀{vs:List V}{us:List Value}{zs:List V}{ws:List Value},Qt vs us->Qt zs ws->Qt (gV vs zs) (g us ws)
variable {g:List Value->List Value->List Value}{gV:List V->List V->List V}
end
structure QcK (N P:List Str) (sc:Scope):Prop where
 kind:sc.kind= .function
 co:sc.isCoroutine=false
 gen:sc.isGenerator=false
 nd:N.Nodup
 pre:N.take P.length=P
 par:∀x∈P,sc.names.lookup x=some .local ∨sc.names.lookup x=some .cell
 nofree:∀y∈sc.names,y.2≠ .free
theorem Qjc{kindOf:Str->Option NameKind}{x:Str}:∀{binds:List (Str×Value)}{m:Str->Option Value},(∀v,(x,v)∉binds)->bindL kindOf binds m x=m x
 | [],_,_=>rfl
 | (n,v)::r,m,h=>by
  unfold bindL
  rw[Qjc λw hw=>h w (Zc _ hw)]
  split
  ·have:x≠n:=by rintro rfl;exact h v Zh
   simp[this]
  ·rfl
theorem QjD{kindOf:Str->Option NameKind}{x:Str}:∀{binds:List (Str×Value)}{m:Str->Option Value},(∀v,(x,v)∉binds)->bindC kindOf binds m x=m x
 | [],_,_=>rfl
 | (n,v)::r,m,h=>by
  unfold bindC
  rw[QjD λw hw=>h w (Zc _ hw)]
  split
  ·rfl
  ·have:x≠n:=by rintro rfl;exact h v Zh
   simp[this]
theorem Qja{kindOf:Str->Option NameKind}{x:Str}{v:Value}:∀{P:List Str}{vs:List Value}{i:Nat}{m:Str->Option Value},P.Nodup->P[i]? =some x->vs[i]? =some v->kindOf x=some .local →
  bindL kindOf (P.zip vs) m x=some v
 | [],_,_,_,_,h,_,_=>by simp at h
 | _::_,[],_,_,_,_,h,_=>by simp at h
 | p::P,w::vs,0,m,nd,h1,h2,hk=>by
  simp at h1 h2;subst h1;subst h2
  show bindL kindOf ((p,w)::P.zip vs) m p=_
  unfold bindL
  rw[Qjc λv hv=>(Zac.mp nd).1 (Zcm hv).1,if_pos hk]
  simp
 | p::P,w::vs,i+1,m,nd,h1,h2,hk=>by
  show bindL kindOf ((p,w)::P.zip vs) m x=_
  unfold bindL
  exact Qja (i:=i) (Zac.mp nd).2 (by simpa using h1) (by simpa using h2) hk
theorem QjC{kindOf:Str->Option NameKind}{x:Str}{v:Value}:∀{P:List Str}{vs:List Value}{i:Nat}{m:Str->Option Value},P.Nodup->P[i]? =some x->vs[i]? =some v->kindOf x≠some .local →
  bindC kindOf (P.zip vs) m x=some v
 | [],_,_,_,_,h,_,_=>by simp at h
 | _::_,[],_,_,_,_,h,_=>by simp at h
 | p::P,w::vs,0,m,nd,h1,h2,hk=>by
  simp at h1 h2;subst h1;subst h2
  show bindC kindOf ((p,w)::P.zip vs) m p=_
  unfold bindC
  rw[QjD λv hv=>(Zac.mp nd).1 (Zcm hv).1,if_neg hk]
  simp
 | p::P,w::vs,i+1,m,nd,h1,h2,hk=>by
  show bindC kindOf ((p,w)::P.zip vs) m x=_
  unfold bindC
  exact QjC (i:=i) (Zac.mp nd).2 (by simpa using h1) (by simpa using h2) hk
noncomputable def start(N:List Str)(vs:List V):St:=vs.map some++List.replicate (N.length-vs.length) none
noncomputable def Qgr(CX:CXT)(P:Program)(w:World)(K:PySem.W.Frag)(mg:Str->Option Value)(base:Heap)(N:List Str)(qual:Str)(scope:Scope)(f:Addr)(cd:Value)(A:Around)(outer:List Env)(s:Shared)(H:Hp)(E:XK):Cx where
 prog:=P
 w:=w
 K:=K
 mg:=mg
 base:=base
 A:=A.deeper (envOfC qual scope s.heap.objs.size f cd)
 N:=N
 s₀:=s
 H₀:=H
 env:=envOfC qual scope s.heap.objs.size f cd
 outer:=outer
 stack:=envOfC qual scope s.heap.objs.size f cd::outer
 ex:=[]
 calm:=decide (A.handled=none)
 fn:=λ_=>true
 pn:=[]
 xe:=λe s'=>wpAny (model P w) (A.deeper (envOfC qual scope s.heap.objs.size f cd)) (leaving (envOfC qual scope s.heap.objs.size f cd) e) (λ_ s''=>CX outer H s E e s'') (λe' s''=>CX outer H s E e' s'') s'
theorem QkU{sc:Scope}{n:Nat}{x:Str}(h:sc.names.lookup x=some .cell):∃c,(cellsFrom n sc.names []).lookup x=some c:=by
 have q:=Zcd sc.names n [] (.inl h)
 exact ZbS.mp q
theorem Qpj{CX:CXT}{P:Program}{w:World}{K:PySem.W.Frag}{mg:Str->Option Value}{base:Heap}{N ps:List Str}{qual:Str}{scope:Scope}{f:Addr}{cd:Value}{A:Around}{outer:List Env}{s s1:Shared}{H:Hp}{E:XK}{us:List Value}{vs:List V}
  (S:QcK N ps scope) (e0:QeO P w K mg base A outer s H) (hl:vs.length=ps.length) (r:Qt vs us)
  (x:InCallC s s.heap.objs.size (bindL (envOfC qual scope s.heap.objs.size f cd).kindOf (ps.zip us) λ_=>none) (cellsFrom (s.heap.objs.size+1) scope.names []) (bindC (envOfC qual scope s.heap.objs.size f cd).kindOf (ps.zip us) λ_=>none) s1):
  Inv (Qgr CX P w K mg base N qual scope f cd A outer s H E) [] (start N vs) H s1:=by
 have hpl:ps.length<=N.length:=by have:=congrArg List.length S.pre;rw[Zah]at this;omega
 obtain⟨h1,tk,rfl,hk⟩:=x.done
 have noA:∀b:Addr,b∉(Qgr CX P w K mg base N qual scope f cd A outer s H E).ex:=λb z=>absurd (show b∈([]:List Addr)from z) (by simp)
 refine⟨⟨e0.mod,S.kind,rfl,rfl,Zq _,λy z c h1 h2=>?_,λy hy=>?_,λy c _ h=>?_,λh=>of_decide_eq_true h,Around.frames_deeper e0.frames,.inr ⟨rfl,rfl⟩,λb z=>absurd z (noA b),e0.bs,e0.bsz,λb _ _=>noA b,λb z=>absurd z (noA b),e0.Qdq,e0.frf⟩,
  rfl,e0.bare,Un.kept hk,⟨_,x.toInCall.ns,λi y v h1 h2 h3=>?_⟩,λy c h=>⟨_,x.cell y c h⟩,e0.hok.fresh (Zq _),λy c h=>?_,λp hp=>absurd (show p∈([]:List (Addr×Obj))from hp) (by simp),e0.hok.kept hk,?_⟩
 ·exact name_of_addr x.apart (Zaj h1) (Zaj h2)
 ·have hy:scope.names.lookup y=some .cell∨scope.names.lookup y=some .free:=hy
  rcases hy with hy | hy
  ·exact QkU hy
  ·exact absurd rfl (S.nofree _ (Zaj hy))
 ·exact Zbi (x.above y c (Zaj h))
 ·have hi:i<vs.length:=by
   unfold start at h2
   by_cases hi:i<vs.length
   ·exact hi
   ·rw[ZaG (by simpa using hi)]at h2
    rw[ZbW]at h2
    split at h2<;>cases h2
  have ha:vs[i]? =some v:=by
   unfold start at h2
   rw[ZV (by simpa using hi),Zm]at h2
   cases e:vs[i]? with
   | none=>rw[e]at h2;cases h2
   | some a=>rw[e]at h2;cases h2;rfl
  obtain⟨u,hu,rv⟩:=r.get ha
  have hp:ps[i]? =some y:=by
   rw[← S.pre,List.getElem?_take_of_lt (by omega)];exact h1
  have ndP:ps.Nodup:=by rw[← S.pre];exact S.nd.sublist (List.take_sublist _ _)
  refine⟨u,rv,?_⟩
  rcases S.par y (Zy hp)with k | k
  ·exact .inl ⟨k,Qja ndP hp hu k⟩
  ·obtain⟨c,e⟩:=QkU (n:=s.heap.objs.size+1) k
   refine .inr ⟨.inl k,c,e,?_⟩
   have q:=x.cell y c e
   rw[QjC ndP hp hu (by show scope.names.lookup y≠_;rw[k];decide)]at q
   exact q
 ·exact e0.hok.fresh (Zbi (x.above y c (Zaj h)))
 ·unfold start
  show _=N.length
  rw[Zt,Zd,List.length_replicate]
  omega
theorem Qww{CX:CXT}{P:Program}{w:World}{K:PySem.W.Frag}{mg:Str->Option Value}{base:Heap}{k:Nat}{f:Addr}{name qual:Str}{params:Arguments}{body:List Stmt}{scope:Scope}{dV kV doc pm cdv ct oc:Value}{an od:Option Addr}
  {osl:Array (Option Value)}{N ps:List Str}{sp:Sp}(lk:K.lookup f=some ⟨oc,od,.func (PySem.W.fnOf name qual params body scope dV kV doc pm an cdv ct),osl⟩) (hcd:PySem.W.codeIn K cdv qual=true) (S:QcK N ps scope)
  (len:∀vs H Q E,sp vs H Q E->vs.length=ps.length)
  (hbody:∀(A:Around) (outer:List Env) (s:Shared) (H:Hp) (vs:List V) (Q:VK) (E:XK),Qas k (A.deeper (envOfC qual scope s.heap.objs.size f cdv))->sp vs H Q E→
   ∃t,PSs (Qgr CX P w K mg base N qual scope f cdv A outer s H E) body t/\t {nx:=λ_ H'=>Q .non H',rt:=Q} (start N vs) H):
  QbD P w K mg base CX (k+1) f (PySem.W.fnOf name qual params body scope dV kV doc pm an cdv ct) ps sp:=by
 refine⟨len,λA outer s H args us vs Q E hr e0 hb r hsp=>?_⟩
 have hl:=len _ _ _ _ hsp
 have KX:K.In s.heap:=e0.mod.kin.keeps λb o e=>(e0.bs b o e).1
 have lim:s.heap.NoLimit:=e0.mod.nolimit.keeps λb o e=>(e0.bs b o e).1
 have hkind:∀y∈ps.zip us,scope.names.lookup y.1=some .local ∨(scope.names.lookup y.1=some .cell/\((cellsFrom (s.heap.objs.size+1) scope.names []).lookup y.1).isSome=true):=λhpt hy=>by
  obtain⟨n,v⟩:=hpt
  rcases S.par n (Zcm hy).1 with q | q
  ·exact .inl q
  ·exact .inr ⟨q,Zcd _ _ _ (.inl q)⟩
 refine codeAny_call_function hr.depth (KX _ _ lk) rfl S.co S.gen rfl (PySem.W.codeRec_of KX hcd) (hb _ _ _ _ ?_)
 refine wpAny_newFunctionEnv_cells S.kind hkind λenv he s1 x=>?_
 subst he
 refine⟨lim.keeps x.toInCall.keep,codeAny_func ?_⟩
 obtain⟨t,ht,hq⟩:=hbody A outer s H vs Q E (hr.deeper _) hsp
 have I:Inv (Qgr CX P w K mg base N qual scope f cdv A outer s H E) [] (start N vs) H s1:=Qpj S e0 hl r x
 refine wpAny_mono (ht [] s1 (start N vs) H _ I hq) (λfl s' hs=>?_) λe s' hs=>hs
 have fin:∀{σ':St}{H':Hp}{v:V}{u:Value},Inv (Qgr CX P w K mg base N qual scope f cdv A outer s H E) [] σ' H' s'->RelV v u->Q v H'->CE outer P w H s Q u s':=
  λ{σ' H' v u} J rv q=>⟨v,H',J.os,J.bare,J.base,J.hok,rv,q⟩
 cases fl with
 | ret u=>
  obtain⟨v,σ',H',J,rv,q⟩:=hs
  exact fin J rv q
 | next=>
  obtain⟨σ',H',J,q⟩:=hs
  exact fin (v:=V.non) (u:=Value.none) J rfl q
 | brk=>
  obtain⟨_,_,_,q⟩:=hs
  exact False.elim q
 | cont=>
  obtain⟨_,_,_,q⟩:=hs
  exact False.elim q
end L2
namespace L2
open PySem PySem.Spec PyProof.Rows
section
variable {X:Cx}{x:Str}{p pos:Pos}{e:Expr}{es:List Expr}{t:TA}{id T:String}{r:List V->Hp->VK->Prop}
noncomputable def tCB(r:List V->Hp->VK->Prop)(t:TA):TE:=λσ H Q=>t σ H λvs H1=>r vs H1 Q
theorem Qfy(hc:Qa5 X (.builtin id) r)(hg:Gl X x)(hm:X.mg x=none)(hv:bootBuiltins x=some (.builtin id))(ha:PA X (e::es) t)(hn:x≠ "__name__" :=by decide)(hdb:(x == ("__debug__" :Str))=false:=by decide)
  (he:starEach (e::es) X.env=(false,eval e X.env)::starEach es X.env:=by rfl) (hpl:(backTo pos (starEach es X.env)).any (·.1)=false:=by rfl):PE X (.Call (.Name x p) (e::es) [] pos) (tCB r t):=by
 intro pins s σ H Q I h
 refine wpAny_Call_Name_kw (Qca I hg hm hv ?_ hn hdb)
 exact Zbr (thn (ha pos pins s σ H _ I h) λus s1 ⟨vs,H1,I1,r1,q1⟩=>hc pins s1 σ H1 vs us Q I1 r1 q1) he hpl
theorem Qjq(hc:Qa5 X (.type T) r)(hg:Gl X x)(hm:X.mg x=none)(hv:bootBuiltins x=some (.type T))(ha:PA X (e::es) t)(hn:x≠ "__name__" :=by decide)(hdb:(x == ("__debug__" :Str))=false:=by decide)
  (he:starEach (e::es) X.env=(false,eval e X.env)::starEach es X.env:=by rfl) (hpl:(backTo pos (starEach es X.env)).any (·.1)=false:=by rfl):PE X (.Call (.Name x p) (e::es) [] pos) (tCB r t):=by
 intro pins s σ H Q I h
 refine wpAny_Call_Name_kw (Qca I hg hm hv ?_ hn hdb)
 exact ZW (thn (ha pos pins s σ H _ I h) λus s1 ⟨vs,H1,I1,r1,q1⟩=>hc pins s1 σ H1 vs us Q I1 r1 q1) he hpl
end
end L2
namespace HT
open PySem PyProof.Rows
section
open PySem.SeqAt
open PySem.AutoSeq1 (wpAny_loadPart')
open PySem.MeetsSeq PySem.MeetsSeq2 PySem.MeetsSeq3
end
section
variable {prog:Program}{w:World}{A:Around}{E:Value->Shared->Prop}{s:Shared}
noncomputable def sIx(n d:Nat):Option Int->Nat
 | none=>d
 | some v=>if v<0 then(v+(n:Int)).toNat else min v.toNat n
theorem QlD(n d:Nat):sIx n d none=d:=rfl
theorem QiU(n d k:Nat):sIx n d (some (k:Int))=min k n:=by
 show(if(k:Int)<0 then((k:Int)+(n:Int)).toNat else min (k:Int).toNat n)=min k n
 rw[if_neg (by omega),Zw]
end
end HT
namespace L2
open PySem PySem.Spec PyProof.Rows
noncomputable abbrev TO:=St->Hp->(Option Int->Hp->Prop)->Prop
def PO(X:Cx)(e:Option Expr)(t:TO):Prop:=
 ∀(pins:List (Addr×Obj)) (s:Shared) (σ:St) (H:Hp) (Q:Option Int->Hp->Prop),Inv X pins σ H s->t σ H Q→
  wpAny (model X.prog X.w) X.A (evalPart e X.env) (λu s'=>∃o H',Inv X pins σ H' s'/\IsPart u o/\Q o H') X.xe s
noncomputable def Qss:TO:=λ_ H Q=>Q none H
noncomputable def Qwk(t:TE):TO:=λσ H Q=>t σ H λx H1=>∃i,x= .int i/\Q (some i) H1
theorem intsAre_of{ns:List Int}:∀{us:List Value},Qt (ns.map V.int) us->IntsAre us ns:=by
 induction ns with
 | nil=>intro us r;rw[Zce]at r;cases r;exact .nil
 | cons n ns ih=>
  intro us r
  rw[Zx]at r
  cases r with
  | cons r1 r2=>
   obtain⟨t,e⟩:=r1
   subst e
   exact .cons n t (ih r2)
section
variable {X:Cx}{e:Expr}{te:TE}{lo hi:Option Expr}{tl th:TO}{pos p2:Pos}
theorem Qs6:PO X none Qss:=by
 intro pins s σ H Q I h
 rw[evalPart_none]
 exact wpAny_pure ⟨none,H,I,.none,h⟩
theorem QrW(h:PE X e te):PO X (some e) (Qwk te):=by
 intro pins s σ H Q I hw
 rw[evalPart_some]
 refine thn (h pins s σ H _ I hw) λu s1=>exJ λx H1 I1 r1 q1=>?_
 obtain⟨i,rfl,q⟩:=q1
 obtain⟨t,rfl⟩:=r1
 exact⟨some i,H1,I1,.int i t,q⟩
def SlR(X:Cx)(r:V->Option Int->Option Int->Hp->VK->Prop):Prop:=
 ∀(pins:List (Addr×Obj)) (s:Shared) (σ:St) (H:Hp) (x:V) (v vl vu:Value) (lo hi:Option Int) (sl:Addr) (Q:VK),Inv X pins σ H s->RelV x v->s.heap.IsSliceOf sl vl vu .none->IsPart vl lo->IsPart vu hi->r x lo hi H Q→
  ∃T id,typeLookup (.type T) "__getitem__" =pure (some (.builtin id))/\s.TypeIs v T/\wpAny (model X.prog X.w) X.A (getItem v (.ref sl)) (EP X pins σ Q) X.xe s
theorem SlR.or{r r':V->Option Int->Option Int->Hp->VK->Prop}(h:SlR X r)(h':SlR X r'):SlR X (λx lo hi H Q=>r x lo hi H Q∨r' x lo hi H Q):=by
 intro pins s σ H x v vl vu lo hi sl Q I rx hs pl pu q
 rcases q with q | q
 ·exact h pins s σ H x v vl vu lo hi sl Q I rx hs pl pu q
 ·exact h' pins s σ H x v vl vu lo hi sl Q I rx hs pl pu q
noncomputable def tSl(r:V->Option Int->Option Int->Hp->VK->Prop)(te:TE)(tl th:TO):TE:=λσ H Q=>te σ H λx H1=>tl σ H1 λl H2=>th σ H2 λu H3=>r x l u H3 Q
theorem QrD{r:V->Option Int->Option Int->Hp->VK->Prop}(hr:SlR X r)(he:PE X e te)(hl:PO X lo tl)(hu:PO X hi th):PE X (.Subscript e (.Slice lo hi none p2) pos) (tSl r te tl th):=by
 intro pins s σ H Q I h
 refine Subscript_ (thn (he pins s σ H _ I h) λv s1=>exJ λx H1 I1 r1 q1=>?_)
 refine wpAny_Slice (thn (hl pins s1 σ H1 _ I1 q1) λvl s2 ⟨l,H2,I2,pl,q2⟩=>thn (hu pins s2 σ H2 _ I2 q2) λvu s3=>exJ λu H3 I3 pu q3=>?_)
 rw[evalPart_none]
 refine wpAny_pure ?_
 have I4:Inv X pins σ H3 {s3 with heap:=s3.heap.push {cls:= .type "slice",data:= .fields #[vl,vu,.none]}}:=I3.kept (t':=s3.toks) λb ob q=>Zg _ q
 obtain⟨T,id,hT,ht,hg⟩:=hr pins {s3 with heap:=s3.heap.push {cls:= .type "slice",data:= .fields #[vl,vu,.none]}} σ H3 x v vl vu l u s3.heap.objs.size Q I4 r1 (Heap.IsSliceOf.new ..) pl pu q3
 show wpAny (model X.prog X.w) X.A (subscriptTail e (.Slice lo hi none p2) v (.ref s3.heap.objs.size)) (EP X pins σ Q) X.xe {s3 with heap:=s3.heap.push {cls:= .type "slice",data:= .fields #[vl,vu,.none]}}
 exact tail_any (ops:=[.ref s3.heap.objs.size,v]) ht hT hg (by with_unfolding_all rfl)
noncomputable def QiY(xs:List V)(lo hi:Option Int):List V:=(xs.drop (HT.sIx xs.length 0 lo)).take (HT.sIx xs.length xs.length hi-HT.sIx xs.length 0 lo)
theorem QlU(xs:List V)(lo hi:Option Int):(QiY xs lo hi).length<=xs.length:=by
 unfold QiY
 rw[Zah,Zan]
 omega
end
end L2
namespace L2
open PySem PySem.Spec PyProof.Rows
noncomputable def ixN(n:Nat)(i:Int):Option Nat:=if 0<=i then(if i<n then some i.toNat else none)else if-(n:Int)<=i then some (i+n).toNat else none
noncomputable def atI{α:Type}(xs:List α)(i:Int):Option α:=(ixN xs.length i).bind λj=>xs[j]?
theorem QgA{n:Nat}{i:Int}{j:Nat}(h:ixN n i=some j):seqIndex? i n=some j/\j<n/\ -(n:Int)<=i/\i<n:=by
 unfold ixN at h
 by_cases h0:0<=i
 ·rw[if_pos h0]at h
  by_cases h1:i<n
  ·rw[if_pos h1]at h
   have e:i.toNat=j:=Option.some.inj h
   exact⟨by rw[seqIndex_of h0 h1,e],by omega,by omega,h1⟩
  ·rw[if_neg h1]at h;cases h
 ·rw[if_neg h0]at h
  by_cases h1: -(n:Int)<=i
  ·rw[if_pos h1]at h
   have e:(i+n).toNat=j:=Option.some.inj h
   exact⟨by rw[seqIndex_neg (by omega) h1,e],by omega,h1,by omega⟩
  ·rw[if_neg h1]at h;cases h
theorem Qio{α:Type}{xs:List α}{i:Int}{v:α}(h:atI xs i=some v):∃j,seqIndex? i xs.length=some j/\xs[j]? =some v/\j<xs.length/\ -(xs.length:Int)<=i/\i<xs.length:=by
 unfold atI at h
 cases e:ixN xs.length i with
 | none=>rw[e]at h;cases h
 | some j=>
  rw[e]at h
  obtain⟨h1,h2,h3,h4⟩:=QgA e
  exact⟨j,h1,h,h2,h3,h4⟩
def QgB(b:Expr):Prop:=∀o i,subscripted b false o i=operate [o,i] (getItem o i)
def IxR(X:Cx)(r:R2):Prop:=
 ∀(value slice:Expr) (pins:List (Addr×Obj)) (s:Shared) (σ:St) (H:Hp) (x y:V) (v u:Value) (Q:VK),Inv X pins σ H s->RelV x v->RelV y u->r x y H Q→
  subscripted slice false v u=operate [v,u] (getItem v u)->wpAny (model X.prog X.w) X.A (subscriptTail value slice v u) (EP X pins σ Q) X.xe s
def MtR(X:Cx)(id:String)(r:V->List V->Hp->VK->Prop):Prop:=
 ∀(pins:List (Addr×Obj)) (s:Shared) (σ:St) (H:Hp) (x:V) (xs:List V) (v:Value) (us:List Value) (Q:VK),Inv X pins σ H s->RelV x v->Qt xs us->r x xs H Q→
  wpAny (model X.prog X.w) X.A (call (.builtin id) (v::us)) (EP X pins σ Q) X.xe s
section
variable {X:Cx}{a b:Expr}{ta tb:TE}{pos:Pos}
theorem IxR.or{r r':R2}(h:IxR X r)(h':IxR X r'):IxR X (λx y H Q=>r x y H Q∨r' x y H Q):=by
 intro value slice pins s σ H x y v u Q I rx ry q hs
 rcases q with q | q
 ·exact h value slice pins s σ H x y v u Q I rx ry q hs
 ·exact h' value slice pins s σ H x y v u Q I rx ry q hs
theorem MtR.or{id:String}{r r':V->List V->Hp->VK->Prop}(h:MtR X id r)(h':MtR X id r'):MtR X id (λx xs H Q=>r x xs H Q∨r' x xs H Q):=by
 intro pins s σ H x xs v us Q I rx rs q
 rcases q with q | q
 ·exact h pins s σ H x xs v us Q I rx rs q
 ·exact h' pins s σ H x xs v us Q I rx rs q
theorem QrM{r:R2}(hr:IxR X r)(ha:PE X a ta)(hb:PE X b tb)(hs:QgB b):PE X (.Subscript a b pos) (tOp r ta tb):=by
 intro pins s σ H Q I h
 exact Subscript_ (QqN ha hb I h λv u s2 x y H2 I2 rx ry q=>hr a b pins s2 σ H2 x y v u Q I2 rx ry q (hs _ _))
noncomputable def Qvk(K:PySem.W.Frag):R2:=λx y H Q=>∃p xs i v,x= .ref p/\y= .int i/\SqL K H p xs/\atI xs i=some v/\Q v H
noncomputable def Qxj(K:PySem.W.Frag):R2:=λx y H Q=>∃p xs i v,x= .ref p/\y= .int i/\SqT K H p xs/\atI xs i=some v/\Q v H
theorem QmZ:IxR X (Qvk X.K):=by
 intro value slice pins s σ H x y v u Q I rx ry h hs
 obtain⟨p,xs,i,z,rfl,rfl,hq,he,q⟩:=h
 cases rx
 obtain⟨t,rfl⟩:=ry
 obtain⟨its,r,pl,hz⟩:=I.list hq
 obtain⟨j,h1,h2,h3,h4,h5⟩:=Qio he
 obtain⟨w,ew,rw'⟩:=r.get h2
 have hl:=r.length
 have hn:=Qfa
 have fin:EP X pins σ Q w s:=⟨z,H,I,rw',q⟩
 by_cases h0:0<=i
 ·have hj:i.toNat=j:=by
   rw[seqIndex_of h0 h5]at h1
   exact Option.some.inj h1
  exact item_listR pl.isList h0 (by omega) (by rw[hj];simpa using ew) fin hs
 ·have hj:(i+(its.toArray.size:Int)).toNat=j:=by
   rw[seqIndex_neg (by omega) h4]at h1
   rw[Zu,← hl]
   exact Option.some.inj h1
  exact subscriptTail_builtinR (x:=w) pl.isList.typeIs slot_list_getitem.lookup
   (wpAny_getItem_list_neg (Q:=λr s'=>r=w/\EP X pins σ Q r s') pl.isList (by omega) (by rw[Zu]<;>omega) (by omega) (by rw[hj];simpa using ew) ⟨rfl,fin⟩) hs
theorem QpI:IxR X (Qxj X.K):=by
 intro value slice pins s σ H x y v u Q I rx ry h hs
 obtain⟨p,xs,i,z,rfl,rfl,hq,he,q⟩:=h
 cases rx
 obtain⟨t,rfl⟩:=ry
 obtain⟨its,r,pl,hz⟩:=I.tuple hq
 obtain⟨j,h1,h2,h3,h4,h5⟩:=Qio he
 obtain⟨w,ew,rw'⟩:=r.get h2
 have hl:=r.length
 have hn:=Qfa
 have fin:EP X pins σ Q w s:=⟨z,H,I,rw',q⟩
 exact subscriptTail_builtinR (x:=w) pl.typeIs slot_tuple_getitem.lookup
  (getItem_tuple (j:=j) (Q:=λr s'=>r=w/\EP X pins σ Q r s') pl (by omega) (by omega) (by rw[Zu,← hl];exact h1) (by simpa using ew) ⟨rfl,fin⟩) hs
theorem Qnu(its:List Value)(n j:Nat)(u:Value):Obj.mapSeq (·.setIfInBounds j u) {cls:= .type "list",data:= .seq its.toArray n}={cls:= .type "list",data:= .seq (its.set j u).toArray n}:=by
 simp[Obj.mapSeq]
theorem Inv.lst{pins:List (Addr×Obj)}{σ:St}{H:Hp}{s:Shared}{p:Addr}{xs:List V}(I:Inv X pins σ H s)(h:H p=some (.lst xs)):
  ∃(its:List Value) (n:Nat),Qt xs its/\s.heap.get? p=some {cls:= .type "list",data:= .seq its.toArray n}/\xs.length<=sizeLine:=by
 obtain⟨z,its,n,r,e⟩:=I.hok p _ h
 exact⟨its,n,r,e,z⟩
theorem Inv.Qvo{pins:List (Addr×Obj)}{σ:St}{H:Hp}{s:Shared}{p:Addr}{xs ys:List V}{its its':List Value}{n n':Nat}{f:Obj->Obj}(I:Inv X pins σ H s)(h:H p=some (.lst xs))
  (ho:s.heap.get? p=some {cls:= .type "list",data:= .seq its.toArray n}) (hf:f {cls:= .type "list",data:= .seq its.toArray n}={cls:= .type "list",data:= .seq its'.toArray n'}) (r:Qt ys its') (hz:ys.length<=sizeLine) (t:Nat):
  Inv X pins σ (upd H p (.lst ys)) {s with heap:=s.heap.update p f,toks:=t}:=by
 have e:(s.heap.update p f).get? p=some {cls:= .type "list",data:= .seq its'.toArray n'}:=by
  rw[Zbq f ho (by rw[hf]<;>rfl),hf]
 refine I.write (x:=p) (e:=p) (by rw[h];trivial) (.inl rfl) (λb u hb q=>(ZaU _ _ (Ne.symm hb)).trans q) ⟨_,e⟩ ?_
 exact⟨hz,its',n',r,e⟩
noncomputable def QrO:V->V->V->Hp->(Hp->Prop)->Prop:=λo i v H Q=>∃p xs k j,o= .ref p/\i= .int k/\H p=some (.lst xs)/\ixN xs.length k=some j/\Q (upd H p (.lst (xs.set j v)))
theorem set_list:Qqq X QrO:=by
 intro pins s σ H o i v ov iv u Q I ro ri rv h
 obtain⟨p,xs,k,j,rfl,rfl,hp,hj,q⟩:=h
 cases ro
 obtain⟨t,rfl⟩:=ri
 obtain⟨its,n,r,ho,hz⟩:=I.lst hp
 obtain⟨h1,h2,h3,h4⟩:=QgA hj
 have hl:=r.length
 have hn:=Qfa
 have I':Inv X pins σ (upd H p (.lst (xs.set j v))) {s with heap:=s.heap.update p (Obj.mapSeq (·.setIfInBounds j u))}:=
  I.Qvo hp ho (Qnu its n j u) (r.set rv j) (by rw[ZaD];exact hz) s.toks
 by_cases h0:0<=k
 ·have hk:k.toNat=j:=by
   rw[seqIndex_of h0 h4]at h1
   exact Option.some.inj h1
  exact PySem.W.ki_setAt ho h0 (by omega) (by rw[Zu,← hl];exact h4) (by rw[hk];exact⟨_,I',q⟩)
 ·have hk:(k+(its.toArray.size:Int)).toNat=j:=by
   rw[seqIndex_neg (by omega) h3]at h1
   rw[Zu,← hl]
   exact Option.some.inj h1
  exact PySem.W.ki_setBack ho (by omega) (by rw[Zu,← hl];exact h3) (by omega) (by rw[hk];exact⟨_,I',q⟩)
theorem QkM(lo hi:Option Int)(n:Nat):(sliceBounds lo hi none n).1=((HT.sIx n 0 lo:Nat):Int)/\(sliceBounds lo hi none n).2.1=((HT.sIx n n hi:Nat):Int)/\(sliceBounds lo hi none n).2.2=1:=by
 refine⟨?_,?_,rfl⟩
 ·cases lo with
  | none=>simp[sliceBounds,HT.sIx]
  | some i=>
   simp only[sliceBounds,HT.sIx,Option.getD_none,show(1:Int)>0 by decide,if_true]
   by_cases h:i<0
   ·simp only[h,if_true]<;>omega
   ·simp only[h,if_false]<;>omega
 ·cases hi with
  | none=>simp[sliceBounds,HT.sIx]
  | some i=>
   simp only[sliceBounds,HT.sIx,Option.getD_none,show(1:Int)>0 by decide,if_true]
   by_cases h:i<0
   ·simp only[h,if_true]<;>omega
   ·simp only[h,if_false]<;>omega
theorem QjS(its:List Value)(lo hi:Option Int):slicePick its.toArray lo hi none=((its.drop (HT.sIx its.length 0 lo)).take (HT.sIx its.length its.length hi-HT.sIx its.length 0 lo)).toArray:=by
 obtain⟨h1,h2,h3⟩:=QkM lo hi its.toArray.size
 unfold slicePick
 rw[h1,h2,h3]
 simp only[sliceRange_one,pick_run,Zu]<;>rfl
noncomputable def Qxw(K:PySem.W.Frag):V->Option Int->Option Int->Hp->VK->Prop:=λx lo hi H Q=>∃a xs,x= .ref a/\SqL K H a xs/\∀p,H p=none->Q (.ref p) (upd H p (.lst (QiY xs lo hi)))
theorem Qtq:SlR X (Qxw X.K):=by
 intro pins s σ H x v vl vu lo hi sl Q I rx hs pl pu h
 obtain⟨a,xs,rfl,hx,q⟩:=h
 cases rx
 obtain⟨its,r,ht,hz⟩:=I.list hx
 have hlen:=r.length
 refine⟨"list",_,slot_list_getitem.lookup,ht.isList.typeIs,?_⟩
 refine wpAny_getItem_list_slice ht.isList hs pl pu .none (by simp) ?_ (by rw[Zu]<;>omega)
 rw[QjS,← hlen]
 refine⟨.ref s.heap.objs.size,_,I.laid (t':=s.toks) (o:= .lst (QiY xs lo hi)) (λb ob q=>Zg _ q) (Zq _) ?_,rfl,q _ (I.hok.fresh (Zq _))⟩
 exact⟨ZM (QlU xs lo hi) hz,_,0,(r.drop (HT.sIx xs.length 0 lo)).take (HT.sIx xs.length xs.length hi-HT.sIx xs.length 0 lo),Zz _ rfl⟩
theorem Qk8:Qa5 X (.builtin "len") (λxs H Q=>∃p ys,xs=[.ref p]/\(SqL X.K H p ys∨SqT X.K H p ys)/\Q (.int ys.length) H):=by
 intro pins s σ H xs us Q I r h
 obtain⟨p,ys,rfl,hq,q⟩:=h
 obtain⟨u,rfl,rx⟩:=vals1 r
 cases rx
 have hn:=Qfa
 rcases hq with hq | hq
 ·obtain⟨its,r',pl,hz⟩:=I.list hq
  have hlen:=r'.length
  exact Calls.call_len_list pl.isList (by simp only[Zu]<;>omega) ⟨.int ys.length,H,I.tok _,⟨s.toks+1,by rw[Zu,hlen]⟩,q⟩
 ·obtain⟨its,r',pl,hz⟩:=I.tuple hq
  have hlen:=r'.length
  exact len_tuple pl (by simp only[Zu]<;>omega) ⟨.int ys.length,H,I.tok _,⟨s.toks+1,by rw[Zu,hlen]⟩,q⟩
theorem Qa5.or{f:Value}{r r':List V->Hp->VK->Prop}(h:Qa5 X f r)(h':Qa5 X f r'):Qa5 X f (λxs H Q=>r xs H Q∨r' xs H Q):=by
 intro pins s σ H xs us Q I rs q
 rcases q with q | q
 ·exact h pins s σ H xs us Q I rs q
 ·exact h' pins s σ H xs us Q I rs q
theorem Qgb:Qa5 X (.type "list") (λxs H Q=>∃p ys,xs=[.ref p]/\(SqL X.K H p ys∨SqT X.K H p ys)/\∀l,H l=none->Q (.ref l) (upd H l (.lst ys))):=by
 intro pins s σ H xs us Q I r h
 obtain⟨p,ys,rfl,hq,q⟩:=h
 obtain⟨u,rfl,rx⟩:=vals1 r
 cases rx
 have fin:∀(its:List Value),Qt ys its->ys.length<=sizeLine->∀(h':Heap) (c':Nat),(∀b o',s.heap.get? b=some o'->h'.get? b=some o')→
   h'.get? s.heap.objs.size=some {cls:= .type "list",dict:=none,data:= .seq its.toArray c',slots:= #[]}->EP X pins σ Q (.ref s.heap.objs.size) {s with heap:=h'}:=λits r' hz h' c' kp e=>
  ⟨.ref s.heap.objs.size,_,I.laid (t':=s.toks) kp (Zq _) (show Qcr X.prog X.w _ h' _ (.lst ys)from⟨hz,its,c',r',e⟩),rfl,q _ (I.hok.fresh (Zq _))⟩
 rcases hq with hq | hq
 ·obtain⟨its,r',pl,hz⟩:=I.list hq
  have hlen:=r'.length
  obtain⟨o,ho,hc,n,hd⟩:=pl.isList
  exact call_list_seq p (.inl rfl) ho hc hd (λh' c' kp e=>fin its r' hz h' c' kp e) (by simp only[Zu]<;>omega)
 ·obtain⟨its,r',pl,hz⟩:=I.tuple hq
  have hlen:=r'.length
  obtain⟨o,ho,hc,n,hd⟩:=pl
  exact call_list_seq p (.inr rfl) ho hc hd (λh' c' kp e=>fin its r' hz h' c' kp e) (by simp only[Zu]<;>omega)
def tyV(K:PySem.W.Frag)(T:String)(x:V)(H:Hp):Prop:=match x with
 | .str _=>T= "str"
 | .int _=>T= "int"
 | .ref p=>(T= "list" /\∃xs,SqL K H p xs)∨(T= "tuple" /\∃o,K.lookup p=some o/\o.cls= .type "tuple" /\o.dict=none)∨
   (T= "dict" /\((∃kvs,H p=some (.dK kvs))∨∃kvs,H p=some (.dT kvs)))∨(T= "set" /\∃S n,H p=some (.set S n))
 | _=>False
theorem QpG{pins:List (Addr×Obj)}{σ:St}{H:Hp}{s:Shared}{T:String}{x:V}{v:Value}(I:Inv X pins σ H s)(r:RelV x v)(ty:tyV X.K T x H):
  s.TypeIs v T/\∀a,v= .ref a->∃ob,s.heap.get? a=some ob/\ob.dict=none:=by
 cases x with
 | str z=>
  obtain⟨t,rfl⟩:=r
  cases(show T= "str" from ty)
  exact⟨typeIs_str s z t,λ_ e=>nomatch e⟩
 | int i=>
  obtain⟨t,rfl⟩:=r
  cases(show T= "int" from ty)
  exact⟨typeIs_int s i t,λ_ e=>nomatch e⟩
 | ref p=>
  cases r
  rcases ty with⟨rfl,xs,hq⟩ | ⟨rfl,o,hk,hc,hd⟩ | ⟨rfl,hk⟩ | ⟨rfl,S,n,hk⟩
  ·obtain⟨its,_,pl,_⟩:=I.list hq
   refine⟨pl.isList.typeIs,λa e=>?_⟩
   cases e
   obtain⟨o,n,e,c,hd,_⟩:=pl
   exact⟨o,e,hd⟩
  ·refine⟨⟨o,I.kIn p o hk,hc⟩,λa e=>?_⟩
   cases e
   exact⟨o,I.kIn _ o hk,hd⟩
  ·have z:∃o,s.heap.get? p=some o/\o.ExactDict:=by
    rcases hk with⟨kvs,hk⟩ | ⟨kvs,hk⟩
    ·obtain⟨_,_,_,_,o,_,_,e,ex,_⟩:=I.hok p _ hk
     exact⟨o,e,ex⟩
    ·obtain⟨_,_,_,_,o,_,_,e,ex,_⟩:=I.hok p _ hk
     exact⟨o,e,ex⟩
   obtain⟨o,e,ex⟩:=z
   refine⟨⟨o,e,ex.1⟩,λa e2=>?_⟩
   cases e2
   exact⟨o,e,ex.2.1⟩
  ·obtain⟨o,_,_,_,e,ex,_⟩:=I.hok p _ hk
   refine⟨⟨o,e,ex.1⟩,λa e2=>?_⟩
   cases e2
   exact⟨o,e,ex.2.1⟩
 | _=>exact False.elim ty
noncomputable def Qxk(K:PySem.W.Frag)(T:String)(r:V->List V->Hp->VK->Prop)(to:TE):TE:=λσ H Q=>to σ H λx H1=>tyV K T x H1/\r x [] H1 Q
noncomputable def tBM(K:PySem.W.Frag)(T:String)(r:V->List V->Hp->VK->Prop)(to:TE)(t:TA):TE:=λσ H Q=>to σ H λx H1=>tyV K T x H1/\t σ H1 λxs H2=>r x xs H2 Q
variable {o e:Expr}{es:List Expr}{to:TE}{t:TA}{name:Str}{apos cpos:Pos}{T id:String}{r:V->List V->Hp->VK->Prop}
theorem Quq(pa:PlainAttrs T)(slot:Slot T name id)(hty:typeOf (.builtin id)=pure (.type "method_descriptor"))(hm:MtR X id r)(ho:PE X o to)
  (hbase:attributeBase o name X.env (eval o X.env)=eval o X.env:=by rfl) (hline:(apos.endLine == cpos.line)=true:=by rfl):PE X (.Call (.Attribute o name apos) [] [] cpos) (Qxk X.K T r to):=by
 intro pins s σ H Q I h
 refine wpAny_Call_method0_late hbase hline (thn (ho pins s σ H _ I h) λv s1 hpt=>?_)
 obtain⟨x,H1,I1,r1,ty,q1⟩:=hpt
 obtain⟨h1,h2⟩:=QpG I1 r1 ty
 exact⟨T,id,pa,slot,hty,h1,h2,Calls.callWith_builtin rfl (PySem.evalArgs_none (hm pins s1 σ H1 x [] v [] Q I1 r1 .nil q1))⟩
theorem Qh4(pa:PlainAttrs T)(slot:Slot T name id)(hty:typeOf (.builtin id)=pure (.type "method_descriptor"))(hm:MtR X id r)(ho:PE X o to)(ha:PA X (e::es) t)
  (hbase:attributeBase o name X.env (eval o X.env)=eval o X.env:=by rfl)
  (hfew:((backTo cpos (starEach (e::es) X.env)).all (λx=> !x.1) && (backToKw cpos (keywordEach [] X.env)).all (λx=>x.1.isSome)
   && decide ((e::es).length+([]:List Keyword).length+(if([]:List Keyword).isEmpty then 0 else 1)<30))=true:=by rfl)
  (hline:(apos.endLine == cpos.line)=true:=by rfl) (hs:starEach (e::es) X.env=(false,eval e X.env)::starEach es X.env:=by rfl) (hplain:(backTo cpos (starEach es X.env)).any (·.1)=false:=by rfl):
  PE X (.Call (.Attribute o name apos) (e::es) [] cpos) (tBM X.K T r to t):=by
 intro pins s σ H Q I h
 refine wpAny_Call_method_late hbase hfew hline rfl (thn (ho pins s σ H _ I h) λv s1 hpt=>?_)
 obtain⟨x,H1,I1,r1,ty,q1⟩:=hpt
 obtain⟨h1,h2⟩:=QpG I1 r1 ty
 refine⟨T,id,pa,slot,hty,h1,h2,?_⟩
 have hA:=ha cpos pins s1 σ H1 _ I1 q1
 rw[hs]at hA ⊢
 refine Calls.callWith_builtin (by show(false || (backTo cpos (starEach es X.env)).any (·.1))=false;rw[hplain]<;>rfl) (Calls.evalArgs_plain ?_)
 exact thn hA λus s2 ⟨vs,H2,I2,r2,q2⟩=>hm pins s2 σ H2 x vs v us Q I2 r1 r2 q2
end
end L2
namespace L2
open PySem PySem.Spec PyProof.Rows
def MtM(X:Cx)(id:String)(r:V->List V->Hp->VK->Prop):Prop:=
 ∀(pins:List (Addr×Obj)) (s:Shared) (σ:St) (H:Hp) (x:V) (xs:List V) (v:Value) (us:List Value) (Q:VK),Inv X pins σ H s->RelV x v->Qt xs us->r x xs H Q→
  wpAny (model X.prog X.w) X.A (call (.builtin id) (v::us)) (EP X pins σ Q) X.xe s
theorem Qt.one{x:V}{us:List Value}(r:Qt [x] us):∃u,us=[u]/\RelV x u:=vals1 r
theorem Qt.two{x y:V}{us:List Value}(r:Qt [x,y] us):∃u v,us=[u,v]/\RelV x u/\RelV y v:=vals2 r
theorem Qt.zero:∀{us:List Value},Qt [] us->us=[]
 | _,.nil=>rfl
theorem Qt.eraseIdx:∀{xs:List V}{us:List Value}(i:Nat),Qt xs us->Qt (xs.eraseIdx i) (us.eraseIdx i)
 | _,_,_,.nil=> .nil
 | _,_,0,.cons _ t=>t
 | _,_,i+1,.cons r t=> .cons r (Qt.eraseIdx i t)
theorem Qt.reverse{xs:List V}{us:List Value}(h:Qt xs us):Qt xs.reverse us.reverse:=by
 induction h with
 | nil=>exact .nil
 | cons r t ih=>rw[List.reverse_cons,List.reverse_cons];exact Qt.append ih (.cons r .nil)
theorem Qt.rep{xs:List V}{us:List Value}(h:Qt xs us):∀k:Nat,Qt (List.replicate k xs).flatten (List.replicate k us).flatten
 | 0=> .nil
 | k+1=>by
  rw[Zak,Zak,Zar,Zar]
  exact Qt.append h (Qt.rep h k)
theorem Qjy{α:Type}:∀(l:List α) (i:Nat),(l.eraseIdx i).length<=l.length
 | [],_=>Zq _
 | _::_,0=>ZaP _
 | _::r,i+1=>Nat.succ_le_succ (Qjy r i)
theorem foldl_rep(its:List Value):∀(k:Nat) (acc:List Value),
  List.foldl (λx1 x2=>x1++x2) acc.toArray (List.replicate k its.toArray)=(acc++(List.replicate k its).flatten).toArray
 | 0,acc=>by simp
 | k+1,acc=>by
  have e:acc.toArray++its.toArray=(acc++its).toArray:=by simp
  have e2:(acc++its)++(List.replicate k its).flatten=acc++(List.replicate (k+1) its).flatten:=by
   rw[Zak,Zar,ZaQ]
  rw[← e2,← foldl_rep its k (acc++its),← e,Zak,ZbA]
section
variable {X:Cx}{pins:List (Addr×Obj)}{σ:St}{H:Hp}{s:Shared}{l b:Addr}{xs ys zs:List V}
theorem Inv.Qrx{its its':List Value}{n:Nat}{f:Array Value->Array Value}{t':Nat}(I:Inv X pins σ H s)(hH:H l=some (.lst xs))
  (e:s.heap.get? l=some {cls:= .type "list",data:= .seq its.toArray n}) (hf:f its.toArray=its'.toArray) (hv:Qt ys its') (hz:ys.length<=sizeLine):
  Inv X pins σ (upd H l (.lst ys)) {s with heap:=s.heap.update l (Obj.mapSeq f),toks:=t'}:=by
 have q:=PySem.IsL.update e f
 rw[hf]at q
 refine I.write (x:=l) (e:=l) (by rw[hH];exact trivial) (.inl rfl) (λb' u hb hu=>(ZaU s.heap (Obj.mapSeq f) (Ne.symm hb)).trans hu) ⟨_,q⟩ ?_
 exact⟨hz,its',_,hv,q⟩
theorem Inv.QvJ{its:List Value}{t':Nat}(I:Inv X pins σ H s)(hv:Qt ys its)(hz:ys.length<=sizeLine):
  Inv X pins σ (upd H s.heap.objs.size (.lst ys)) {s with heap:=s.heap.push {cls:= .type "list",data:= .seq its.toArray},toks:=t'}:=
 I.laid (λ_ _ q=>Zg _ q) (Zq _) ⟨hz,its,0,hv,Zz _ rfl⟩
theorem Inv.fresh(I:Inv X pins σ H s):H s.heap.objs.size=none:=I.hok.fresh (Zq _)
theorem Inv.Qnj(I:Inv X pins σ H s)(hH:H l=some (.lst xs)):xs.length<=sizeLine/\∃(its:List Value) (n:Nat),Qt xs its/\xs.length=its.length/\s.heap.get? l=some {cls:= .type "list",data:= .seq its.toArray n}:=by
 obtain⟨z,its,n,r,e⟩:=I.hok l _ hH
 exact⟨z,its,n,r,r.length,e⟩
theorem QqE{n:Nat}(h:n<=sizeLine):Builtin.List.listTooLong n=false:=by
 unfold Builtin.List.listTooLong
 exact decide_eq_false (by omega)
end
section
variable {X:Cx}
noncomputable def QdY:V->List V->Hp->VK->Prop:=λx vs H Q=>∃l xs y,x= .ref l/\vs=[y]/\H l=some (.lst xs)/\xs.length<sizeLine/\Q .non (upd H l (.lst (xs++[y])))
theorem Qex:MtM X "list.append" QdY:=by
 intro pins s σ H x vs v us Q I rx rv h
 obtain⟨l,xs,y,rfl,rfl,hH,hz,q⟩:=h
 cases rx
 obtain⟨u,rfl,ru⟩:=rv.one
 obtain⟨z,its,n,r,hl,e⟩:=I.Qnj hH
 refine call_meets F.slot_list_append ⟨_,e,rfl⟩ F.entry_list_append (F.args_list_append_2 _ _) (PySem.list_append l its.toArray n u (by rw[Zu];omega)) ⟨e,?_⟩
 refine⟨.non,_,I.Qrx (its':=its++[u]) hH e (by simp) (r.append (.cons ru .nil)) ?_,rfl,q⟩
 rw[Zt,ZaJ]
 omega
noncomputable def QlI:V->List V->Hp->VK->Prop:=λx vs H Q=>∃l xs i k y,x= .ref l/\vs=[.int i]/\H l=some (.lst xs)/\ -(2^63)<=i/\i<2^63/\seqIndex? i xs.length=some k/\xs[k]? =some y/\Q y (upd H l (.lst (xs.eraseIdx k)))
theorem QpR:MtM X "list.pop" QlI:=by
 intro pins s σ H x vs v us Q I rx rv h
 obtain⟨l,xs,i,k,y,rfl,rfl,hH,h1,h2,hk,hy,q⟩:=h
 cases rx
 obtain⟨u,rfl,ru⟩:=rv.one
 obtain⟨t,rfl⟩:=ru
 obtain⟨z,its,n,r,hl,e⟩:=I.Qnj hH
 obtain⟨w,hw,rw'⟩:=r.get hy
 refine call_meets F.slot_list_pop ⟨_,e,rfl⟩ F.entry_list_pop (F.args_list_pop_2 _ _)
  (MeetsSeq.list_pop_at l its.toArray n i t k w (fitsIndex_both h1 h2) (by rw[Zu,← hl];exact hk) (by rw[← ZS];exact hw) (by rw[Zu];omega)) ⟨e,?_⟩
 refine⟨y,_,I.Qrx (its':=its.eraseIdx k) hH e ?_ (r.eraseIdx k) ?_,rw',q⟩
 ·show its.toArray.eraseIdxIfInBounds k=(its.eraseIdx k).toArray
  rw[List.eraseIdxIfInBounds_toArray]
 ·have:=Qjy xs k
  omega
theorem len_rep{α:Type}(xs:List α)(k:Nat):(List.replicate k xs).flatten.length=k*xs.length:=by
 induction k with
 | zero=>simp
 | succ k ih=>rw[Zak,Zar,Zt,ih,Nat.succ_mul,Nat.add_comm]
end
section
variable {prog:Program}{w:World}{A:Around}{E:Value->Shared->Prop}{s:Shared}
end
section
variable {X:Cx}
end
end L2
namespace Att
open PySem PySem.W PySem.Calls PyProof.Rows
theorem QhT{P:Params}{h:Heap}:∀(ns:List Int) (vs:List Value),WellAll P h vs (ns.map WData.int)->IntsAre vs ns:=by
 intro ns
 induction ns with
 | nil=>
  intro vs w
  rw[Zce]at w
  cases w
  exact .nil
 | cons n ns ih=>
  intro vs w
  rw[Zx]at w
  cases w with
  | cons a b=>
   cases a
   exact .cons _ _ (ih _ b)
theorem Qok{l:OpenLaw}{n:Nat}(hn:l.most=some n){P:Params}{h:Heap}{args:List WData}{vals:List Value}
  (hpre:l.row.toRowW.claim.pre args=true) (hwl:WellAll P h vals args):
  ∃a vs ns,vals=[Value.ref a]/\args=[WData.list (ns.map WData.int)]/\h.get? a=some {cls:= .type "list",data:= .seq vs.toArray}/\IntsAre vs ns/\ns.length<=n:=by
 have hsh:WShape.hasAll [] args [.list .int]=true:=(pre_splitW hpre).1
 have hc:l.pre.holds [] {args:=args}=true:=(pre_splitW hpre).2
 obtain⟨d,r,rfl,h1,h2⟩:=hasAllW_cons hsh
 obtain rfl:=hasAllW_nil h2
 obtain⟨xs,rfl,h3⟩:=hasW_list h1
 obtain⟨ns,rfl⟩:=items_int h3
 have hlen:ns.length<=n:=by
  unfold OpenLaw.pre at hc
  have h4:(WTm.not (.lt (.lit (.int (n:Int))) (.len (.arg 0)))).holds [] {args:=[.list (ns.map .int)]}=true:=by
   have h4:=(holds_andW hc).1
   rw[hn]at h4
   exact h4
  have h5:=condW_of h4 (w_not (w_lt w_lit (w_len_list (w_arg rfl))))
  rw[Zd]at h5
  refine Nat.le_of_not_lt λq=>?_
  have q':(n:Int)<((ns.length:Nat):Int):=by omega
  first
   | (rw[decide_eq_true q']at h5;exact absurd h5 (by decide))
   | (simp at h5;omega)
 cases hwl with
 | cons w1 w2=>
  cases w2
  cases w1 with
  | list ho hall=>exact⟨_,_,ns,rfl,rfl,ho,QhT ns _ hall,hlen⟩
theorem Qpp(l:OpenLaw)(args:List WData):l.row.toRowW.claim.post args (.bool true) args=true:=
 postW_of (r:=l.row.toRowW) (X:=(true == true))
  (show WShape.has [] (.bool true) .bool=true by first | rfl | decide | simp[WShape.has,WShape.arms,WShape.armsAll])
  (show(WTm.eq .res (.lit (.bool true))).value [] {args:=args,res:=some (.bool true),after:=args}=some (.bool (true == true))from w_eq_bool (w_res rfl) w_lit) rfl
theorem QgR{l:OpenLaw}{n:Nat}{q:Program}{loose:List Str}{XP:(Str->Option Value)->Heap->Prop}{YP:World->Heap->Prop}{d:DefRec}
  (hn:l.most=some n) (hdf:d.params.defaults=[])
  (call:∀(w:World) (s₀ s₁:Shared) (mg mb:Str->Option Value) (fa:Addr) (o:Obj) (pm cd doc:Value) (a:Addr) (vs:List Value) (ns:List Int),
   Ground q loose [] XP w s₀ mg mb s₁.heap->YP w s₁.heap→
   s₁.heap.get? fa=some o->o.data= .func (docDef d.name d.params d.body d.scope pm cd doc)->s₁.heap.CodeRec cd d.name->mg d.name=some (.ref fa)→
   s₁.heap.get? a=some {cls:= .type "list",data:= .seq vs.toArray}->IntsAre vs ns->ns.length<=n->s₁.gens= #[]→
   codeAny (model l.prog w) callerA (.call (.ref fa) ⟨[.ref a],[]⟩) (λr s'=>r= .ok (.ret (.bool true))/\OldK s₁.heap s'.heap/\s'.os=s₁.os/\AllBare s'.gens) s₁):
  WalkO q loose XP YP l.row.toRowW d [] (λf vs=>PySem.call f vs):=by
 intro w s₀ s₁ mg mb G Y fa o pm cd doc dV kV ho hd hcd hD hmg hg args vals as hpre hlay hrd hwl hlo
 obtain rfl:dV= .none:=Dflts.none hD hdf
 obtain rfl:kV= .none:=Dflts.noKw hD
 obtain⟨a,vs,ns,rfl,rfl,hobj,hints,hlen⟩:=Qok hn hpre hwl
 refine enter_call (codeAny_mono (call w s₀ s₁ mg mb fa o pm cd doc a vs ns G Y ho (fd_plain hd) hcd hmg hobj hints hlen hg) λr s' hq=>?_)
 obtain⟨rfl,h2,h3,h4⟩:=hq
 exact⟨.inl ⟨.bool true,.bool true,[],rfl,λ_=>rfl,.bool true,Qpp l _,λ_=>⟨List.Pairwise.nil,λ_ hm=>(nomatch hm)⟩⟩,h2,h3,h4⟩
section
variable {prog:Program}{w:World}{A:Around}{E:Value->Shared->Prop}{s:Shared}{K:Frag}
noncomputable def ledger(h:Heap)(L d:Addr):List (Addr×Obj):=(List.range h.objs.size).filterMap λa=>if a=L∨a=d then none else(h.get? a).map λo=>(a,o)
end
end Att
namespace L2
open PySem PySem.Spec PyProof.Rows
theorem Qar:∀{vs:List Value}{ns:List Int},IntsAre vs ns->Qt (ns.map V.int) vs
 | _,_,.nil=> .nil
 | _,_,.cons n t h=> .cons ⟨t,rfl⟩ (Qar h)
def Qqx(H:Hp):Prop:=∀b,H b=none∨∃o xs,H b=some (.frz o (.lst xs))
theorem Qlu{P:Program}{w:World}{K:PySem.W.Frag}{mg mb:Str->Option Value}{CX:CXT}{k:Nat}{fa a:Addr}{fd:FuncData}{x:Str}{sp:Sp}{s₁:Shared}{vs:List Value}{ns:List Int}
  (KX:K.In s₁.heap) (hns:s₁.heap.Ns mainGlobals mg) (hb:s₁.heap.Ns builtinsNs mb) (hbb:∀x:Str,x≠ "__name__" ->mb x=bootBuiltins x) (hlim:s₁.heap.NoLimit) (hg:s₁.gens= #[])
  (ha:s₁.heap.get? a=some {cls:= .type "list",data:= .seq vs.toArray}) (hi:IntsAre vs ns) (hl:ns.length<=sizeLine) (hr:Qas k callerA)
  (F:∀base:Heap,K.In base->base.Ns mainGlobals mg->QbD P w K mg base CX k fa fd [x] sp) (hbind:∀(s:Shared) (u:Value),BindsTo s fd ⟨[u],[]⟩ [(x,u)])
  (hsp:∀H:Hp,Qqx H->SqL K H a (ns.map V.int)->sp [.ref a] H (λv _=>v= .bl true) λ_ _ _=>False)
  (hCX:∀H e s',CX [] H s₁ (λ_ _ _=>False) e s'->False):
  codeAny (model P w) callerA (.call (.ref fa) ⟨[.ref a],[]⟩) (λr s'=>r= .ok (.ret (.bool true))/\OldK s₁.heap s'.heap/\s'.os=s₁.os/\AllBare s'.gens) s₁:=by
 have rv:=Qar hi
 have lenV:=hi.length
 have core:∀H:Hp,Qqx H->SqL K H a (ns.map V.int)->HOk P w H s₁.heap->(∀b,H b≠none->b=a)->(H a≠none->K.lookup a=none)→
   codeAny (model P w) callerA (.call (.ref fa) ⟨[.ref a],[]⟩) (λr s'=>r= .ok (.ret (.bool true))/\OldK s₁.heap s'.heap/\s'.os=s₁.os/\AllBare s'.gens) s₁:=by
  intro H hO hS hok hA hK
  have base_of:∀{b:Addr}{o:Obj},s₁.heap.get? b=some o->H b=none->(QfP s₁.heap H).get? b=some o:=λe n=>QrE e n
  have noA:∀{b:Addr}{o:Obj}{es:Array DictEntry}{ep:Nat},s₁.heap.get? b=some o->o.data= .dict es ep->H b=none:=λ{b o es ep} e d=>by
   cases q:H b with
   | none=>rfl
   | some u=>
    have e':b=a:=hA b (by rw[q];simp)
    subst e'
    rw[ha]at e;cases e
    have d':Data.seq vs.toArray _=Data.dict es ep:=d
    cases d'
  have nsK:∀{b:Addr}{m:Str->Option Value},s₁.heap.Ns b m->(QfP s₁.heap H).Ns b m:=λ{b m} ⟨o,es,ep,e,d,r⟩=>⟨o,es,ep,base_of e (noA e d),d,r⟩
  have hKb:K.In (QfP s₁.heap H):=λb o e=>base_of (KX b o e) (by
   cases q:H b with
   | none=>rfl
   | some u=>
    have e':b=a:=hA b (by rw[q];simp)
    subst e'
    rw[hK (by rw[q];simp)]at e;cases e)
  have hM:Mod K mg (QfP s₁.heap H):=⟨hKb,nsK hns,⟨mb,nsK hb,hbb⟩,let ⟨mc,h1,h2⟩:=hlim;⟨mc,nsK h1,h2⟩⟩
  have e0:QeO P w K mg (QfP s₁.heap H) callerA [] s₁ H:=⟨rfl,hM,λb o e=>Qto e,Nat.le_of_eq (Qpl _ _),trivial,λb hb=>absurd (show b∈([]:List Addr)from hb) (by simp),hok,.of_eq hg⟩
  refine codeAny_mono ((F _ hKb (nsK hns)).run callerA [] s₁ H ⟨[.ref a],[]⟩ [.ref a] [.ref a] _ _ hr e0 (hbind s₁ (.ref a)) (.cons rfl .nil) (hsp H hO hS)) λr s' h=>?_
  cases r with
  | error e=>exact(hCX H e s' h).elim
  | ok fl=>
   cases fl with
   | next=>exact False.elim h
   | brk=>exact False.elim h
   | cont=>exact False.elim h
   | ret u=>
    obtain⟨v,H',os,bare,un,hok',r',q⟩:=h
    have q':v= .bl true:=q
    subst q'
    obtain rfl:u=Value.bool true:=r'
    refine⟨rfl,OldK.of_keep λb o e=>?_,os,bare⟩
    cases q:H b with
    | none=>exact un.keep b o e q (by intro z;exact absurd (show b∈([]:List Addr)from z) (by simp)) (by simp)
    | some u=>
     rcases hO b with z | ⟨ob,xs,z⟩
     ·rw[q]at z;cases z
     ·have z2:=un.frzs b ob _ z
      obtain⟨e1,_⟩:=hok b _ z
      obtain⟨e2,_⟩:=hok' b _ z2
      rw[e]at e1;cases e1
      exact e2
 cases hk:K.lookup a with
 | some o=>
  have e:=KX a o hk
  rw[ha]at e
  cases e
  refine core (λ_=>none) (λ_=> .inl rfl) (.inr ⟨_,vs.toArray,_,hk,rfl,rfl,rfl,by rw[Zu,lenV];exact hl,by simpa using rv⟩) (λb u z=>by have z':(none:Option HO)=some u:=z;cases z') (λb z=>absurd rfl z) λz=>absurd rfl z
 | none=>
  refine core (λb=>if b=a then some (.frz {cls:= .type "list",data:= .seq vs.toArray} (.lst (ns.map V.int)))else none) (λb=>?_) (.inl (.inr ⟨{cls:= .type "list",data:= .seq vs.toArray},if_pos rfl⟩)) (λb u z=>?_) (λb z=>?_) λ_=>hk
  ·by_cases hb:b=a
   ·exact .inr ⟨_,_,if_pos hb⟩
   ·exact .inl (if_neg hb)
  ·by_cases hb:b=a
   ·have z':=(if_pos hb).symm.trans z
    cases z'
    subst hb
    exact⟨ha,by rw[Zd];exact hl,vs,_,rv,ha⟩
   ·have z':=(if_neg hb).symm.trans z
    cases z'
  ·by_cases hb:b=a
   ·exact hb
   ·exact absurd (if_neg hb) z
end L2
namespace L2
open PySem PySem.Spec PyProof.Rows
noncomputable abbrev KOf{K:PySem.W.Frag}{h:Heap}(_:K.In h):PySem.W.Frag:=K
theorem QxE{l:PySem.W.OpenLaw}{n k:Nat}{q:Program}{loose:List Str}{XP:(Str->Option Value)->Heap->Prop}{YP:World->Heap->Prop}{d:DefRec}{K:Params->PySem.W.Frag}{CX:World->CXT}{sp:World->Sp}{x:Str}
  (hn:l.most=some n) (hn2:n<=sizeLine) (hdf:d.params.defaults=[]) (hr:Qas k callerA)
  (hY:∀(w:World) (h:Heap),YP w h->(K w.params).In h)
  (F:∀(w:World) (mg:Str->Option Value) (fa:Addr) (h:Heap),(K w.params).In h->h.Ns mainGlobals mg->mg d.name=some (.ref fa)→
   ∃fd:FuncData,(∀(s:Shared) (u:Value),BindsTo s fd ⟨[u],[]⟩ [(x,u)])∧
    ∀base:Heap,(K w.params).In base->base.Ns mainGlobals mg->QbD l.prog w (K w.params) mg base (CX w) k fa fd [x] (sp w))
  (hsp:∀(w:World) (H:Hp) (a:Addr) (ns:List Int),ns.length<=n->Qqx H->SqL (K w.params) H a (ns.map V.int)->sp w [.ref a] H (λv _=>v= .bl true) λ_ _ _=>False)
  (hCX:∀(w:World) (H:Hp) (s:Shared) (e:Value) (s':Shared),CX w [] H s (λ_ _ _=>False) e s'->False):
  PySem.W.WalkO q loose XP YP l.row.toRowW d [] (λf vs=>PySem.call f vs):=by
 refine Att.QgR hn hdf λw s₀ s₁ mg mb fa o pm cd doc a vs ns G Y ho hd hcd hmg hobj hints hlen hg=>?_
 have KX:=hY w _ Y
 obtain⟨fd,hb,hF⟩:=F w mg fa _ KX G.T.g hmg
 exact Qlu KX G.T.g G.T.b G.T.builtins G.T.nolimit hg hobj hints (ZM hlen hn2) hr hF hb (λH hO hS=>hsp w H a ns hlen hO hS) λH e s'=>hCX w H s₁ e s'
end L2
namespace L2
open PySem PySem.Spec PyProof.Rows
noncomputable def Qd1(s:Stmt):Arguments:=match s with
 | .FunctionDef _ a _ _ _ _ _ _ _ _=>a
 | _=>{posonlyargs:=[],args:=[],vararg:=none,kwonlyargs:=[],kw_defaults:=[],kwarg:=none,defaults:=[]}
noncomputable def QbC(s:Stmt):List Stmt:=match s with
 | .FunctionDef _ _ b _ _ _ _ _ _ _=>b
 | _=>[]
noncomputable def Qu(s:Stmt):Scope:=match s with
 | .FunctionDef _ _ _ _ _ _ sc _ _ _=>sc
 | _=>{kind:= .function,names:=[],isGenerator:=false,isCoroutine:=false}
noncomputable abbrev CX0:CXT:=λ_ _ _ _ _ _=>False
noncomputable abbrev E0:XK:=λ_ _ _=>False
theorem QrU{X:Cx}:Qh8 CX0 X E0:=λ_ _ _ _ _ _ _ h=>h.elim
structure Fun (K:PySem.W.Frag) (x qual:Str) (st:Stmt) (f:Addr) (fd:FuncData):Prop where
 ex:∃(oc:Value) (od:Option Addr) (kV doc pm:Value) (an:Option Addr) (cdv ct:Value) (osl:Array (Option Value)),
  fd=PySem.W.fnOf x qual (Qd1 st) (QbC st) (Qu st) .none kV doc pm an cdv ct/\K.lookup f=some ⟨oc,od,.func fd,osl⟩/\PySem.W.codeIn K cdv qual=true
 kp:PySem.W.keepIn K (.ref f)=true
section
variable {P:Program}{w:World}{K:PySem.W.Frag}{mg:Str->Option Value}{base:Heap}
theorem Fun.ok{x qual:Str}{st:Stmt}{f:Addr}{fd:FuncData}{N ps:List Str}{k:Nat}{sp:Sp}(F:Fun K x qual st f fd)(S:QcK N ps (Qu st))(len:∀vs H Q E,sp vs H Q E->vs.length=ps.length)
  (hbody:∀(cdv:Value) (A:Around) (outer:List Env) (s:Shared) (H:Hp) (vs:List V) (Q:VK) (E:XK),Qas k (A.deeper (envOfC qual (Qu st) s.heap.objs.size f cdv))->sp vs H Q E→
   ∃t,PSs (Qgr CX0 P w K mg base N qual (Qu st) f cdv A outer s H E).nox (QbC st) t/\t {nx:=λ_ H'=>Q .non H',rt:=Q} (start N vs) H):QbD P w K mg base CX0 (k+1) f fd ps sp:=by
 obtain⟨oc,od,kV,doc,pm,an,cdv,ct,osl,rfl,lk,hcd⟩:=F.ex
 refine Qww lk hcd S len λA outer s H vs Q E hr hsp=>?_
 obtain⟨t,h,q⟩:=hbody cdv A outer s H vs Q E hr hsp
 exact⟨t,h.nox,q⟩
theorem Fun.binds{x qual:Str}{st:Stmt}{f:Addr}{fd:FuncData}{ps:List Str}(F:Fun K x qual st f fd)
  (h:∀(kV doc pm:Value) (an:Option Addr) (cdv ct:Value) (us:List Value),us.length=ps.length->bindArgs (PySem.W.fnOf x qual (Qd1 st) (QbC st) (Qu st) .none kV doc pm an cdv ct) ⟨us,[]⟩=pure (ps.zip us)):Binds K fd ps []:=by
 obtain⟨oc,od,kV,doc,pm,an,cdv,ct,osl,rfl,lk,hcd⟩:=F.ex
 exact .all (h kV doc pm an cdv ct)
theorem Qvl{x qual:Str}{st:Stmt}{f:Addr}{oc:Value}{od an:Option Addr}{osl:Array (Option Value)}{kV doc pm cdv ct:Value}(l:K.lookup f=some ⟨oc,od,.func (PySem.W.fnOf x qual (Qd1 st) (QbC st) (Qu st) .none kV doc pm an cdv ct),osl⟩)
  (c:PySem.W.codeIn K cdv qual=true) (k:PySem.W.keepIn K (.ref f)=true):Fun K x qual st f (PySem.W.fnOf x qual (Qd1 st) (QbC st) (Qu st) .none kV doc pm an cdv ct):=⟨⟨oc,od,kV,doc,pm,an,cdv,ct,osl,rfl,l,c⟩,k⟩
end
section
variable {X:Cx}
theorem pv(i:Nat){x:Str}{pos:Pos}(hN:X.N[i]? =some x:=by rfl)(hv:Vis X.env.scope x:=by first | exact Or.inl rfl | exact Or.inr (Or.inl rfl) | exact Or.inr (Or.inr rfl))(hd:(x == ("__debug__" :Str))=false:=by decide)
  (hcd:(x == ("__classdict__" :Str))=false:=by decide):PE X (.Name x pos) (QiH i):=Qox hN hv hd hcd
end
theorem Qq2{A B:Prop}(h:B):if false=true then A else B:=by
 rw[if_neg Zat]
 exact h
theorem Qql{A B:Prop}(h:A):if true=true then A else B:=by
 rw[if_pos rfl]
 exact h
def QD(H H':Hp):Prop:=∀b o,H b=some o->H' b=some o
theorem QD.refl(H:Hp):QD H H:=λ_ _ h=>h
theorem QD.trans{H H1 H2:Hp}(a:QD H H1)(b:QD H1 H2):QD H H2:=λc o h=>b c o (a c o h)
theorem QD.free{H H':Hp}(e:QD H H'){l:Addr}(h:H' l=Option.none):H l=Option.none:=by
 cases q:H l with
 | none=>rfl
 | some o=>
  rw[e l o q]at h
  cases h
theorem QD.seq{K:PySem.W.Frag}{H H':Hp}{a:Addr}{xs:List V}(e:QD H H')(h:SqL K H a xs):SqL K H' a xs:=by
 rcases h with(h | ⟨o,h⟩) | h
 ·exact .inl (.inl (e _ _ h))
 ·exact .inl (.inr ⟨o,e _ _ h⟩)
 ·exact .inr h
end L2
namespace L2
open PySem PySem.Spec PyProof.Rows
theorem Qiy(env:Env)(body:Str×NameKind->List (Str×Addr)->Sem (ForInStep (List (Str×Addr))))
  (hb:∀n k cs,body (n,k) cs=if(k == NameKind.free)=true then(do let c ← cellOf env n;pure (ForInStep.yield ((n,c)::cs)))else pure (ForInStep.yield cs)):
  ∀(names:List (Str×NameKind)) (acc:List (Str×Addr)),(∀y∈names,y.2= .free->∃c,env.cells.lookup y.1=some c)->(∀x c,acc.lookup x=some c->env.cells.lookup x=some c)→
   ∃cl,forIn names acc body=(pure cl:Sem _)/\(∀x c,cl.lookup x=some c->env.cells.lookup x=some c)/\(∀x,acc.lookup x≠none->cl.lookup x≠none)/\∀y∈names,y.2= .free->cl.lookup y.1≠none
 | [],acc,_,ha=>⟨acc,rfl,ha,λ_ h=>h,λy hy=>by simp at hy⟩
 | (n,k)::r,acc,hn,ha=>by
  rw[List.forIn_cons,hb]
  have hr:∀y∈r,y.2= .free->∃c,env.cells.lookup y.1=some c:=λy hy=>hn y (Zc _ hy)
  by_cases hk:k= .free
  ·subst hk
   obtain⟨c,hc⟩:=hn (n,.free) Zh rfl
   have hce:cellOf env n=pure c:=by unfold cellOf;rw[show env.cells.lookup n=some c from hc]
   rw[if_pos (by rfl),hce]
   obtain⟨cl,e,h1,h2,h3⟩:=Qiy env body hb r ((n,c)::acc) hr (λx c' e=>by
    rw[ZC]at e
    cases q:x == n with
    | true=>rw[q]at e;cases e;rw[beq_iff_eq]at q;rw[q];exact hc
    | false=>rw[q]at e;exact ha x c' e)
   have hcons:∀x,((n,c)::acc).lookup x≠none->cl.lookup x≠none:=h2
   refine⟨cl,by simpa using e,h1,λx hx=>hcons x ?_,λy hy hf=>?_⟩
   ·rw[ZC];cases x == n with
    | true=>simp
    | false=>exact hx
   ·rcases Zn.mp hy with rfl | hy
    ·exact hcons _ (by simp[ZC])
    ·exact h3 y hy hf
  ·rw[if_neg (by simpa using hk)]
   obtain⟨cl,e,h1,h2,h3⟩:=Qiy env body hb r acc hr ha
   refine⟨cl,by simpa using e,h1,h2,λy hy hf=>?_⟩
   rcases Zn.mp hy with rfl | hy
   ·exact absurd hf hk
   ·exact h3 y hy hf
theorem Qsn(h:∀y∈scope.names,y.2= .free->∃c,env.cells.lookup y.1=some c):
  ∃cl,closureFor scope env=pure cl/\(∀x c,cl.lookup x=some c->env.cells.lookup x=some c)/\∀y∈scope.names,y.2= .free->∃c,cl.lookup y.1=some c:=by
 unfold closureFor
 obtain⟨cl,e,h1,_,h3⟩:=Qiy env (λx cs=>match x with | (name,kind)=>if(kind == NameKind.free)=true then(do let c ← cellOf env name;pure (ForInStep.yield ((name,c)::cs)))else pure (ForInStep.yield cs)) (λ_ _ _=>rfl) scope.names [] h (λx c e=>by simp at e)
 refine⟨cl,?_,h1,λy hy hf=>Option.ne_none_iff_exists'.mp (h3 y hy hf)⟩
 show(forIn scope.names [] _ >>= λr=>pure r)=_
 rw[e];rfl
noncomputable def cxc(X:Cx)(N':List Str)(scope:Scope)(cl:List (Str×Addr))(C:Addr)(fp:List Addr)(s3:Shared)(H3:Hp):Cx:=
 {X with N:=N',s₀:=s3,H₀:=H3,env:=compEnvC scope cl C X.env,outer:=X.stack,ex:=fp,fn:=λx=>decide (scope.names.lookup x=some .cell),pn:=[],xe:=λ_ _=>False}
def PTs(X:Cx)(ifs:List Expr)(t:TT):Prop:=
 ∀(pins:List (Addr×Obj)) (s:Shared) (σ:St) (H:Hp) (Q:Bool->Hp->Prop),Inv X pins σ H s->t σ H Q→
  wpAny (model X.prog X.w) X.A (forIn ifs true λc r=>if r=true then do let ok ← isTrue c X.env (eval c X.env);pure (ForInStep.yield ok)else pure (ForInStep.yield r)) (TP X pins σ Q) X.xe s
noncomputable def Qw2:TT:=λ_ H Q=>Q true H
theorem QtS:PTs X [] Qw2:=λ_ _ _ H _ I h=>wpAny_tests_nil ⟨H,I,h⟩
theorem Qtg(h:PT X c t):PTs X [c] t:=λpins s σ H Q I q=>wpAny_tests_one (h pins s σ H Q I q)
def QhL(X:Cx)(N':List Str)(scope:Scope)(σ σ':St):Prop:=
 σ'.length=N'.length/\∀(j:Nat) (x:Str) (v:V),N'[j]? =some x->σ'[j]? =some (some v)->scope.names.lookup x=some .free/\∃i:Nat,X.N[i]? =some x/\σ[i]? =some (some v)/\(X.env.kindOf x=some .cell∨X.env.kindOf x=some .free)
noncomputable def Qj8(wi:TI)(cap:St->St->Prop)(g:TG)(tc:TT)(te:TE):TE:=λσ H Q=>wi σ H λJ H1=>∃σc,cap σ σc/\∀D,H1 D=none->∃W:Nat->Nat->List V->Hp->Prop,
 (∃m,W 0 m [] (upd H1 D (.lst [])))/\∀i m acc H2,W i m acc H2->(J.stop i H2/\Q (.ref D) H2)∨
  (J.go i H2/\∀x H3,J.yld i H2 x H3->g x σc H3 λσ2 H4=>(∀(j:Nat) v,σc[j]? =some (some v)->σ2[j]? =some (some v))/\tc σ2 H4 λb H5=>if b=true then
   te σ2 H5 λy H6=>H6 D=some (.lst acc)/\acc.length<sizeLine/\∃m',m'<m/\W (i+1) m' (acc++[y]) (upd H6 D (.lst (acc++[y])))
   else ∃m',m'<m/\W (i+1) m' acc H5)
theorem Qcq{env:Env}:∀{names:List (Str×NameKind)}{x:Str},names.lookup x=some .free→
  (names.map λ(n,k)=>if(k == NameKind.free && env.scope.kind == .function && env.kindOf n == some .cell)then(n,NameKind.cell)else(n,k)).lookup x=some .cell∨
  (names.map λ(n,k)=>if(k == NameKind.free && env.scope.kind == .function && env.kindOf n == some .cell)then(n,NameKind.cell)else(n,k)).lookup x=some .free
 | [],_,h=>by simp at h
 | (n,k)::r,x,h=>by
  have ih:= @Qcq env r x
  rw[Zx]
  cases hx:x == n with
  | true=>
   simp only[ZC,hx]at h
   cases h
   dsimp only
   split
   ·left;simp[ZC,hx]
   ·right;simp[ZC,hx]
  | false=>
   simp only[ZC,hx]at h
   dsimp only
   split
   ·simp only[ZC,hx];exact ih h
   ·simp only[ZC,hx];exact ih h
theorem QdD{env:Env}:∀{names:List (Str×NameKind)}{x:Str},
  ((names.map λ(n,k)=>if(k == NameKind.free && env.scope.kind == .function && env.kindOf n == some .cell)then(n,NameKind.cell)else(n,k)).lookup x=some .cell∨
  (names.map λ(n,k)=>if(k == NameKind.free && env.scope.kind == .function && env.kindOf n == some .cell)then(n,NameKind.cell)else(n,k)).lookup x=some .free)→
  ∃k,(x,k)∈names/\(k= .free∨k= .cell)
 | [],_,h=>by simp at h
 | (n,k)::r,x,h=>by
  have ih:= @QdD env r x
  rw[Zx]at h
  cases hx:x == n with
  | true=>
   have hn:x=n:=by simpa using hx
   subst hn
   dsimp only at h
   split at h
   ·rename_i hc
    simp only[Zk]at hc
    refine⟨k,Zh,.inl (by simpa using hc.1.1)⟩
   ·simp only[ZC,hx]at h
    refine⟨k,Zh,?_⟩
    rcases h with h | h
    ·exact .inr (Option.some.inj h)
    ·exact .inl (Option.some.inj h)
  | false=>
   dsimp only at h
   have:∃k,(x,k)∈r/\(k= .free∨k= .cell):=by
    apply ih
    split at h
    ·simpa only[ZC,hx]using h
    ·simpa only[ZC,hx]using h
   obtain⟨k',h1,h2⟩:=this
   exact⟨k',Zc _ h1,h2⟩
theorem Qe1:∀(names:List (Str×NameKind)) (n:Nat) (acc:List (Str×Addr)) (x:Str) (c:Addr),(cellsFrom n names acc).lookup x=some c->acc.lookup x=some c∨(n<=c/\(x,NameKind.cell)∈names)
 | [],_,_,_,_,h=> .inl h
 | (nm,k)::r,n,acc,x,c,h=>by
  unfold cellsFrom at h
  split at h
  ·rename_i hk
   have hk:k= .cell:=by simpa using hk
   rcases Qe1 r (n+1) ((nm,n)::acc) x c h with h | ⟨h1,h2⟩
   ·rw[ZC]at h
    cases q:x == nm with
    | true=>
     rw[q]at h
     cases h
     have:x=nm:=by simpa using q
     exact .inr ⟨Zq _,by rw[this,hk];exact Zh⟩
    | false=>rw[q]at h;exact .inl h
   ·exact .inr ⟨by omega,Zc _ h2⟩
  ·rcases Qe1 r n acc x c h with h | ⟨h1,h2⟩
   ·exact .inl h
   ·exact .inr ⟨h1,Zc _ h2⟩
theorem Qlg:∀(names:List (Str×NameKind)) (n:Nat) (acc:List (Str×Addr)) (x:Str) (c:Addr),(x,NameKind.cell)∈names->(cellsFrom n names acc).lookup x=some c->n<=c
 | (nm,k)::r,n,acc,x,c,hm,h=>by
  unfold cellsFrom at h
  split at h
  ·by_cases hr:(x,NameKind.cell)∈r
   ·have:=Qlg r (n+1) _ x c hr h
    omega
   ·have hx:x=nm:=by
     rcases Zn.mp hm with e | e
     ·exact(Prod.mk.inj e).1
     ·exact absurd e hr
    rcases Qe1 r (n+1) ((nm,n)::acc) x c h with h | ⟨h1,_⟩
    ·rw[ZC,show(x == nm)=true by simpa using hx]at h
     cases h
     exact Zq _
    ·omega
  ·rename_i hk
   rcases Zn.mp hm with e | e
   ·exact absurd (by rw[← (Prod.mk.inj e).2];rfl) hk
   ·exact Qlg r n acc x c e h
theorem QkS:∀(names:List (Str×NameKind)) (n:Nat) (acc:List (Str×Addr)),(∀x y c,acc.lookup x=some c->acc.lookup y=some c->x=y)->(∀x c,acc.lookup x=some c->c<n)→
  ∀x y c,(cellsFrom n names acc).lookup x=some c->(cellsFrom n names acc).lookup y=some c->x=y
 | [],_,_,hi,_,x,y,c,h1,h2=>hi x y c h1 h2
 | (nm,k)::r,n,acc,hi,hb,x,y,c,h1,h2=>by
  unfold cellsFrom at h1 h2
  split at h1
  ·rename_i hk
   rw[if_pos hk]at h2
   refine QkS r (n+1) ((nm,n)::acc) (λx y c h1 h2=>?_) (λx c h=>?_) x y c h1 h2
   ·rw[ZC]at h1 h2
    cases qx:x == nm with
    | true=>
     rw[qx]at h1
     cases h1
     cases qy:y == nm with
     | true=>rw[show x=nm by simpa using qx,show y=nm by simpa using qy]
     | false=>rw[qy]at h2;exact absurd (hb y _ h2) (ZU _)
    | false=>
     rw[qx]at h1
     cases qy:y == nm with
     | true=>rw[qy]at h2;cases h2;exact absurd (hb x _ h1) (ZU _)
     | false=>rw[qy]at h2;exact hi x y c h1 h2
   ·rw[ZC]at h
    cases qx:x == nm with
    | true=>rw[qx]at h;cases h;exact ZaF _
    | false=>rw[qx]at h;exact Zad (hb x c h)
  ·rename_i hk
   rw[if_neg hk]at h2
   exact QkS r n acc hi hb x y c h1 h2
theorem Qe8:∀(names:List (Str×NameKind)) (n:Nat) (acc:List (Str×Addr)) (x:Str),(∃c,acc.lookup x=some c)->∃c,(cellsFrom n names acc).lookup x=some c
 | [],_,_,_,h=>h
 | (nm,k)::r,n,acc,x,h=>by
  unfold cellsFrom
  split
  ·refine Qe8 r (n+1) _ x ?_
   rw[ZC]
   cases x == nm with
   | true=>exact⟨n,rfl⟩
   | false=>exact h
  ·exact Qe8 r n acc x h
theorem QkA:∀(names:List (Str×NameKind)) (n:Nat) (acc:List (Str×Addr)) (x:Str),(x,NameKind.cell)∈names->∃c,(cellsFrom n names acc).lookup x=some c
 | (nm,k)::r,n,acc,x,hm=>by
  unfold cellsFrom
  rcases Zn.mp hm with e | e
  ·obtain⟨e1,e2⟩:=Prod.mk.inj e
   subst e1
   rw[← e2,if_pos (by rfl)]
   exact Qe8 r (n+1) _ x ⟨n,by simp[ZC]⟩
  ·split
   ·exact QkA r (n+1) _ x e
   ·exact QkA r n acc x e
theorem QiK(lo:Nat):∀(names:List (Str×NameKind)) (h:Heap) (acc:List (Str×Addr)),(∀x c,acc.lookup x=some c->lo<=c->h.IsCell c none)->lo<=h.objs.size→
  ∀x c,(cellsFrom h.objs.size names acc).lookup x=some c->lo<=c->(pushCells h names).IsCell c none
 | [],_,_,ha,_,x,c,e,hl=>ha x c e hl
 | (nm,k)::r,h,acc,ha,hlo,x,c,e,hl=>by
  unfold cellsFrom at e
  unfold pushCells
  split at e
  ·rename_i hk
   rw[if_pos hk]
   have hs:=Zaf h {cls:= .type "cell",data:= .cell none}
   refine QiK lo r (h.push {cls:= .type "cell",data:= .cell none}) ((nm,h.objs.size)::acc) (λx c e hl=>?_) (by rw[hs];omega) x c (by rw[hs];exact e) hl
   rw[ZC]at e
   cases q:x == nm with
   | true=>rw[q]at e;cases e;exact⟨_,Zz _ rfl,rfl⟩
   | false=>rw[q]at e;exact(ha x c e hl).keeps λb o e=>Zg _ e
  ·rename_i hk
   rw[if_neg hk]
   exact QiK lo r h acc ha hlo x c e hl
theorem Qnt
  (hQ:∀h':Heap,h'.Ns s.heap.objs.size (λ_=>none)->(∀b o,s.heap.get? b=some o->h'.get? b=some o)->((∀x c,cl.lookup x=some c->c<s.heap.objs.size)->∀x c,(cellsFrom (s.heap.objs.size+1) scope.names cl).lookup x=some c->s.heap.objs.size+1<=c->h'.IsCell c none)→
   Q (newEnv scope s.heap.objs.size globals (cellsFrom (s.heap.objs.size+1) scope.names cl) qual none .none (some env) builtins) {s with heap:=h'}):
  wpAny M A (newFunctionEnv scope globals cl [] qual none .none (some env) builtins) Q E s:=by
 simp only[newFunctionEnv,Option.isSome_some,if_true]
 refine wpAny_bind (wpAny_alloc ?_)
 refine wpAny_bind (wpAny_layCells _ (λname kind cells=>by cases hkc:kind == NameKind.cell<;>simp[hkc]) _ _ _ _ ?_)
 have hs:=Zaf s.heap {cls:= .type "dict",data:= .dict #[]}
 rw[show({s with heap:=s.heap.push {cls:= .type "dict",data:= .dict #[]}}:Shared).heap.objs.size=s.heap.objs.size+1 from hs]
 refine wpAny_bind (wpAny_pure (wpAny_pure ?_))
 refine hQ _ ((Heap.Ns.new s.heap (.type "dict")).keeps (pushCells_keeps _ _)) (λb o e=>pushCells_keeps _ _ b o (Zg _ e)) λhb x c e hl=>?_
 refine QiK (s.heap.objs.size+1) scope.names (s.heap.push {cls:= .type "dict",data:= .dict #[]}) cl (λx c e hl=>?_) (by rw[hs];exact Zq _) x c (by rw[hs];exact e) hl
 exact absurd (ZI (hb x c e) (ZM (ZaP _) hl)) (ZU _)
section
variable {X:Cx}{tg iter elt:Expr}{ifs:List Expr}{scope:Scope}{N':List Str}{pos:Pos}
structure QdC (X:Cx) (N':List Str) (scope:Scope):Prop where
 kind:scope.kind= .function
 own:∀y∈scope.names,y.2= .cell->scope.names.lookup y.1=some .cell
 loc:∀y∈scope.names,y.2= .local ->scope.names.lookup y.1=some .local
 free:∀y∈scope.names,y.2= .free->X.env.kindOf y.1=some .cell∨X.env.kindOf y.1=some .free
theorem Qp0{pins:List (Addr×Obj)}{σ σc:St}{H3:Hp}{s3:Shared}{fp:List Addr}{cl:List (Str×Addr)}{h':Heap}{tk:Nat}(S:QdC X N' scope)(I:Inv X pins σ H3 s3)
  (hf:∀b∈fp,Qc6 X pins H3 b) (hfl:∀b∈fp,b<s3.heap.objs.size) (hc1:∀x c,cl.lookup x=some c->X.env.cells.lookup x=some c) (hc2:∀y∈scope.names,y.2= .free->∃c,cl.lookup y.1=some c) (cap:QhL X N' scope σ σc)
  (hns:h'.Ns s3.heap.objs.size (λ_=>none)) (hk:∀b o,s3.heap.get? b=some o->h'.get? b=some o)
  (hown:(∀x c,cl.lookup x=some c->c<s3.heap.objs.size)->∀x c,(cellsFrom (s3.heap.objs.size+1) scope.names cl).lookup x=some c->s3.heap.objs.size+1<=c->h'.IsCell c none):
  Inv (cxc X N' scope (cellsFrom (s3.heap.objs.size+1) scope.names cl) s3.heap.objs.size fp s3 H3) [] σc H3 {s3 with heap:=h',toks:=tk}:=by
 have nold:∀b,b∈fp->b≠s3.heap.objs.size:=λb hb e=>absurd (hfl b hb) (by rw[e];exact ZU _)
 have cellOld:∀x c,cl.lookup x=some c->∃v,s3.heap.IsCell c v:=λx c e=>I.cell x c (hc1 x c e)
 have cellLt:∀x c,cl.lookup x=some c->c<s3.heap.objs.size:=λx c e=>let ⟨v,q⟩:=cellOld x c e;q.lt
 have cellNew:∀c v,s3.heap.IsCell c v->h'.IsCell c v:=λc v ⟨o,ho,hd⟩=>⟨o,hk c o ho,hd⟩
 have hown:=hown cellLt
 have look:∀x c,(cellsFrom (s3.heap.objs.size+1) scope.names cl).lookup x=some c->cl.lookup x=some c∨(s3.heap.objs.size+1<=c/\(x,NameKind.cell)∈scope.names):=Qe1 scope.names _ cl
 refine⟨⟨I.ok.mod,S.kind,I.ok.glob,I.ok.blt,Zq _,QkS scope.names _ cl (λx y c h1 h2=>I.ok.inj x y c (hc1 x c h1) (hc1 y c h2)) (λx c e=>Zad (cellLt x c e)),λx hx=>?_,λx c e1 e2=>?_,I.ok.hd,I.ok.frames,.inl rfl,λb hb=>⟨nold b hb,λx c e=>?_⟩,
  I.bs,ZM I.ok.bsz I.sz,λb o e hb=>?_,λb hb hs=>?_,I.stack,I.Qm9⟩,rfl,I.bare,Un.kept hk,⟨_,hns,λj x v h1 h2 h3=>?_⟩,λx c e=>?_,I.hok.fresh (Zq _),λx c e=>?_,λp hp=>absurd (show p∈([]:List (Addr×Obj))from hp) (by simp),I.hok.kept hk,cap.1⟩
 ·obtain⟨k,hm,hk'⟩:=QdD hx
  rcases hk' with rfl | rfl
  ·exact Qe8 scope.names _ cl x (hc2 _ hm rfl)
  ·exact QkA scope.names _ cl x hm
 ·have e1:decide (scope.names.lookup x=some .cell)=true:=e1
  have:=Qlg scope.names _ cl x c (Zaj (of_decide_eq_true e1)) e2
  exact ZM (ZaP _) this
 ·rcases look x c e with e | ⟨e,_⟩
  ·exact(hf b hb).2.2.2.2.1 x c (hc1 x c e)
  ·intro z
   rw[z]at e
   exact absurd (ZI (hfl b hb) (ZM (ZaP _) e)) (ZU _)
 ·rcases(hf b hb).2.2.2.1 with z | z
  ·exact I.ok.noex b o e z
  ·exact absurd (ZI (Zr e) (ZM I.ok.bsz z)) (ZU _)
 ·rcases Zn.mp (I.QhY b hs)with e | z
  ·exact(hf b hb).2.1 e
  ·exact(hf b hb).2.2.1 z
 ·obtain⟨hl,i,e1,e2,e3⟩:=cap.2 j x v h1 h2
  obtain⟨m,hn,look'⟩:=I.loc
  obtain⟨u,r,l⟩:=look' i x v e1 e2 (e3.elim (λz=> .inr (.inl z)) λz=> .inr (.inr z))
  refine⟨u,r,.inr ⟨Qcq hl,?_⟩⟩
  rcases l with⟨k,_⟩ | ⟨_,c,ec,hcell⟩
  ·rcases e3 with z | z<;>(rw[k]at z;cases z)
  ·obtain⟨c',ec'⟩:=Qe8 scope.names (s3.heap.objs.size+1) cl x (hc2 (x,.free) (Zaj hl) rfl)
   rcases look x c' ec' with q | ⟨_,q⟩
   ·have:=hc1 x c' q
    rw[ec]at this;cases this
    exact⟨c,ec',cellNew c _ hcell⟩
   ·have:=S.own _ q rfl
    rw[hl]at this
    cases this
 ·rcases look x c e with q | ⟨q,_⟩
  ·obtain⟨v,q⟩:=cellOld x c q
   exact⟨v,cellNew c v q⟩
  ·exact⟨none,hown x c e q⟩
 ·rcases look x c e with q | ⟨q,_⟩
  ·exact I.freeC x c (hc1 x c q)
  ·exact I.hok.fresh (by omega)
theorem Qoc(J:Nat->Shared->Prop)
  (turn:∀n s,J n s->wpAny (model prog w) A (pyNext it) (λr s1=>match r with
   | none=>R (.ok .next) s1
   | some v=>wpAny (model prog w) A (letOwnedTupleGo tg it v) (λ_ s2=>wpAny (model prog w) A (assign tg env v) (λ_ s3=>
     wpAny (model prog w) A (forIn ifs true λc r=>if r=true then do let ok ← isTrue c env (eval c env);pure (ForInStep.yield ok)else pure (ForInStep.yield r)) (λok s4=>
      if ok=true then wpAny (model prog w) A (eval elt env) (λx s5=>wpAny (model prog w) A (call (.builtin "list.append") [acc,x]) (λ_ s6=>∃m,m<n/\J m s6) (λ_ _=>False) s5) (λ_ _=>False) s4
      else ∃m,m<n/\J m s4) (λ_ _=>False) s3) (λ_ _=>False) s2) (λ_ _=>False) s1) (λ_ _=>False) s)
  (n:Nat) (h:J n s0):codeAny (model prog w) A (.compLoop (.ListComp elt [⟨tg,iter,ifs,0⟩] scope pos) 0 it acc env) R s0:=by
 have up:∀{α:Type}{t:Sem α}{Q:α->Shared->Prop}{E:Value->Shared->Prop}{s:Shared},wpAny (model prog w) A t Q (λ_ _=>False) s->wpAny (model prog w) A t Q E s:=λh=>wpAny_mono h (λ_ _ q=>q) λ_ _ f=>f.elim
 refine codeAny_loop (by rfl) J (λk sk hk=>?_) n h
 show wpAny (model prog w) A ((compTurn (.ListComp elt [⟨tg,iter,ifs,0⟩] scope pos) 0 it acc env).onRaise (λx=>do noteFrame x env;theTreesLotGoes x)) _ _ sk
 refine wpAny_noted (up ?_)
 rw[compTurn_list]
 refine wpAny_bind (wpAny_standAt (wpAny_bind (thn (turn k sk hk) λr s1 h1=>?_)))
 cases r with
 | none=>exact wpAny_pure h1
 | some v=>
  refine wpAny_bind (thn h1 λ_ s2 h2=>wpAny_bind (thn h2 λ_ s3 h3=>wpAny_bind (thn h3 λok s4 h4=>?_)))
  cases ok with
  | false=>exact wpAny_pure ⟨rfl,h4⟩
  | true=>exact wpAny_bind (wpAny_bind (thn h4 λx s5 h5=>wpAny_bind (thn h5 λ_ s6 h6=>wpAny_pure (wpAny_pure ⟨rfl,h6⟩))))
theorem Qp1{it D C:Addr}{fp:List Addr}{tn:Nat->Heap->Prop}{J:It}{cl:List (Str×Addr)}{s3 s4:Shared}{H3:Hp}{σc:St}{g:TG}{tc:TT}{te:TE}{Q:Hp->Prop}(hcalm:X.calm=true)
  (T:Turn X.prog X.w X.K tg J fp it tn)
  (hg:PG (cxc X N' scope cl C fp s3 H3) tg g) (ht:PTs (cxc X N' scope cl C fp s3 H3) ifs tc) (he:PE (cxc X N' scope cl C fp s3 H3) elt te)
  (I:Inv (cxc X N' scope cl C fp s3 H3) [] σc H3 s4) (st:tn 0 s4.heap) (ff:∀b∈fp,Qc6 (cxc X N' scope cl C fp s3 H3) [] H3 b)
  (W:Nat->Nat->List V->Hp->Prop) (hw:∃m,W 0 m [] H3)
  (turn:∀i m acc H2,W i m acc H2->(J.stop i H2/\Q H2)∨
   (J.go i H2/\∀x H5,J.yld i H2 x H5->g x σc H5 λσ2 H6=>(∀(j:Nat) v,σc[j]? =some (some v)->σ2[j]? =some (some v))/\tc σ2 H6 λb H7=>if b=true then
    te σ2 H7 λy H8=>H8 D=some (.lst acc)/\acc.length<sizeLine/\∃m',m'<m/\W (i+1) m' (acc++[y]) (upd H8 D (.lst (acc++[y])))
    else ∃m',m'<m/\W (i+1) m' acc H7))
  {R:Result->Shared->Prop}(hR:∀H' s',Inv (cxc X N' scope cl C fp s3 H3) [] σc H' s'->Q H'->R (.ok .next) s'):
  codeAny (model X.prog X.w) X.A (.compStart (.ListComp elt [⟨tg,iter,ifs,0⟩] scope pos) 0 (.ref it) (.ref D) (compEnvC scope cl C X.env)) R s4:=by
 obtain⟨m0,w0⟩:=hw
 have stat:∀{H':Hp},(∀b∈fp,H' b=none)->∀b∈fp,Qc6 (cxc X N' scope cl C fp s3 H3) [] H' b:=λhn b hb=>⟨hn b hb,(ff b hb).2⟩
 have loop:codeAny (model X.prog X.w) X.A (.compLoop (.ListComp elt [⟨tg,iter,ifs,0⟩] scope pos) 0 (.ref it) (.ref D) (compEnvC scope cl C X.env)) R s4:=by
  refine Qoc (λn s'=>∃i acc H',Inv (cxc X N' scope cl C fp s3 H3) [] σc H' s'/\tn i s'.heap/\(∀b∈fp,H' b=none)/\W i n acc H') ?_ m0 ⟨0,[],H3,I,st,λb hb=>(ff b hb).1,w0⟩
  rintro n s5 ⟨i,acc,H5,I5,st5,fr5,w5⟩
  rcases turn i n acc H5 w5 with⟨stop,q⟩ | ⟨go,step⟩
  ·refine thn (T.done (cxc X N' scope cl C fp s3 H3) rfl rfl rfl hcalm i [] s5 σc H5 _ I5 (stat fr5) st5 stop) λr s6 hpt=>?_
   obtain⟨hr,I6⟩:=hpt
   subst hr
   exact hR H5 s6 I6 q
  ·refine thn (T.item (cxc X N' scope cl C fp s3 H3) rfl rfl rfl hcalm i [] s5 σc H5 _ I5 (stat fr5) st5 go) λr s6 hpt=>?_
   obtain⟨u,hr,h6⟩:=hpt
   subst hr
   refine thn h6 λ_ s7 hpt=>?_
   obtain⟨x,H7,I7,r7,y7,st7,fr7⟩:=hpt
   have I7':=I7.pinned (stat fr7) (T.obj _ _ st7)
   refine thn (hg _ s7 σc H7 x u _ I7' r7 (step x H7 y7)) λ_ s8=>exJ λσ8 H8 I8 k8 q8=>?_
   refine thn (ht _ s8 σ8 H8 _ I8 q8) λok s9 hpt=>?_
   obtain⟨H9,I9,q9⟩:=hpt
   have again:∀{H':Hp}{s':Shared}{acc':List V},Inv (cxc X N' scope cl C fp s3 H3) ([]++Qgq fp s7.heap) σ8 H' s'->(∃m',m'<n/\W (i+1) m' acc' H')→
     ∃m,m<n/\∃i acc H',Inv (cxc X N' scope cl C fp s3 H3) [] σc H' s'/\tn i s'.heap/\(∀b∈fp,H' b=none)/\W i m acc H':=λ{H' s' acc'} I' ⟨m',hm,w'⟩=>by
    have pin:∀b∈fp,∀o,s7.heap.get? b=some o->s'.heap.get? b=some o/\H' b=none:=λb hb o e=>by
     have z:=I'.pin (b,o) (Zl _ (Zl _ (Qfr hb e)))
     exact⟨z.1,z.2.1⟩
    refine⟨m',hm,i+1,acc',H',?_,T.keep _ _ _ st7 λb hb o e=>(pin b hb o e).1,λb hb=>?_,w'⟩
    ·exact I'.QfB.weak (I.len.trans I8.len.symm) k8
    ·obtain⟨o,e,_⟩:=T.obj _ _ st7 b hb
     exact(pin b hb o e).2
   cases ok with
   | false=>
    rw[if_neg Zat]at q9 ⊢
    exact again I9 q9
   | true=>
    rw[if_pos rfl]at q9 ⊢
    refine thn (he _ s9 σ8 H9 _ I9 q9) λyv s10 hpt=>?_
    obtain⟨y,H10,I10,r10,e10,l10,q10⟩:=hpt
    refine thn (Qex _ s10 σ8 H10 (.ref D) [y] (.ref D) [yv] (λv H11=>H11=upd H10 D (.lst (acc++[y]))) I10 rfl (.cons r10 .nil) ⟨D,acc,y,rfl,rfl,e10,l10,rfl⟩) λ_ s11 hpt=>?_
    obtain⟨_,H11,I11,_,e11⟩:=hpt
    subst e11
    exact again I11 q10
 exact codeAny_compStart_list loop (T.self _ 0 _ _ _ st loop)
theorem Qk5{wi:TI}{g:TG}{tc:TT}{te:TE}{cp:Pos}{use:Option (Value->Sem Unit)}{pins:List (Addr×Obj)}{s:Shared}{σ:St}{H:Hp}{QV:Value->Shared->Prop}{Q:VK}(hcalm:X.calm=true)(S:QdC X N' scope)(hi:PI X tg iter wi)
  (hin:∀cl C fp s3 H3,PG (cxc X N' scope cl C fp s3 H3) tg g/\PTs (cxc X N' scope cl C fp s3 H3) ifs tc/\PE (cxc X N' scope cl C fp s3 H3) elt te)
  (hs:∀x,foldedSetIterable iter X.env x=pure x) (I:Inv X pins σ H s) (h:Qj8 wi (QhL X N' scope) g tc te σ H Q)
  (fin:∀(D C:Addr) (H':Hp) (s':Shared),Inv X pins σ H' s'->H' C=none->C≠X.env.locals->X.s₀.heap.objs.size<=C->(∀x c,X.env.cells.lookup x=some c->c≠C)->(∀p∈X.pn++pins,p.1≠C)->(∃m,s'.heap.Ns C m)->Q (.ref D) H'→
   compPost (model X.prog X.w) X.A X.xe use QV (.ref D) C (.ok .next) s'):
  wpAny (model X.prog X.w) X.A (comprehension (.ListComp elt [⟨tg,iter,ifs,0⟩] scope pos) scope X.env cp (newList []) false (eval iter X.env) use) QV X.xe s:=by
 obtain⟨cl,hcl,hc1,hc2⟩:=Qsn λy hy hf=>I.ok.has y.1 (S.free y hy hf)
 refine wpAny_comprehension_free rfl hs hcl S.kind S.loc ?_
 refine thn (hi pins s σ H _ I h) λv s1 h1=>thn h1 λitv s2 h2=>?_
 obtain⟨it,fp,tn,J,H2,e,I2,T,st2,f2,σc,cap,hw⟩:=h2
 subst e
 have hD0:H2 s2.heap.objs.size=none:=I2.hok.fresh (Zq _)
 obtain⟨W,hW0,turn⟩:=hw _ hD0
 have fpl:∀b∈fp,b<s2.heap.objs.size:=λb hb=>let ⟨o,e,_⟩:=T.obj _ _ st2 b hb;Zr e
 have hlist:∀D:Addr,D=s2.heap.objs.size->∃x,x=D:=λD _=>⟨D,rfl⟩
 refine wpAny_newObj_type ?_
 have I3:Inv X pins σ (upd H2 s2.heap.objs.size (.lst [])) {s2 with heap:=s2.heap.push {cls:= .type "list",dict:=none,data:= .seq ([]:List Value).toArray}}:=
  I2.laid (t':=s2.toks) (λb o e=>Zg _ e) (Zq _) ⟨ZZ _,[],0,.nil,Zz _ rfl⟩
 generalize hs3:({s2 with heap:=s2.heap.push {cls:= .type "list",dict:=none,data:= .seq ([]:List Value).toArray}}:Shared)=s3 at I3
 have hs3':s3.heap=s2.heap.push {cls:= .type "list",dict:=none,data:= .seq ([]:List Value).toArray}:=by rw[← hs3]
 have sz3:s3.heap.objs.size=s2.heap.objs.size+1:=by rw[hs3',Zaf]
 have old3:∀b o,s2.heap.get? b=some o->s3.heap.get? b=some o:=λb o e=>by rw[hs3'];exact Zg _ e
 have f3:∀b∈fp,Qc6 X pins (upd H2 s2.heap.objs.size (.lst [])) b:=λb hb=>⟨by rw[QJ (ZJ (fpl b hb))];exact(f2 b hb).1,(f2 b hb).2⟩
 have fpl3:∀b∈fp,b<s3.heap.objs.size:=λb hb=>by rw[sz3];exact Zad (fpl b hb)
 refine Qnt (λh4 hns4' keep4 hown4=>?_)
 have I4:=Qp0 (tk:=s3.toks) S I3 f3 fpl3 hc1 hc2 cap hns4' keep4 hown4
 have hout:∀H' s',Inv (cxc X N' scope (cellsFrom (s3.heap.objs.size+1) scope.names cl) s3.heap.objs.size fp s3 (upd H2 s2.heap.objs.size (.lst []))) [] σc H' s'->Inv X pins σ H' s':=λH' s' J'=>
  I3.Qwf J'.os J'.base J'.hok J'.bare λb hb=>⟨(f3 b hb).2.2.2.1,(f3 b hb).2.1,(f3 b hb).2.2.2.2.1,(f3 b hb).2.2.2.2.2⟩
 obtain⟨hg,ht,he⟩:=hin (cellsFrom (s3.heap.objs.size+1) scope.names cl) s3.heap.objs.size fp s3 (upd H2 s2.heap.objs.size (.lst []))
 have fc:∀b∈fp,Qc6 (cxc X N' scope (cellsFrom (s3.heap.objs.size+1) scope.names cl) s3.heap.objs.size fp s3 (upd H2 s2.heap.objs.size (.lst []))) [] (upd H2 s2.heap.objs.size (.lst [])) b:=λb hb=>
  ⟨(f3 b hb).1,ZJ (fpl3 b hb),λhs'=>(Zn.mp (I3.QhY b hs')).elim (f3 b hb).2.1 (f3 b hb).2.2.1,.inl hb,λx c e=>(by
   rcases Qe1 scope.names _ cl x c e with e | ⟨e,_⟩
   ·exact(f3 b hb).2.2.2.2.1 x c (hc1 x c e)
   ·intro z
    rw[z]at e
    exact absurd (ZI (fpl3 b hb) (ZM (ZaP _) e)) (ZU _)),λp hp=>absurd (show p∈([]:List (Addr×Obj))from hp) (by simp)⟩
 have hC1:s3.heap.objs.size≠X.env.locals:=Ne.symm (ZJ I3.lt)
 refine Qp1 (W:=W) hcalm T hg ht he I4 (T.keep _ _ _ st2 λb hb o e=>keep4 b o (old3 b o e)) fc hW0 turn λH' s' J' q=>?_
 have O:=hout H' s' J'
 refine fin _ _ H' s' O J'.free hC1 (ZM I3.sz (Zq _)) (λx c e z=>?_) (λp hp z=>?_) (let ⟨m,hn,_⟩:=J'.loc;⟨m,hn⟩) q
 ·obtain⟨v,o,ho,_⟩:=I3.cell x c e
  exact absurd (Zr ho) (by rw[z];exact ZU _)
 ·exact absurd (Zr (I3.pin p hp).1) (by rw[z];exact ZU _)
theorem Inv.QrJ(I:Inv X pins σ H s)(hs:Heap.SameBut C s.heap h')(hn:H C=none)(hL:C≠X.env.locals)(h1:X.s₀.heap.objs.size<=C)
  (h2:∀x c,X.env.cells.lookup x=some c->c≠C) (h3:∀p∈X.pn++pins,p.1≠C):Inv X pins σ H {s with heap:=h'}:=
 I.turned (t':=s.toks) (λb o hb e=>(hs.2 b hb).trans e) hn hL (.inr h1) h2 h3
theorem QmX(hcalm:X.calm=true)(S:QdC X N' scope)(hi:PI X tg iter wi)
  (hin:∀cl C fp s3 H3,PG (cxc X N' scope cl C fp s3 H3) tg g/\PTs (cxc X N' scope cl C fp s3 H3) ifs tc/\PE (cxc X N' scope cl C fp s3 H3) elt te)
  (hs:∀x,foldedSetIterable iter X.env x=pure x:=by intro _;rfl):PE X (.ListComp elt [⟨tg,iter,ifs,0⟩] scope pos) (Qj8 wi (QhL X N' scope) g tc te):=by
 intro pins s σ H Q I h
 rw[eval_ListComp]
 refine Qk5 hcalm S hi hin hs I h λD C H' s' O h1 h2 h3 h4 h5 hpt q=>?_
 obtain⟨m,hm⟩:=hpt
 exact⟨m,hm,λh' hs'=>⟨.ref D,H',O.QrJ hs' h1 h2 h3 h4 h5,rfl,q⟩⟩
theorem QsP(hN:X.N.Nodup)(hx1:X.N[i]? =some x)(hx:Loc X.env.scope x)(hf:X.fn x=true∨X.env.scope.names.lookup x=some .local)(hcalm:X.calm=true)(S:QdC X N' scope)(hi:PI X tg iter wi)
  (hin:∀cl C fp s3 H3,PG (cxc X N' scope cl C fp s3 H3) tg g/\PTs (cxc X N' scope cl C fp s3 H3) ifs tc/\PE (cxc X N' scope cl C fp s3 H3) elt te)
  (hs:∀x,foldedSetIterable iter X.env x=pure x:=by intro _;rfl):
  PS X (.Assign [.Name x pos'] (.ListComp elt [⟨tg,iter,ifs,0⟩] scope pos) spos) (QfL (Qj8 wi (QhL X N' scope) g tc te) (QdR i)):=by
 have hb:∃b,swapsWith (.ListComp elt [⟨tg,iter,ifs,0⟩] scope pos) (some (.Name x pos')) spos.line X.env=pure b:=⟨_,rfl⟩
 obtain⟨b,hb⟩:=hb
 cases b with
 | false=>exact QeZ hN hx1 hx (QmX hcalm S hi hin hs) hb hf
 | true=>
  intro pins s σ H D I h
  rw[exec_Assign_Name_used _ _ _ _ hb]
  refine wpAny_bind (wpAny_standAt (wpAny_bind ?_))
  show wpAny _ X.A (do let _ ← comprehension (.ListComp elt [⟨tg,iter,ifs,0⟩] scope pos) scope X.env _ (newList []) false (eval iter X.env) (some (assign (.Name x pos') X.env))) _ _ s
  refine wpAny_bind (thn (Qk5 hcalm S hi hin hs I h λDl C H' s' O h1 h2 h3 h4 h5 ⟨m,hm⟩ q=>?_) λ_ s' hq=>wpAny_pure (wpAny_pure hq))
  refine wpAny_assign_Name (Qjw O hN hx1 hx (v:= .ref Dl) rfl (λs2 I2 hsb=>?_) hf)
  obtain⟨a,sb,ha⟩:=hsb
  have haC:C≠a:=by
   rcases ha with rfl | ha
   ·exact h2
   ·exact Ne.symm (h4 _ _ ha)
  exact⟨m,hm.sameBut sb haC,λh' hs'=>⟨_,H',I2.QrJ hs' h1 h2 h3 h4 h5,q⟩⟩
end
end L2
namespace L2
open PySem PySem.Spec PyProof.Rows
section
theorem Inv.QrV{t':Nat}{ch:List Addr}{T:Addr}{ts:List V}(I:Inv X pins σ H s)(hf:∀b∈ch,Qc6 X pins H b)(k:∀b o,b∉ch->s.heap.get? b=some o->h'.get? b=some o)(hp:∀b∈ch,∃o,h'.get? b=some o)
  (hT:s.heap.objs.size<=T) (hnew:ts.length<=sizeLine/\∃its:List Value,Qt ts its/\IsTup h' T its.toArray):Inv X pins σ (upd H T (.tup ts)) {s with heap:=h',toks:=t'}:=by
 have hn:H T=none:=I.hok.fresh hT
 have neT:∀b u,H b=some u->b≠T:=λb u e=>Qbr e hn
 have nch:∀b u,H b=some u->b∉ch:=λb u e hb=>by rw[(hf b hb).1]at e;cases e
 have ltT:∀b o,s.heap.get? b=some o->b≠T:=λb o e=>ZJ (ZI (Zr e) hT)
 refine I.step (g':=s.gens) (d':=s.drawn) (ch:=ch) (λb hb=>?_) (λb o _ _ hc e _=>k b o hc e) (λb o _ _ hc e _=>⟨o.slots,k b o hc e⟩) (λb o _ e n=>by rw[QJ (ltT b o e)];exact n)
  (λb o hc e=>⟨o,k b o hc e⟩) (λb xs e=>by rw[QJ (neT b _ e)];exact e) (λb o u e=>by rw[QJ (neT b _ e)];exact e) (λb ps e=>⟨#[],by rw[QJ (neT b _ e),e];simp⟩) (λm hm=>?_) (λb u e=>?_) I.bare
 ·obtain⟨f0,f1,f2,f3,f4,f5⟩:=hf b hb
  exact⟨f3,f1,f4,f5⟩
 ·obtain⟨o,es,ep,ho,r⟩:=hm
  exact⟨o,es,ep,k _ o (λz=>(hf _ z).2.1 rfl) ho,r⟩
 ·by_cases hb:b=T
  ·subst hb
   rw[QaF]at e
   cases e
   exact hnew
  ·rw[QJ hb]at e
   refine(I.hok b u e).QeS (λc v hc q=>k c v ?_ q) (λc q=>by rw[QJ (neT c _ q)];exact q) λc xs q=>by rw[QJ (neT c _ q)];exact q
   rcases hc with z | z
   ·rw[z];exact nch b u e
   ·exact nch c _ z
theorem Inv.turns{t':Nat}{ch:List Addr}(I:Inv X pins σ H s)(hf:∀b∈ch,Qc6 X pins H b)(k:∀b o,b∉ch->s.heap.get? b=some o->h'.get? b=some o):Inv X pins σ H {s with heap:=h',toks:=t'}:=by
 have nch:∀b u,H b=some u->b∉ch:=λb u e hb=>by rw[(hf b hb).1]at e;cases e
 refine I.step (g':=s.gens) (d':=s.drawn) (ch:=ch) (λb hb=>?_) (λb o _ _ hc e _=>k b o hc e) (λb o _ _ hc e _=>⟨o.slots,k b o hc e⟩) (λb o _ e n=>n)
  (λb o hc e=>⟨o,k b o hc e⟩) (λb xs e=>e) (λb o u e=>e) (λb ps e=>⟨#[],by rw[e];simp⟩) (λm hm=>?_) (λb u e=>?_) I.bare
 ·obtain⟨f0,f1,f2,f3,f4,f5⟩:=hf b hb
  exact⟨f3,f1,f4,f5⟩
 ·obtain⟨o,es,ep,ho,r⟩:=hm
  exact⟨o,es,ep,k _ o (λz=>(hf _ z).2.1 rfl) ho,r⟩
 ·refine(I.hok b u e).QeS (λc v hc q=>k c v ?_ q) (λc q=>q) λc xs q=>q
  rcases hc with z | z
  ·rw[z];exact nch b u e
  ·exact nch c _ z
end
noncomputable def Ite(K:PySem.W.Frag)(a:Addr):It:=
 ⟨λi H=>∃xs x,SqL K H a xs/\xs[i]? =some x,λi H v H'=>∃p x,v= .ref p/\H p=none/\H'=upd H p (.tup [.int i,x])/\∀xs,SqL K H a xs->xs[i]? =some x,λi H=>∃xs,SqL K H a xs/\xs.length<=i⟩
theorem mm0{a:Addr}{l:List Addr}:a∈a::l:= .head _
theorem mm1{a b:Addr}{l:List Addr}:a∈b::a::l:= .tail _ mm0
theorem mm2{a b c:Addr}{l:List Addr}:a∈b::c::a::l:= .tail _ mm1
theorem mm3{a b c d:Addr}{l:List Addr}:a∈b::c::d::a::l:= .tail _ mm2
theorem mm4{a b c d e:Addr}{l:List Addr}:a∈b::c::d::e::a::l:= .tail _ mm3
theorem nmm{a b:Addr}{l:List Addr}(hb:b∉l)(ha:a∈l):b≠a:=λe=>hb (e▸ha)
theorem fa1{p:Addr->Prop}{a:Addr}{l:List Addr}(h:p a)(t:∀x∈l,p x):∀x∈a::l,p x:=List.forall_mem_cons.2 ⟨h,t⟩
def NL(h:Heap)(b:Addr):Prop:=∃o,h.get? b=some o/\o.cls≠ .type "list" /\∀v,o.data≠ .cell v
theorem NL.it{h:Heap}(q:h.IsListIter b l k):NL h b:=by
 obtain⟨o,ho,hc,hd⟩:=q
 exact⟨o,ho,by rw[hc];simp,λv z=>by rw[hd]at z;cases z⟩
theorem NL.zip(hz:IsZip h z T1 T2 x):NL h z:=⟨_,hz,by simp,λv z=>by cases z⟩
theorem NL.tup{h:Heap}(q:h.get? b=some {cls:= .type "tuple",data:= .seq a}):NL h b:=⟨_,q,by simp,λv z=>by cases z⟩
theorem NL.obj(n:NL h b):∃o,h.get? b=some o/\∀v,o.data≠ .cell v:=let ⟨o,e,_,v⟩:=n;⟨o,e,v⟩
theorem NL.ex(n:NL h b):∃o,h.get? b=some o:=let ⟨o,e,_⟩:=n;⟨o,e⟩
theorem NL.lt(n:NL h b):b<h.objs.size:=let ⟨_,e⟩:=n.ex;Zr e
theorem NL.apart{X:Cx}{H:Hp}{s:Shared}(n:NL s.heap b)(I:Inv X pins σ H s)(hn:H b=none)(hq:SqL X.K H l ys):l≠b:=λe=>by
 subst e
 rcases hq with(hq | ⟨_,hq⟩) | ⟨o',its,k,hk,hc',_⟩
 ·rw[hn]at hq;cases hq
 ·rw[hn]at hq;cases hq
 ·obtain⟨o,ho,hc,_⟩:=n
  rw[I.kIn l o' hk]at ho
  exact hc (Option.some.inj ho▸hc')
theorem QoC{P:Program}{w:World}{K:PySem.W.Frag}{es:List Expr}{tk:Nat}{tpos:Pos}(a e it:Addr)(hne:e≠it):Turn P w K (.Tuple es tk tpos) (Ite K a) [e,it] e (λi h=>∃old,IsEnum h e it (i:Int) old/\h.IsListIter it a i) where
 mem:=mm0
 obj:=λi h st b hb=>by
  obtain⟨old,he,hi⟩:=st
  exact(fa1 (p:=NL h) ⟨_,he,by simp,λv z=>by cases z⟩ (fa1 (.it hi) (List.forall_mem_nil _)) b hb).obj
 keep:=λi h h' st k=>by
  obtain⟨old,he,hi⟩:=st
  exact⟨old,k e mm0 _ he,hi.at (k it mm1)⟩
 item:=by
  intro X hP hw hK hc i pins s σ H E I hf st hg
  subst hP hw hK
  obtain⟨old,he,hi⟩:=st
  obtain⟨xs,x,hq,hx⟩:=hg
  obtain⟨its,rv,p,hz⟩:=I.list hq
  obtain⟨u,hu,ru⟩:=rv.get hx
  refine wpAny_pyNext_enum_item he hi p.isList (x:=u) (by simpa using hu) hne λh1 heo hi1 ht1 hz1 hk1=>?_
  refine⟨.ref s.heap.objs.size,rfl,wpAny_letOwnedTupleGo_enum heo λh2 he2 hs2=>?_⟩
  replace hs2:Heap.SameBut e h1 h2:=hs2
  have helt:e<s.heap.objs.size:=Zr he
  have hilt:it<s.heap.objs.size:=by obtain⟨o,ho,_⟩:=hi;exact Zr ho
  have ht2:IsTup h2 s.heap.objs.size [Value.int i s.toks,u].toArray:=⟨_,(hs2.2 _ (Zbj helt)).trans ht1,rfl,_,rfl⟩
  have hi2:h2.IsListIter it a (i+1):=hi1.extBut hs2.extBut (Ne.symm hne)
  have kk:∀b o,b∉[e,it]->s.heap.get? b=some o->h2.get? b=some o:=λb o hb q=>by
   have h1:b≠e:=λz=>hb (by simp[z])
   have h2:b≠it:=λz=>hb (by simp[z])
   exact hs2.extBut b o h1 (hk1 b o h1 h2 q)
  refine⟨.ref s.heap.objs.size,upd H s.heap.objs.size (.tup [.int i,x]),I.QrV (t':=s.toks+1) hf kk (λb hb=>?_) (Zq _) ⟨by show 2<=sizeLine;decide,_,.cons ⟨_,rfl⟩ (.cons ru .nil),ht2⟩,rfl,
   ⟨_,x,rfl,I.hok.fresh (Zq _),rfl,λys hy=>by rw[I.QfN hy hq];exact hx⟩,⟨u,?_,hi2⟩,λb hb=>?_⟩
  ·have hb:b=e∨b=it:=by simpa using hb
   rcases hb with rfl | rfl
   ·exact⟨_,he2⟩
   ·obtain⟨o,ho,_⟩:=hi2;exact⟨o,ho⟩
  ·have:((i+1:Nat):Int)=(i:Int)+1:=by push_cast;rfl
   rw[this];exact he2
  ·have hb':b=e∨b=it:=by simpa using hb
   have:b≠s.heap.objs.size:=by
    rcases hb' with rfl | rfl
    ·exact ZJ helt
    ·exact ZJ hilt
   rw[QJ this];exact(hf b hb).1
 done:=by
  intro X hP hw hK hc i pins s σ H E I hf st hg
  subst hP hw hK
  obtain⟨old,he,hi⟩:=st
  obtain⟨xs,hq,hx⟩:=hg
  obtain⟨its,rv,p,hz⟩:=I.list hq
  have hl:=rv.length
  refine wpAny_pyNext_enum_end (I.ok.hd hc) he hi p.isList (by simp;omega) λh1 eb=>⟨rfl,?_⟩
  exact I.turns (t':=s.toks) hf λb o hb q=>eb b o (λz=>hb (by simp[z])) q
 self:=λ_ _ _ _ _ st h=>by
  obtain⟨old,he,hi⟩:=st
  exact wpAny_pyIter_enum he h
section
noncomputable def Qwe(K:PySem.W.Frag)(ta:TA):TI:=λσ H R=>ta σ H λvs H1=>∃a,vs=[.ref a]/\(∃xs,SqL K H1 a xs)/\R (Ite K a) H1
theorem Qtu{a:Expr}{ta:TA}{p pos:Pos}{es:List Expr}{tk:Nat}{tpos:Pos}(hg:Gl X "enumerate")(hm:X.mg "enumerate" =none)(ha:PA X [a] ta)(hs:starEach [a] X.env=[(false,eval a X.env)]):
  PI X (.Tuple es tk tpos) (.Call (.Name "enumerate" p) [a] [] pos) (Qwe X.K ta):=by
 intro pins s σ H R I h
 refine Call_ (Qca I hg hm PyProof.Rows.boot_enumerate (ZW (thn (ha pos pins s σ H _ I h) λus s1 ⟨vs,H1,I1,r1,q1⟩=>?_) hs rfl))
 obtain⟨l,e,⟨xs,hq⟩,q⟩:=q1
 subst e
 obtain⟨u,rfl,ru⟩:=vals1 r1
 cases ru
 obtain⟨its,rv,pl,hz⟩:=I1.list hq
 refine call_enumerate_list pl.isList λh2 he2 hi2 hz2 hk2=>?_
 have I2:Inv X pins σ H1 {s1 with heap:=h2}:=I1.kept (t':=s1.toks) hk2
 refine wpAny_pyIter_enum he2 ⟨_,[s1.heap.objs.size+1,s1.heap.objs.size],_,_,H1,rfl,I2,QoC l _ _ (Nat.succ_ne_self _),⟨_,he2,hi2⟩,λb hb=>?_,q⟩
 have hb:b=s1.heap.objs.size+1∨b=s1.heap.objs.size:=by simpa using hb
 have hle:s1.heap.objs.size<=b:=by rcases hb with rfl | rfl<;>omega
 exact I1.Qie hle (I1.hok.fresh hle)
end
noncomputable def Itz(K:PySem.W.Frag)(a b:Addr):It:=
 ⟨λi H=>∃xs ys x y,SqL K H a xs/\SqL K H b ys/\xs[i]? =some x/\ys[i]? =some y,λi H v H'=>∃p x y,v= .ref p/\H p=none/\H'=upd H p (.tup [x,y])/\(∀xs,SqL K H a xs->xs[i]? =some x)/\∀ys,SqL K H b ys->ys[i]? =some y,
  λi H=>∃xs ys,SqL K H a xs/\SqL K H b ys/\(xs.length<=i∨ys.length<=i)⟩
structure QmT (z TI TO i1 i2:Addr):Prop where
 a:TI≠z
 b:TO≠z
 c:i1≠z
 d:i2≠z
 e:TI≠TO
 f:TI≠i1
 g:TI≠i2
 h:TO≠i1
 i:TO≠i2
 j:i1≠i2
theorem QhU{h:Heap}(hz:IsZip h z T1 T2 x)(hA:IsPair h T1 a b)(hB:IsPair h T2 c d)(h1:h.IsListIter i1 l1 k)(h2:h.IsListIter i2 l2 k):∀b∈[z,T1,T2,i1,i2],NL h b:=
 fa1 (.zip hz) (fa1 (.tup hA) (fa1 (.tup hB) (fa1 (.it h1) (fa1 (.it h2) λ_ h=>nomatch h))))
theorem Qn6{X:Cx}{s:Shared}(D:QmT z T1 T2 i1 i2)(I:Inv X pins σ H s)(hf:∀b∈[z,T1,T2,i1,i2],Qc6 X pins H b)(O:∀b∈[z,T1,T2,i1,i2],NL s.heap b)(hq1:SqL X.K H l1 xs)(hq2:SqL X.K H l2 ys):ZipApart z T1 T2 i1 i2 l1 l2:=by
 have A1:=λb hb=>(O b hb).apart I (hf b hb).1 hq1
 have A2:=λb hb=>(O b hb).apart I (hf b hb).1 hq2
 exact⟨D.a,D.b,D.c,D.d,D.e,D.f,D.g,D.h,D.i,D.j,A1 z mm0,A1 T2 mm2,A1 i1 mm3,A1 i2 mm4,A2 z mm0,A2 T2 mm2,A2 i1 mm3,A2 i2 mm4⟩
theorem Qrp{P:Program}{w:World}{K:PySem.W.Frag}{es:List Expr}{tk:Nat}{tpos:Pos}(l1 l2 z TI TO i1 i2:Addr)(D:QmT z TI TO i1 i2):
  Turn P w K (.Tuple es tk tpos) (Itz K l1 l2) [z,TI,TO,i1,i2] z (λi h=>IsZip h z TI TO .none/\IsPair h TI (.ref i1) (.ref i2)/\(∃a b,IsPair h TO a b)/\h.IsListIter i1 l1 i/\h.IsListIter i2 l2 i) where
 mem:=mm0
 obj:=λi h st b hb=>by
  obtain⟨hz,hTI,⟨p,q,hTO⟩,h1,h2⟩:=st
  exact(QhU hz hTI hTO h1 h2 b hb).obj
 keep:=λi h h' st k=>by
  obtain⟨hz,hTI,⟨p,q,hTO⟩,h1,h2⟩:=st
  exact⟨k z mm0 _ hz,k TI mm1 _ hTI,⟨p,q,k TO mm2 _ hTO⟩,h1.at (k i1 mm3),h2.at (k i2 mm4)⟩
 item:=by
  intro X hP hw hK hc i pins s σ H E I hf st hg
  subst hP hw hK
  obtain⟨hz,hTI,⟨a0,b0,hTO⟩,h1,h2⟩:=st
  obtain⟨xs,ys,x,y,hq1,hq2,hx,hy⟩:=hg
  obtain⟨its,rv,p,hzz⟩:=I.list hq1
  obtain⟨its2,rv2,p2,hzz2⟩:=I.list hq2
  obtain⟨u,hu,ru⟩:=rv.get hx
  obtain⟨u2,hu2,ru2⟩:=rv2.get hy
  have O:=QhU hz hTI hTO h1 h2
  refine wpAny_pyNext_zip_item (Qn6 D I hf O hq1 hq2) hz hTI hTO h1 h2 p.isList p2.isList (x:=u) (y:=u2) (by simpa using hu) (by simpa using hu2) λh3 z3 TO3 a3 b3 T3 sz3 k3=>?_
  refine⟨.ref s.heap.objs.size,rfl,wpAny_letOwnedTupleGo_zip z3 λh4 z4 hs4=>?_⟩
  replace hs4:Heap.SameBut z h3 h4:=hs4
  have kk:∀b o,b∉[z,TI,TO,i1,i2]->s.heap.get? b=some o->h4.get? b=some o:=λb o hb q=>
   hs4.extBut b o (nmm hb mm0) (k3 b o (nmm hb mm0) (nmm hb mm2) (nmm hb mm3) (nmm hb mm4) q)
  have TI4:IsPair h4 TI (.ref i1) (.ref i2):=hs4.extBut _ _ D.a (k3 _ _ D.a D.e D.f D.g hTI)
  have TO4:IsPair h4 TO u u2:=hs4.extBut _ _ D.b TO3
  have a4:h4.IsListIter i1 l1 (i+1):=a3.extBut hs4.extBut D.c
  have b4:h4.IsListIter i2 l2 (i+1):=b3.extBut hs4.extBut D.d
  exact⟨.ref s.heap.objs.size,upd H s.heap.objs.size (.tup [x,y]),I.QrV (t':=s.toks) hf kk (λb hb=>(QhU z4 TI4 TO4 a4 b4 b hb).ex) (Zq _) ⟨by show 2<=sizeLine;decide,_,.cons ru (.cons ru2 .nil),_,(hs4.2 _ (Zbj (O z mm0).lt)).trans T3,rfl,_,rfl⟩,rfl,
   ⟨_,x,y,rfl,I.hok.fresh (Zq _),rfl,λzs hy'=>by rw[I.QfN hy' hq1];exact hx,λzs hy'=>by rw[I.QfN hy' hq2];exact hy⟩,⟨z4,TI4,⟨_,_,TO4⟩,a4,b4⟩,λb hb=>by rw[QJ (ZJ (O b hb).lt)];exact(hf b hb).1⟩
 done:=by
  intro X hP hw hK hc i pins s σ H E I hf st hg
  subst hP hw hK
  obtain⟨hz,hTI,⟨a0,b0,hTO⟩,h1,h2⟩:=st
  obtain⟨xs,ys,hq1,hq2,hx⟩:=hg
  obtain⟨its,rv,p,hzz⟩:=I.list hq1
  obtain⟨its2,rv2,p2,hzz2⟩:=I.list hq2
  have hl:=rv.length
  have hl2:=rv2.length
  refine wpAny_pyNext_zip_end (I.ok.hd hc) (Qn6 D I hf (QhU hz hTI hTO h1 h2) hq1 hq2) hz hTI hTO h1 h2 p.isList p2.isList (by rcases hx with hx | hx;(left;simp;omega);(right;simp;omega)) λh3 k3=>⟨rfl,?_⟩
  exact I.turns (t':=s.toks) hf λb o hb q=>k3 b o (nmm hb mm0) (nmm hb mm2) (nmm hb mm3) (nmm hb mm4) q
 self:=λ_ _ _ _ _ st h=>wpAny_pyIter_zip st.1 h
section
noncomputable def Qxc(K:PySem.W.Frag)(ta:TA):TI:=λσ H R=>ta σ H λvs H1=>∃a b,vs=[.ref a,.ref b]/\(∃xs,SqL K H1 a xs)/\(∃ys,SqL K H1 b ys)/\R (Itz K a b) H1
theorem QvE{a b:Expr}{ta:TA}{p pos:Pos}{es:List Expr}{tk:Nat}{tpos:Pos}(hg:Gl X "zip")(hm:X.mg "zip" =none)(ha:PA X [a,b] ta)(hs:starEach [a,b] X.env=[(false,eval a X.env),(false,eval b X.env)])(hs2:starEach [b] X.env=[(false,eval b X.env)]):
  PI X (.Tuple es tk tpos) (.Call (.Name "zip" p) [a,b] [] pos) (Qxc X.K ta):=by
 intro pins s σ H R I h
 refine Call_ (Qca I hg hm PyProof.Rows.boot_zip (ZW (thn (ha pos pins s σ H _ I h) λus s1 ⟨vs,H1,I1,r1,q1⟩=>?_) (by rw[hs,hs2]) (by rw[hs2];rfl)))
 obtain⟨l,l2,e,⟨xs,hq⟩,⟨ys,hq2⟩,q⟩:=q1
 subst e
 obtain⟨u,u2,rfl,ru,ru2⟩:=vals2 r1
 cases ru
 cases ru2
 obtain⟨its,rv,pl,hz⟩:=I1.list hq
 obtain⟨its2,rv2,pl2,hz2⟩:=I1.list hq2
 refine call_zip_2 pl.isList pl2.isList λh2 hz hTI hTO h1 h2' hsz hk2=>?_
 have I2:Inv X pins σ H1 {s1 with heap:=h2}:=I1.kept (t':=s1.toks) hk2
 refine wpAny_pyIter_zip hz ⟨_,[s1.heap.objs.size+4,s1.heap.objs.size+2,s1.heap.objs.size+3,s1.heap.objs.size,s1.heap.objs.size+1],_,_,H1,rfl,I2,Qrp l l2 _ _ _ _ _ ⟨?_,?_,?_,?_,?_,?_,?_,?_,?_,?_⟩,⟨hz,hTI,⟨_,_,hTO⟩,h1,h2'⟩,λb hb=>?_,q⟩
 iterate 10 (exact(by intro e;first | (have e':(s1.heap.objs.size:Nat)+_=_:=e;omega) | (have e':(s1.heap.objs.size:Nat)=_:=e;omega)))
 have hle:s1.heap.objs.size<=b:=by
  simp only[Zn,ZbX,or_false]at hb
  rcases hb with rfl | rfl | rfl | rfl | rfl<;>first | exact Zq _ | exact Nat.le_add_right _ _
 exact I1.Qie hle (I1.hok.fresh hle)
end
end L2
namespace L2
open PySem PySem.Spec
section
variable {prog:Program}{w:World}{A:Around}{E:Value->Shared->Prop}{s:Shared}
structure Six (z TI TO i1 i2 i3:Addr):Prop where
 TIz:TI≠z
 TOz:TO≠z
 i1z:i1≠z
 i2z:i2≠z
 i3z:i3≠z
 TITO:TI≠TO
 TIi1:TI≠i1
 TIi2:TI≠i2
 TIi3:TI≠i3
 TOi1:TO≠i1
 TOi2:TO≠i2
 TOi3:TO≠i3
 i12:i1≠i2
 i13:i1≠i3
 i23:i2≠i3
end
section
variable {prog:Program}{w:World}{A:Around}{E:Value->Shared->Prop}{s:Shared}
end
open PyProof.Rows
section
end
end L2
namespace HS
open PySem PySem.Spec PyProof.Rows L2
inductive D where
 | non | bl (b:Bool) | int (i:Int) | str (x:Str) | tup (xs:List D) | lst (xs:List D) | exc (x:Str)
mutual
noncomputable def D.flat:D->Bool
 | .lst _=>false
 | .tup xs=>QG xs
 | .non=>true
 | .bl _=>true
 | .int _=>true
 | .str _=>true
 | .exc _=>true
noncomputable def QG:List D->Bool
 | []=>true
 | d::ds=>d.flat && QG ds
end
mutual
noncomputable def D.nl:D->Nat
 | .lst xs=>nls xs+1
 | .tup xs=>nls xs
 | .non=>0
 | .bl _=>0
 | .int _=>0
 | .str _=>0
 | .exc _=>0
noncomputable def nls:List D->Nat
 | []=>0
 | d::ds=>d.nl+nls ds
end
mutual
theorem QcD:∀(d:D),d.flat=true->d.nl=0
 | .non,_=>rfl
 | .bl _,_=>rfl
 | .int _,_=>rfl
 | .str _,_=>rfl
 | .exc _,_=>rfl
 | .tup xs,h=>by simp only[D.nl];simp only[D.flat]at h;exact Qfm xs h
 | .lst xs,h=>by simp[D.flat]at h
theorem Qfm:∀(ds:List D),QG ds=true->nls ds=0
 | [],_=>rfl
 | d::ds,h=>by simp only[QG,Zk]at h;simp only[nls,QcD d h.1,Qfm ds h.2]
end
def Fix(K:PySem.W.Frag)(H:Hp)(a:Addr)(vs:List V):Prop:=
 (∃o,H a=some (.frz o (.lst vs)))∨
  ∃(its:List Value) (n:Nat),K.lookup a=some {cls:= .type "list",data:= .seq its.toArray n}/\vs.length<=sizeLine/\Qt vs its
def Qxe(a C:Addr)(h:Heap):Prop:=∃o vs,h.get? a=some o/\o.cls= .ref C/\o.data= .fields vs
def ExcAt(K:PySem.W.Frag)(H:Hp)(a:Addr)(x:Str):Prop:=∃C,PySem.W.nsIn K mainGlobals x=some (some (.ref C))/\H a=some (.ext (Qxe a C))
theorem Qng{K:PySem.W.Frag}{H H':Hp}{a:Addr}{x:Str}(s:QD H H')(h:ExcAt K H a x):ExcAt K H' a x:=by
 obtain⟨C,h1,h2⟩:=h
 exact⟨C,h1,s _ _ h2⟩
theorem QpF{K:PySem.W.Frag}{H:Hp}{a p:Addr}{x:Str}{zs ys:List V}(hp:H p=some (.lst zs))(h:ExcAt K H a x):ExcAt K (upd H p (.lst ys)) a x:=by
 obtain⟨C,h1,h2⟩:=h
 exact⟨C,h1,by rw[QJ (Qkh h2 hp (by intro z;cases z))];exact h2⟩
mutual
noncomputable def Rp(K:PySem.W.Frag)(H:Hp):D->V->List Addr->Prop
 | .non,v,F=>v= .non/\F=[]
 | .bl b,v,F=>v= .bl b/\F=[]
 | .int i,v,F=>v= .int i/\F=[]
 | .str x,v,F=>v= .str x/\F=[]
 | .exc x,v,F=>(∃a,v= .ref a/\ExcAt K H a x)/\F=[]
 | .tup ds,v,F=>∃a vs,v= .ref a/\SqT K H a vs/\Rps K H ds vs F
 | .lst ds,v,F=>ds.length<=sizeLine/\∃a vs,v= .ref a/\((∃G,F=a::G/\H a=some (.lst vs)/\Rps K H ds vs G)∨(Fix K H a vs/\Rps K H ds vs F))
noncomputable def Rps(K:PySem.W.Frag)(H:Hp):List D->List V->List Addr->Prop
 | [],vs,F=>vs=[]/\F=[]
 | d::ds,vs,F=>∃v ws F1 F2,vs=v::ws/\F=F1++F2/\Rp K H d v F1/\Rps K H ds ws F2
end
theorem Qki{K:PySem.W.Frag}{H H':Hp}{a:Addr}{vs:List V}(s:QD H H')(h:SqT K H a vs):SqT K H' a vs:=by
 rcases h with(h | ⟨o,h⟩) | h
 ·exact .inl (.inl (s _ _ h))
 ·exact .inl (.inr ⟨o,s _ _ h⟩)
 ·exact .inr h
theorem QkY{K:PySem.W.Frag}{H H':Hp}{a:Addr}{vs:List V}(s:QD H H')(h:Fix K H a vs):Fix K H' a vs:=by
 rcases h with⟨o,h⟩ | h
 ·exact .inl ⟨o,s _ _ h⟩
 ·exact .inr h
theorem QmY{K:PySem.W.Frag}{H:Hp}{a p:Addr}{vs zs ys:List V}(hp:H p=some (.lst zs))(h:SqT K H a vs):SqT K (upd H p (.lst ys)) a vs:=by
 rcases h with(h | ⟨o,h⟩) | h
 ·exact .inl (.inl (by rw[QJ (Qkh h hp (by intro z;cases z))];exact h))
 ·exact .inl (.inr ⟨o,by rw[QJ (Qkh h hp (by intro z;cases z))];exact h⟩)
 ·exact .inr h
theorem QrY{K:PySem.W.Frag}{H:Hp}{a p:Addr}{vs zs ys:List V}(hp:H p=some (.lst zs))(h:Fix K H a vs):Fix K (upd H p (.lst ys)) a vs:=by
 rcases h with⟨o,h⟩ | h
 ·exact .inl ⟨o,by rw[QJ (Qkh h hp (by intro z;cases z))];exact h⟩
 ·exact .inr h
section
variable {K:PySem.W.Frag}{H H':Hp}
mutual
theorem Rp.same(s:QD H H'):∀{d:D}{v:V}{F:List Addr},Rp K H d v F->Rp K H' d v F
 | .exc _,_,_,h=>by
  simp only[Rp]at h ⊢
  obtain⟨⟨a,e,q⟩,z⟩:=h
  exact⟨⟨a,e,Qng s q⟩,z⟩
 | .non,_,_,h=>h
 | .bl _,_,_,h=>h
 | .int _,_,_,h=>h
 | .str _,_,_,h=>h
 | .tup ds,_,_,h=>by
  simp only[Rp]at h ⊢
  obtain⟨a,vs,e,q,r⟩:=h
  exact⟨a,vs,e,Qki s q,Rps.same s r⟩
 | .lst ds,_,_,h=>by
  simp only[Rp]at h ⊢
  obtain⟨hz,a,vs,e,⟨G,eF,q,r⟩ | ⟨q,r⟩⟩:=h
  ·exact⟨hz,a,vs,e,.inl ⟨G,eF,s _ _ q,Rps.same s r⟩⟩
  ·exact⟨hz,a,vs,e,.inr ⟨QkY s q,Rps.same s r⟩⟩
theorem Rps.same(s:QD H H'):∀{ds:List D}{vs:List V}{F:List Addr},Rps K H ds vs F->Rps K H' ds vs F
 | [],_,_,h=>h
 | d::ds,_,_,h=>by
  simp only[Rps]at h ⊢
  obtain⟨v,ws,F1,F2,e,eF,r,q⟩:=h
  exact⟨v,ws,F1,F2,e,eF,Rp.same s r,Rps.same s q⟩
end
mutual
theorem Rp.upd{p:Addr}{zs ys:List V}(hp:H p=some (.lst zs)):∀{d:D}{v:V}{F:List Addr},Rp K H d v F->p∉F->Rp K (upd H p (.lst ys)) d v F
 | .exc _,_,_,h,_=>by
  simp only[Rp]at h ⊢
  obtain⟨⟨a,e,q⟩,z⟩:=h
  exact⟨⟨a,e,QpF hp q⟩,z⟩
 | .non,_,_,h,_=>h
 | .bl _,_,_,h,_=>h
 | .int _,_,_,h,_=>h
 | .str _,_,_,h,_=>h
 | .tup ds,_,_,h,hn=>by
  simp only[Rp]at h ⊢
  obtain⟨a,vs,e,q,r⟩:=h
  exact⟨a,vs,e,QmY hp q,Rps.upd hp r hn⟩
 | .lst ds,_,_,h,hn=>by
  simp only[Rp]at h ⊢
  obtain⟨hz,a,vs,e,⟨G,eF,q,r⟩ | ⟨q,r⟩⟩:=h
  ·subst eF
   have h1:a≠p:=λz=>hn (by rw[z];exact Zh)
   exact⟨hz,a,vs,e,.inl ⟨G,rfl,by rw[QJ h1];exact q,Rps.upd hp r λz=>hn (Zc _ z)⟩⟩
  ·exact⟨hz,a,vs,e,.inr ⟨QrY hp q,Rps.upd hp r hn⟩⟩
theorem Rps.upd{p:Addr}{zs ys:List V}(hp:H p=some (.lst zs)):∀{ds:List D}{vs:List V}{F:List Addr},Rps K H ds vs F->p∉F->Rps K (upd H p (.lst ys)) ds vs F
 | [],_,_,h,_=>h
 | d::ds,_,_,h,hn=>by
  simp only[Rps]at h ⊢
  obtain⟨v,ws,F1,F2,e,eF,r,q⟩:=h
  subst eF
  exact⟨v,ws,F1,F2,e,rfl,Rp.upd hp r λz=>hn (Zi _ z),Rps.upd hp q λz=>hn (Zl _ z)⟩
end
mutual
theorem Rp.mem:∀{d:D}{v:V}{F:List Addr},Rp K H d v F->∀a∈F,∃vs,H a=some (.lst vs)
 | .non,_,_,h,a,ha=>by simp only[Rp]at h;rw[h.2]at ha;simp at ha
 | .bl _,_,_,h,a,ha=>by simp only[Rp]at h;rw[h.2]at ha;simp at ha
 | .int _,_,_,h,a,ha=>by simp only[Rp]at h;rw[h.2]at ha;simp at ha
 | .str _,_,_,h,a,ha=>by simp only[Rp]at h;rw[h.2]at ha;simp at ha
 | .exc _,_,_,h,a,ha=>by simp only[Rp]at h;rw[h.2]at ha;simp at ha
 | .tup ds,_,_,h,a,ha=>by
  simp only[Rp]at h
  obtain⟨_,vs,e,q,r⟩:=h
  exact Rps.mem r a ha
 | .lst ds,_,_,h,a,ha=>by
  simp only[Rp]at h
  obtain⟨_,b,vs,e,⟨G,eF,q,r⟩ | ⟨q,r⟩⟩:=h
  ·subst eF
   rcases Zn.mp ha with z | z
   ·exact⟨vs,by rw[z];exact q⟩
   ·exact Rps.mem r a z
  ·exact Rps.mem r a ha
theorem Rps.mem:∀{ds:List D}{vs:List V}{F:List Addr},Rps K H ds vs F->∀a∈F,∃vs,H a=some (.lst vs)
 | [],_,_,h,a,ha=>by simp only[Rps]at h;rw[h.2]at ha;simp at ha
 | d::ds,_,_,h,a,ha=>by
  simp only[Rps]at h
  obtain⟨v,ws,F1,F2,e,eF,r,q⟩:=h
  subst eF
  rcases ZK.mp ha with z | z
  ·exact Rp.mem r a z
  ·exact Rps.mem q a z
end
mutual
theorem Rp.QaW:∀{d:D}{v:V}{F:List Addr},Rp K H d v F->d.flat=true->F=[]
 | .non,_,_,h,_=>by simp only[Rp]at h;exact h.2
 | .bl _,_,_,h,_=>by simp only[Rp]at h;exact h.2
 | .int _,_,_,h,_=>by simp only[Rp]at h;exact h.2
 | .str _,_,_,h,_=>by simp only[Rp]at h;exact h.2
 | .exc _,_,_,h,_=>by simp only[Rp]at h;exact h.2
 | .tup ds,_,_,h,hf=>by
  simp only[Rp]at h
  simp only[D.flat]at hf
  obtain⟨_,vs,e,q,r⟩:=h
  exact Rps.QaW r hf
 | .lst ds,_,_,h,hf=>by simp[D.flat]at hf
theorem Rps.QaW:∀{ds:List D}{vs:List V}{F:List Addr},Rps K H ds vs F->QG ds=true->F=[]
 | [],_,_,h,_=>by simp only[Rps]at h;exact h.2
 | d::ds,_,_,h,hf=>by
  simp only[Rps]at h
  simp only[QG,Zk]at hf
  obtain⟨v,ws,F1,F2,e,eF,r,q⟩:=h
  rw[eF,Rp.QaW r hf.1,Rps.QaW q hf.2];rfl
end
mutual
theorem Rp.Qax:∀{d:D}{v:V}{F:List Addr},Rp K H d v F->F.length<=d.nl
 | .non,_,_,h=>by simp only[Rp]at h;rw[h.2];exact ZZ _
 | .bl _,_,_,h=>by simp only[Rp]at h;rw[h.2];exact ZZ _
 | .int _,_,_,h=>by simp only[Rp]at h;rw[h.2];exact ZZ _
 | .str _,_,_,h=>by simp only[Rp]at h;rw[h.2];exact ZZ _
 | .exc _,_,_,h=>by simp only[Rp]at h;rw[h.2];exact ZZ _
 | .tup ds,_,_,h=>by
  simp only[Rp]at h
  obtain⟨_,vs,e,q,r⟩:=h
  simp only[D.nl]
  exact Rps.Qax r
 | .lst ds,_,_,h=>by
  simp only[Rp]at h
  simp only[D.nl]
  obtain⟨_,b,vs,e,⟨G,eF,q,r⟩ | ⟨q,r⟩⟩:=h
  ·rw[eF,Zo];have:=Rps.Qax r;omega
  ·have:=Rps.Qax r;omega
theorem Rps.Qax:∀{ds:List D}{vs:List V}{F:List Addr},Rps K H ds vs F->F.length<=nls ds
 | [],_,_,h=>by simp only[Rps]at h;rw[h.2];exact ZZ _
 | d::ds,_,_,h=>by
  simp only[Rps]at h
  obtain⟨v,ws,F1,F2,e,eF,r,q⟩:=h
  simp only[nls]
  rw[eF,Zt]
  have:=Rp.Qax r
  have:=Rps.Qax q
  omega
end
theorem Rps.length:∀{ds:List D}{vs:List V}{F:List Addr},Rps K H ds vs F->ds.length=vs.length
 | [],_,_,h=>by simp only[Rps]at h;rw[h.1];rfl
 | d::ds,_,_,h=>by
  simp only[Rps]at h
  obtain⟨v,ws,F1,F2,e,eF,r,q⟩:=h
  rw[e,Zo,Zo,Rps.length q]
theorem Rps.append:∀{ds es:List D}{vs ws:List V}{F G:List Addr},Rps K H ds vs F->Rps K H es ws G->Rps K H (ds++es) (vs++ws) (F++G)
 | [],_,_,_,_,_,h,g=>by simp only[Rps]at h;rw[h.1,h.2];exact g
 | d::ds,_,_,_,_,_,h,g=>by
  simp only[Rps,Zbs]at h ⊢
  obtain⟨v,ws,F1,F2,e,eF,r,q⟩:=h
  subst e eF
  exact⟨v,_,F1,_,rfl,by rw[ZaQ],r,Rps.append q g⟩
theorem Rps.get:∀{ds:List D}{vs:List V}{F:List Addr}{i:Nat}{d:D},Rps K H ds vs F->ds[i]? =some d->∃v F1 G F2,vs[i]? =some v/\F=F1++(G++F2)/\Rp K H d v G/\(F.length=nls ds->G.length=d.nl)
 | [],_,_,_,_,_,e=>by simp at e
 | d::ds,_,_,0,_,h,e=>by
  simp only[Rps]at h
  obtain⟨v,ws,F1,F2,e1,eF,r,q⟩:=h
  simp at e;subst e e1 eF
  refine⟨v,[],F1,F2,by simp,rfl,r,λhl=>?_⟩
  simp only[nls,Zt]at hl
  have:=Rp.Qax r
  have:=Rps.Qax q
  omega
 | d::ds,_,_,i+1,_,h,e=>by
  simp only[Rps]at h
  obtain⟨v,ws,F1,F2,e1,eF,r,q⟩:=h
  obtain⟨v',G1,G,G2,h1,h2,h3,h4⟩:=Rps.get q (by simpa using e)
  have l1:=Rp.Qax r
  have l2:=Rps.Qax q
  subst e1 eF
  refine⟨v',F1++G1,G,G2,by simpa using h1,by rw[h2,ZaQ],h3,λhl=>h4 ?_⟩
  simp only[nls,Zt]at hl
  omega
theorem Fix.sq{K:PySem.W.Frag}{H:Hp}{a:Addr}{vs:List V}(h:Fix K H a vs):SqL K H a vs:=by
 rcases h with⟨o,h⟩ | ⟨its,n,h,hz,r⟩
 ·exact .inl (.inr ⟨o,h⟩)
 ·exact .inr ⟨_,its.toArray,n,h,rfl,rfl,rfl,by rw[Zu,← r.length];exact hz,by simpa using r⟩
theorem _root_.L2.Inv.QkG(I:Inv X pins σ H s)(h:H a=some (.lst vs)∨Fix X.K H a vs):
  vs.length<=sizeLine/\∃(its:List Value) (n:Nat),Qt vs its/\vs.length=its.length/\s.heap.get? a=some {cls:= .type "list",data:= .seq its.toArray n}:=by
 rcases h with h | ⟨o,h⟩ | ⟨its,n,h,hz,r⟩
 ·exact I.Qnj h
 ·obtain⟨e,hz,its,n,r,e2⟩:=I.hok a _ h
  exact⟨hz,its,n,r,r.length,e2⟩
 ·exact⟨hz,its,n,r,r.length,I.kIn _ _ h⟩
theorem Rp.lst_inv{K:PySem.W.Frag}{H:Hp}{ds:List D}{v:V}{F:List Addr}(h:Rp K H (.lst ds) v F):
  ∃a vs G,v= .ref a/\(H a=some (.lst vs)∨Fix K H a vs)/\Rps K H ds vs G/\ds.length<=sizeLine/\(F=a::G∨F=G):=by
 simp only[Rp]at h
 obtain⟨hz,a,vs,e,⟨G,eF,q,r⟩ | ⟨q,r⟩⟩:=h
 ·exact⟨a,vs,G,e,.inl q,r,hz,.inl eF⟩
 ·exact⟨a,vs,F,e,.inr q,r,hz,.inr rfl⟩
theorem QK{K:PySem.W.Frag}{H:Hp}{a:Addr}{vs:List V}(h:H a=some (.lst vs)∨Fix K H a vs):SqL K H a vs:=h.elim (λh=>SqL.of h) Fix.sq
theorem Rp.QaB{K:PySem.W.Frag}{H:Hp}{ds:List D}{v:V}{F:List Addr}(h:Rp K H (.tup ds) v F):∃a vs,v= .ref a/\SqT K H a vs/\Rps K H ds vs F:=by
 simp only[Rp]at h
 exact h
theorem Rp.Qe2{K:PySem.W.Frag}{H:Hp}{ds:List D}{a:Addr}{vs:List V}{G:List Addr}(h:H a=some (.lst vs))(r:Rps K H ds vs G)(hz:ds.length<=sizeLine):Rp K H (.lst ds) (.ref a) (a::G):=by
 simp only[Rp]
 exact⟨hz,a,vs,rfl,.inl ⟨G,rfl,h,r⟩⟩
theorem Rp.QhX{K:PySem.W.Frag}{H:Hp}{ds:List D}{a:Addr}{vs:List V}{G:List Addr}(h:H a=some (.tup vs))(r:Rps K H ds vs G):Rp K H (.tup ds) (.ref a) G:=by
 simp only[Rp]
 exact⟨a,vs,rfl,SqT.of h,r⟩
theorem Rp.int_inv{K:PySem.W.Frag}{H:Hp}{i:Int}{v:V}{F:List Addr}(h:Rp K H (.int i) v F):v= .int i:=by simp only[Rp]at h;exact h.1
theorem Rp.QcO{K:PySem.W.Frag}{H:Hp}{i:Bool}{v:V}{F:List Addr}(h:Rp K H (.bl i) v F):v= .bl i:=by simp only[Rp]at h;exact h.1
theorem Rp.Qd6{K:PySem.W.Frag}{H:Hp}{v:V}{F:List Addr}(h:Rp K H .non v F):v= .non:=by simp only[Rp]at h;exact h.1
theorem Rp.str_inv{K:PySem.W.Frag}{H:Hp}{i:Str}{v:V}{F:List Addr}(h:Rp K H (.str i) v F):v= .str i:=by simp only[Rp]at h;exact h.1
theorem Rp.int_mk{K:PySem.W.Frag}{H:Hp}{i:Int}:Rp K H (.int i) (.int i) []:=by simp[Rp]
theorem Rp.Qbn{K:PySem.W.Frag}{H:Hp}{i:Bool}:Rp K H (.bl i) (.bl i) []:=by simp[Rp]
theorem Rp.Qko{K:PySem.W.Frag}{H:Hp}:Rp K H .non .non []:=by simp[Rp]
theorem Rp.str_mk{K:PySem.W.Frag}{H:Hp}{i:Str}:Rp K H (.str i) (.str i) []:=by simp[Rp]
theorem Qb4(h:H p=none):QD H (L2.upd H p o):=λb u e=>by rw[QJ (Qbr e h)];exact e
end
end HS
namespace HS
open PySem PySem.Spec L2
noncomputable abbrev En:=List (Option (D×Bool))
structure R where
 d:D
 fr:Bool
 M:List Nat
structure RA where
 ds:List D
 fr:Bool
 M:List Nat
noncomputable abbrev DE:=En->Option R
noncomputable abbrev DA:=En->Option RA
noncomputable abbrev DT:=En->Option Bool
structure Rel (K:PySem.W.Frag) (H0:Hp) (A0:List Addr) (hs:List (V×D×List Addr)) (ρ:En) (F:Nat->List Addr) (σ:St) (H:Hp):Prop where
 len:ρ.length=σ.length
 val:∀(i:Nat) d b,ρ[i]? =some (some (d,b))->∃v,σ[i]? =some (some v)/\Rp K H d v (F i)
 own:∀(i:Nat) d,ρ[i]? =some (some (d,true))->(F i).length=d.nl/\(F i).Nodup/\(∀a∈F i,H0 a=none)/\(∀(j:Nat) d' b',j≠i->ρ[j]? =some (some (d',b'))->∀a∈F i,a∉F j)/\∀t∈hs,∀a∈F i,a∉t.2.2
 src:∀(i:Nat) d b,ρ[i]? =some (some (d,b))->∀a∈F i,H0 a=none∨a∈A0
 held:∀t∈hs,Rp K H t.2.1 t.1 t.2.2/\∀a∈t.2.2,H0 a=none∨a∈A0
 same:QD H0 H
def Src(ρ:En)(F:Nat->List Addr)(H:Hp)(M:List Nat)(G:List Addr):Prop:=
 ∀a∈G,H a=none∨∃(i:Nat) (d:D) (b:Bool),ρ[i]? =some (some (d,b))/\a∈F i/\(b=true->i∈M)
noncomputable def nw(H:Hp)(a:Addr):Nat:=match H a with | none=>1 | some _=>0
def Cnt(F:Nat->List Addr)(H:Hp)(M:List Nat)(G:List Addr):Prop:=
 ∀a,G.count a<=nw H a+((M.map F).flatten).count a
def QaJ(ρ:En)(M:List Nat):Prop:=∀i∈M,∃d,ρ[i]? =some (some (d,true))
structure QN (K:PySem.W.Frag) (ρ:En) (F:Nat->List Addr) (H H':Hp) (r:R) (v:V) (G:List Addr):Prop where
 same:QD H H'
 rp:Rp K H' r.d v G
 src:Src ρ F H r.M G
 cnt:r.fr=true->Cnt F H r.M G/\G.length=r.d.nl
 own:QaJ ρ r.M
structure Qwa (K:PySem.W.Frag) (ρ:En) (F:Nat->List Addr) (H H':Hp) (r:RA) (vs:List V) (G:List Addr):Prop where
 same:QD H H'
 rp:Rps K H' r.ds vs G
 src:Src ρ F H r.M G
 cnt:r.fr=true->Cnt F H r.M G/\G.length=nls r.ds
 own:QaJ ρ r.M
noncomputable def tV(K:PySem.W.Frag)(H0:Hp)(A0:List Addr)(f:DE):TE:=λσ H Q=>∃ρ hs F r,Rel K H0 A0 hs ρ F σ H/\f ρ=some r/\∀v H' G,QN K ρ F H H' r v G->Q v H'
noncomputable def tVA(K:PySem.W.Frag)(H0:Hp)(A0:List Addr)(f:DA):TA:=λσ H Q=>∃ρ hs F r,Rel K H0 A0 hs ρ F σ H/\f ρ=some r/\∀v H' G,Qwa K ρ F H H' r v G->Q v H'
noncomputable def tVT(K:PySem.W.Frag)(H0:Hp)(A0:List Addr)(f:DT):TT:=λσ H Q=>∃ρ hs F b,Rel K H0 A0 hs ρ F σ H/\f ρ=some b/\∀H',QD H H'->Q b H'
def SE(X:Cx)(e:Expr)(f:DE):Prop:=∀H0 A0,PE X e (tV X.K H0 A0 f)
def SA(X:Cx)(es:List Expr)(f:DA):Prop:=∀H0 A0,PA X es (tVA X.K H0 A0 f)
def ST(X:Cx)(e:Expr)(f:DT):Prop:=∀H0 A0,PT X e (tVT X.K H0 A0 f)
theorem _root_.L2.PE.mono(h:PE X e t)(m:∀σ H Q,t' σ H Q->t σ H Q):PE X e t':=λpins s σ H Q I q=>h pins s σ H Q I (m σ H Q q)
theorem _root_.L2.PT.mono(h:PT X e t)(m:∀σ H Q,t' σ H Q->t σ H Q):PT X e t':=λpins s σ H Q I q=>h pins s σ H Q I (m σ H Q q)
theorem _root_.L2.PA.mono(h:PA X e t)(m:∀σ H Q,t' σ H Q->t σ H Q):PA X e t':=λpos pins s σ H Q I q=>h pos pins s σ H Q I (m σ H Q q)
section
theorem Rel.ext(r:Rel K H0 A0 hs ρ F σ H)(s:QD H H'):Rel K H0 A0 hs ρ F σ H' where
 len:=r.len
 val:=λi d b e=>let ⟨v,h1,h2⟩:=r.val i d b e;⟨v,h1,h2.same s⟩
 own:=r.own
 src:=r.src
 held:=λt ht=>⟨(r.held t ht).1.same s,(r.held t ht).2⟩
 same:=r.same.trans s
theorem Rel.mem(r:Rel K H0 A0 hs ρ F σ H)(e:ρ[i]? =some (some (d,b)))(h:a∈F i):∃vs,H a=some (.lst vs):=
 let ⟨_,_,h2⟩:=r.val i d b e;h2.mem a h
theorem Qdw(h:H a=some o):nw H a=0:=by simp[nw,h]
theorem QaY(h:H a=none):nw H a=1:=by simp[nw,h]
theorem Rel.fl0(r:Rel K H0 A0 hs ρ F σ H)(ow:QaJ ρ M)(h:H a=none):((M.map F).flatten).count a=0:=by
 rw[Zab]
 intro hm
 obtain⟨l,hl,ha⟩:=Zbt.mp hm
 obtain⟨i,hi,rfl⟩:=ZA.mp hl
 obtain⟨d,e⟩:=ow i hi
 obtain⟨vs,q⟩:=r.mem e ha
 rw[h]at q;cases q
theorem Cnt.append(r:Rel K H0 A0 hs ρ F σ H)(c1:Cnt F H M1 G1)(c2:Cnt F H1 M2 G2)(s:QD H H1)(m1:∀a∈G1,∃vs,H1 a=some (.lst vs)):Cnt F H (M1++M2) (G1++G2):=λa=>by
 rw[Zal,ZY,List.flatten_append,Zal]
 have h1:=c1 a
 have h2:=c2 a
 cases q:H1 a with
 | some o=>rw[Qdw q]at h2;omega
 | none=>
  rw[QaY q]at h2
  have h3:H a=none:=s.free q
  rw[QaY h3]at h1 ⊢
  have h4:G1.count a=0:=Zab.mpr λhm=>by obtain⟨vs,z⟩:=m1 a hm;rw[q]at z;cases z
  omega
theorem Src.append(c1:Src ρ F H M1 G1)(c2:Src ρ F H1 M2 G2)(s:QD H H1):Src ρ F H (M1++M2) (G1++G2):=λa ha=>by
 rcases ZK.mp ha with h | h
 ·rcases c1 a h with z | ⟨i,d,b,e,m,w⟩
  ·exact .inl z
  ·exact .inr ⟨i,d,b,e,m,λhb=>Zi _ (w hb)⟩
 ·rcases c2 a h with z | ⟨i,d,b,e,m,w⟩
  ·exact .inl (s.free z)
  ·exact .inr ⟨i,d,b,e,m,λhb=>Zl _ (w hb)⟩
theorem QaJ.append(h1:QaJ ρ M1)(h2:QaJ ρ M2):QaJ ρ (M1++M2):=λi hi=>(ZK.mp hi).elim (h1 i) (h2 i)
theorem QaJ.nil:QaJ ρ []:=λi hi=>by simp at hi
theorem Src.nil:Src ρ F H M []:=λa ha=>by simp at ha
theorem Cnt.nil:Cnt F H M []:=λa=>by simp
theorem QN.flat(s:QD H H')(r:Rp K H' d v [])(hf:d.flat=true:=by rfl):QN K ρ F H H' ⟨d,true,[]⟩ v []:=⟨s,r,Src.nil,λ_=>⟨Cnt.nil,(QcD d hf).symm⟩,QaJ.nil⟩
theorem QN.sub(p:QN K ρ F H H1 r v G)(rp:Rp K H1 d u G')(hs:∀a,G'.count a<=G.count a)(hn:G.length=r.d.nl->G'.length=d.nl):QN K ρ F H H1 ⟨d,r.fr,r.M⟩ u G' where
 same:=p.same
 rp:=rp
 src:=λa ha=>p.src a (by
  have:=hs a
  have h1:0<G'.count a:=ZaA.mpr ha
  exact ZaA.mp (by omega))
 cnt:=λh=>⟨λa=>ZM (hs a) ((p.cnt h).1 a),hn (p.cnt h).2⟩
 own:=p.own
noncomputable def R.norm(r:R):R:=if r.d.flat then⟨r.d,true,[]⟩else r
theorem R.Qcz(r:R):r.norm.d=r.d:=by unfold R.norm;split<;>rfl
theorem QN.norm(p:QN K ρ F H H' r v G):QN K ρ F H H' r.norm v G:=by
 unfold R.norm
 split
 ·rename_i h
  have:=p.rp.QaW h
  subst this
  exact .flat p.same p.rp h
 ·exact p
end
noncomputable def Qa(i:Nat):DE:=λρ=>match ρ[i]? with
 | some (some (d,b))=>if d.flat then some ⟨d,true,[]⟩else if b then some ⟨d,true,[i]⟩else some ⟨d,false,[]⟩
 | _=>none
noncomputable def dC(d:D):DE:=λ_=>some ⟨d,true,[]⟩
section
theorem Qly(h:PE X (.Name x pos) (QiH i)):SE X (.Name x pos) (Qa i):=λH0 A0=>h.mono λσ H Q=>exK λρ hs F r rel e q=>by
 unfold Qa at e
 split at e
 ·rename_i d b q1
  obtain⟨v,h1,h2⟩:=rel.val i d b q1
  refine⟨v,h1,q v H (F i) ?_⟩
  split at e
  ·rename_i hf
   cases e
   have:=h2.QaW hf
   rw[this]at h2 ⊢
   exact .flat (QD.refl _) h2 hf
  ·split at e
   ·rename_i hb
    cases e
    subst hb
    exact⟨QD.refl _,h2,λa ha=> .inr ⟨i,d,true,q1,ha,λ_=>by simp⟩,λ_=>⟨λa=>(by simp),(rel.own i d q1).1⟩,λj hj=>by simp at hj;subst hj;exact⟨d,q1⟩⟩
   ·rename_i hb
    cases e
    simp at hb
    subst hb
    exact⟨QD.refl _,h2,λa ha=> .inr ⟨i,d,false,q1,ha,λz=>by cases z⟩,λz=>(by cases z),QaJ.nil⟩
 ·cases e
theorem QlT(h:PE X e (tC v))(r:∀K H,Rp K H d v [])(hf:d.flat=true):SE X e (dC d):=λH0 A0=>h.mono λσ H Q=>exK λρ hs F r' rel e q=>by
 cases e
 exact q v H [] (.flat (QD.refl _) (r _ _) hf)
theorem two{K:PySem.W.Frag}{H0:Hp}{A0:List Addr}{fa fb:DE}{σ:St}{H:Hp}{hs:List (V×D×List Addr)}{ρ:En}{F:Nat->List Addr}{ra rb:R}{Rr:V->V->Hp->Prop}(rel:Rel K H0 A0 hs ρ F σ H)(ea:fa ρ=some ra)(eb:fb ρ=some rb)
  (k:∀x y H1 H2 G1 G2,QN K ρ F H H1 ra x G1->QN K ρ F H1 H2 rb y G2->Rr x y H2):tV K H0 A0 fa σ H λx H1=>tV K H0 A0 fb σ H1 λy H2=>Rr x y H2:=
 ⟨ρ,hs,F,ra,rel,ea,λx H1 G1 p1=>⟨ρ,hs,F,rb,rel.ext p1.same,eb,λy H2 G2 p2=>k x y H1 H2 G1 G2 p1 p2⟩⟩
noncomputable def dOp(g:D->D->Option D)(fa fb:DE):DE:=λρ=>(fa ρ).bind λra=>(fb ρ).bind λrb=>(g ra.d rb.d).map λd=>⟨d,true,[]⟩
theorem Qi4(e:dOp g fa fb ρ=some r):∃ra rb d,fa ρ=some ra/\fb ρ=some rb/\g ra.d rb.d=some d/\r=⟨d,true,[]⟩:=by
 unfold dOp at e
 cases h1:fa ρ with
 | none=>rw[h1]at e;cases e
 | some ra=>
  cases h2:fb ρ with
  | none=>rw[h1,h2]at e;cases e
  | some rb=>
   rw[h1,h2]at e
   cases h3:g ra.d rb.d with
   | none=>simp[h3]at e
   | some d=>simp[h3]at e;exact⟨ra,rb,d,rfl,rfl,h3,e.symm⟩
def Qbt(K:PySem.W.Frag)(g:D->D->Option D)(r:R2):Prop:=∀a b d,g a b=some d->d.flat=true/\∀H x y F G (Q:VK),Rp K H a x F->Rp K H b y G->(∀v,(∀H',Rp K H' d v [])->Q v H)->r x y H Q
theorem Qhx(ho:OpR X (binaryOp op) r)(hg:Qbt X.K g r)(ha:SE X a fa)(hb:SE X b fb):SE X (.BinOp a op b pos) (dOp g fa fb):=λH0 A0=>
 (Qnp ho (ha H0 A0) (hb H0 A0)).mono λσ H Q=>exK λρ hs F r' rel e q=>by
  obtain⟨ra,rb,d,ea,eb,eg,rfl⟩:=Qi4 e
  refine two rel ea eb λx y H1 H2 G1 G2 p1 p2=>(hg _ _ _ eg).2 H2 x y G1 G2 Q (p1.rp.same p2.same) p2.rp λv hv=>?_
  exact q v H2 [] (.flat (p1.same.trans p2.same) (hv H2) (hg _ _ _ eg).1)
theorem Qvv(ho:OpR X (compareOp op) r)(hg:Qbt X.K g r)(ha:SE X a fa)(hb:SE X b fb)(hm:behindInMarks op b=false):SE X (.Compare a [op] [b] pos) (dOp g fa fb):=λH0 A0=>
 (Qsb ho (ha H0 A0) (hb H0 A0) hm).mono λσ H Q=>exK λρ hs F r' rel e q=>by
  obtain⟨ra,rb,d,ea,eb,eg,rfl⟩:=Qi4 e
  refine two rel ea eb λx y H1 H2 G1 G2 p1 p2=>(hg _ _ _ eg).2 H2 x y G1 G2 Q (p1.rp.same p2.same) p2.rp λv hv=>?_
  exact q v H2 [] (.flat (p1.same.trans p2.same) (hv H2) (hg _ _ _ eg).1)
end
noncomputable def Qeh(i j:Int):Int:=if 0<=j then i / j else i.fdiv j
noncomputable def Qeq(i j:Int):Int:=if 0<=j then i % j else i.fmod j
theorem Qm7(i j:Int):Qeh i j=i.fdiv j:=by
 unfold Qeh;split
 ·rw[ZbJ _ (by assumption)]
 ·rfl
theorem Qmm(i j:Int):Qeq i j=i.fmod j:=by
 unfold Qeq;split
 ·rw[Int.fmod_eq_emod_of_nonneg _ (by assumption)]
 ·rfl
noncomputable def QdV(i j:Int):Bool:=decide (i.natAbs<2^64) || decide (j.natAbs<2^64) || (decide (Builtin.Int.intBits i<=2^20) && decide (Builtin.Int.intBits j<=2^20))
noncomputable def Qdx(j:Int):Bool:=decide (j≠0) && decide (j.natAbs<2^8000)
noncomputable def gI(f:Int->Int->Option D)(a b:D):Option D:=match a,b with
 | .int i,.int j=>f i j
 | _,_=>none
noncomputable def Qb2:=gI λi j=>some (.int (i-j))
noncomputable def QnO:=gI λi j=>if Qdx j then some (.int (Qeh i j))else none
noncomputable def Qbz:=gI λi j=>if j≠0 then some (.int (Qeq i j))else none
noncomputable def Qi0:=gI λi j=>if 0<=j/\j<=1000/\i.natAbs<2^200 then some (.int (i^j.toNat))else none
noncomputable def Qkj:=gI λi j=>if 0<=j then some (.int (i / 2^j.toNat))else none
noncomputable def gLt:=gI λi j=>some (.bl (decide (i<j)))
noncomputable def gLe:=gI λi j=>some (.bl (decide (i<=j)))
noncomputable def gGt:=gI λi j=>some (.bl (decide (j<i)))
noncomputable def gGe:=gI λi j=>some (.bl (decide (j<=i)))
theorem QoO(h:gI f a b=some d):∃i j,a= .int i/\b= .int j/\f i j=some d:=by
 unfold gI at h
 split at h
 ·exact⟨_,_,rfl,rfl,h⟩
 ·cases h
section
theorem QeL(hf:∀i j d,f i j=some d->d.flat=true)(h:∀i j d,f i j=some d->∀H (Q:VK),(∀v,(∀H',Rp K H' d v [])->Q v H)->r (.int i) (.int j) H Q):Qbt K (gI f) r:=λa b d e=>by
 obtain⟨i,j,rfl,rfl,ef⟩:=QoO e
 refine⟨hf i j d ef,λH x y F G Q ha hb q=>?_⟩
 rw[ha.int_inv,hb.int_inv]
 exact h i j d ef H Q q
theorem Qpk:Qbt K Qb2 (rI0 λi j=> .int (i-j)):=QeL (λi j d e=>by cases e;rfl) λi j d e H Q q=>by cases e;exact⟨i,j,rfl,rfl,q _ λ_=> .int_mk⟩
theorem Qp2(h:QdV i j=true):IntMulOk i j:=by
 have small:∀k:Int,k.natAbs<2^64->Builtin.Int.intBits k<=64:=λk hk=>by
  unfold Builtin.Int.intBits
  split
  ·omega
  ·rename_i h0;have h0':k.natAbs≠0:=λz=>by simp_all
   have:=(Zcp h0').mpr hk;omega
 unfold QdV at h
 simp only[ZaN,Zk,decide_eq_true_eq]at h
 rcases h with(h | h) | ⟨h1,h2⟩
 ·exact .of_left (small i h)
 ·exact .of_right (small j h)
 ·exact .of_bits h1 h2
theorem QtZ:OpR X (binaryOp .Mult) (rI (λi j=>QdV i j=true) λi j=> .int (i*j)):=opI λ_ _ _ _ _ _ _ hc q=>PyProof.Rows.mul_int q (Qp2 hc)
theorem Qsz:OpR X (binaryOp .FloorDiv) (rI (λi j=>Qdx j=true) λi j=> .int (Qeh i j)):=opI λi j _ _ _ _ _ hc q=>by
 unfold Qdx at hc
 simp only[Zk,decide_eq_true_eq]at hc
 rw[Qm7]at q
 refine PyProof.Rows.floordiv_int hc.1 q (.inl (Zbb ?_))
 have h0:j.natAbs≠0:=by omega
 exact Zcf ((Zcp h0).mpr hc.2) (by decide)
theorem QtU:OpR X (binaryOp .Mod) (rI (λi j=>j≠0) λi j=> .int (Qeq i j)):=opI λi j _ _ _ _ _ hc q=>by
 rw[Qmm]at q
 exact PyProof.Rows.mod_int' hc q
theorem Qur:Qbt K QnO (rI (λi j=>Qdx j=true) λi j=> .int (Qeh i j)):=QeL (λi j d e=>by split at e<;>cases e;rfl) λi j d e H Q q=>by
 split at e
 ·cases e;exact⟨i,j,rfl,rfl,by assumption,q _ λ_=> .int_mk⟩
 ·cases e
theorem QvO:Qbt K Qbz (rI (λi j=>j≠0) λi j=> .int (Qeq i j)):=QeL (λi j d e=>by split at e<;>cases e;rfl) λi j d e H Q q=>by
 split at e
 ·cases e;exact⟨i,j,rfl,rfl,by assumption,q _ λ_=> .int_mk⟩
 ·cases e
theorem Qsu:OpR X (binaryOp .Pow) (rI (λi j=>0<=j/\j<=1000/\i.natAbs<2^200) λi j=> .int (i^j.toNat)):=opI λi j _ _ _ _ _ hc q=>by
 refine PyProof.Rows.pow_int hc.1 ?_ q
 have hb:Builtin.Int.intBits i<=200:=by
  unfold Builtin.Int.intBits
  split
  ·omega
  ·rename_i h0;have h0':i.natAbs≠0:=λz=>by simp_all
   have:=(Zcp h0').mpr hc.2.2;omega
 have h1:((Builtin.Int.intBits i:Nat):Int)*j<=200*1000:=Int.mul_le_mul (by omega) hc.2.1 hc.1 (by decide)
 omega
theorem QvU:Qbt K Qi0 (rI (λi j=>0<=j/\j<=1000/\i.natAbs<2^200) λi j=> .int (i^j.toNat)):=QeL (λi j d e=>by split at e<;>cases e;rfl) λi j d e H Q q=>by
 split at e
 ·rename_i h;cases e;exact⟨i,j,rfl,rfl,h,q _ λ_=> .int_mk⟩
 ·cases e
theorem Qt8:Qbt K Qkj (rI (λ_ j=>0<=j) λi j=> .int (i / 2^j.toNat)):=QeL (λi j d e=>by split at e<;>cases e;rfl) λi j d e H Q q=>by
 split at e
 ·cases e;exact⟨i,j,rfl,rfl,by assumption,q _ λ_=> .int_mk⟩
 ·cases e
theorem Qwg:Qbt K gLt (rI0 λi j=> .bl (decide (i<j))):=QeL (λi j d e=>by cases e;rfl) λi j d e H Q q=>by cases e;exact⟨i,j,rfl,rfl,q _ λ_=> .Qbn⟩
theorem Qv9:Qbt K gLe (rI0 λi j=> .bl (decide (i<=j))):=QeL (λi j d e=>by cases e;rfl) λi j d e H Q q=>by cases e;exact⟨i,j,rfl,rfl,q _ λ_=> .Qbn⟩
theorem Qv4:Qbt K gGt (rI0 λi j=> .bl (decide (j<i))):=QeL (λi j d e=>by cases e;rfl) λi j d e H Q q=>by cases e;exact⟨i,j,rfl,rfl,q _ λ_=> .Qbn⟩
theorem Qwu:Qbt K gGe (rI0 λi j=> .bl (decide (j<=i))):=QeL (λi j d e=>by cases e;rfl) λi j d e H Q q=>by cases e;exact⟨i,j,rfl,rfl,q _ λ_=> .Qbn⟩
end
theorem Qei:∀(xs ys:List D),QG (xs++ys)=(QG xs && QG ys)
 | [],ys=>by simp[QG]
 | x::xs,ys=>by simp[QG,Qei xs ys,Bool.and_assoc]
noncomputable def Qaq(ds:List D)(M:List Nat):R:=if QG ds then⟨.lst ds,true,[]⟩else⟨.lst ds,false,M⟩
section
variable {K:PySem.W.Frag}{H0 H H':Hp}{A0:List Addr}{hs:List (V×D×List Addr)}{ρ:En}{F:Nat->List Addr}{σ:L2.St}
theorem QN.Qaq(s:QD H H1)(hp:H1 p=none)(r:Rps K H1 ds vs G)(hz:ds.length<=sizeLine)(src:Src ρ F H M G)(ow:QaJ ρ M):
  QN K ρ F H (upd H1 p (.lst vs)) (Qaq ds M) (.ref p) (p::G):=by
 have s2:QD H1 (upd H1 p (.lst vs)):=Qb4 hp
 have rp:Rp K (upd H1 p (.lst vs)) (.lst ds) (.ref p) (p::G):=Rp.Qe2 QaF (r.same s2) hz
 have hH:H p=none:=s.free hp
 unfold HS.Qaq
 split
 ·rename_i hf
  have:=r.QaW hf
  subst this
  refine⟨s.trans s2,rp,λa ha=>?_,λ_=>⟨λa=>?_,by simp only[D.nl,Qfm ds hf];rfl⟩,QaJ.nil⟩
  ·have:a=p:=by simpa using ha
   subst this;exact .inl hH
  ·rw[List.count_singleton]
   split
   ·rename_i e;have e':p=a:=by simpa using e
    subst e';rw[QaY hH];omega
   ·omega
 ·refine⟨s.trans s2,rp,λa ha=>?_,λz=>(by cases z),ow⟩
  rcases Zn.mp ha with rfl | h
  ·exact .inl hH
  ·exact src a h
end
noncomputable def QQ(fa fb:DE):DE:=λρ=>(fa ρ).bind λra=>(fb ρ).bind λrb=>match ra.d,rb.d with
 | .int i,.int j=>some ⟨.int (i+j),true,[]⟩
 | .lst xs,.lst ys=>if xs.length+ys.length<=sizeLine then some (Qaq (xs++ys) (ra.M++rb.M))else none
 | _,_=>none
noncomputable def Qau(fa fb:DE):DE:=λρ=>(fa ρ).bind λra=>(fb ρ).bind λrb=>match ra.d,rb.d with
 | .int i,.int j=>if QdV i j then some ⟨.int (i*j),true,[]⟩else none
 | .lst xs,.int j=>if xs.length*j.toNat<=sizeLine/\ -(2^63)<=j/\j<2^63/\QG xs=true then some ⟨.lst (List.replicate j.toNat xs).flatten,true,[]⟩else none
 | _,_=>none
theorem QnB{fa fb:DE}{ρ:En}{k:R->R->Option R}{r:R}(e:((fa ρ).bind λra=>(fb ρ).bind λrb=>k ra rb)=some r):∃ra rb,fa ρ=some ra/\fb ρ=some rb/\k ra rb=some r:=by
 cases h1:fa ρ with
 | none=>rw[h1]at e;cases e
 | some ra=>
  cases h2:fb ρ with
  | none=>rw[h1,h2]at e;cases e
  | some rb=>rw[h1,h2]at e;exact⟨ra,rb,rfl,rfl,e⟩
theorem bind1{α β:Type}{x:Option α}{k:α->Option β}{r:β}(e:x.bind k=some r):∃a,x=some a/\k a=some r:=by
 cases x with
 | none=>cases e
 | some a=>exact⟨a,rfl,e⟩
section
noncomputable def QwI(K:PySem.W.Frag):R2:=λx y H Q=>∃l c xs zs,x= .ref l/\y= .ref c/\(H l=some (.lst xs)∨Fix K H l xs)/\(H c=some (.lst zs)∨Fix K H c zs)/\xs.length+zs.length<=sizeLine/\∀p,H p=none->Q (.ref p) (upd H p (.lst (xs++zs)))
theorem mapR{α γ:Type}{x:Option α}{f:α->γ}{r:γ}{M:γ->Prop}(e:x.map f=some r)(g:∀a,x=some a->M (f a)):M r:=by
 obtain⟨a,h,rfl⟩:=Ze.mp e
 exact g a h
theorem Qf{α β:Type}{x:Option α}{k:α->Option β}{r:β}{G:Prop}(e:x.bind k=some r)(g:∀a,x=some a->k a=some r->G):G:=let ⟨a,h1,h2⟩:=bind1 e;g a h1 h2
theorem Qr4:OpR X (binaryOp .Add) (QwI X.K):=by
 intro pins s σ H x y v u Q I rx ry h
 obtain⟨l,c,xs,zs,rfl,rfl,hH,hB,hz,q⟩:=h
 cases rx
 cases ry
 obtain⟨z,its,n,r,hl,e⟩:=I.QkG hH
 obtain⟨z2,its2,n2,r2,hl2,e2⟩:=I.QkG hB
 refine PySem.P.add_list e e2 ?_ (by rw[Zu,Zu];omega)
 have ea:its.toArray++its2.toArray=(its++its2).toArray:=by simp
 rw[ea]
 exact⟨.ref _,_,I.QvJ (t':=s.toks) (r.append r2) (by rw[Zt];omega),rfl,q _ I.fresh⟩
theorem Qu1(ha:SE X a fa)(hb:SE X b fb):SE X (.BinOp a .Add b pos) (QQ fa fb):=λH0 A0=>
 (Qnp (QuU.or Qr4) (ha H0 A0) (hb H0 A0)).mono λσ H Q=>exK λρ hs F r' rel e q=>by
  obtain⟨ra,rb,ea,eb,ek⟩:=QnB e
  refine two rel ea eb λx y H1 H2 G1 G2 p1 p2=>?_
  have p1':=p1.rp.same p2.same
  have p2':=p2.rp
  have c1:=p1.src.append p2.src p1.same
  have o1:=p1.own.append p2.own
  revert ek
  revert p1' p2'
  cases ra.d<;>cases rb.d<;>intro p1' p2' ek<;>first | (cases ek;done) | skip
  ·cases ek
   rw[p1'.int_inv,p2'.int_inv]
   exact .inl ⟨_,_,rfl,rfl,q _ H2 [] (.flat (p1.same.trans p2.same) .int_mk)⟩
  ·rename_i xs ys
   dsimp only at ek
   split at ek
   ·rename_i hz
    cases ek
    obtain⟨l,vs,L1,rfl,hl,rl,zl,el⟩:=p1'.lst_inv
    obtain⟨c,ws,L2',rfl,hc,rc,zc,ec⟩:=p2'.lst_inv
    have n1:=rl.length
    have n2:=rc.length
    refine .inr ⟨l,c,vs,ws,rfl,rfl,hl,hc,by omega,λp hp=>?_⟩
    refine q _ _ (p::(L1++L2')) (QN.Qaq (p1.same.trans p2.same) hp (rl.append rc) (by rw[Zt];exact hz) (λa ha=>c1 a ?_) o1)
    rcases ZK.mp ha with h | h
    ·refine Zi _ ?_
     rcases el with rfl | rfl
     ·exact Zc _ h
     ·exact h
    ·refine Zl _ ?_
     rcases ec with rfl | rfl
     ·exact Zc _ h
     ·exact h
   ·cases ek
noncomputable def Qv2(K:PySem.W.Frag):R2:=λx y H Q=>∃l k xs,x= .ref l/\y= .int k/\(H l=some (.lst xs)∨Fix K H l xs)/\ -(2^63)<=k/\k<2^63/\xs.length*k.toNat<=sizeLine∧
 ∀p,H p=none->Q (.ref p) (upd H p (.lst (List.replicate k.toNat xs).flatten))
theorem Qsi:OpR X (binaryOp .Mult) (Qv2 X.K):=by
 intro pins s σ H x y v u Q I rx ry h
 obtain⟨l,k,xs,rfl,rfl,hH,h1,h2,hz,q⟩:=h
 cases rx
 obtain⟨t,rfl⟩:=ry
 obtain⟨z,its,n,r,hl,e⟩:=I.QkG hH
 have hlen:its.toArray.size*k.toNat<=sizeLine:=by rw[Zu,← hl];exact hz
 have hcap:¬its.toArray.size*k.toNat>(2^63-1) / 8:=by
  have:(sizeLine:Nat)<=(2^63-1) / 8:=by decide
  omega
 have hfit:¬(!Builtin.List.listFitsIndex k)=true:=by
  rw[fitsIndex_both h1 h2]
  exact Zat
 have hlong:¬Builtin.List.listTooLong (its.toArray.size*k.toNat)=true:=by
  rw[QqE hlen]
  exact Zat
 have hnew:List.foldl (λx1 x2=>x1++x2) #[] (List.replicate (if its.toArray.isEmpty=true then 0 else k.toNat) its.toArray)=(List.replicate k.toNat its).flatten.toArray:=by
  have f0:∀m:Nat,List.foldl (λx1 x2=>x1++x2) #[] (List.replicate m its.toArray)=(List.replicate m its).flatten.toArray:=λm=>by
   have:=foldl_rep its m []
   rw[ZbB]at this
   exact this
  rw[f0]
  cases its with
  | nil=>simp
  | cons a r'=>rw[if_neg (by simp)]
 open PyProof.Rows in
 refine wpAny_binaryOp_repeat_ref (by decide) ⟨_,e,rfl⟩ (λs'=>typeIs_int s' k t) noFill_list_mul F.fills_int_mul F.slot_int_rmul repeat_list F.slot_int_index.lookup
  (call_meets F.slot_int_rmul (typeIs_int s k t) F.entry_int_rmul (F.args_int_rmul_2 _ _) (int___rmul___int_list k t l its.toArray n)
   ⟨e,rfl,⟨_,e,rfl⟩,call_meets F.slot_list_mul ⟨_,e,rfl⟩ F.entry_list_mul (F.args_list_mul_2 _ _) (AutoListH.list___mul___list_int_3 l its.toArray n k t hfit hcap hlong) ⟨e,?_⟩⟩)
 rw[hnew]
 exact⟨.ref _,_,I.QvJ (t':=s.toks) (r.rep k.toNat) (by rw[len_rep,Nat.mul_comm];exact hz),rfl,q _ I.fresh⟩
theorem Qjh(h:QG xs=true):∀n:Nat,QG (List.replicate n xs).flatten=true
 | 0=>by simp[QG]
 | n+1=>by rw[Zak,Zar,Qei,h,Qjh h n];rfl
theorem Rps.rep(h:Rps K H ds vs []):∀n:Nat,Rps K H (List.replicate n ds).flatten (List.replicate n vs).flatten []
 | 0=>by simp[Rps]
 | n+1=>by rw[Zak,Zar,Zak,Zar];exact h.append (Rps.rep h n)
theorem Qvu(ha:SE X a fa)(hb:SE X b fb):SE X (.BinOp a .Mult b pos) (Qau fa fb):=λH0 A0=>
 (Qnp (QtZ.or Qsi) (ha H0 A0) (hb H0 A0)).mono λσ H Q=>exK λρ hs F r' rel e q=>by
  obtain⟨ra,rb,ea,eb,ek⟩:=QnB e
  refine two rel ea eb λx y H1 H2 G1 G2 p1 p2=>?_
  have p1':=p1.rp.same p2.same
  have p2':=p2.rp
  revert ek
  revert p1' p2'
  cases ra.d<;>cases rb.d<;>intro p1' p2' ek<;>first | (cases ek;done) | skip
  ·dsimp only at ek
   split at ek
   ·rename_i hm
    cases ek
    rw[p1'.int_inv,p2'.int_inv]
    exact .inl ⟨_,_,rfl,rfl,hm,q _ H2 [] (.flat (p1.same.trans p2.same) .int_mk)⟩
   ·cases ek
  ·rename_i xs j
   dsimp only at ek
   split at ek
   ·rename_i hz
    cases ek
    obtain⟨hz1,hz2,hz3,hf⟩:=hz
    obtain⟨l,vs,L1,rfl,hl,rl,zl,el⟩:=p1'.lst_inv
    have n1:=rl.length
    have e0:=rl.QaW hf
    subst e0
    rw[p2'.int_inv]
    refine .inr ⟨l,j,vs,rfl,rfl,hl,hz2,hz3,by rw[← n1];exact hz1,λp hp=>?_⟩
    have w:HS.Qaq (List.replicate j.toNat xs).flatten []=⟨.lst (List.replicate j.toNat xs).flatten,true,[]⟩:=by
     unfold HS.Qaq;rw[if_pos (Qjh hf _)]
    rw[← w]at q
    exact q _ _ (p::[]) (QN.Qaq (p1.same.trans p2.same) hp (rl.rep _) (by rw[len_rep,Nat.mul_comm];exact hz1) Src.nil QaJ.nil)
   ·cases ek
end
end HS
namespace HS
open PySem PySem.Spec L2
noncomputable def Qg:DA:=λ_=>some ⟨[],true,[]⟩
noncomputable def Qb(fa:DE)(fr:DA):DA:=λρ=>(fa ρ).bind λr=>(fr ρ).bind λrs=>some ⟨r.d::rs.ds,r.fr && rs.fr,r.M++rs.M⟩
noncomputable def Qbu(fa:DA):DE:=λρ=>(fa ρ).bind λr=>if r.ds.length<=64 then some ⟨.tup r.ds,r.fr,r.M⟩else none
noncomputable def Q1(fa:DA):DE:=λρ=>(fa ρ).bind λr=>if r.ds.length<=64 then some ⟨.lst r.ds,r.fr,r.M⟩else none
section
variable {X:Cx}{a b e:Expr}{es:List Expr}{fa fb:DE}{fs:DA}{pos:Pos}
theorem QhN:SA X [] Qg:=λH0 A0=>Qa2.mono λσ H Q=>exK λρ hs F r' rel e q=>by
 cases e
 exact q [] H [] ⟨QD.refl _,by simp[Rps],Src.nil,λ_=>⟨Cnt.nil,rfl⟩,QaJ.nil⟩
theorem Qfb(ha:SE X e fa)(hr:SA X es fs)(hs:starEach (e::es) X.env=(false,eval e X.env)::starEach es X.env):SA X (e::es) (Qb fa fs):=λH0 A0=>
 (Q5 (ha H0 A0) (hr H0 A0) hs).mono λσ H Q=>exK λρ hs F r' rel e q=>by
  refine Qf e λr e1 e=>?_
  refine Qf e λrs e2 e=>?_
  cases e
  refine⟨ρ,hs,F,r,rel,e1,λx H1 G1 p1=>⟨ρ,hs,F,rs,rel.ext p1.same,e2,λxs H2 G2 p2=>?_⟩⟩
  refine q _ H2 (G1++G2) ⟨p1.same.trans p2.same,?_,p1.src.append p2.src p1.same,λh=>?_,p1.own.append p2.own⟩
  ·simp only[Rps]
   exact⟨x,xs,G1,G2,rfl,rfl,p1.rp.same p2.same,p2.rp⟩
  ·simp only[Zk]at h
   exact⟨(p1.cnt h.1).1.append rel (p2.cnt h.2).1 p1.same p1.rp.mem,by simp only[nls,Zt,(p1.cnt h.1).2,(p2.cnt h.2).2]⟩
theorem Qfv{n:Nat}(h:n<=64):n<=sizeLine:=ZM h (by decide)
theorem QuP{k:Nat}(ha:SA X es fs):SE X (.Tuple es k pos) (Qbu fs):=λH0 A0=>
 (Qvg (ha H0 A0)).mono λσ H Q=>exK λρ hs F r' rel e q=>by
  refine Qf e λr e1 e=>?_
  split at e
  ·rename_i hz
   cases e
   refine⟨ρ,hs,F,r,rel,e1,λxs H1 G p=>⟨by rw[← p.rp.length];exact Qfv hz,λc hc=>q _ _ G ⟨p.same.trans (Qb4 hc),Rp.QhX QaF (p.rp.same (Qb4 hc)),p.src,λh=>⟨(p.cnt h).1,by simp only[D.nl];exact(p.cnt h).2⟩,p.own⟩⟩⟩
  ·cases e
theorem QoP(ha:SA X es fs):SE X (.List es pos) (Q1 fs):=λH0 A0=>
 (QvP (ha H0 A0)).mono λσ H Q=>exK λρ hs F r' rel e q=>by
  refine Qf e λr e1 e=>?_
  split at e
  ·rename_i hz
   cases e
   refine⟨ρ,hs,F,r,rel,e1,λxs H1 G p=>⟨by rw[← p.rp.length];exact Qfv hz,λc hc=>?_⟩⟩
   have hH:H c=none:=p.same.free hc
   refine q _ _ (c::G) ⟨p.same.trans (Qb4 hc),Rp.Qe2 QaF (p.rp.same (Qb4 hc)) (Qfv hz),λz hz'=>?_,λh=>⟨λz=>?_,by simp only[D.nl,Zo,(p.cnt h).2]⟩,p.own⟩
   ·rcases Zn.mp hz' with rfl | h
    ·exact .inl hH
    ·exact p.src z h
   ·rw[ZaO]
    have:=(p.cnt h).1 z
    split
    ·rename_i e'
     have e':c=z:=by simpa using e'
     subst e'
     have h0:G.count c=0:=Zab.mpr λhm=>by obtain⟨vs,w⟩:=p.rp.mem c hm;rw[hc]at w;cases w
     rw[QaY hH];omega
    ·exact this
  ·cases e
noncomputable def D.items:D->Option (List D)
 | .lst xs=>some xs
 | .tup xs=>some xs
 | _=>none
noncomputable def Qi(fa fb:DE):DE:=λρ=>(fa ρ).bind λra=>(fb ρ).bind λrb=>match rb.d with
 | .int i=>(ra.d.items).bind λxs=>(atI xs i).map λd=>(R.norm ⟨d,ra.fr,ra.M⟩)
 | _=>none
theorem Qsr{α β:Type}{xs:List α}{i:Int}{d:α}(h:atI xs i=some d):∃j:Nat,xs[j]? =some d/\∀(ys:List β),ys.length=xs.length->∀y,ys[j]? =some y->atI ys i=some y:=by
 unfold atI at h
 cases e:ixN xs.length i with
 | none=>rw[e]at h;cases h
 | some j=>
  rw[e]at h
  refine⟨j,h,λys hl y hy=>?_⟩
  unfold atI
  rw[hl,e]
  exact hy
theorem Quh(ha:SE X a fa)(hb:SE X b fb)(hs:QgB b):SE X (.Subscript a b pos) (Qi fa fb):=λH0 A0=>
 (QrM (QmZ.or QpI) (ha H0 A0) (hb H0 A0) hs).mono λσ H Q=>exK λρ hs F r' rel e q=>by
  obtain⟨ra,rb,ea,eb,ek⟩:=QnB e
  refine two rel ea eb λx y H1 H2 G1 G2 p1 p2=>?_
  have p1':=p1.rp.same p2.same
  have p2':=p2.rp
  have pp:QN X.K ρ F H H2 ra x G1:=⟨p1.same.trans p2.same,p1',p1.src,p1.cnt,p1.own⟩
  cases hb':rb.d with
  | int i=>
   rw[hb']at ek p2'
   rw[p2'.int_inv]
   refine Qf ek λxs ex ek=>?_
   obtain⟨d,ed,ek⟩:=Ze.mp ek
   subst ek
   obtain⟨j,hj,hm⟩:=Qsr ed
   have fin:∀(L:List Addr) (vs:List V),Rps X.K H2 xs vs L->(∀z,L.count z<=G1.count z)->(G1.length=ra.d.nl->L.length=nls xs)->∃v,atI vs i=some v/\Q v H2:=λL vs rl hc hn=>by
    obtain⟨v,F1,G,F2,hv,eF,rv,hx⟩:=rl.get hj
    refine⟨v,hm vs rl.length.symm v hv,q v H2 G (QN.norm (QN.sub pp rv (λz=>ZM ?_ (hc z)) λz=>hx (hn z)))⟩
    rw[eF,Zal,Zal];omega
   cases hra:ra.d with
   | lst ys=>
    rw[hra]at ex p1'
    cases ex
    obtain⟨l,vs,L,rfl,hl,rl,zl,el⟩:=p1'.lst_inv
    have hn:G1.length=ra.d.nl->L.length=nls xs:=λhz=>by
     have:=rl.Qax
     simp only[hra,D.nl]at hz
     rcases el with rfl | rfl
     ·rw[Zo]at hz;omega
     ·omega
    have hc:∀z,L.count z<=G1.count z:=λz=>by
     rcases el with rfl | rfl
     ·rw[ZaO];omega
     ·exact Zq _
    obtain⟨v,h1,h2⟩:=fin L vs rl hc hn
    exact .inl ⟨l,vs,i,v,rfl,rfl,QK hl,h1,h2⟩
   | tup ys=>
    rw[hra]at ex p1'
    cases ex
    obtain⟨l,vs,rfl,hl,rl⟩:=p1'.QaB
    obtain⟨v,h1,h2⟩:=fin G1 vs rl (λz=>Zq _) λz=>(by simpa only[hra,D.nl]using z)
    exact .inr ⟨l,vs,i,v,rfl,rfl,hl,h1,h2⟩
   | _=>rw[hra]at ex;cases ex
  | _=>rw[hb']at ek;cases ek
noncomputable abbrev DO:=En->Option (Option Int)
noncomputable def QdU:DO:=λ_=>some none
noncomputable def Qa6(f:DE):DO:=λρ=>(f ρ).bind λr=>match r.d with
 | .int i=>some (some i)
 | _=>none
noncomputable def tVO(K:PySem.W.Frag)(H0:Hp)(A0:List Addr)(f:DO):TO:=λσ H Q=>∃ρ hs F o,Rel K H0 A0 hs ρ F σ H/\f ρ=some o/\∀H',QD H H'->Q o H'
def SO(X:Cx)(e:Option Expr)(f:DO):Prop:=∀H0 A0,PO X e (tVO X.K H0 A0 f)
theorem _root_.L2.PO.mono{X:Cx}{e:Option Expr}{t t':TO}(h:PO X e t)(m:∀σ H Q,t' σ H Q->t σ H Q):PO X e t':=by
 intro pins s σ H Q I q
 exact h pins s σ H Q I (m σ H Q q)
theorem Qse:SO X none QdU:=λH0 A0=>Qs6.mono λσ H Q=>exK λρ hs F o rel e q=>by
 cases e
 exact q H (QD.refl _)
theorem QrX(h:SE X a fa):SO X (some a) (Qa6 fa):=λH0 A0=>(QrW (h H0 A0)).mono λσ H Q=>exK λρ hs F o rel e q=>by
 refine Qf e λr e1 e=>?_
 refine⟨ρ,hs,F,r,rel,e1,λv H1 G p=>?_⟩
 have rp:=p.rp
 cases hr:r.d with
 | int i=>
  rw[hr]at e rp
  cases e
  exact⟨i,rp.int_inv,q H1 p.same⟩
 | _=>rw[hr]at e;cases e
noncomputable def cutD(xs:List D)(lo hi:Option Int):List D:=(xs.drop (HT.sIx xs.length 0 lo)).take (HT.sIx xs.length xs.length hi-HT.sIx xs.length 0 lo)
noncomputable def Qc7(fa:DE)(lo hi:DO):DE:=λρ=>(fa ρ).bind λra=>(lo ρ).bind λl=>(hi ρ).bind λh=>match ra.d with
 | .lst xs=>some (Qaq (cutD xs l h) ra.M)
 | _=>none
theorem Rps.drop:∀{ds:List D}{vs:List V}{F:List Addr}{K:PySem.W.Frag}{H:Hp}(n:Nat),Rps K H ds vs F->∃G,Rps K H (ds.drop n) (vs.drop n) G/\∀a∈G,a∈F
 | [],vs,F,K,H,n,h=>by simp only[Rps]at h;rw[h.1,h.2];exact⟨[],by simp[Rps],λ_ h=>h⟩
 | d::ds,vs,F,K,H,0,h=>⟨F,by simpa using h,λ_ h=>h⟩
 | d::ds,vs,F,K,H,n+1,h=>by
  simp only[Rps]at h
  obtain⟨v,ws,F1,F2,e,eF,r,q⟩:=h
  subst e eF
  obtain⟨G,h1,h2⟩:=Rps.drop n q
  exact⟨G,by simpa using h1,λa ha=>Zl _ (h2 a ha)⟩
theorem Rps.take:∀{ds:List D}{vs:List V}{F:List Addr}{K:PySem.W.Frag}{H:Hp}(n:Nat),Rps K H ds vs F->∃G,Rps K H (ds.take n) (vs.take n) G/\∀a∈G,a∈F
 | [],vs,F,K,H,n,h=>by simp only[Rps]at h;rw[h.1,h.2];exact⟨[],by simp[Rps],λ_ h=>h⟩
 | d::ds,vs,F,K,H,0,h=>⟨[],by simp[Rps],λ_ h=>by simp at h⟩
 | d::ds,vs,F,K,H,n+1,h=>by
  simp only[Rps]at h
  obtain⟨v,ws,F1,F2,e,eF,r,q⟩:=h
  subst e eF
  obtain⟨G,h1,h2⟩:=Rps.take n q
  refine⟨F1++G,?_,λa ha=>?_⟩
  ·simp only[ZbC,Rps]
   exact⟨v,_,F1,G,rfl,rfl,r,h1⟩
  ·rcases ZK.mp ha with h | h
   ·exact Zi _ h
   ·exact Zl _ (h2 a h)
theorem QuY{lo hi:Option Expr}{fl fh:DO}{p2:Pos}(ha:SE X a fa)(hl:SO X lo fl)(hh:SO X hi fh):SE X (.Subscript a (.Slice lo hi none p2) pos) (Qc7 fa fl fh):=λH0 A0=>
 (QrD Qtq (ha H0 A0) (hl H0 A0) (hh H0 A0)).mono λσ H Q=>exK λρ hs F r' rel e q=>by
  refine Qf e λra e1 e=>?_
  refine Qf e λl e2 e=>?_
  refine Qf e λh e3 e=>?_
  refine⟨ρ,hs,F,ra,rel,e1,λx H1 G1 p1=>⟨ρ,hs,F,l,rel.ext p1.same,e2,λH2 s2=>⟨ρ,hs,F,h,(rel.ext p1.same).ext s2,e3,λH3 s3=>?_⟩⟩⟩
  have rp:=p1.rp.same (s2.trans s3)
  cases hra:ra.d with
  | lst xs=>
   rw[hra]at e rp
   cases e
   obtain⟨c,vs,L,rfl,hc,rl,zl,el⟩:=rp.lst_inv
   refine⟨c,vs,rfl,QK hc,λp hp=>?_⟩
   obtain⟨G2,h2,m2⟩:=rl.drop (HT.sIx xs.length 0 l)
   obtain⟨G3,h3,m3⟩:=h2.take (HT.sIx xs.length xs.length h-HT.sIx xs.length 0 l)
   have n1:=rl.length
   rw[show QiY vs l h=(vs.drop (HT.sIx xs.length 0 l)).take (HT.sIx xs.length xs.length h-HT.sIx xs.length 0 l) by unfold QiY;rw[n1]]
   refine q _ _ (p::G3) (QN.Qaq (p1.same.trans (s2.trans s3)) hp h3 ?_ (λz hz=>p1.src z ?_) p1.own)
   ·unfold cutD;rw[Zah,Zan];omega
   ·have:=m2 z (m3 z hz)
    rcases el with rfl | rfl
    ·exact Zc _ this
    ·exact this
  | _=>rw[hra]at e;cases e
noncomputable def dBf(g:List D->Option D)(fs:DA):DE:=λρ=>(fs ρ).bind λr=>(g r.ds).map λd=>⟨d,true,[]⟩
def QdH(K:PySem.W.Frag)(g:List D->Option D)(r:List V->Hp->VK->Prop):Prop:=∀ds d,g ds=some d->d.flat=true/\∀H vs F (Q:VK),Rps K H ds vs F->(∀v,(∀H',Rp K H' d v [])->Q v H)->r vs H Q
theorem QfE{x:Str}{id:String}{g:List D->Option D}{r:List V->Hp->VK->Prop}{p:Pos}(hc:Qa5 X (.builtin id) r)(hk:QdH X.K g r)(hg:Gl X x)(hm:X.mg x=none)(hv:bootBuiltins x=some (.builtin id))(ha:SA X (e::es) fs)(hn:x≠ "__name__")(hdb:(x == ("__debug__" :Str))=false)
  (he:starEach (e::es) X.env=(false,eval e X.env)::starEach es X.env) (hpl:(backTo pos (starEach es X.env)).any (·.1)=false):SE X (.Call (.Name x p) (e::es) [] pos) (dBf g fs):=λH0 A0=>
 (Qfy hc hg hm hv (ha H0 A0) hn hdb he hpl).mono λσ H Q=>exK λρ hs F r' rel e q=>by
  refine Qf e λra e1 e=>?_
  obtain⟨d,ed,e⟩:=Ze.mp e
  subst e
  exact⟨ρ,hs,F,ra,rel,e1,λvs H1 G p1=>(hk _ _ ed).2 H1 vs G Q p1.rp λv hv=>q v H1 [] (.flat p1.same (hv _) (hk _ _ ed).1)⟩
theorem Rps.one{K:PySem.W.Frag}{H:Hp}{d:D}{vs:List V}{F:List Addr}(h:Rps K H [d] vs F):∃v,vs=[v]/\Rp K H d v F:=by
 simp only[Rps]at h
 obtain⟨v,ws,F1,F2,rfl,rfl,r,rfl,rfl⟩:=h
 exact⟨v,rfl,by simpa using r⟩
theorem Rps.two{K:PySem.W.Frag}{H:Hp}{d e:D}{vs:List V}{F:List Addr}(h:Rps K H [d,e] vs F):∃v w F1 F2,vs=[v,w]/\Rp K H d v F1/\Rp K H e w F2:=by
 simp only[Rps]at h
 obtain⟨v,ws,F1,F2,rfl,rfl,r,w,ws',F3,F4,rfl,rfl,r2,rfl,rfl⟩:=h
 exact⟨v,w,F1,F3,rfl,r,r2⟩
noncomputable def QaS:List D->Option D
 | [.lst xs]=>some (.int xs.length)
 | [.tup xs]=>some (.int xs.length)
 | _=>none
theorem Quy{K:PySem.W.Frag}:QdH K QaS (λxs H Q=>∃p ys,xs=[.ref p]/\(SqL K H p ys∨SqT K H p ys)/\Q (.int ys.length) H):=λds d e=>by
 unfold QaS at e
 split at e
 ·cases e
  refine⟨rfl,λH vs F Q r q=>?_⟩
  obtain⟨v,rfl,rp⟩:=r.one
  obtain⟨l,ws,L,rfl,hl,rl,zl,el⟩:=rp.lst_inv
  exact⟨l,ws,rfl,.inl (QK hl),by rw[← rl.length];exact q _ λ_=> .int_mk⟩
 ·cases e
  refine⟨rfl,λH vs F Q r q=>?_⟩
  obtain⟨v,rfl,rp⟩:=r.one
  obtain⟨l,ws,rfl,hl,rl⟩:=rp.QaB
  exact⟨l,ws,rfl,.inr hl,by rw[← rl.length];exact q _ λ_=> .int_mk⟩
 ·cases e
noncomputable def QeB:List D->Option D
 | [.int i,.int j]=>some (.int (if j<i then j else i))
 | _=>none
theorem Qs8{K:PySem.W.Frag}:QdH K QeB (λxs H Q=>∃i j,xs=[.int i,.int j]/\Q (.int (if j<i then j else i)) H):=λds d e=>by
 unfold QeB at e
 split at e
 ·cases e
  refine⟨rfl,λH vs F Q r q=>?_⟩
  obtain⟨v,w,F1,F2,rfl,r1,r2⟩:=r.two
  exact⟨_,_,by rw[r1.int_inv,r2.int_inv],q _ λ_=> .int_mk⟩
 ·cases e
noncomputable def dList(fs:DA):DE:=λρ=>(fs ρ).bind λr=>match r.ds with
 | [.lst xs]=>some (Qaq xs r.M)
 | [.tup xs]=>if xs.length<=sizeLine then some (Qaq xs r.M)else none
 | _=>none
theorem QsW{p:Pos}(hg:Gl X "list")(hm:X.mg "list" =none)(ha:SA X (e::es) fs)(he:starEach (e::es) X.env=(false,eval e X.env)::starEach es X.env)(hpl:(backTo pos (starEach es X.env)).any (·.1)=false):
  SE X (.Call (.Name "list" p) (e::es) [] pos) (dList fs):=λH0 A0=>
 (Qjq Qgb hg hm Zbk (ha H0 A0) (by decide) (by decide) he hpl).mono λσ H Q=>exK λρ hs F r' rel e q=>by
  refine Qf e λra e1 e=>?_
  refine⟨ρ,hs,F,ra,rel,e1,λvs H1 G p1=>?_⟩
  have rp:=p1.rp
  have src:=p1.src
  split at e
  ·rename_i xs hds
   cases e
   rw[hds]at rp
   obtain⟨v,rfl,rq⟩:=rp.one
   obtain⟨l,ws,L,rfl,hl,rl,zl,el⟩:=rq.lst_inv
   refine⟨l,ws,rfl,.inl (QK hl),λc hc=>q _ _ (c::L) (QN.Qaq p1.same hc rl zl (λz hz=>src z ?_) p1.own)⟩
   rcases el with rfl | rfl
   ·exact Zc _ hz
   ·exact hz
  ·rename_i xs hds
   split at e
   ·rename_i hz
    cases e
    rw[hds]at rp
    obtain⟨v,rfl,rq⟩:=rp.one
    obtain⟨l,ws,rfl,hl,rl⟩:=rq.QaB
    exact⟨l,ws,rfl,.inr hl,λc hc=>q _ _ (c::G) (QN.Qaq p1.same hc rl hz src p1.own)⟩
   ·cases e
  ·cases e
end
end HS
namespace HS
open PySem PySem.Spec L2
mutual
noncomputable def D.py:D->PyData
 | .non=> .none
 | .bl b=> .bool b
 | .int i=> .int i
 | .str x=> .str x
 | .tup xs=> .tuple (pys xs)
 | .lst xs=> .list (pys xs)
 | .exc _=> .none
noncomputable def pys:List D->List PyData
 | []=>[]
 | d::ds=>d.py::pys ds
end
theorem QmB:∀ds:List D,pys ds=ds.map D.py
 | []=>rfl
 | d::ds=>by simp[pys,QmB ds]
noncomputable def D.sim:Nat->D->Bool
 | _,.non=>true
 | _,.bl _=>true
 | _,.int _=>true
 | _,.str x=>PyData.canLay0 (.str x)
 | 0,.tup xs=>xs.isEmpty
 | 0,.lst xs=>xs.isEmpty
 | n+1,.tup xs=>xs.all (D.sim n)
 | n+1,.lst xs=>xs.all (D.sim n)
 | _,.exc _=>false
theorem Qeo:∀{ds:List D},(∀d∈ds,d.py.canLay0=true)->PyData.canLayAll0 (pys ds)=true
 | [],_=>rfl
 | d::ds,h=>by
  simp only[pys,PyData.canLayAll0,Zk]
  exact⟨h d Zh,Qeo λe he=>h e (Zc _ he)⟩
theorem QeU:∀{ds:List D},(∀d∈ds,d.py.depth<=n)->PyData.depthAll (pys ds)<=n
 | [],_=>ZZ _
 | d::ds,h=>by
  simp only[pys,PyData.depthAll]
  exact Nat.max_le.mpr ⟨h d Zh,QeU λe he=>h e (Zc _ he)⟩
theorem QbG:∀(n:Nat) (d:D),d.sim n=true->d.py.canLay0=true/\d.py.depth<=n+1
 | n,.exc _,h=>by cases n<;>cases h
 | n,.non,_=>by simp[D.py,PyData.canLay0,PyData.depth]
 | n,.bl _,_=>by simp[D.py,PyData.canLay0,PyData.depth]
 | n,.int _,_=>by simp[D.py,PyData.canLay0,PyData.depth]
 | n,.str x,h=>by
  simp only[D.py,PyData.depth]
  refine⟨?_,ZZ _⟩
  cases n<;>exact h
 | 0,.tup xs,h=>by
  have:xs=[]:=by simpa[D.sim]using h
  subst this
  simp[D.py,pys,PyData.canLay0,PyData.canLayAll0,PyData.depth,PyData.depthAll]
 | 0,.lst xs,h=>by
  have:xs=[]:=by simpa[D.sim]using h
  subst this
  simp[D.py,pys,PyData.canLay0,PyData.canLayAll0,PyData.depth,PyData.depthAll]
 | n+1,.tup xs,h=>by
  simp only[D.sim,Zaa]at h
  simp only[D.py,PyData.canLay0,PyData.depth]
  exact⟨Qeo λd hd=>(QbG n d (h d hd)).1,Zbw (QeU λd hd=>(QbG n d (h d hd)).2) 1⟩
 | n+1,.lst xs,h=>by
  simp only[D.sim,Zaa]at h
  simp only[D.py,PyData.canLay0,PyData.depth]
  exact⟨Qeo λd hd=>(QbG n d (h d hd)).1,Zbw (QeU λd hd=>(QbG n d (h d hd)).2) 1⟩
noncomputable def deq(a b:D):Bool:=PyData.eqv a.py b.py
theorem QpP(h:d.sim n=true):deq d d=true:=SeqAt.eqv_refl _ (QbG n d h).1
mutual
noncomputable def D.noX:D->Bool
 | .exc _=>false
 | .tup xs=>Qhi xs
 | .lst xs=>Qhi xs
 | .non=>true
 | .bl _=>true
 | .int _=>true
 | .str _=>true
noncomputable def Qhi:List D->Bool
 | []=>true
 | d::ds=>d.noX && Qhi ds
end
theorem QiX:∀{ds:List D},(∀d∈ds,d.noX=true)->Qhi ds=true
 | [],_=>rfl
 | d::ds,h=>by
  simp only[Qhi,Zk]
  exact⟨h d Zh,QiX λe he=>h e (Zc _ he)⟩
theorem Qcm:∀(n:Nat) (d:D),d.sim n=true->d.noX=true
 | n,.exc _,h=>by cases n<;>cases h
 | n,.non,_=>rfl
 | n,.bl _,_=>rfl
 | n,.int _,_=>rfl
 | n,.str x,_=>rfl
 | 0,.tup xs,h=>by
  have:xs=[]:=by simpa[D.sim]using h
  subst this;rfl
 | 0,.lst xs,h=>by
  have:xs=[]:=by simpa[D.sim]using h
  subst this;rfl
 | n+1,.tup xs,h=>by
  simp only[D.sim,Zaa]at h
  simp only[D.noX]
  exact QiX λd hd=>Qcm n d (h d hd)
 | n+1,.lst xs,h=>by
  simp only[D.sim,Zaa]at h
  simp only[D.noX]
  exact QiX λd hd=>Qcm n d (h d hd)
section
variable {X:Cx}{pins:List (Addr×Obj)}{σ:L2.St}{H:Hp}{s:Shared}
mutual
theorem Rp.reads(I:Inv X pins σ H s):∀{d:D}{v:V}{F:List Addr}{u:Value},d.noX=true->Rp X.K H d v F->RelV v u->∃as,Reads s.heap u d.py as
 | .exc _,v,_,u,hx,h,r=>by cases hx
 | .non,v,_,u,hx,h,r=>by
  rw[h.Qd6]at r
  cases(show u=Value.none from r)
  exact⟨_,.none⟩
 | .bl b,v,_,u,hx,h,r=>by
  rw[h.QcO]at r
  cases(show u=Value.bool b from r)
  exact⟨_,.bool b⟩
 | .int i,v,_,u,hx,h,r=>by
  rw[h.int_inv]at r
  obtain⟨t,rfl⟩:=(show ∃t,u=Value.int i t from r)
  exact⟨_,.int i t⟩
 | .str i,v,_,u,hx,h,r=>by
  rw[h.str_inv]at r
  obtain⟨t,rfl⟩:=(show ∃t,u=Value.str i t from r)
  exact⟨_,.str i t⟩
 | .tup ds,v,_,u,hx,h,r=>by
  obtain⟨a,vs,rfl,hq,rs⟩:=h.QaB
  cases(show u=Value.ref a from r)
  obtain⟨its,rv,⟨o,h1,h2,n,h3⟩,_⟩:=I.tuple hq
  obtain⟨as,ra⟩:=Rps.reads I (by simpa only[D.noX]using hx) rs rv
  exact⟨_,.tuple h1 h2 h3 (by simpa using ra)⟩
 | .lst ds,v,_,u,hx,h,r=>by
  simp only[Rp]at h
  obtain⟨hz,a,vs,rfl,h⟩:=h
  have key:∃G,(H a=some (.lst vs)∨Fix X.K H a vs)/\Rps X.K H ds vs G:=by
   rcases h with⟨G,_,q,rs⟩ | ⟨q,rs⟩
   ·exact⟨G,.inl q,rs⟩
   ·exact⟨_,.inr q,rs⟩
  obtain⟨G,hq,rs⟩:=key
  cases(show u=Value.ref a from r)
  obtain⟨_,its,n,rv,_,e⟩:=I.QkG hq
  obtain⟨as,ra⟩:=Rps.reads I (by simpa only[D.noX]using hx) rs rv
  exact⟨_,.list e rfl rfl (by simpa using ra)⟩
theorem Rps.reads(I:Inv X pins σ H s):∀{ds:List D}{vs:List V}{F:List Addr}{us:List Value},Qhi ds=true->Rps X.K H ds vs F->Qt vs us->∃as,ReadsAll s.heap us (pys ds) as
 | [],vs,_,us,_,h,r=>by
  simp only[Rps]at h
  rw[h.1]at r
  cases r
  exact⟨_,.nil⟩
 | d::ds,vs,_,us,hx,h,r=>by
  simp only[Qhi,Zk]at hx
  simp only[Rps]at h
  obtain⟨v,ws,F1,F2,rfl,rfl,h1,h2⟩:=h
  cases r with
  | cons r rr=>
   obtain⟨as,ra⟩:=Rp.reads I hx.1 h1 r
   obtain⟨bs,rb⟩:=Rps.reads I hx.2 h2 rr
   exact⟨_,.cons ra rb⟩
end
end
noncomputable def gEq(a b:D):Option D:=if a.sim 8 && b.sim 8 then some (.bl (deq a b))else none
noncomputable def gNe(a b:D):Option D:=if a.sim 8 && b.sim 8 then some (.bl (!deq a b))else none
noncomputable def gIn(neg:Bool)(a b:D):Option D:=match b with
 | .lst xs=>if a.sim 8 && b.sim 8 then some (.bl (if neg then !(xs.any λy=>deq y a)else xs.any λy=>deq y a))else none
 | .tup xs=>if a.sim 8 && b.sim 8 then some (.bl (if neg then !(xs.any λy=>deq y a)else xs.any λy=>deq y a))else none
 | _=>none
noncomputable def Qvx(K:PySem.W.Frag):R2:=λx y H Q=>∃a b F G,Rp K H a x F/\Rp K H b y G/\a.sim 8=true/\b.sim 8=true/\Q (.bl (deq a b)) H
noncomputable def Qvn(K:PySem.W.Frag):R2:=λx y H Q=>∃a b F G,Rp K H a x F/\Rp K H b y G/\a.sim 8=true/\b.sim 8=true/\Q (.bl (!deq a b)) H
section
variable {X:Cx}
theorem Qu9(hu:X.A.units+64<cLine):OpR X (compareOp .Eq) (Qvx X.K):=by
 intro pins s σ H x y v u Q I rx ry h
 obtain⟨a,b,F,G,ha,hb,sa,sb,q⟩:=h
 obtain⟨as,ra⟩:=Rp.reads I (Qcm 8 _ sa) ha rx
 obtain⟨bs,rb⟩:=Rp.reads I (Qcm 8 _ sb) hb ry
 have h1:=QbG 8 a sa
 have h2:=QbG 8 b sb
 exact SeqAt.compareEq_reads ra rb h1.1 h2.1 (by have:=Nat.min_le_left a.py.depth b.py.depth;omega) ⟨.bl _,H,I,rfl,q⟩
theorem QuV(hu:X.A.units+64<cLine):OpR X (compareOp .NotEq) (Qvn X.K):=by
 intro pins s σ H x y v u Q I rx ry h
 obtain⟨a,b,F,G,ha,hb,sa,sb,q⟩:=h
 obtain⟨as,ra⟩:=Rp.reads I (Qcm 8 _ sa) ha rx
 obtain⟨bs,rb⟩:=Rp.reads I (Qcm 8 _ sb) hb ry
 have h1:=QbG 8 a sa
 have h2:=QbG 8 b sb
 exact SeqAt.compareNe_reads ra rb h1.1 h2.1 (by have:=Nat.min_le_left a.py.depth b.py.depth;omega) ⟨.bl _,H,I,rfl,q⟩
theorem QwN:Qbt K gEq (Qvx K):=λa b d e=>by
 unfold gEq at e
 split at e
 ·rename_i h
  simp only[Zk]at h
  cases e
  exact⟨rfl,λH x y F G Q ha hb q=>⟨a,b,F,G,ha,hb,h.1,h.2,q _ λ_=> .Qbn⟩⟩
 ·cases e
theorem QwE:Qbt K gNe (Qvn K):=λa b d e=>by
 unfold gNe at e
 split at e
 ·rename_i h
  simp only[Zk]at h
  cases e
  exact⟨rfl,λH x y F G Q ha hb q=>⟨a,b,F,G,ha,hb,h.1,h.2,q _ λ_=> .Qbn⟩⟩
 ·cases e
noncomputable def Qq5(K:PySem.W.Frag)(neg:Bool):R2:=λx y H Q=>∃a b F G xs,Rp K H a x F/\Rp K H b y G/\a.sim 8=true/\b.sim 8=true/\(b= .lst xs∨b= .tup xs)/\Q (.bl (if neg then !(xs.any λy=>deq y a)else xs.any λy=>deq y a)) H
theorem Qpa(xs:List D)(a:D):((pys xs).any λy=>PyData.eqv y a.py)=xs.any λy=>deq y a:=by
 rw[QmB,List.any_map];rfl
theorem QvH(hu:X.A.units+64<cLine):OpR X (compareOp .In) (Qq5 X.K false):=by
 intro pins s σ H x y v u Q I rx ry h
 obtain⟨a,b,F,G,xs,ha,hb,sa,sb,hk,q⟩:=h
 obtain⟨as,ra⟩:=Rp.reads I (Qcm 8 _ sa) ha rx
 obtain⟨bs,rb⟩:=Rp.reads I (Qcm 8 _ sb) hb ry
 have h1:=QbG 8 a sa
 have h2:=QbG 8 b sb
 have q':Q (.bl ((pys xs).any λy=>PyData.eqv y a.py)) H:=by rw[Qpa];exact q
 rcases hk with rfl | rfl
 ·exact SeqAt.in_list_reads rb ra h2.1 h1.1 (by have:=Zbu (PyData.depthAll (pys xs)) a.py.depth;omega) ⟨.bl _,H,I,rfl,q'⟩
 ·exact SeqAt.in_tuple_reads rb ra h2.1 h1.1 (by have:=Zbu (PyData.depthAll (pys xs)) a.py.depth;omega) ⟨.bl _,H,I,rfl,q'⟩
theorem Qoy(hu:X.A.units+64<cLine):OpR X (compareOp .NotIn) (Qq5 X.K true):=by
 intro pins s σ H x y v u Q I rx ry h
 obtain⟨a,b,F,G,xs,ha,hb,sa,sb,hk,q⟩:=h
 obtain⟨as,ra⟩:=Rp.reads I (Qcm 8 _ sa) ha rx
 obtain⟨bs,rb⟩:=Rp.reads I (Qcm 8 _ sb) hb ry
 have h1:=QbG 8 a sa
 have h2:=QbG 8 b sb
 have q':Q (.bl (!(pys xs).any λy=>PyData.eqv y a.py)) H:=by rw[Qpa];exact q
 rcases hk with rfl | rfl
 ·exact SeqAt.notIn_list_reads rb ra h2.1 h1.1 (by have:=Zbu (PyData.depthAll (pys xs)) a.py.depth;omega) ⟨.bl _,H,I,rfl,q'⟩
 ·exact SeqAt.notIn_tuple_reads rb ra h2.1 h1.1 (by have:=Zbu (PyData.depthAll (pys xs)) a.py.depth;omega) ⟨.bl _,H,I,rfl,q'⟩
theorem QrT:Qbt K (gIn neg) (Qq5 K neg):=λa b d e=>by
 unfold gIn at e
 split at e
 ·split at e
  ·rename_i h
   simp only[Zk]at h
   cases e
   exact⟨rfl,λH x y F G Q ha hb q=>⟨a,_,F,G,_,ha,hb,h.1,h.2,.inl rfl,q _ λ_=> .Qbn⟩⟩
  ·cases e
 ·split at e
  ·rename_i h
   simp only[Zk]at h
   cases e
   exact⟨rfl,λH x y F G Q ha hb q=>⟨a,_,F,G,_,ha,hb,h.1,h.2,.inr rfl,q _ λ_=> .Qbn⟩⟩
  ·cases e
 ·cases e
noncomputable def D.Qno:D->Bool
 | .non=>true
 | _=>false
theorem Qm6(h:Rp K H d v F):decide (v= .non)=d.Qno:=by
 cases d with
 | non=>rw[h.Qd6];rfl
 | bl b=>rw[h.QcO];rfl
 | int b=>rw[h.int_inv];rfl
 | str b=>rw[h.str_inv];rfl
 | tup b=>obtain⟨a,vs,rfl,_⟩:=h.QaB;rfl
 | lst b=>obtain⟨a,vs,G,rfl,_⟩:=h.lst_inv;rfl
 | exc b=>simp only[Rp]at h;obtain⟨⟨a,rfl,_⟩,_⟩:=h;rfl
noncomputable def D.tyN:D->String
 | .non=> "NoneType" | .bl _=> "bool" | .int _=> "int" | .str _=> "str" | .tup _=> "tuple" | .lst _=> "list" | .exc _=> "?"
noncomputable def D.isE:D->Bool
 | .exc _=>true
 | _=>false
noncomputable def D.isa(T:String)(d:D):Option Bool:=if(T == "int" || T == "bool" || T == "list" || T == "tuple" || T == "str") && !d.isE then some (d.tyN == T || (d.tyN == "bool" && T == "int"))else none
theorem QvA(I:Inv X pins σ H s)(rp:Rp X.K H d v F)(rx:RelV v u)(e:d.isa T=some b)(h:∀tk,Q (.bool b) {s with toks:=tk}):
  wpAny (model X.prog X.w) A (call (.builtin "isinstance") [u,.type T]) Q E s:=by
 have kit:PySem.W.kitOne X.K (.type d.tyN) (.type T)=some b:=by
  unfold D.isa at e
  split at e
  ·rename_i hT
   cases e
   simp only[Zk,ZaN,beq_iff_eq]at hT
   obtain⟨hT,hE⟩:=hT
   rcases hT with(((rfl | rfl) | rfl) | rfl) | rfl<;>cases d<;>first | rfl | (cases hE)
  ·cases e
 cases d with
 | exc x=>unfold D.isa at e;split at e;(rename_i hT;exfalso;simp only[Zk]at hT;exact nomatch hT.2);cases e
 | non=>rw[rp.Qd6]at rx;cases(show u=Value.none from rx);exact ZaW PySem.W.kitx_none I.kIn True.intro kit (λz=>nomatch z) h
 | bl y=>rw[rp.QcO]at rx;cases(show u=Value.bool y from rx);exact ZaW PySem.W.kitx_bool I.kIn True.intro kit (λz=>nomatch z) h
 | int i=>rw[rp.int_inv]at rx;obtain⟨t,q⟩:=(show ∃t,u=Value.int i t from rx);cases q;exact ZaW PySem.W.kitx_int I.kIn True.intro kit (λz=>nomatch z) h
 | str y=>rw[rp.str_inv]at rx;obtain⟨t,q⟩:=(show ∃t,u=Value.str y t from rx);cases q;exact ZaW PySem.W.kitx_str I.kIn True.intro kit (λz=>nomatch z) h
 | tup ds=>
  obtain⟨a,vs,rfl,hq,_⟩:=rp.QaB
  cases(show u=Value.ref a from rx)
  obtain⟨its,rv,⟨o,h1,h2,n,h3⟩,_⟩:=I.tuple hq
  exact ZaW PySem.W.kitx_tuple I.kIn ⟨o,h1,h2⟩ kit (λz=>nomatch z) h
 | lst ds=>
  obtain⟨a,vs,G,rfl,hq,_⟩:=rp.lst_inv
  cases(show u=Value.ref a from rx)
  obtain⟨_,its,n,rv,_,e1⟩:=I.QkG hq
  exact ZaW PySem.W.kitx_list I.kIn ⟨_,e1,rfl⟩ kit (λz=>nomatch z) h
noncomputable def QxA(K:PySem.W.Frag):List V->Hp->VK->Prop:=λxs H Q=>∃x T d F b,xs=[x,.ty T]/\Rp K H d x F/\d.isa T=some b/\Q (.bl b) H
theorem Qqf:Qa5 X (.builtin "isinstance") (QxA X.K):=by
 intro pins s σ H xs us Q I r h
 obtain⟨x,T,d,F,b,rfl,rp,e,q⟩:=h
 obtain⟨u,w,rfl,ru,rw'⟩:=vals2 r
 cases(show w=Value.type T from rw')
 exact QvA I rp ru e λtk=>⟨.bl b,H,I.tok _,rfl,q⟩
noncomputable def Qip(T:String)(fa:DE):DE:=λρ=>(fa ρ).bind λr=>(r.d.isa T).map λb=>⟨.bl b,true,[]⟩
theorem QuR(hg:Gl X "isinstance")(hm:X.mg "isinstance" =none)(ha:SE X a fa)(hT:PE X (.Name x p2) (tC (.ty T)))
  (he:starEach [a,.Name x p2] X.env=(false,eval a X.env)::starEach [.Name x p2] X.env):SE X (.Call (.Name "isinstance" p) [a,.Name x p2] [] pos) (Qip T fa):=λH0 A0=>
 (Qfy Qqf hg hm PyProof.Rows.boot_isinstance (Q5 (ha H0 A0) (Q5 hT Qa2) he) (by decide) (by decide) he (by rfl)).mono λσ H Q=>exK λρ hs F r' rel e q=>by
  refine Qf e λr e1 e=>?_
  obtain⟨b,eb,e⟩:=Ze.mp e
  subst e
  exact⟨ρ,hs,F,r,rel,e1,λv H1 G p=>⟨v,T,r.d,G,b,rfl,p.rp,eb,q _ H1 [] (.flat p.same .Qbn)⟩⟩
noncomputable def D.tru:D->Option Bool
 | .non=>some false
 | .bl b=>some b
 | .int i=>some (i != 0)
 | .lst xs=>some (!xs.isEmpty)
 | .tup xs=>some (!xs.isEmpty)
 | .str _=>none
 | .exc _=>none
theorem Qka(h:Rp K H d v F)(e:d.tru=some b):Qqy K v H b:=by
 have emp:∀{ds:List D}{vs:List V}{G:List Addr},Rps K H ds vs G->(!ds.isEmpty)= !vs.isEmpty:=λ{ds vs G} r=>by
  have:=r.length
  cases ds<;>cases vs<;>simp_all
 cases d with
 | non=>rw[h.Qd6];cases e;exact rfl
 | bl c=>rw[h.QcO];cases e;exact rfl
 | int i=>rw[h.int_inv];cases e;exact rfl
 | str i=>cases e
 | exc i=>cases e
 | tup ds=>cases e;obtain⟨a,vs,rfl,hq,r⟩:=h.QaB;exact .inr (.inl ⟨vs,hq,emp r⟩)
 | lst ds=>cases e;obtain⟨a,vs,G,rfl,hq,r,_⟩:=h.lst_inv;exact .inl ⟨vs,QK hq,emp r⟩
noncomputable def QA(fa:DE):DT:=λρ=>(fa ρ).bind λr=>r.d.tru
noncomputable def QfJ(f g:DT):DT:=λρ=>(f ρ).bind λb=>if b=true then g ρ else some false
noncomputable def bOr(f g:DT):DT:=λρ=>(f ρ).bind λb=>if b=true then some true else g ρ
noncomputable def Qdg(f:DT):DT:=λρ=>(f ρ).bind λb=>some (!b)
def SW(X:Cx)(e:Expr)(f:DT):Prop:=∀H0 A0,PW X e (tVT X.K H0 A0 f)
theorem _root_.L2.PW.mono(h:PW X e t)(m:∀σ H Q,t' σ H Q->t σ H Q):PW X e t':=λwh pins s σ H Q I q=>h wh pins s σ H Q I (m σ H Q q)
variable {a b e:Expr}{fa fb:DE}{ga gb gc:DT}{pos:Pos}{rest:List Expr}
theorem Qu3(ha:SE X a fa)(he:∀whole,isTrue a X.env whole=(do let v ← whole;standAt a.pos;holding [v] (truthy v))):ST X a (QA fa):=λH0 A0=>
 (Qp6 (ha H0 A0) he).mono λσ H Q=>exK λρ hs F b rel e q=>by
  refine Qf e λr e1 e=>?_
  exact⟨ρ,hs,F,r,rel,e1,λv H1 G p=>⟨b,Qka p.rp e,q H1 p.same⟩⟩
theorem Qui(ho:OpR X (compareOp op) r)(hg:Qbt X.K g r)(hbl:∀a b d,g a b=some d->∃k,d= .bl k)(ha:SE X a fa)(hb:SE X b fb)(hm:behindInMarks op b=false):ST X (.Compare a [op] [b] pos) (QA (dOp g fa fb)):=λH0 A0=>
 (QtK ho (ha H0 A0) (hb H0 A0) hm).mono λσ H Q=>exK λρ hs F k rel e q=>by
  refine Qf e λr' e0 e=>?_
  obtain⟨ra,rb,d,ea,eb,eg,rfl⟩:=Qi4 e0
  obtain⟨k',rfl⟩:=hbl _ _ _ eg
  cases e
  refine two rel ea eb λx y H1 H2 G1 G2 p1 p2=>(hg _ _ _ eg).2 H2 x y G1 G2 _ (p1.rp.same p2.same) p2.rp λv hv=>?_
  exact⟨_,(hv H2).QcO,q H2 (p1.same.trans p2.same)⟩
theorem Qt9(ha:ST X a ga):ST X (.UnaryOp .Not a pos) (Qdg ga):=λH0 A0=>
 (Quf (ha H0 A0)).mono λσ H Q=>exK λρ hs F b rel e q=>by
  refine Qf e λc e1 e=>?_
  cases e
  exact⟨ρ,hs,F,c,rel,e1,λH1 s1=>q H1 s1⟩
theorem Qs1(ha:ST X a ga):SW X (.BoolOp .And [a] pos) ga:=λH0 A0=>QtE (ha H0 A0)
theorem Qum(ha:ST X a ga):SW X (.BoolOp .Or [a] pos) ga:=λH0 A0=>Qul (ha H0 A0)
theorem Quz(ha:ST X a ga)(hb:SW X (.BoolOp .And (b::rest) pos) gb):SW X (.BoolOp .And (a::b::rest) pos) (QfJ ga gb):=λH0 A0=>
 (Qva (ha H0 A0) (hb H0 A0)).mono λσ H Q=>exK λρ hs F c rel e q=>by
  refine Qf e λd e1 e=>?_
  refine⟨ρ,hs,F,d,rel,e1,λH1 s1=>?_⟩
  cases d with
  | true=>exact⟨ρ,hs,F,c,rel.ext s1,e,λH2 s2=>q H2 (s1.trans s2)⟩
  | false=>cases e;exact q H1 s1
theorem QwQ(ha:ST X a ga)(hb:SW X (.BoolOp .Or (b::rest) pos) gb):SW X (.BoolOp .Or (a::b::rest) pos) (bOr ga gb):=λH0 A0=>
 (Qwr (ha H0 A0) (hb H0 A0)).mono λσ H Q=>exK λρ hs F c rel e q=>by
  refine Qf e λd e1 e=>?_
  refine⟨ρ,hs,F,d,rel,e1,λH1 s1=>?_⟩
  cases d with
  | true=>cases e;exact q H1 s1
  | false=>exact⟨ρ,hs,F,c,rel.ext s1,e,λH2 s2=>q H2 (s1.trans s2)⟩
theorem SW.st(h:SW X e ga):ST X e ga:=λH0 A0=>(h H0 A0).pt
noncomputable def QiC(fa fb:DE):DE:=λρ=>(fa ρ).bind λra=>(ra.d.tru).bind λb=>if b=true then fb ρ else some ra
noncomputable def dOr(fa fb:DE):DE:=λρ=>(fa ρ).bind λra=>(ra.d.tru).bind λb=>if b=true then some ra else fb ρ
noncomputable def QpS(fa:DE):DE:=λρ=>(fa ρ).bind λra=>(ra.d.tru).bind λb=>some ⟨.bl (!b),true,[]⟩
theorem QoK{op}(h:SE X a fa):SE X (.BoolOp op [a] pos) fa:=λH0 A0=>QvV (h H0 A0)
theorem QN.ext(s:QD H H1)(p:QN K ρ F H1 H2 r v G)(rel:Rel K H0 A0 hs ρ F σ H):QN K ρ F H H2 r v G where
 same:=s.trans p.same
 rp:=p.rp
 src:=λa ha=>(p.src a ha).elim (λz=> .inl (s.free z)) .inr
 cnt:=λh=>⟨λa=>ZM ((p.cnt h).1 a) (Zbw (by
  cases q:H1 a with
  | none=>rw[QaY q,QaY (s.free q)];exact Zq _
  | some o=>rw[Qdw q];exact ZZ _) _),(p.cnt h).2⟩
 own:=p.own
theorem Quu(ha:SE X a fa)(hb:SE X (.BoolOp .And (b::rest) pos) fb):SE X (.BoolOp .And (a::b::rest) pos) (QiC fa fb):=λH0 A0=>by
 intro pins s σ H Q I ⟨ρ,hs,F,r,rel,e,q⟩
 refine Qf e λra e1 e=>?_
 refine Qf e λc e2 e=>?_
 refine PyProof.Rows.BoolOp_and (thn (ha H0 A0 pins s σ H _ I ⟨ρ,hs,F,ra,rel,e1,λv H' G p=>(⟨G,p⟩:∃G,QN X.K ρ F H H' ra v G)⟩) λv s1 hpt=>?_)
 obtain⟨x,H1,I1,r1,G,p⟩:=hpt
 refine thn (QhO pins s1 σ H1 x v (λk H2=>k=c/\H2=H1) I1 r1 ⟨c,Qka p.rp e2,rfl,rfl⟩) λk s2 hpt=>?_
 obtain⟨H2,I2,e3,e4⟩:=hpt
 subst e3 e4
 cases k with
 | true=>exact hb H0 A0 pins s2 σ _ Q I2 ⟨ρ,hs,F,r,rel.ext p.same,e,λw H3 G3 p3=>q w H3 G3 (p3.ext p.same rel)⟩
 | false=>cases e;exact⟨x,_,I2,r1,q x _ G p⟩
theorem QvX(ha:SE X a fa)(hb:SE X (.BoolOp .Or (b::rest) pos) fb):SE X (.BoolOp .Or (a::b::rest) pos) (dOr fa fb):=λH0 A0=>by
 intro pins s σ H Q I ⟨ρ,hs,F,r,rel,e,q⟩
 refine Qf e λra e1 e=>?_
 refine Qf e λc e2 e=>?_
 refine PyProof.Rows.BoolOp_or (thn (ha H0 A0 pins s σ H _ I ⟨ρ,hs,F,ra,rel,e1,λv H' G p=>(⟨G,p⟩:∃G,QN X.K ρ F H H' ra v G)⟩) λv s1 hpt=>?_)
 obtain⟨x,H1,I1,r1,G,p⟩:=hpt
 refine thn (QhO pins s1 σ H1 x v (λk H2=>k=c/\H2=H1) I1 r1 ⟨c,Qka p.rp e2,rfl,rfl⟩) λk s2 hpt=>?_
 obtain⟨H2,I2,e3,e4⟩:=hpt
 subst e3 e4
 cases k with
 | false=>exact hb H0 A0 pins s2 σ _ Q I2 ⟨ρ,hs,F,r,rel.ext p.same,e,λw H3 G3 p3=>q w H3 G3 (p3.ext p.same rel)⟩
 | true=>cases e;exact⟨x,_,I2,r1,q x _ G p⟩
theorem Qvd(ha:SE X a fa):SE X (.UnaryOp .Not a pos) (QpS fa):=λH0 A0=>by
 intro pins s σ H Q I ⟨ρ,hs,F,r,rel,e,q⟩
 refine Qf e λra e1 e=>?_
 refine Qf e λc e2 e=>?_
 cases e
 refine PyProof.Rows.UnaryOp_ (thn (ha H0 A0 pins s σ H _ I ⟨ρ,hs,F,ra,rel,e1,λv H' G p=>(⟨G,p⟩:∃G,QN X.K ρ F H H' ra v G)⟩) λv s1 hpt=>?_)
 obtain⟨x,H1,I1,r1,G,p⟩:=hpt
 refine PyProof.Rows.not_of (thn (QhO pins s1 σ H1 x v (λk H2=>k=c/\H2=H1) I1 r1 ⟨c,Qka p.rp e2,rfl,rfl⟩) λk s2 hpt=>?_)
 obtain⟨H2,I2,e3,e4⟩:=hpt
 subst e3 e4
 exact⟨.bl (!k),_,I2,rfl,q _ _ [] (.flat p.same .Qbn)⟩
noncomputable def Qhr(fa:DE):DE:=λρ=>(fa ρ).bind λra=>match ra.d with
 | .int i=>some ⟨.int (-i),true,[]⟩
 | _=>none
theorem Qus(ha:SE X a fa):SE X (.UnaryOp .USub a pos) (Qhr fa):=λH0 A0=>
 (QvZ Qu5 (ha H0 A0)).mono λσ H Q=>exK λρ hs F r rel e q=>by
  refine Qf e λra e1 e=>?_
  refine⟨ρ,hs,F,ra,rel,e1,λv H1 G p=>?_⟩
  have rp:=p.rp
  cases hr:ra.d with
  | int i=>
   rw[hr]at e rp
   cases e
   exact⟨i,rp.int_inv,q _ H1 [] (.flat p.same .int_mk)⟩
  | _=>rw[hr]at e;cases e
end
end HS
namespace HS
open PySem PySem.Spec L2
section
def Qb7(ρ ρ':En):Prop:=ρ'.length=ρ.length/\∀(i:Nat) d b,ρ'[i]? =some (some (d,b))->∃b',ρ[i]? =some (some (d,b'))/\(b=true->b'=true)
theorem Qb7.refl:Qb7 ρ ρ:=⟨rfl,λi d b h=>⟨b,h,id⟩⟩
theorem Qb7.trans(a:Qb7 ρ ρ')(b:Qb7 ρ' ρ''):Qb7 ρ ρ'':=⟨b.1.trans a.1,λi d c h=>by
 obtain⟨c',h1,h2⟩:=b.2 i d c h
 obtain⟨c'',h3,h4⟩:=a.2 i d c' h1
 exact⟨c'',h3,λz=>h4 (h2 z)⟩⟩
theorem Rel.weak(r:Rel K H0 A0 hs ρ F σ H)(w:Qb7 ρ ρ'):Rel K H0 A0 hs ρ' F σ H where
 len:=w.1.trans r.len
 val:=λi d b e=>let ⟨b',h,_⟩:=w.2 i d b e;r.val i d b' h
 own:=λi d e=>by
  obtain⟨b',h,hb⟩:=w.2 i d true e
  have:b'=true:=hb rfl
  subst this
  obtain⟨h1,h2,h3,h4,h5⟩:=r.own i d h
  exact⟨h1,h2,h3,λj d' b' hj e'=>let ⟨b'',h',_⟩:=w.2 j d' b' e';h4 j d' b'' hj h',h5⟩
 src:=λi d b e=>let ⟨b',h,_⟩:=w.2 i d b e;r.src i d b' h
 held:=r.held
 same:=r.same
noncomputable def kill:List Nat->En->En
 | [],ρ=>ρ
 | i::M,ρ=>kill M (ρ.set i none)
noncomputable def QaE:List Nat->En->En
 | [],ρ=>ρ
 | i::M,ρ=>QaE M (match ρ[i]? with
  | some (some (d,_))=>ρ.set i (some (d,false))
  | _=>ρ)
theorem Qov(i:Nat):Qb7 ρ (ρ.set i none):=⟨by simp,λj d b h=>by
 by_cases hj:i=j
 ·subst hj
  by_cases hl:i<ρ.length
  ·rw[ZH hl]at h;cases h
  ·rw[Zv (by simp;omega)]at h;cases h
 ·rw[Zj hj]at h
  exact⟨b,h,id⟩⟩
theorem QbS:∀(M:List Nat) (ρ:En),Qb7 ρ (kill M ρ)
 | [],ρ=> .refl
 | i::M,ρ=>(Qov i).trans (QbS M _)
theorem Qf2:∀(M:List Nat) (ρ:En) (i:Nat) (d:D) (b:Bool),i∈M->(kill M ρ)[i]? =some (some (d,b))->False
 | [],ρ,i,d,b,h,_=>by simp at h
 | j::M,ρ,i,d,b,h,e=>by
  rcases Zn.mp h with rfl | h
  ·obtain⟨b',e',_⟩:=(QbS M (ρ.set i none)).2 i d b e
   by_cases hl:i<ρ.length
   ·rw[ZH hl]at e';cases e'
   ·rw[Zv (by simp;omega)]at e';cases e'
  ·exact Qf2 M _ i d b h e
theorem QqZ(i:Nat):Qb7 ρ (match ρ[i]? with
  | some (some (d,_))=>ρ.set i (some (d,false))
  | _=>ρ):=by
 split
 ·rename_i d b e
  refine⟨by simp,λj d' b' h=>?_⟩
  by_cases hj:i=j
  ·subst hj
   have hl:i<ρ.length:=(Zb.mp e).1
   rw[ZH hl]at h
   cases h
   exact⟨b,e,λz=>by cases z⟩
  ·rw[Zj hj]at h
   exact⟨b',h,id⟩
 ·exact .refl
theorem Qat:∀(M:List Nat) (ρ:En),Qb7 ρ (QaE M ρ)
 | [],ρ=> .refl
 | i::M,ρ=>(QqZ i).trans (Qat M _)
theorem Qhw:∀(M:List Nat) (ρ:En) (i:Nat) (d:D),i∈M->(QaE M ρ)[i]? =some (some (d,true))->False
 | [],ρ,i,d,h,_=>by simp at h
 | j::M,ρ,i,d,h,e=>by
  rcases Zn.mp h with rfl | h
  ·obtain⟨b',e',hb⟩:=(Qat M _).2 i d true e
   have:b'=true:=hb rfl
   subst this
   split at e'
   ·rename_i d' b e1
    have hl:i<ρ.length:=(Zb.mp e1).1
    rw[ZH hl]at e'
    cases e'
   ·rename_i h1
    exact h1 d true e'
  ·exact Qhw M _ i d h e
def Shr(H0:Hp)(A0:List Addr)(ρ:En)(F:Nat->List Addr)(G:List Addr):Prop:=
 ∀a∈G,(H0 a=none∨a∈A0)/\∀(i:Nat) d,ρ[i]? =some (some (d,true))->a∉F i
theorem Shr.of(r:Rel K H0 A0 hs ρ F σ H)(s:Src ρ F H M G):Shr H0 A0 (QaE M ρ) F G:=λa ha=>by
 have w:=Qat M ρ
 rcases s a ha with h | ⟨i,d,b,e,m,hm⟩
 ·refine⟨.inl (r.same.free h),λj d' e' hj=>?_⟩
  obtain⟨b',e2,_⟩:=w.2 j d' true e'
  obtain⟨vs,q⟩:=r.mem e2 hj
  rw[h]at q;cases q
 ·refine⟨r.src i d b e a m,λj d' e' hj=>?_⟩
  obtain⟨b',e2,hb⟩:=w.2 j d' true e'
  have:b'=true:=hb rfl
  subst this
  by_cases hij:i=j
  ·subst hij
   rw[e]at e2
   cases e2
   exact Qhw M ρ i _ (hm rfl) e'
  ·exact(r.own j d' e2).2.2.2.1 i d b hij e a hj m
theorem Rel.QpV(r:Rel K H0 A0 hs ρ F σ H)(rp:Rp K H d v G)(sh:Shr H0 A0 ρ F G):
  Rel K H0 A0 hs (ρ.set i (some (d,d.flat))) (λj=>if j=i then G else F j) (σ.set i (some v)) H where
 len:=by simp[r.len]
 val:=λj d' b e=>by
  by_cases hj:j=i
  ·subst hj
   have hl:j<ρ.length:=by
    by_cases hl:j<ρ.length
    ·exact hl
    ·rw[Zv (by simp;omega)]at e;cases e
   rw[ZH hl]at e
   cases e
   exact⟨v,by rw[ZH (by rw[← r.len];exact hl)],by rw[if_pos rfl];exact rp⟩
  ·rw[Zj (Ne.symm hj)]at e
   obtain⟨w,h1,h2⟩:=r.val j d' b e
   exact⟨w,by rw[Zj (Ne.symm hj)];exact h1,by rw[if_neg hj];exact h2⟩
 own:=λj d' e=>by
  by_cases hj:j=i
  ·subst hj
   have hl:j<ρ.length:=by
    by_cases hl:j<ρ.length
    ·exact hl
    ·rw[Zv (by simp;omega)]at e;cases e
   rw[ZH hl]at e
   have e1:=Option.some.inj (Option.some.inj e)
   have ed:d=d':=congrArg Prod.fst e1
   have ef:d.flat=true:=congrArg Prod.snd e1
   subst ed
   have:=rp.QaW ef
   subst this
   rw[if_pos rfl]
   exact⟨(QcD d ef).symm,Zaw,λa ha=>by simp at ha,λ_ _ _ _ _ a ha=>by simp at ha,λ_ _ a ha=>by simp at ha⟩
  ·rw[Zj (Ne.symm hj)]at e
   obtain⟨h1,h2,h3,h4,h5⟩:=r.own j d' e
   rw[if_neg hj]
   refine⟨h1,h2,h3,λk d'' b hk ek a ha=>?_,h5⟩
   by_cases hki:k=i
   ·subst hki
    rw[if_pos rfl]
    exact λhG=>(sh a hG).2 j d' e ha
   ·rw[Zj (Ne.symm hki)]at ek
    rw[if_neg hki]
    exact h4 k d'' b hk ek a ha
 src:=λj d' b e a ha=>by
  by_cases hj:j=i
  ·subst hj
   rw[if_pos rfl]at ha
   exact(sh a ha).1
  ·rw[Zj (Ne.symm hj)]at e
   rw[if_neg hj]at ha
   exact r.src j d' b e a ha
 held:=r.held
 same:=r.same
theorem Qwn(r:Rel K H0 A0 hs ρ F σ H)(ow:QaJ ρ M)(nd:M.Nodup)(a:Addr):((M.map F).flatten).count a<=1:=by
 induction M with
 | nil=>simp
 | cons i M ih=>
  rw[Zx,Zar,Zal]
  obtain⟨h1,h2⟩:=Zac.mp nd
  have ih':=ih (λj hj=>ow j (Zc _ hj)) h2
  obtain⟨d,e⟩:=ow i Zh
  obtain⟨_,nd1,_,apart,_⟩:=r.own i d e
  by_cases ha:a∈F i
  ·have c1:(F i).count a<=1:=ZaB.mp nd1 a
   have c2:((M.map F).flatten).count a=0:=Zab.mpr λhm=>by
    obtain⟨l,hl,hal⟩:=Zbt.mp hm
    obtain⟨j,hj,rfl⟩:=ZA.mp hl
    obtain⟨d',e'⟩:=ow j (Zc _ hj)
    exact apart j d' true (λz=>h1 (z▸hj)) e' a ha hal
   omega
  ·have:(F i).count a=0:=Zab.mpr ha
   omega
theorem QN.fresh(r:Rel K H0 A0 hs ρ F σ H)(p:QN K ρ F H H' rr v G)(hf:rr.fr=true)(nd:rr.M.Nodup):
  G.Nodup/\∀a∈G,H0 a=none/\(H a=none∨∃i d,i∈rr.M/\ρ[i]? =some (some (d,true))/\a∈F i):=by
 obtain⟨c,_⟩:=p.cnt hf
 refine⟨ZaB.mpr λa=>?_,λa ha=>?_⟩
 ·have h1:=c a
  have h2:=Qwn r p.own nd a
  cases q:H a with
  | none=>rw[QaY q,r.fl0 p.own q]at h1;omega
  | some o=>rw[Qdw q]at h1;omega
 ·cases q:H a with
  | none=>exact⟨r.same.free q,.inl rfl⟩
  | some o=>
   have h1:=c a
   rw[Qdw q]at h1
   have h2:0<G.count a:=ZaA.mpr ha
   obtain⟨l,hl,hal⟩:=Zbt.mp (ZaA.mp (by omega:0<((rr.M.map F).flatten).count a))
   obtain⟨i,hi,rfl⟩:=ZA.mp hl
   obtain⟨d,e⟩:=p.own i hi
   exact⟨(r.own i d e).2.2.1 a hal,.inr ⟨i,d,hi,e,hal⟩⟩
theorem Rel.Qds(r:Rel K H0 A0 hs ρ F σ H)(p:QN K ρ F H H' rr v G)(hf:rr.fr=true)(nd:rr.M.Nodup):
  Rel K H0 A0 hs ((kill rr.M ρ).set i (some (rr.d,true))) (λj=>if j=i then G else F j) (σ.set i (some v)) H':=by
 have r1:=(r.ext p.same).weak (QbS rr.M ρ)
 obtain⟨gn,gs⟩:=p.fresh r hf nd
 have gl:=(p.cnt hf).2
 have apart:∀(j:Nat) d b,(kill rr.M ρ)[j]? =some (some (d,b))->∀a∈G,a∉F j:=λj d b e a ha hj=>by
  obtain⟨b',e',_⟩:=(QbS rr.M ρ).2 j d b e
  rcases(gs a ha).2 with q | ⟨k,d',hk,ek,hak⟩
  ·obtain⟨vs,w⟩:=r.mem e' hj
   rw[q]at w;cases w
  ·have hjk:j≠k:=λz=>by subst z;exact Qf2 rr.M ρ j d b hk e
   exact(r.own k d' ek).2.2.2.1 j d b' hjk e' a hak hj
 have apartH:∀t∈hs,∀a∈G,a∉t.2.2:=λt ht a ha hj=>by
  rcases(gs a ha).2 with q | ⟨k,d',hk,ek,hak⟩
  ·obtain⟨vs,w⟩:=(r.held t ht).1.mem a hj
   rw[q]at w;cases w
  ·exact(r.own k d' ek).2.2.2.2 t ht a hak hj
 have lt:∀{j:Nat}{x:Option (D×Bool)}{y:D×Bool},((kill rr.M ρ).set j x)[j]? =some (some y)->j<(kill rr.M ρ).length:=λ{j x y} e=>by
  by_cases hl:j<(kill rr.M ρ).length
  ·exact hl
  ·rw[Zv (by simp;omega)]at e;cases e
 refine⟨by simp[r1.len],λj d b e=>?_,λj d e=>?_,λj d b e a ha=>?_,r1.held,r1.same⟩
 ·by_cases hj:j=i
  ·subst hj
   have hl:=lt e
   rw[ZH hl]at e
   cases e
   exact⟨v,by rw[ZH (by rw[← r1.len];exact hl)],by rw[if_pos rfl];exact p.rp⟩
  ·rw[Zj (Ne.symm hj)]at e
   obtain⟨w,h1,h2⟩:=r1.val j d b e
   exact⟨w,by rw[Zj (Ne.symm hj)];exact h1,by rw[if_neg hj];exact h2⟩
 ·by_cases hj:j=i
  ·subst hj
   have hl:=lt e
   rw[ZH hl]at e
   cases e
   rw[if_pos rfl]
   refine⟨gl,gn,λa ha=>(gs a ha).1,λk d' b hk ek a ha=>?_,apartH⟩
   rw[Zj (Ne.symm hk)]at ek
   rw[if_neg hk]
   exact apart k d' b ek a ha
  ·rw[Zj (Ne.symm hj)]at e
   obtain⟨h1,h2,h3,h4,h5⟩:=r1.own j d e
   rw[if_neg hj]
   refine⟨h1,h2,h3,λk d' b hk ek a ha=>?_,h5⟩
   by_cases hki:k=i
   ·subst hki
    rw[if_pos rfl]
    exact λhG=>apart j d true e a hG ha
   ·rw[Zj (Ne.symm hki)]at ek
    rw[if_neg hki]
    exact h4 k d' b hk ek a ha
 ·by_cases hj:j=i
  ·subst hj
   rw[if_pos rfl]at ha
   exact .inl (gs a ha).1
  ·rw[Zj (Ne.symm hj)]at e
   rw[if_neg hj]at ha
   exact r1.src j d b e a ha
noncomputable def asg(i:Nat)(r:R)(ρ:En):En:=
 if r.norm.fr && decide r.norm.M.Nodup then(kill r.norm.M ρ).set i (some (r.d,true))else(QaE r.norm.M ρ).set i (some (r.d,r.d.flat))
theorem Rel.asg(r:Rel K H0 A0 hs ρ F σ H)(p:QN K ρ F H H' rr v G):∃F',Rel K H0 A0 hs (asg i rr ρ) F' (σ.set i (some v)) H':=by
 have p':=p.norm
 unfold HS.asg
 split
 ·rename_i h
  simp only[Zk,decide_eq_true_eq]at h
  have:=r.Qds (i:=i) p' h.1 h.2
  rw[rr.Qcz]at this
  exact⟨_,this⟩
 ·have r1:=(r.ext p'.same).weak (Qat rr.norm.M ρ)
  have rp:=p'.rp
  rw[rr.Qcz]at rp
  have sh:=Shr.of r p'.src
  exact⟨_,r1.QpV rp sh⟩
theorem Rel.hold(r:Rel K H0 A0 hs ρ F σ H)(h:∀t∈ts,Rp K H t.2.1 t.1 t.2.2/\Shr H0 A0 ρ F t.2.2):Rel K H0 A0 (ts++hs) ρ F σ H where
 len:=r.len
 val:=r.val
 own:=λi d e=>by
  obtain⟨h1,h2,h3,h4,h5⟩:=r.own i d e
  refine⟨h1,h2,h3,h4,λt ht a ha hm=>?_⟩
  rcases ZK.mp ht with z | z
  ·exact((h t z).2 a hm).2 i d e ha
  ·exact h5 t z a ha hm
 src:=r.src
 held:=λt ht=>by
  rcases ZK.mp ht with z | z
  ·exact⟨(h t z).1,λa ha=>((h t z).2 a ha).1⟩
  ·exact r.held t z
 same:=r.same
theorem Rel.Qlo(r:Rel K H0 A0 (ts++hs) ρ F σ H):Rel K H0 A0 hs ρ F σ H where
 len:=r.len
 val:=r.val
 own:=λi d e=>let ⟨h1,h2,h3,h4,h5⟩:=r.own i d e;⟨h1,h2,h3,h4,λt ht=>h5 t (Zl _ ht)⟩
 src:=r.src
 held:=λt ht=>r.held t (Zl _ ht)
 same:=r.same
end
structure Ret (K:PySem.W.Frag) (H0:Hp) (A0:List Addr) (d:D) (fr:Bool) (v:V) (H':Hp) (G:List Addr):Prop where
 same:QD H0 H'
 rp:Rp K H' d v G
 src:∀a∈G,H0 a=none∨a∈A0
 cnt:fr=true->G.Nodup/\G.length=d.nl/\∀a∈G,H0 a=none
noncomputable abbrev Den:=List D->Option (D×Bool)
noncomputable def spV(K:PySem.W.Frag)(n:Nat)(den:Den):Sp:=λvs H Q _=>∃ds F d fr,Rps K H ds vs F/\ds.length=n/\den ds=some (d,fr)/\∀v H' G,Ret K H F d fr v H' G->Q v H'
theorem QsJ{K:PySem.W.Frag}{n:Nat}{den:Den}{ps:List Str}(hn:ps.length=n):∀vs H Q E,spV K n den vs H Q E->vs.length=ps.length:=λvs H Q E ⟨ds,F,d,fr,r,hl,_⟩=>by rw[hn,← hl,r.length]
noncomputable def QB(n:Nat)(den:Den)(dfl:List D)(fs:DA):DE:=λρ=>(fs ρ).bind λr=>if r.ds.length+dfl.length=n then(den (r.ds++dfl)).map λq=>if q.2=true then⟨q.1,true,[]⟩else R.norm ⟨q.1,false,r.M⟩else none
section
variable {X:Cx}{e:Expr}{es:List Expr}{fs:DA}{pos p:Pos}{x:Str}{n k:Nat}{f:Addr}{fd:FuncData}{ps:List Str}{den:Den}{dfl:List D}{dvs:List V}{ds:List Value}
theorem Qjl{σ:L2.St}{H H0:Hp}{A0:List Addr}{Q:VK}(hdf:∀H,Rps X.K H dfl dvs []):tV X.K H0 A0 (QB n den dfl fs) σ H Q->QnE (spV X.K n den) dvs E0 (tVA X.K H0 A0 fs) σ H Q:=exK λρ hs F r rel e q=>by
 refine Qf e λra e1 e=>?_
 split at e
 ·rename_i hl
  obtain⟨⟨d,fr⟩,e2,e⟩:=Ze.mp e
  refine⟨ρ,hs,F,ra,rel,e1,λvs H1 G p1=>⟨ra.ds++dfl,G++[],d,fr,p1.rp.append (hdf H1),by rw[Zt];exact hl,e2,λv H2 G2 rt=>?_⟩⟩
  subst e
  have src:Src ρ F H ra.M G2:=λa ha=>by
   rcases rt.src a ha with z | z
   ·exact .inl (p1.same.free z)
   ·rw[Zag]at z
    exact p1.src a z
  split at q
  ·rename_i hf
   have hf:fr=true:=hf
   obtain⟨nd,hn,fresh⟩:=rt.cnt hf
   have hH:∀a∈G2,H a=none:=λa ha=>p1.same.free (fresh a ha)
   refine q v H2 G2 ⟨p1.same.trans rt.same,rt.rp,λa ha=> .inl (hH a ha),λ_=>⟨λa=>?_,hn⟩,QaJ.nil⟩
   by_cases ha:a∈G2
   ·rw[QaY (hH a ha)];have:=ZaB.mp nd a;omega
   ·rw[Zab.mpr ha];exact ZZ _
  ·refine q v H2 G2 (QN.norm ⟨p1.same.trans rt.same,rt.rp,src,λz=>(by cases z),p1.own⟩)
 ·cases e
theorem QtG(Fk:QbD X.prog X.w X.K X.mg X.base CX0 k f fd ps (spV X.K n den))(hr:Qas k X.A)(hg:Gl X x)(hm:X.mg x=some (.ref f))(hk:PySem.W.keepIn X.K (.ref f)=true)(hb:Binds X.K fd ps ds)(hd:Qt dvs ds)(hdf:∀H,Rps X.K H dfl dvs [])
  (ha:SA X (e::es) fs) (hdb:(x == ("__debug__" :Str))=false) (he:starEach (e::es) X.env=(false,eval e X.env)::starEach es X.env) (hpl:(backTo pos (starEach es X.env)).any (·.1)=false):
  SE X (.Call (.Name x p) (e::es) [] pos) (QB n den dfl fs):=λH0 A0=>
 (Qti Fk hr hg hm hk hb hd QrU (ha H0 A0) hdb he hpl).mono λσ H Q h=>Qjl hdf h
theorem QqY(Fk:QbD X.prog X.w X.K X.mg X.base CX0 k f fd ps (spV X.K n den))(hr:Qas k X.A)(hg:Gl X x)(hm:X.mg x=some (.ref f))(hk:PySem.W.keepIn X.K (.ref f)=true)(hb:Binds X.K fd ps ds)(hd:Qt dvs ds)(hdf:∀H,Rps X.K H dfl dvs [])
  (hdb:(x == ("__debug__" :Str))=false):SE X (.Call (.Name x p) [] [] pos) (QB n den dfl Qg):=λH0 A0=>
 (Qqt Fk hr hg hm hk hb hd QrU hdb).mono λσ H Q h=>by
  have h':=Qjl hdf h
  obtain⟨ρ,hs,F,r,rel,e,q⟩:=h'
  cases e
  exact q [] H [] ⟨QD.refl _,by simp[Rps],Src.nil,λ_=>⟨Cnt.nil,rfl⟩,QaJ.nil⟩
end
structure IR where
 items:List D
 M:List Nat
noncomputable abbrev DI:=En->Option IR
def Qim(K:PySem.W.Frag)(H:Hp)(ts:List (V×D×List Addr)):Prop:=∀t∈ts,Rp K H t.2.1 t.1 t.2.2
structure Walk (K:PySem.W.Frag) (J:It) (ts:List (V×D×List Addr)) (ds:List D):Prop where
 stop:∀H,Qim K H ts->J.stop ds.length H
 go:∀i H,i<ds.length->Qim K H ts->J.go i H
 yld:∀(i:Nat) d H x H',ds[i]? =some d->Qim K H ts->J.yld i H x H'->QD H H'/\∃G,Rp K H' d x G/\∀a∈G,∃t∈ts,a∈t.2.2
noncomputable def tI(K:PySem.W.Frag)(H0:Hp)(A0:List Addr)(f:DI):TI:=λσ H Rr=>∃ρ hs F ir,Rel K H0 A0 hs ρ F σ H/\f ρ=some ir∧
 ∀J H1 ts,QD H H1->Walk K J ts ir.items->(∀t∈ts,Rp K H1 t.2.1 t.1 t.2.2/\Src ρ F H ir.M t.2.2)->QaJ ρ ir.M->ir.items.length<=sizeLine->Rr J H1
def SI(X:Cx)(tg e:Expr)(f:DI):Prop:=∀H0 A0,PI X tg e (tI X.K H0 A0 f)
theorem _root_.L2.PI.mono(h:PI X tg e t)(m:∀σ H Q,t' σ H Q->t σ H Q):PI X tg e t':=λpins s σ H Q I q=>h pins s σ H Q I (m σ H Q q)
section
variable {X:Cx}{tg a b:Expr}{fa fb:DE}{fs:DA}{pos p:Pos}
theorem Rps.nth{K:PySem.W.Frag}{H:Hp}{ds:List D}{vs:List V}{F:List Addr}{i:Nat}{d:D}(h:Rps K H ds vs F)(e:ds[i]? =some d):∃v G,vs[i]? =some v/\Rp K H d v G/\∀a∈G,a∈F:=by
 obtain⟨v,F1,G,F2,h1,h2,h3,_⟩:=h.get e
 exact⟨v,G,h1,h3,λa ha=>by rw[h2];exact Zl _ (Zi _ ha)⟩
noncomputable def Qxb(K:PySem.W.Frag)(tl:TE):TI:=λσ H Rr=>tl σ H λx H1=>(∃a,x= .ref a/\(∃xs,SqL K H1 a xs)/\Rr (Itl K a) H1)∨(∃a,x= .ref a/\(∃xs,SqT K H1 a xs)/\Rr (Itt K a) H1)
theorem Que(hl:PE X l tl):PI X tg l (Qxb X.K tl):=by
 intro pins s σ H Rr I h
 refine thn (hl pins s σ H _ I h) λv s1=>exJ λx H1 I1 r1 q1=>?_
 rcases q1 with⟨a,e,⟨xs,hq⟩,q⟩ | ⟨a,e,⟨xs,hq⟩,q⟩
 ·subst e
  cases r1
  obtain⟨its,rv,pl,hz⟩:=I1.list hq
  refine wpAny_pyIter_list pl.isList ⟨s1.heap.objs.size,[s1.heap.objs.size],_,_,H1,rfl,I1.kept (t':=s1.toks) λb o e=>Zg _ e,QoD a _,⟨_,Zz _ rfl,rfl,rfl⟩,λb hb=>?_,q⟩
  have e:b=s1.heap.objs.size:=by simpa using hb
  subst e
  exact I1.Qie (Zq _) (I1.hok.fresh (Zq _))
 ·subst e
  cases r1
  obtain⟨its,rv,pl,hz⟩:=I1.tuple hq
  refine wpAny_pyIter_tuple (show s1.heap.IsTuple a its.toArray from pl) ⟨s1.heap.objs.size,[s1.heap.objs.size],_,_,H1,rfl,I1.kept (t':=s1.toks) λb o e=>Zg _ e,Qnc a _,⟨_,Zz _ rfl,rfl,rfl⟩,λb hb=>?_,q⟩
  have e:b=s1.heap.objs.size:=by simpa using hb
  subst e
  exact I1.Qie (Zq _) (I1.hok.fresh (Zq _))
noncomputable def Q7(fa:DE):DI:=λρ=>(fa ρ).bind λr=>match r.d with
 | .lst xs=>some ⟨xs,r.M⟩
 | .tup xs=>if xs.length<=sizeLine then some ⟨xs,r.M⟩else none
 | _=>none
theorem Qo0{K:PySem.W.Frag}{c:Addr}{ds:List D}{G:List Addr}:Walk K (Itl K c) [(.ref c,.lst ds,G)] ds where
 stop:=λH h=>by
  obtain⟨l,vs,L,e,hl,rl,zl,el⟩:=(h _ (ZF.mpr rfl)).lst_inv
  cases e
  exact⟨vs,QK hl,by rw[rl.length];exact Zq _⟩
 go:=λi H hi h=>by
  obtain⟨l,vs,L,e,hl,rl,zl,el⟩:=(h _ (ZF.mpr rfl)).lst_inv
  cases e
  have:i<vs.length:=by rw[← rl.length];exact hi
  exact⟨vs,vs[i],QK hl,by simp[this]⟩
 yld:=λi d H x H' e h y=>by
  obtain⟨l,vs,L,e1,hl,rl,zl,el⟩:=(h _ (ZF.mpr rfl)).lst_inv
  cases e1
  obtain⟨rfl,y⟩:=y
  obtain⟨v,G',h1,h2,h3⟩:=rl.nth e
  have:=y vs (QK hl)
  rw[h1]at this
  cases this
  refine⟨QD.refl _,G',h2,λz hz=>⟨_,ZF.mpr rfl,?_⟩⟩
  have:=h3 z hz
  rcases el with rfl | rfl
  ·exact Zc _ this
  ·exact this
theorem QpY{K:PySem.W.Frag}{c:Addr}{ds:List D}{G:List Addr}:Walk K (Itt K c) [(.ref c,.tup ds,G)] ds where
 stop:=λH h=>by
  obtain⟨l,vs,e,hl,rl⟩:=(h _ (ZF.mpr rfl)).QaB
  cases e
  exact⟨vs,hl,by rw[rl.length];exact Zq _⟩
 go:=λi H hi h=>by
  obtain⟨l,vs,e,hl,rl⟩:=(h _ (ZF.mpr rfl)).QaB
  cases e
  have:i<vs.length:=by rw[← rl.length];exact hi
  exact⟨vs,vs[i],hl,by simp[this]⟩
 yld:=λi d H x H' e h y=>by
  obtain⟨l,vs,e1,hl,rl⟩:=(h _ (ZF.mpr rfl)).QaB
  cases e1
  obtain⟨rfl,y⟩:=y
  obtain⟨v,G',h1,h2,h3⟩:=rl.nth e
  have:=y vs hl
  rw[h1]at this
  cases this
  exact⟨QD.refl _,G',h2,λz hz=>⟨_,ZF.mpr rfl,h3 z hz⟩⟩
theorem Qvb(ha:SE X a fa):SI X tg a (Q7 fa):=λH0 A0=>(Que (ha H0 A0)).mono λσ H Rr=>exK λρ hs F ir rel e q=>by
 refine Qf e λr e1 e=>?_
 refine⟨ρ,hs,F,r,rel,e1,λv H1 G p=>?_⟩
 have rp:=p.rp
 cases hr:r.d with
 | lst xs=>
  rw[hr]at e rp
  cases e
  obtain⟨c,vs,L,rfl,hl,rl,zl,el⟩:=rp.lst_inv
  refine .inl ⟨c,rfl,⟨vs,QK hl⟩,q _ H1 [(.ref c,.lst xs,G)] p.same Qo0 (λt ht=>?_) p.own zl⟩
  rw[ZF.mp ht]
  exact⟨rp,p.src⟩
 | tup xs=>
  rw[hr]at e rp
  dsimp only at e
  split at e
  ·rename_i hz
   cases e
   obtain⟨c,vs,rfl,hl,rl⟩:=rp.QaB
   refine .inr ⟨c,rfl,⟨vs,hl⟩,q _ H1 [(.ref c,.tup xs,G)] p.same QpY (λt ht=>?_) p.own hz⟩
   rw[ZF.mp ht]
   exact⟨rp,p.src⟩
  ·cases e
 | _=>rw[hr]at e;cases e
noncomputable def Qgn(lo:Int)(n:Nat):List D:=(List.range n).map λ(k:Nat)=> .int (lo+(k:Int))
theorem QfK:(Qgn lo n).length=n:=by simp[Qgn]
theorem Qrr(h:(Qgn lo n)[i]? =some d):i<n/\d= .int (lo+i):=by
 unfold Qgn at h
 rw[Zm]at h
 cases q:(List.range n)[i]? with
 | none=>rw[q]at h;cases h
 | some k=>
  rw[q]at h
  obtain⟨h1,h2⟩:=Zb.mp q
  simp at h1 h2
  subst h2
  exact⟨h1,(Option.some.inj h).symm⟩
theorem QhW:Walk K (Itr lo n) [] (Qgn lo n) where
 stop:=λH _=>by rw[QfK];exact Zq _
 go:=λi H hi _=>by rw[QfK]at hi;exact hi
 yld:=λi d H x H' e _ y=>by
  obtain⟨h1,rfl⟩:=Qrr e
  obtain⟨rfl,rfl⟩:=y
  exact⟨QD.refl _,[],.int_mk,λz hz=>by simp at hz⟩
noncomputable def QaT(fa:DE):DI:=λρ=>(fa ρ).bind λr=>match r.d with
 | .int j=>if j<=16777216/\ -(2^62)<=j then some ⟨Qgn 0 j.toNat,[]⟩else none
 | _=>none
noncomputable def Qe6(fa fb:DE):DI:=λρ=>(fa ρ).bind λr=>(fb ρ).bind λr'=>match r.d,r'.d with
 | .int i,.int j=>if j-i<=16777216/\ -(2^62)<=i/\i<2^62/\ -(2^62)<=j/\j<2^62 then some ⟨Qgn i (j-i).toNat,[]⟩else none
 | _,_=>none
theorem Qbd:(sizeLine:Nat)=16777216:=sizeLine_eq
theorem QoI(hg:Gl X "range")(hm:X.mg "range" =none)(ha:SE X a fa)(hs:starEach [a] X.env=[(false,eval a X.env)]):SI X tg (.Call (.Name "range" p) [a] [] pos) (QaT fa):=λH0 A0=>
 (Qos hg hm (Q5 (ha H0 A0) Qa2 hs) hs).mono λσ H Rr=>exK λρ hs F ir rel e q=>by
  refine Qf e λr e1 e=>?_
  refine⟨ρ,hs,F,r,rel,e1,λv H1 G pp=>?_⟩
  have rp:=pp.rp
  cases hr:r.d with
  | int j=>
   rw[hr]at e rp
   dsimp only at e
   split at e
   ·rename_i hz
    cases e
    rw[rp.int_inv]
    refine⟨j,rfl,hz.2,by omega,q _ H1 [] pp.same QhW (λt ht=>by simp at ht) QaJ.nil ?_⟩
    rw[QfK,Qbd];omega
   ·cases e
  | _=>rw[hr]at e;cases e
theorem QoM(hg:Gl X "range")(hm:X.mg "range" =none)(ha:SE X a fa)(hb:SE X b fb)(hs:starEach [a,b] X.env=[(false,eval a X.env),(false,eval b X.env)])(hs2:starEach [b] X.env=[(false,eval b X.env)]):
  SI X tg (.Call (.Name "range" p) [a,b] [] pos) (Qe6 fa fb):=λH0 A0=>
 (Qo7 hg hm (Q5 (ha H0 A0) (Q5 (hb H0 A0) Qa2 hs2) (by rw[hs,hs2])) hs hs2).mono λσ H Rr=>exK λρ hs F ir rel e q=>by
  refine Qf e λr e1 e=>?_
  refine Qf e λr' e2 e=>?_
  refine⟨ρ,hs,F,r,rel,e1,λv H1 G pp=>⟨ρ,hs,F,r',rel.ext pp.same,e2,λv' H2 G' pp'=>?_⟩⟩
  have rp:=pp.rp.same pp'.same
  have rp':=pp'.rp
  cases hr:r.d with
  | int i=>
   cases hr':r'.d with
   | int j=>
    rw[hr,hr']at e
    rw[hr]at rp
    rw[hr']at rp'
    dsimp only at e
    split at e
    ·rename_i hz
     cases e
     rw[rp.int_inv,rp'.int_inv]
     refine⟨i,j,rfl,hz.2,q _ H2 [] (pp.same.trans pp'.same) QhW (λt ht=>by simp at ht) QaJ.nil ?_⟩
     rw[QfK,Qbd];omega
    ·cases e
   | _=>rw[hr,hr']at e;cases e
  | _=>rw[hr]at e;cases e
noncomputable def Qcs(ds:List D):List D:=ds.zipIdx.map λq=> .tup [.int q.2,q.1]
theorem Qgg:(Qcs ds).length=ds.length:=by simp[Qcs]
theorem QoZ{ds:List D}{i:Nat}{d:D}(h:(Qcs ds)[i]? =some d):∃e,ds[i]? =some e/\d= .tup [.int i,e]:=by
 unfold Qcs at h
 rw[Zm,Zbx]at h
 cases q:ds[i]? with
 | none=>rw[q]at h;cases h
 | some e=>rw[q]at h;simp at h;exact⟨e,rfl,h.symm⟩
theorem Qn5{K:PySem.W.Frag}{c:Addr}{ds:List D}{G:List Addr}:Walk K (Ite K c) [(.ref c,.lst ds,G)] (Qcs ds) where
 stop:=λH h=>by
  obtain⟨l,vs,L,e,hl,rl,zl,el⟩:=(h _ (ZF.mpr rfl)).lst_inv
  cases e
  exact⟨vs,QK hl,by rw[Qgg,rl.length];exact Zq _⟩
 go:=λi H hi h=>by
  obtain⟨l,vs,L,e,hl,rl,zl,el⟩:=(h _ (ZF.mpr rfl)).lst_inv
  cases e
  rw[Qgg]at hi
  have:i<vs.length:=by rw[← rl.length];exact hi
  exact⟨vs,vs[i],QK hl,by simp[this]⟩
 yld:=λi d H x H' e h y=>by
  obtain⟨l,vs,L,e1,hl,rl,zl,el⟩:=(h _ (ZF.mpr rfl)).lst_inv
  cases e1
  obtain⟨d',e',rfl⟩:=QoZ e
  obtain⟨pp,u,rfl,hp,rfl,y⟩:=y
  obtain⟨v,G',h1,h2,h3⟩:=rl.nth e'
  have:=y vs (QK hl)
  rw[h1]at this
  cases this
  have s:=Qb4 (o:= .tup [.int i,u]) hp
  refine⟨s,G',Rp.QhX QaF ?_,λz hz=>⟨_,ZF.mpr rfl,?_⟩⟩
  ·simp only[Rps]
   exact⟨.int i,[u],[],G',rfl,rfl,.int_mk,u,[],G',[],rfl,by simp,h2.same s,rfl,rfl⟩
  ·have:=h3 z hz
   rcases el with rfl | rfl
   ·exact Zc _ this
   ·exact this
noncomputable def QbH(fa:DE):DI:=λρ=>(fa ρ).bind λr=>match r.d with
 | .lst xs=>some ⟨Qcs xs,r.M⟩
 | _=>none
theorem QtX(hg:Gl X "enumerate")(hm:X.mg "enumerate" =none)(ha:SE X a fa)(hs:starEach [a] X.env=[(false,eval a X.env)]):SI X (.Tuple es tk tpos) (.Call (.Name "enumerate" p) [a] [] pos) (QbH fa):=λH0 A0=>
 (Qtu hg hm (Q5 (ha H0 A0) Qa2 hs) hs).mono λσ H Rr=>exK λρ hs F ir rel e q=>by
  refine Qf e λr e1 e=>?_
  refine⟨ρ,hs,F,r,rel,e1,λv H1 G pp=>?_⟩
  have rp:=pp.rp
  cases hr:r.d with
  | lst xs=>
   rw[hr]at e rp
   cases e
   obtain⟨c,vs,L,rfl,hl,rl,zl,el⟩:=rp.lst_inv
   refine⟨c,rfl,⟨vs,QK hl⟩,q _ H1 [(.ref c,.lst xs,G)] pp.same Qn5 (λt ht=>?_) pp.own (by rw[Qgg];exact zl)⟩
   rw[ZF.mp ht]
   exact⟨rp,pp.src⟩
  | _=>rw[hr]at e;cases e
noncomputable def Qef(xs ys:List D):List D:=(xs.zip ys).map λq=> .tup [q.1,q.2]
theorem Qg7:(Qef xs ys).length=min xs.length ys.length:=by simp[Qef]
theorem QpZ{xs ys:List D}{i:Nat}{d:D}(h:(Qef xs ys)[i]? =some d):∃e f,xs[i]? =some e/\ys[i]? =some f/\d= .tup [e,f]:=by
 unfold Qef at h
 rw[Zm]at h
 cases q:(xs.zip ys)[i]? with
 | none=>rw[q]at h;cases h
 | some e=>
  rw[q]at h
  obtain⟨h1,h2⟩:=ZbN.mp q
  exact⟨e.1,e.2,h1,h2,(Option.some.inj h).symm⟩
theorem QqA{K:PySem.W.Frag}{c c':Addr}{xs ys:List D}{G G':List Addr}:Walk K (Itz K c c') [(.ref c,.lst xs,G),(.ref c',.lst ys,G')] (Qef xs ys) where
 stop:=λH h=>by
  obtain⟨l,vs,L,e,hl,rl,zl,el⟩:=(h _ (Zh)).lst_inv
  obtain⟨l',vs',L',e',hl',rl',zl',el'⟩:=(h _ (Zc _ Zh)).lst_inv
  cases e
  cases e'
  refine⟨vs,vs',QK hl,QK hl',?_⟩
  rw[Qg7,← rl.length,← rl'.length];omega
 go:=λi H hi h=>by
  obtain⟨l,vs,L,e,hl,rl,zl,el⟩:=(h _ (Zh)).lst_inv
  obtain⟨l',vs',L',e',hl',rl',zl',el'⟩:=(h _ (Zc _ Zh)).lst_inv
  cases e
  cases e'
  rw[Qg7]at hi
  have h1:i<vs.length:=by rw[← rl.length];omega
  have h2:i<vs'.length:=by rw[← rl'.length];omega
  exact⟨vs,vs',vs[i],vs'[i],QK hl,QK hl',by simp[h1],by simp[h2]⟩
 yld:=λi d H x H' e h y=>by
  obtain⟨l,vs,L,e1,hl,rl,zl,el⟩:=(h _ (Zh)).lst_inv
  obtain⟨l',vs',L',e1',hl',rl',zl',el'⟩:=(h _ (Zc _ Zh)).lst_inv
  cases e1
  cases e1'
  obtain⟨d1,d2,ea,eb,rfl⟩:=QpZ e
  obtain⟨pp,u,u',rfl,hp,rfl,y,y'⟩:=y
  obtain⟨v,G1,h1,h2,h3⟩:=rl.nth ea
  obtain⟨v',G2,h1',h2',h3'⟩:=rl'.nth eb
  have:=y vs (QK hl)
  rw[h1]at this
  cases this
  have:=y' vs' (QK hl')
  rw[h1']at this
  cases this
  have s:=Qb4 (o:= .tup [u,u']) hp
  refine⟨s,G1++G2,Rp.QhX QaF ?_,λz hz=>?_⟩
  ·simp only[Rps]
   exact⟨u,[u'],G1,G2,rfl,rfl,h2.same s,u',[],G2,[],rfl,by simp,h2'.same s,rfl,rfl⟩
  ·rcases ZK.mp hz with hz | hz
   ·refine⟨_,Zh,?_⟩
    have:=h3 z hz
    rcases el with rfl | rfl
    ·exact Zc _ this
    ·exact this
   ·refine⟨_,Zc _ Zh,?_⟩
    have:=h3' z hz
    rcases el' with rfl | rfl
    ·exact Zc _ this
    ·exact this
noncomputable def QcF(fa fb:DE):DI:=λρ=>(fa ρ).bind λr=>(fb ρ).bind λr'=>match r.d,r'.d with
 | .lst xs,.lst ys=>some ⟨Qef xs ys,r.M++r'.M⟩
 | _,_=>none
theorem Quw(hg:Gl X "zip")(hm:X.mg "zip" =none)(ha:SE X a fa)(hb:SE X b fb)(hs:starEach [a,b] X.env=[(false,eval a X.env),(false,eval b X.env)])(hs2:starEach [b] X.env=[(false,eval b X.env)]):
  SI X (.Tuple es tk tpos) (.Call (.Name "zip" p) [a,b] [] pos) (QcF fa fb):=λH0 A0=>
 (QvE hg hm (Q5 (ha H0 A0) (Q5 (hb H0 A0) Qa2 hs2) (by rw[hs,hs2])) hs hs2).mono λσ H Rr=>exK λρ hs F ir rel e q=>by
  refine Qf e λr e1 e=>?_
  refine Qf e λr' e2 e=>?_
  refine⟨ρ,hs,F,r,rel,e1,λv H1 G pp=>⟨ρ,hs,F,r',rel.ext pp.same,e2,λv' H2 G' pp'=>?_⟩⟩
  have rp:=pp.rp.same pp'.same
  have rp':=pp'.rp
  cases hr:r.d with
  | lst xs=>
   cases hr':r'.d with
   | lst ys=>
    rw[hr,hr']at e
    rw[hr]at rp
    rw[hr']at rp'
    cases e
    obtain⟨c,vs,L,rfl,hl,rl,zl,el⟩:=rp.lst_inv
    obtain⟨c',vs',L',rfl,hl',rl',zl',el'⟩:=rp'.lst_inv
    refine⟨c,c',rfl,⟨vs,QK hl⟩,⟨vs',QK hl'⟩,q _ H2 [(.ref c,.lst xs,G),(.ref c',.lst ys,G')] (pp.same.trans pp'.same) QqA (λt ht=>?_) (pp.own.append pp'.own) (by rw[Qg7];omega)⟩
    have sa:=pp.src.append pp'.src pp.same
    rcases Zn.mp ht with rfl | ht
    ·exact⟨rp,λz hz=>sa z (Zi _ hz)⟩
    ·rw[ZF.mp ht]
     exact⟨rp',λz hz=>sa z (Zl _ hz)⟩
   | _=>rw[hr,hr']at e;cases e
  | _=>rw[hr]at e;cases e
end
end HS
namespace HS
open PySem L2
section
end
end HS
namespace HS
open PySem PySem.Spec L2
inductive Tg where
 | nm (i:Nat)
 | tp (is:List Nat)
noncomputable def Tg.slots:Tg->List Nat
 | .nm i=>[i]
 | .tp is=>is
noncomputable def Qc9:List Nat->List D->En->En
 | i::is,d::ds,ρ=>Qc9 is ds (ρ.set i (some (d,d.flat)))
 | _,_,ρ=>ρ
noncomputable def QaC:Tg->D->En->Option En
 | .nm i,d,ρ=>some (ρ.set i (some (d,d.flat)))
 | .tp is,.tup xs,ρ=>if xs.length=is.length then some (Qc9 is xs ρ)else none
 | .tp is,.lst xs,ρ=>if xs.length=is.length then some (Qc9 is xs ρ)else none
 | .tp _,_,_=>none
noncomputable def tG(K:PySem.W.Frag)(H0:Hp)(A0:List Addr)(t:Tg):TG:=λv σ H Q=>∃ρ hs F d G ρ',Rel K H0 A0 hs ρ F σ H/\Rp K H d v G/\Shr H0 A0 ρ F G/\QaC t d ρ=some ρ'∧
 ∀σ' F',Rel K H0 A0 hs ρ' F' σ' H->(∀j,j∉t.slots->σ'[j]? =σ[j]?)->(∀j a,a∈F' j->a∈F j∨a∈G)->Q σ' H
def SG(X:Cx)(tg:Expr)(t:Tg):Prop:=∀H0 A0,PG X tg (tG X.K H0 A0 t)
theorem _root_.L2.PG.mono{X:Cx}{tg:Expr}{t t':TG}(h:PG X tg t)(m:∀v σ H Q,t' v σ H Q->t v σ H Q):PG X tg t':=λpins s σ H v u Q I r q=>h pins s σ H v u Q I r (m v σ H Q q)
noncomputable def QhZ:List Nat->TGs
 | []=>QuE
 | i::is=>QrK (QdR i) (QhZ is)
theorem Shr.set{H0:Hp}{A0:List Addr}{ρ:En}{F:Nat->List Addr}{G G1:List Addr}{i:Nat}{d:D}(h:Shr H0 A0 ρ F G)(hf:d.flat=true->G1=[]):Shr H0 A0 (ρ.set i (some (d,d.flat))) (λj=>if j=i then G1 else F j) G:=λa ha=>by
 refine⟨(h a ha).1,λj d' e=>?_⟩
 by_cases hj:j=i
 ·subst hj
  show ¬a∈(if j=j then G1 else F j)
  rw[if_pos rfl]
  have hl:j<ρ.length:=by
   by_cases hl:j<ρ.length
   ·exact hl
   ·rw[Zv (by simp;omega)]at e;cases e
  rw[ZH hl]at e
  have e1:=Option.some.inj (Option.some.inj e)
  rw[hf (congrArg Prod.snd e1)]
  simp
 ·rw[Zj (Ne.symm hj)]at e
  show ¬a∈(if j=i then G1 else F j)
  rw[if_neg hj]
  exact(h a ha).2 j d' e
theorem Qhb{K:PySem.W.Frag}{H0:Hp}{A0:List Addr}{hs:List (V×D×List Addr)}:∀(is:List Nat) (ds:List D) (vs:List V) (ρ:En) (F:Nat->List Addr) (σ:L2.St) (H:Hp) (G:List Addr) (Q:L2.St->Hp->Prop),
  Rel K H0 A0 hs ρ F σ H->Rps K H ds vs G->Shr H0 A0 ρ F G->ds.length=is.length→
  (∀σ' F',Rel K H0 A0 hs (Qc9 is ds ρ) F' σ' H->(∀j,j∉is->σ'[j]? =σ[j]?)->(∀j a,a∈F' j->a∈F j∨a∈G)->Q σ' H)->QhZ is vs σ H Q
 | [],ds,vs,ρ,F,σ,H,G,Q,rel,rp,sh,hl,q=>by
  have:ds=[]:=by simpa using hl
  subst this
  simp only[Rps]at rp
  exact⟨rp.1,q σ F rel (λ_ _=>rfl) λ_ _ h=> .inl h⟩
 | i::is,[],vs,ρ,F,σ,H,G,Q,rel,rp,sh,hl,q=>by simp at hl
 | i::is,d::ds,vs,ρ,F,σ,H,G,Q,rel,rp,sh,hl,q=>by
  simp only[Rps]at rp
  obtain⟨v,ws,G1,G2,rfl,rfl,r1,r2⟩:=rp
  refine⟨v,ws,rfl,?_⟩
  have sh1:Shr H0 A0 ρ F G1:=λa ha=>sh a (Zi _ ha)
  have sh2:Shr H0 A0 ρ F G2:=λa ha=>sh a (Zl _ ha)
  refine Qhb is ds ws _ _ _ H G2 Q (rel.QpV r1 sh1) r2 (sh2.set r1.QaW) (by simpa using hl) λσ' F' rel' k m=>q σ' F' rel' (λj hj=>?_) λj a ha=>?_
  ·have h1:j≠i:=λz=>hj (by rw[z];exact Zh)
   rw[k j λz=>hj (Zc _ z),Zj (Ne.symm h1)]
  ·rcases m j a ha with z | z
   ·by_cases hj:j=i
    ·rw[if_pos hj]at z;exact .inr (Zi _ z)
    ·rw[if_neg hj]at z;exact .inl z
   ·exact .inr (Zl _ z)
section
variable {X:Cx}{tg:Expr}{pos:Pos}
theorem Qsv{i:Nat}{x:Str}(h:PG X (.Name x pos) (QdR i)):SG X (.Name x pos) (.nm i):=λH0 A0=>h.mono λv σ H Q hpt=>by
 obtain⟨ρ,hs,F,d,G,ρ',rel,rp,sh,e,q⟩:=hpt
 cases e
 refine q _ _ (rel.QpV rp sh) (λj hj=>?_) λj a ha=>?_
 ·have:j≠i:=λz=>hj (by simp[Tg.slots,z])
  rw[Zj (Ne.symm this)]
 ·by_cases hj:j=i
  ·rw[if_pos hj]at ha;exact .inr ha
  ·rw[if_neg hj]at ha;exact .inl ha
theorem QsF{es:List Expr}{k:Nat}{t:TGs}{n:Nat}(hc:X.calm=true)(h:PGs X es t)
  (hn:(assignEach es X.env).length=n) (hst:(assignEach es X.env).findIdx? (·.1)=none):PG X (.Tuple es k pos) (λv σ H Q=>∃a xs,v= .ref a/\SqL X.K H a xs/\xs.length=n/\t xs σ H Q):=by
 intro pins s σ H v u Q I r hw
 obtain⟨a,xs,e1,hq,hl,hw⟩:=hw
 subst e1
 cases r
 obtain⟨its,rv,ht,hz⟩:=I.list hq
 rw[PyProof.Rows.assign_Tuple]
 refine wpAny_bind (wpAny_standAt ?_)
 unfold unpack
 rw[hn,hst,show n=its.toArray.size by simp[← hl,rv.length]]
 refine wpAny_bind (wpAny_holding (PySem.W.kun_itemsOf (I.ok.hd hc) ht.isList λh' hx=>?_))
 have I1:Inv X pins σ H {s with heap:=h'}:=I.kept (t':=s.toks) λb o e=>hx b o (ZJ (Zr e)) e
 exact h pins _ σ H xs _ Q I1 (by simpa using rv) hw
theorem QuO{es:List Expr}{k:Nat}{is:List Nat}(hc:X.calm=true)(h:PGs X es (QhZ is))(hn:(assignEach es X.env).length=is.length)(hst:(assignEach es X.env).findIdx? (·.1)=none):SG X (.Tuple es k pos) (.tp is):=λH0 A0=>
 λpins s σ H v u Q I r hpt=>by
  obtain⟨ρ,hs,F,d,G,ρ',rel,rp,sh,e,q⟩:=hpt
  cases d with
  | tup xs=>
   simp only[QaC]at e
   split at e
   ·rename_i hl
    cases e
    obtain⟨a,vs,rfl,hq,rs⟩:=rp.QaB
    exact Qvf hc h hn hst pins s σ H _ u Q I r ⟨a,vs,rfl,hq,by rw[← rs.length];exact hl,Qhb is xs vs ρ F σ H G Q rel rs sh hl q⟩
   ·cases e
  | lst xs=>
   simp only[QaC]at e
   split at e
   ·rename_i hl
    cases e
    obtain⟨a,vs,L,rfl,hq,rs,_,eG⟩:=rp.lst_inv
    have sub:∀b∈L,b∈G:=λb hb=>by
     rcases eG with rfl | rfl
     ·exact Zc _ hb
     ·exact hb
    exact QsF hc h hn hst pins s σ H _ u Q I r ⟨a,vs,rfl,QK hq,by rw[← rs.length];exact hl,Qhb is xs vs ρ F σ H L Q rel rs (λb hb=>sh b (sub b hb)) hl λσ' F' rel' k m=>q σ' F' rel' k λj b hb=>(m j b hb).imp id (sub b)⟩
   ·cases e
  | _=>simp only[QaC]at e;cases e
end
noncomputable def QdW(cap:List (Option Nat))(ρ:En):En:=cap.map λo=>o.bind λi=>match ρ[i]? with
 | some (some (d,_))=>some (d,d.flat)
 | _=>none
noncomputable def Qnq(cap:List (Option Nat))(ρ:En):List Nat:=cap.filterMap λo=>o.bind λi=>match ρ[i]? with
 | some (some (d,b))=>if b && !d.flat then some i else none
 | _=>none
noncomputable def QeE(t:Tg)(ft:DT)(fe:DE)(ρc:En)(acc:List D×Bool)(d:D):Option (List D×Bool):=
 (QaC t d ρc).bind λρ1=>(ft ρ1).bind λc=>if c=true then(fe ρ1).map λr=>(acc.1++[r.d],acc.2 && r.norm.fr)else some acc
noncomputable def Qaf(fi:DI)(t:Tg)(cap:List (Option Nat))(ft:DT)(fe:DE):DE:=λρ=>(fi ρ).bind λir=>
 (ir.items.foldlM (QeE t ft fe (QdW cap ρ)) ([],true)).map λq=>if q.2=true then⟨.lst q.1,true,[]⟩else⟨.lst q.1,false,ir.M++Qnq cap ρ⟩
def QcH(ρ:En):Prop:=∀(j:Nat) d,ρ[j]? =some (some (d,true))->d.flat=true
theorem QcH.set{ρ:En}(h:QcH ρ)(i:Nat)(d:D):QcH (ρ.set i (some (d,d.flat))):=λj d' e=>by
 by_cases hj:j=i
 ·subst hj
  have hl:j<ρ.length:=by
   by_cases hl:j<ρ.length
   ·exact hl
   ·rw[Zv (by simp;omega)]at e;cases e
  rw[ZH hl]at e
  have e1:=Option.some.inj (Option.some.inj e)
  have h1:d=d':=congrArg Prod.fst e1
  have h2:d.flat=true:=congrArg Prod.snd e1
  rw[← h1];exact h2
 ·rw[Zj (Ne.symm hj)]at e
  exact h j d' e
theorem QcH.Qc9:∀(is:List Nat) (ds:List D) {ρ:En},QcH ρ->QcH (Qc9 is ds ρ)
 | [],_,_,h=>h
 | _::_,[],_,h=>h
 | i::is,d::ds,_,h=>QcH.Qc9 is ds (h.set i d)
theorem QcH.bind{t:Tg}{d:D}{ρ ρ':En}(h:QcH ρ)(e:QaC t d ρ=some ρ'):QcH ρ':=by
 cases t with
 | nm i=>cases e;exact h.set i d
 | tp is=>
  cases d with
  | tup xs=>
   simp only[QaC]at e
   split at e
   ·cases e;exact h.Qc9 is xs
   ·cases e
  | lst xs=>
   simp only[QaC]at e
   split at e
   ·cases e;exact h.Qc9 is xs
   ·cases e
  | _=>simp only[QaC]at e;cases e
theorem Qhn(cap:List (Option Nat))(ρ:En):QcH (QdW cap ρ):=λj d e=>by
 unfold QdW at e
 rw[Zm]at e
 cases q:cap[j]? with
 | none=>rw[q]at e;cases e
 | some o=>
  rw[q]at e
  cases o with
  | none=>cases e
  | some i=>
   simp only[ZO,Za,Option.some.injEq]at e
   split at e
   ·have e1:=Option.some.inj e
    have h1:=congrArg Prod.fst e1
    have h2:=congrArg Prod.snd e1
    dsimp only at h1 h2
    rw[← h1];exact h2
   ·cases e
theorem Qjj{cap:List (Option Nat)}{ρ:En}{j:Nat}{d:D}{b:Bool}(e:(QdW cap ρ)[j]? =some (some (d,b))):∃i b',cap[j]? =some (some i)/\ρ[i]? =some (some (d,b')):=by
 unfold QdW at e
 rw[Zm]at e
 cases q:cap[j]? with
 | none=>rw[q]at e;cases e
 | some o=>
  rw[q]at e
  cases o with
  | none=>cases e
  | some i=>
   simp only[ZO,Za,Option.some.injEq]at e
   split at e
   ·rename_i d' b' hi
    have e1:=Option.some.inj e
    have h1:d'=d:=congrArg Prod.fst e1
    subst h1
    exact⟨i,b',rfl,hi⟩
   ·cases e
def QkT(X:Cx)(ifs:List Expr)(f:DT):Prop:=∀H0 A0,PTs X ifs (tVT X.K H0 A0 f)
noncomputable def Qb3:DT:=λ_=>some true
theorem Qrs{X:Cx}:QkT X [] Qb3:=λH0 A0 pins s σ H Q I=>exK λρ hs F b rel e q=>by
 cases e
 exact QtS pins s σ H Q I (q H (QD.refl _))
theorem QqP{X:Cx}{c:Expr}{f:DT}(h:ST X c f):QkT X [c] f:=λH0 A0=>Qtg (h H0 A0)
structure Qj9 (X:Cx) (N':List Str) (scope:Scope) (cap:List (Option Nat)) (tgs:List Nat):Prop where
 len:cap.length=N'.length
 get:∀(j i:Nat),cap[j]? =some (some i)->∃x,N'[j]? =some x/\scope.names.lookup x=some .free/\X.N[i]? =some x/\(X.env.kindOf x=some .cell∨X.env.kindOf x=some .free)
 apart:∀(j i:Nat),cap[j]? =some (some i)->j∉tgs
theorem join_some{α:Type}{o:Option (Option α)}{v:α}(h:o.join=some v):o=some (some v):=by
 cases o with
 | none=>cases h
 | some p=>cases p with
  | none=>cases h
  | some x=>exact h▸rfl
theorem Qjk{X:Cx}{N':List Str}{scope:Scope}{fi:DI}{t:Tg}{cap:List (Option Nat)}{ft:DT}{fe:DE}{H0:Hp}{A0:List Addr}{σ:L2.St}{H:Hp}{Q:VK}(hc:Qj9 X N' scope cap t.slots):
  tV X.K H0 A0 (Qaf fi t cap ft fe) σ H Q->Qj8 (tI X.K H0 A0 fi) (QhL X N' scope) (tG X.K (λ_=>none) [] t) (tVT X.K (λ_=>none) [] ft) (tV X.K (λ_=>none) [] fe) σ H Q:=exK λρ hs F r rel e q=>by
 refine Qf e λir e1 e=>?_
 obtain⟨⟨xs,f⟩,ef,e⟩:=Ze.mp e
 subst e
 refine⟨ρ,hs,F,ir,rel,e1,λJ H1 ts s1 wk hts ow hz=>?_⟩
 refine⟨cap.map λo=>o.bind λi=>σ[i]?.join,⟨by simp[hc.len],λj x v hN hv=>?_⟩,λDl hD=>?_⟩
 ·rw[Zm]at hv
  cases qc:cap[j]? with
  | none=>rw[qc]at hv;cases hv
  | some o=>
   rw[qc]at hv
   cases o with
   | none=>cases hv
   | some i=>
    simp only[ZO,Za,Option.some.injEq]at hv
    obtain⟨y,h1,h2,h3,h4⟩:=hc.get j i qc
    rw[hN]at h1;cases h1
    exact⟨h2,i,h3,join_some hv,h4⟩
 generalize hσc:(cap.map λo=>o.bind λi=>σ[i]?.join)=σc
 generalize hρc:QdW cap ρ=ρc at ef
 have hF0:∃Fc:Nat->List Addr,Fc=λj=>match cap[j]? with
  | some (some i)=>(match ρ[i]? with
   | some (some _)=>F i
   | _=>[])
  | _=>[]:=⟨_,rfl⟩
 obtain⟨Fc,hFc⟩:=hF0
 have rel1:=rel.ext s1
 have relC:∀H2,QD H1 H2->Rel X.K (λ_=>none) [] [] ρc Fc σc H2:=λH2 s2=>by
  refine⟨by rw[← hρc,← hσc];simp[QdW],λj d b e=>?_,λj d e=>?_,λj d b e a ha=> .inl rfl,λt ht=>(by simp at ht),λb o z=>(by cases z)⟩
  ·rw[← hρc]at e
   obtain⟨i,b',h1,h2⟩:=Qjj e
   obtain⟨v,h3,h4⟩:=(rel1.ext s2).val i d b' h2
   refine⟨v,?_,?_⟩
   ·rw[← hσc,Zm,h1]
    simp only[ZO,Za,h3,Option.join_some]
   ·rw[hFc];simp only[h1,h2];exact h4
  ·have hf:d.flat=true:=Qhn cap ρ j d (by rw[hρc];exact e)
   have:Fc j=[]:=by
    rw[← hρc]at e
    obtain⟨i,b',h1,h2⟩:=Qjj e
    obtain⟨v,h3,h4⟩:=rel1.val i d b' h2
    rw[hFc];simp only[h1,h2];exact h4.QaW hf
   rw[this]
   exact⟨(QcD d hf).symm,Zaw,λa ha=>(by simp at ha),λ_ _ _ _ _ a ha=>(by simp at ha),λt ht=>(by simp at ht)⟩
 have shC:∀G,Shr (λ_=>none) [] ρc Fc G:=λG a ha=>⟨.inl rfl,λj d e hj=>by
  have h0:=(relC H1 (QD.refl _)).own j d e
  have hf:d.flat=true:=Qhn cap ρ j d (by rw[hρc];exact e)
  have:(Fc j).length=0:=by rw[h0.1,QcD d hf]
  rw[Zae this]at hj
  simp at hj⟩
 have hSh:QcH ρc:=by rw[← hρc];exact Qhn cap ρ
 have heldOf:∀H2,QD H1 H2->Qim X.K H2 ts:=λH2 s2 t ht=>(hts t ht).1.same s2
 have oldOf:∀a,((∃t∈ts,a∈t.2.2)∨∃j,a∈Fc j)->(∃vs,H1 a=some (.lst vs))/\(H a=none∨∃(i:Nat) (d:D) (b:Bool),ρ[i]? =some (some (d,b))/\a∈F i/\(b=true->i∈ir.M++Qnq cap ρ)):=λa ha=>by
  rcases ha with⟨t,ht,ha⟩ | ⟨j,ha⟩
  ·refine⟨(hts t ht).1.mem a ha,?_⟩
   rcases(hts t ht).2 a ha with z | ⟨i,d,b,e,m,w⟩
   ·exact .inl z
   ·exact .inr ⟨i,d,b,e,m,λhb=>Zi _ (w hb)⟩
  ·have ha0:=ha
   rw[hFc]at ha
   dsimp only at ha
   split at ha
   ·rename_i i hi
    split at ha
    ·rename_i db hdb
     obtain⟨d,b⟩:=db
     obtain⟨v,h3,h4⟩:=rel1.val i d b hdb
     refine⟨h4.mem a ha,.inr ⟨i,d,b,hdb,ha,λhb=>Zl _ ?_⟩⟩
     unfold Qnq
     refine Zbg.mpr ⟨some i,Zy hi,?_⟩
     simp only[Za,hdb]
     have hnf:d.flat=false:=by
      cases hf:d.flat with
      | false=>rfl
      | true=>rw[h4.QaW hf]at ha;simp at ha
     rw[hb,hnf];rfl
    ·simp at ha
   ·simp at ha
 have fresh5:∀H2,QD H1 H2->∀a,H2 a=none->H1 a=none:=λH2 s2 a h=>s2.free h
 refine⟨λi m acc H2=>m=ir.items.length-i/\i<=ir.items.length/\QD H1 H2/\H2 Dl=some (.lst acc)/\∃(ys:List D) (g:Bool) (G:List Addr),(ir.items.drop i).foldlM (QeE t ft fe ρc) (ys,g)=some (xs,f)/\Rps X.K H2 ys acc G/\ys.length<=i∧
  (∀a∈G,a≠Dl/\(H1 a=none∨(∃t∈ts,a∈t.2.2)∨∃j,a∈Fc j))/\(g=true->G.length=nls ys/\∀a,G.count a<=nw H1 a),⟨ir.items.length,rfl,ZZ _,Qb4 hD,QaF,[],true,[],by simpa using ef,by simp[Rps],Zq _,λa ha=>(by simp at ha),λ_=>⟨rfl,λa=>by simp⟩⟩,?_⟩
 rintro i m acc H2 ⟨rfl,hi,s2,eD,ys,g,G,hfold,rps,hlen,hG,hcnt⟩
 by_cases hlt:i<ir.items.length
 ·refine .inr ⟨wk.go i H2 hlt (heldOf H2 s2),λx H3 hy=>?_⟩
  obtain⟨s3,G0,rp0,hG0⟩:=wk.yld i ir.items[i] H2 x H3 (by simp[hlt]) (heldOf H2 s2) hy
  rw[Zap hlt,ZbY]at hfold
  refine Qf hfold λacc1 hstep hrest=>?_
  unfold QeE at hstep
  refine Qf hstep λρ1 eb hstep=>?_
  refine Qf hstep λc ec hstep=>?_
  have sh1:QcH ρ1:=hSh.bind eb
  refine⟨ρc,[],Fc,ir.items[i],G0,ρ1,relC H3 (s2.trans s3),rp0,shC G0,eb,λσ2 F2 rel2 keep mem2=>⟨λj v hv=>?_,ρ1,[],F2,c,rel2,ec,λH5 s5=>?_⟩⟩
  ·have hj:j∉t.slots:=λhj=>by
    rw[← hσc,Zm]at hv
    cases qc:cap[j]? with
    | none=>rw[qc]at hv;cases hv
    | some o=>
     cases o with
     | none=>rw[qc]at hv;cases hv
     | some k=>exact hc.apart j k qc hj
   rw[keep j hj];exact hv
  have s15:QD H1 H5:=(s2.trans s3).trans s5
  have eD5:H5 Dl=some (.lst acc):=s5 _ _ (s3 _ _ eD)
  cases c with
  | false=>
   rw[if_neg Zat]at hstep
   refine Qq2 ?_
   cases hstep
   exact⟨_,by omega,rfl,hlt,s15,eD5,ys,g,G,hrest,rps.same (s3.trans s5),by omega,hG,hcnt⟩
  | true=>
   rw[if_pos rfl]at hstep
   refine Qql ?_
   obtain⟨rr,er,hstep⟩:=Ze.mp hstep
   subst hstep
   refine⟨ρ1,[],F2,rr,rel2.ext s5,er,λy H6 Ge pe=>?_⟩
   have eD6:H6 Dl=some (.lst acc):=pe.same _ _ eD5
   have s16:=s15.trans pe.same
   refine⟨eD6,?_,_,by omega,rfl,hlt,?_⟩
   ·rw[← rps.length];exact ZbL hlen (ZI hlt hz)
   have hGe:∀a∈Ge,a≠Dl/\(H1 a=none∨(∃t∈ts,a∈t.2.2)∨∃j,a∈Fc j):=λa ha=>by
    rcases pe.src a ha with z | ⟨j,d,b,ej,hj,_⟩
    ·exact⟨λw=>(by rw[w,eD5]at z;cases z),.inl (s15.free z)⟩
    ·have h1:(∃t∈ts,a∈t.2.2)∨∃j,a∈Fc j:=by
      rcases mem2 j a hj with w | w
      ·exact .inr ⟨j,w⟩
      ·exact .inl (hG0 a w)
     obtain⟨⟨vs,w⟩,_⟩:=oldOf a h1
     exact⟨λw'=>(by rw[w',hD]at w;cases w),.inr h1⟩
   have nD:Dl∉G:=λh=>(hG _ h).1 rfl
   have nDe:Dl∉Ge:=λh=>(hGe _ h).1 rfl
   have sU:QD H1 (L2.upd H6 Dl (.lst (acc++[y]))):=λb o hb=>by rw[QJ (Qbr hb hD)];exact s16 b o hb
   refine⟨sU,QaF,ys++[rr.d],g && rr.norm.fr,G++Ge,hrest,?_,by rw[Zt,ZaJ];omega,λa ha=>?_,λhg=>?_⟩
   ·refine Rps.append ((rps.same ((s3.trans s5).trans pe.same)).upd eD6 nD) ?_
    simp only[Rps]
    exact⟨y,[],Ge,[],rfl,by simp,pe.rp.upd eD6 nDe,rfl,rfl⟩
   ·rcases ZK.mp ha with h | h
    ·exact hG a h
    ·exact hGe a h
   ·simp only[Zk]at hg
    obtain⟨l1,c1⟩:=hcnt hg.1
    have pn:=pe.norm
    obtain⟨c2,l2⟩:=pn.cnt hg.2
    rw[rr.Qcz]at l2
    have nlapp:∀(as bs:List D),nls (as++bs)=nls as+nls bs:=λas bs=>by
     induction as with
     | nil=>simp[nls]
     | cons a as ih=>simp only[Zbs,nls,ih];omega
    refine⟨by rw[Zt,l1,l2,nlapp];simp[nls],λa=>?_⟩
    have fl:((rr.norm.M.map F2).flatten).count a=0:=by
     rw[Zab]
     intro hm
     obtain⟨l,hl,hal⟩:=Zbt.mp hm
     obtain⟨j,hj,rfl⟩:=ZA.mp hl
     obtain⟨d,ej⟩:=pn.own j hj
     have hf:=sh1 j d ej
     obtain⟨v,_,rv⟩:=rel2.val j d true ej
     rw[rv.QaW hf]at hal
     simp at hal
    have h1:=c1 a
    have h2:=c2 a
    rw[fl]at h2
    rw[Zal]
    cases q5:H5 a with
    | some o=>rw[Qdw q5]at h2;omega
    | none=>
     rw[QaY q5]at h2
     have h0:G.count a=0:=Zab.mpr λhm=>by
      obtain⟨vs,w⟩:=rps.mem a hm
      rw[s5 _ _ (s3 _ _ w)]at q5;cases q5
     rw[QaY (s15.free q5)]
     omega
 ·have hn:i=ir.items.length:=by omega
  subst hn
  refine .inl ⟨wk.stop H2 (heldOf H2 s2),?_⟩
  rw[ZbZ]at hfold
  have:(ys,g)=(xs,f):=Option.some.inj hfold
  cases this
  have rp:Rp X.K H2 (.lst xs) (.ref Dl) (Dl::G):=Rp.Qe2 eD rps (ZM hlen hz)
  have hHD:H Dl=none:=s1.free hD
  split at q
  ·rename_i hg
   have hg:f=true:=hg
   obtain⟨l1,c1⟩:=hcnt hg
   have hn:∀a∈G,H1 a=none:=λa ha=>by
    have:=c1 a
    have h2:0<G.count a:=ZaA.mpr ha
    cases w:H1 a with
    | none=>rfl
    | some o=>rw[Qdw w]at this;omega
   refine q _ H2 (Dl::G) ⟨s1.trans s2,rp,λa ha=>?_,λ_=>⟨λa=>?_,by simp only[D.nl,Zo,l1]⟩,QaJ.nil⟩
   ·rcases Zn.mp ha with rfl | h
    ·exact .inl hHD
    ·exact .inl (s1.free (hn a h))
   ·rw[ZaO]
    have h1:=c1 a
    split
    ·rename_i w
     have w:Dl=a:=by simpa using w
     subst w
     have h0:G.count Dl=0:=Zab.mpr λh=>(hG _ h).1 rfl
     rw[QaY hHD];omega
    ·cases w:H1 a with
     | none=>rw[QaY w]at h1;rw[QaY (s1.free w)];omega
     | some o=>rw[Qdw w]at h1;omega
  ·refine q _ H2 (Dl::G) ⟨s1.trans s2,rp,λa ha=>?_,λz=>(by cases z),?_⟩
   ·rcases Zn.mp ha with rfl | h
    ·exact .inl hHD
    ·rcases(hG a h).2 with z | z
     ·exact .inl (s1.free z)
     ·exact(oldOf a z).2
   ·refine ow.append λi hi=>?_
    unfold Qnq at hi
    obtain⟨o,_,ho⟩:=Zbg.mp hi
    cases o with
    | none=>cases ho
    | some k=>
     simp only[Za]at ho
     split at ho
     ·rename_i d b hk
      split at ho
      ·rename_i hb
       cases ho
       simp only[Zk]at hb
       rw[hb.1]at hk
       exact⟨d,hk⟩
      ·cases ho
     ·cases ho
section
variable {X:Cx}{tg iter elt:Expr}{ifs:List Expr}{scope:Scope}{N':List Str}{pos:Pos}{fi:DI}{t:Tg}{cap:List (Option Nat)}{ft:DT}{fe:DE}
theorem QsV(hcalm:X.calm=true)(S:QdC X N' scope)(hi:SI X tg iter fi)(hcap:Qj9 X N' scope cap t.slots)
  (hin:∀cl C fp s3 H3,SG (cxc X N' scope cl C fp s3 H3) tg t/\QkT (cxc X N' scope cl C fp s3 H3) ifs ft/\SE (cxc X N' scope cl C fp s3 H3) elt fe) (hs:∀x,foldedSetIterable iter X.env x=pure x):
  SE X (.ListComp elt [⟨tg,iter,ifs,0⟩] scope pos) (Qaf fi t cap ft fe):=λH0 A0=>
 (QmX hcalm S (hi H0 A0) (λcl C fp s3 H3=>⟨(hin cl C fp s3 H3).1 _ _,(hin cl C fp s3 H3).2.1 _ _,(hin cl C fp s3 H3).2.2 _ _⟩) hs).mono λσ H Q h=>Qjk hcap h
end
end HS
namespace HS
open PySem PySem.Spec L2
inductive Out where
 | nx (ρ:En)
 | bk (ρ:En)
 | ct (ρ:En)
 | rt (d:D) (fr:Bool)
noncomputable abbrev DS:=En->Option Out
noncomputable def Fits(K:PySem.W.Frag)(H0:Hp)(A0:List Addr)(hs:List (V×D×List Addr))(E:Ends):Out->Prop
 | .nx ρ=>∀σ H F,Rel K H0 A0 hs ρ F σ H->E.nx σ H
 | .bk ρ=>∀σ H F,Rel K H0 A0 hs ρ F σ H->E.bk σ H
 | .ct ρ=>∀σ H F,Rel K H0 A0 hs ρ F σ H->E.ct σ H
 | .rt d fr=>∀v H G,Ret K H0 A0 d fr v H G->E.rt v H
noncomputable def tS(K:PySem.W.Frag)(H0:Hp)(A0:List Addr)(f:DS):TS:=λE σ H=>∃ρ hs F o,Rel K H0 A0 hs ρ F σ H/\f ρ=some o/\Fits K H0 A0 hs E o
def S1(X:Cx)(st:Stmt)(f:DS):Prop:=∀H0 A0,PS X st (tS X.K H0 A0 f)
def SS(X:Cx)(sts:List Stmt)(f:DS):Prop:=∀H0 A0,PSs X sts (tS X.K H0 A0 f)
theorem _root_.L2.PS.mono(h:PS X st t)(m:∀D σ H,t' D σ H->t D σ H):PS X st t':=λpins s σ H D I q=>h pins s σ H D I (m D σ H q)
theorem _root_.L2.PSs.mono(h:PSs X st t)(m:∀D σ H,t' D σ H->t D σ H):PSs X st t':=λpins s σ H D I q=>h pins s σ H D I (m D σ H q)
noncomputable def Qp:DS:=λρ=>some (.nx ρ)
noncomputable def Qe(f g:DS):DS:=λρ=>(f ρ).bind λo=>match o with
 | .nx ρ'=>g ρ'
 | .bk ρ'=>some (.bk ρ')
 | .ct ρ'=>some (.ct ρ')
 | .rt d fr=>some (.rt d fr)
noncomputable def Qrd:DS:=λρ=>some (.bk ρ)
noncomputable def Qp3:DS:=λρ=>some (.ct ρ)
noncomputable def Qy(i:Nat)(fa:DE):DS:=λρ=>(fa ρ).bind λr=>some (.nx (asg i r ρ))
noncomputable def Qcw(fa:DE):DE:=λρ=>(fa ρ).map λr=>⟨r.d,false,r.M⟩
noncomputable def QZ(fa:DE):DS:=λρ=>(fa ρ).bind λr=>some (.rt r.d (r.norm.fr && decide r.norm.M.Nodup))
noncomputable def Qdc(fa:DE):DS:=λρ=>(fa ρ).bind λ_=>some (.nx ρ)
noncomputable def sIf(g:DT)(f1 f2:DS):DS:=λρ=>(g ρ).bind λb=>if b=true then f1 ρ else f2 ρ
noncomputable def QcS(t:Tg)(fb:DS):List D->DS
 | [],ρ=>some (.nx ρ)
 | d::ds,ρ=>(QaC t d ρ).bind λρ1=>(fb ρ1).bind λo=>match o with
  | .nx ρ2=>QcS t fb ds ρ2
  | .ct ρ2=>QcS t fb ds ρ2
  | .bk ρ2=>some (.nx ρ2)
  | .rt d fr=>some (.rt d fr)
noncomputable def QaH(fi:DI)(t:Tg)(fb:DS):DS:=λρ=>(fi ρ).bind λir=>QcS t fb ir.items (QaE ir.M ρ)
noncomputable def QaL(g:DT)(fb:DS):Nat->DS
 | 0,_=>none
 | n+1,ρ=>(g ρ).bind λb=>if b=true then(fb ρ).bind λo=>match o with
  | .nx ρ2=>QaL g fb n ρ2
  | .ct ρ2=>QaL g fb n ρ2
  | .bk ρ2=>some (.nx ρ2)
  | .rt d fr=>some (.rt d fr)
  else some (.nx ρ)
section
theorem QvL:SS X [] Qp:=λH0 A0=>Qna.mono λE σ H=>exK λρ hs F o rel e q=>by
 cases e
 exact q σ H F rel
theorem Qr1(h1:S1 X st f)(h2:SS X sts g):SS X (st::sts) (Qe f g):=λH0 A0=>(Qb0 (h1 H0 A0) (h2 H0 A0)).mono λE σ H=>exK λρ hs F o rel e q=>by
 refine Qf e λo1 e1 e=>?_
 refine⟨ρ,hs,F,o1,rel,e1,?_⟩
 cases o1 with
 | nx ρ'=>exact λσ' H' F' rel'=>⟨ρ',hs,F',o,rel',e,q⟩
 | bk ρ'=>cases e;exact q
 | ct ρ'=>cases e;exact q
 | rt d fr=>cases e;exact q
theorem Qth:S1 X (.Pass pos) Qp:=λH0 A0=>Qsf.mono λE σ H=>exK λρ hs F o rel e q=>by
 cases e
 exact q σ H F rel
theorem Qrb:S1 X (.Break pos) Qrd:=λH0 A0=>QqD.mono λE σ H=>exK λρ hs F o rel e q=>by
 cases e
 exact q σ H F rel
theorem Qs7:S1 X (.Continue pos) Qp3:=λH0 A0=>QlY.mono λE σ H=>exK λρ hs F o rel e q=>by
 cases e
 exact q σ H F rel
theorem Qqh(h:SE X e fa):SE X e (Qcw fa):=λH0 A0=>(h H0 A0).mono λσ H Q=>exK λρ hs F r rel e q=>by
 obtain⟨r',e1,rfl⟩:=Ze.mp e
 exact⟨ρ,hs,F,r',rel,e1,λv H' G p=>q v H' G ⟨p.same,p.rp,p.src,λz=>(by cases z),p.own⟩⟩
theorem QlH(h:∀H0 A0,PS X st (QfL (tV X.K H0 A0 fa) (QdR i))):S1 X st (Qy i fa):=λH0 A0=>(h H0 A0).mono λE σ H=>exK λρ hs F o rel e q=>by
 refine Qf e λr e1 e=>?_
 cases e
 refine⟨ρ,hs,F,r,rel,e1,λv H' G p=>?_⟩
 obtain⟨F',rel'⟩:=rel.asg (i:=i) p
 exact q _ _ F' rel'
theorem Qtt(h:PS X st (Qey (tV X.K H0 A0 fa))):PS X st (tS X.K H0 A0 (Qdc fa)):=h.mono λE σ H=>exK λρ hs F o rel e q=>by
 refine Qf e λr e1 e=>?_
 cases e
 exact⟨ρ,hs,F,r,rel,e1,λv H' G p=>q σ H' F (rel.ext p.same)⟩
theorem Rel.ret(rel:Rel K H0 A0 hs ρ F σ H)(p:QN K ρ F H H' r v G):Ret K H0 A0 r.d (r.norm.fr && decide r.norm.M.Nodup) v H' G where
 same:=rel.same.trans p.same
 rp:=p.rp
 src:=λa ha=>by
  rcases p.src a ha with z | ⟨i,d,b,e,m,_⟩
  ·exact .inl (rel.same.free z)
  ·exact rel.src i d b e a m
 cnt:=λh=>by
  simp only[Zk,decide_eq_true_eq]at h
  have p':=p.norm
  obtain⟨h1,h2⟩:=p'.fresh rel h.1 h.2
  have h3:=(p'.cnt h.1).2
  rw[r.Qcz]at h3
  exact⟨h1,h3,λa ha=>(h2 a ha).1⟩
theorem QvK(he:SE X e fa):S1 X (.Return (some e) pos) (QZ fa):=λH0 A0=>(Qvy (he H0 A0)).mono λE σ H=>exK λρ hs F o rel e q=>by
 refine Qf e λr e1 e=>?_
 cases e
 exact⟨ρ,hs,F,r,rel,e1,λv H' G p=>q v H' G (rel.ret p)⟩
theorem Qwz(hc:ST X c gc)(ha:SS X a f)(hb:SS X b g):S1 X (.If c a b pos) (sIf gc f g):=λH0 A0=>(QwK (hc H0 A0) (ha H0 A0) (hb H0 A0)).mono λE σ H=>exK λρ hs F o rel e q=>by
 refine Qf e λc e1 e=>?_
 refine⟨ρ,hs,F,c,rel,e1,λH1 s1=>?_⟩
 cases c with
 | true=>exact Qql ⟨ρ,hs,F,o,rel.ext s1,e,q⟩
 | false=>exact Qq2 ⟨ρ,hs,F,o,rel.ext s1,e,q⟩
theorem Qub(hp:PassesOwn (model X.prog X.w) X.A X.env X.xe)(hc:X.calm=true)(hi:SI X tg iter fi)(hg:SG X tg t)(hb:SS X body f)(hs:∀x,foldedSetIterable iter X.env x=pure x):
  S1 X (.For tg iter body [] pos) (QaH fi t f):=λH0 A0=>(QoL hp hc (hi H0 A0) (hg H0 A0) (hb H0 A0) hs).mono λE σ H=>exK λρ hs F o rel e q=>by
 refine Qf e λir e1 e=>?_
 refine⟨ρ,hs,F,ir,rel,e1,λJ H1 ts s1 wk hts ow hz=>?_⟩
 have rel1:Rel X.K H0 A0 (ts++hs) (QaE ir.M ρ) F σ H1:=((rel.ext s1).weak (Qat ir.M ρ)).hold λt ht=>⟨(hts t ht).1,Shr.of rel (hts t ht).2⟩
 refine⟨λi m σ' H'=>m=ir.items.length-i/\i<=ir.items.length/\∃ρi Fi,Rel X.K H0 A0 (ts++hs) ρi Fi σ' H'/\QcS t f (ir.items.drop i) ρi=some o,⟨_,rfl,ZZ _,_,F,rel1,by simpa using e⟩,?_⟩
 rintro i m σ' H' ⟨rfl,hi',ρi,Fi,reli,ei⟩
 have held:Qim X.K H' ts:=λt ht=>(reli.held t (Zi _ ht)).1
 by_cases hlt:i<ir.items.length
 ·rw[Zap hlt]at ei
  unfold QcS at ei
  refine Qf ei λρ1 eb ei=>?_
  refine Qf ei λo1 eo ei=>?_
  refine .inr ⟨wk.go i H' hlt held,λσ2 H2=>∃ρ2 F2,Rel X.K H0 A0 (ts++hs) ρ2 F2 σ2 H2/\QcS t f (ir.items.drop (i+1)) ρ2=some o,λσ2 H2 ⟨ρ2,F2,rel2,e2⟩=>⟨_,by omega,rfl,hlt,ρ2,F2,rel2,e2⟩,λx H2 hy=>?_⟩
  obtain⟨s2,G0,rp0,hG0⟩:=wk.yld i ir.items[i] H' x H2 (by simp[hlt]) held hy
  have shr:Shr H0 A0 ρi Fi G0:=λa ha=>by
   obtain⟨t,ht,hat⟩:=hG0 a ha
   exact⟨(reli.held t (Zi _ ht)).2 a hat,λj d ej hj=>(reli.own j d ej).2.2.2.2 t (Zi _ ht) a hj hat⟩
  refine⟨ρi,ts++hs,Fi,ir.items[i],G0,ρ1,reli.ext s2,rp0,shr,eb,λσ3 F3 rel3 _ _=>⟨ρ1,ts++hs,F3,o1,rel3,eo,?_⟩⟩
  cases o1 with
  | nx ρ2=>exact λσ4 H4 F4 rel4=>⟨ρ2,F4,rel4,ei⟩
  | ct ρ2=>exact λσ4 H4 F4 rel4=>⟨ρ2,F4,rel4,ei⟩
  | bk ρ2=>cases ei;exact λσ4 H4 F4 rel4=>q σ4 H4 F4 rel4.Qlo
  | rt d fr=>cases ei;exact q
 ·have hn:i=ir.items.length:=by omega
  subst hn
  rw[ZbZ]at ei
  cases ei
  exact .inl ⟨wk.stop H' held,q σ' H' Fi reli.Qlo⟩
theorem Qrf(hp:PassesOwn (model X.prog X.w) X.A X.env X.xe)(hc:ST X c gc)(hb:SS X body f):S1 X (.While c body [] pos) (QaL gc f n):=λH0 A0=>(Qrc hp (hc H0 A0) (hb H0 A0)).mono λE σ H=>exK λρ hs F o rel e q=>by
 refine⟨λm σ' H'=>∃ρi Fi,Rel X.K H0 A0 hs ρi Fi σ' H'/\QaL gc f m ρi=some o,⟨n,ρ,F,rel,e⟩,?_⟩
 rintro m σ' H' ⟨ρi,Fi,reli,ei⟩
 cases m with
 | zero=>cases ei
 | succ m=>
  unfold QaL at ei
  refine Qf ei λb eb ei=>?_
  refine⟨ρi,hs,Fi,b,reli,eb,λH1 s1=>?_⟩
  cases b with
  | false=>
   rw[if_neg Zat]at ei
   cases ei
   exact Qq2 (q σ' H1 Fi (reli.ext s1))
  | true=>
   rw[if_pos rfl]at ei
   refine Qf ei λo1 eo ei=>?_
   refine Qql ⟨λσ2 H2=>∃ρ2 F2,Rel X.K H0 A0 hs ρ2 F2 σ2 H2/\QaL gc f m ρ2=some o,λσ2 H2 h=>⟨m,ZaF _,h⟩,ρi,hs,Fi,o1,reli.ext s1,eo,?_⟩
   cases o1 with
   | nx ρ2=>exact λσ4 H4 F4 rel4=>⟨ρ2,F4,rel4,ei⟩
   | ct ρ2=>exact λσ4 H4 F4 rel4=>⟨ρ2,F4,rel4,ei⟩
   | bk ρ2=>cases ei;exact λσ4 H4 F4 rel4=>q σ4 H4 F4 rel4
   | rt d fr=>cases ei;exact q
end
section
variable {K:PySem.W.Frag}{H H':Hp}
theorem Rps.split:∀{ds:List D}{vs:List V}{F:List Addr}{j:Nat}{d:D},Rps K H ds vs F->ds[j]? =some d→
  ∃F1 G F2 v,F=F1++(G++F2)/\vs[j]? =some v/\Rps K H (ds.take j) (vs.take j) F1/\Rp K H d v G/\Rps K H (ds.drop (j+1)) (vs.drop (j+1)) F2
 | [],_,_,_,_,_,e=>by simp at e
 | d::ds,_,_,0,_,h,e=>by
  simp only[Rps]at h
  obtain⟨v,ws,F1,F2,rfl,rfl,r,q⟩:=h
  simp at e;subst e
  exact⟨[],F1,F2,v,rfl,by simp,by simp[Rps],r,by simpa using q⟩
 | d::ds,_,_,j+1,_,h,e=>by
  simp only[Rps]at h
  obtain⟨v,ws,F1,F2,rfl,rfl,r,q⟩:=h
  obtain⟨G1,G,G2,v',h1,h2,h3,h4,h5⟩:=Rps.split q (by simpa using e)
  refine⟨F1++G1,G,G2,v',by rw[h1,ZaQ],by simpa using h2,?_,h4,by simpa using h5⟩
  simp only[ZbC,Rps]
  exact⟨v,_,F1,G1,rfl,rfl,r,h3⟩
theorem Rps.join{ds:List D}{vs:List V}{F1 G F2:List Addr}{j:Nat}{d:D}{v:V}(h1:Rps K H (ds.take j) (vs.take j) F1)(hd:Rp K H d v G)(h2:Rps K H (ds.drop (j+1)) (vs.drop (j+1)) F2)(hj:j<ds.length)(hv:vs[j]? =some v):
  Rps K H (ds.set j d) vs (F1++(G++F2)):=by
 have e1:ds.set j d=ds.take j++d::ds.drop (j+1):=ZaM .. |>.trans (by rw[if_pos hj])
 have hjv:j<vs.length:=(Zb.mp hv).1
 have hve:vs[j]=v:=(Zb.mp hv).2
 have e2:vs=vs.take j++v::vs.drop (j+1):=by
  rw[← hve,← Zap hjv,ZaK]
 rw[e1,e2]
 refine h1.append ?_
 simp only[Rps]
 refine⟨v,_,G,F2,rfl,rfl,hd,h2⟩
theorem Rps.Qwc{ds:List D}{vs:List V}{F1 G F2:List Addr}{j:Nat}{d:D}{v:V}(h1:Rps K H (ds.take j) (vs.take j) F1)(hd:Rp K H d v G)(h2:Rps K H (ds.drop (j+1)) (vs.drop (j+1)) F2)(hj:j<ds.length)(hv:j<vs.length):
  Rps K H (ds.set j d) (vs.set j v) (F1++(G++F2)):=by
 have e1:ds.set j d=ds.take j++d::ds.drop (j+1):=ZaM .. |>.trans (by rw[if_pos hj])
 have e2:vs.set j v=vs.take j++v::vs.drop (j+1):=ZaM .. |>.trans (by rw[if_pos hv])
 rw[e1,e2]
 refine h1.append ?_
 simp only[Rps]
 exact⟨v,_,G,F2,rfl,rfl,hd,h2⟩
noncomputable def Focus(K:PySem.W.Frag)(H:Hp):List Int->D->V->List Addr->D->V->List Addr->Prop
 | [],d,v,F,dm,w,Gm=>dm=d/\w=v/\Gm=F/\Rp K H d v F
 | i::is,d,v,F,dm,w,Gm=>∃(ds:List D) (a:Addr) (vs:List V) (j:Nat) (F1 G F2:List Addr) (d':D) (v':V),v= .ref a/\ixN ds.length i=some j∧
   ((d= .lst ds/\ds.length<=sizeLine/\((F=a::(F1++(G++F2))/\H a=some (.lst vs))∨(F=F1++(G++F2)/\Fix K H a vs)))∨(d= .tup ds/\F=F1++(G++F2)/\SqT K H a vs))∧
   Rps K H (ds.take j) (vs.take j) F1/\Rps K H (ds.drop (j+1)) (vs.drop (j+1)) F2/\ds[j]? =some d'/\vs[j]? =some v'/\ds.length=vs.length/\Focus K H is d' v' G dm w Gm
theorem Focus.same(s:QD H H'):∀{is:List Int}{d:D}{v:V}{F:List Addr}{dm:D}{w:V}{Gm:List Addr},Focus K H is d v F dm w Gm->Focus K H' is d v F dm w Gm
 | [],_,_,_,_,_,_,h=>⟨h.1,h.2.1,h.2.2.1,h.2.2.2.same s⟩
 | i::is,_,_,_,_,_,_,h=>by
  obtain⟨ds,a,vs,j,F1,G,F2,d',v',h1,h2,h3,h4,h5,h6,h7,h8,h9⟩:=h
  refine⟨ds,a,vs,j,F1,G,F2,d',v',h1,h2,?_,h4.same s,h5.same s,h6,h7,h8,h9.same s⟩
  rcases h3 with⟨e,z,q⟩ | ⟨e,eF,q⟩
  ·refine .inl ⟨e,z,?_⟩
   rcases q with⟨eF,q⟩ | ⟨eF,q⟩
   ·exact .inl ⟨eF,s _ _ q⟩
   ·exact .inr ⟨eF,QkY s q⟩
  ·exact .inr ⟨e,eF,Qki s q⟩
theorem Focus.rp:∀{is:List Int}{d:D}{v:V}{F:List Addr}{dm:D}{w:V}{Gm:List Addr},Focus K H is d v F dm w Gm->Rp K H dm w Gm
 | [],_,_,_,_,_,_,h=>by
  obtain⟨rfl,rfl,rfl,r⟩:=h
  exact r
 | i::is,_,_,_,_,_,_,h=>by
  obtain⟨ds,a,vs,j,F1,G,F2,d',v',h1,h2,h3,h4,h5,h6,h7,h8,h9⟩:=h
  exact h9.rp
theorem Focus.QoJ:∀{is:List Int}{d:D}{v:V}{F:List Addr}{dm:D}{w:V}{Gm:List Addr},Focus K H is d v F dm w Gm->Rp K H d v F
 | [],_,_,_,_,_,_,h=>h.2.2.2
 | i::is,_,_,_,_,_,_,h=>by
  obtain⟨ds,a,vs,j,F1,G,F2,d',v',rfl,h2,h3,h4,h5,h6,h7,h8,h9⟩:=h
  have hjl:j<ds.length:=(Zb.mp h6).1
  have hdj:ds[j]=d':=(Zb.mp h6).2
  have j1:=Rps.join h4 h9.QoJ h5 hjl h7
  rw[show ds.set j d'=ds by rw[← hdj];exact List.set_getElem_self hjl]at j1
  rcases h3 with⟨rfl,hz,⟨rfl,q⟩ | ⟨rfl,q⟩⟩ | ⟨rfl,rfl,q⟩
  ·exact Rp.Qe2 q j1 hz
  ·simp only[Rp]
   exact⟨hz,a,vs,rfl,.inr ⟨q,j1⟩⟩
  ·simp only[Rp]
   exact⟨a,vs,rfl,q,j1⟩
theorem Focus.one(r:Rp K H d v F)(hd:d.items=some ds)(hi:atI ds i=some d'):
  ∃a vs v' G,v= .ref a/\((d= .lst ds/\SqL K H a vs)∨(d= .tup ds/\SqT K H a vs))/\atI vs i=some v'/\Focus K H [i] d v F d' v' G:=by
 unfold atI at hi
 cases hj:ixN ds.length i with
 | none=>rw[hj]at hi;cases hi
 | some j=>
  rw[hj]at hi
  have hdj:ds[j]? =some d':=hi
  have fin:∀(vs:List V) (L:List Addr),Rps K H ds vs L->∃v' G F1 F2,L=F1++(G++F2)/\vs[j]? =some v'/\atI vs i=some v'/\Rps K H (ds.take j) (vs.take j) F1/\Rp K H d' v' G/\Rps K H (ds.drop (j+1)) (vs.drop (j+1)) F2/\ds.length=vs.length:=λvs L rl=>by
   obtain⟨F1,G,F2,v',h1,h2,h3,h4,h5⟩:=rl.split hdj
   refine⟨v',G,F1,F2,h1,h2,?_,h3,h4,h5,rl.length⟩
   unfold atI
   rw[← rl.length,hj]
   exact h2
  cases d with
  | lst xs=>
   cases hd
   simp only[Rp]at r
   obtain⟨hz,a,vs,rfl,⟨L,rfl,q,rl⟩ | ⟨q,rl⟩⟩:=r
   ·obtain⟨v',G,F1,F2,h1,h2,h3,h4,h5,h6,h7⟩:=fin vs L rl
    exact⟨a,vs,v',G,rfl,.inl ⟨rfl,SqL.of q⟩,h3,ds,a,vs,j,F1,G,F2,d',v',rfl,hj,.inl ⟨rfl,hz,.inl ⟨by rw[h1],q⟩⟩,h4,h6,hdj,h2,h7,rfl,rfl,rfl,h5⟩
   ·obtain⟨v',G,F1,F2,h1,h2,h3,h4,h5,h6,h7⟩:=fin vs _ rl
    exact⟨a,vs,v',G,rfl,.inl ⟨rfl,q.sq⟩,h3,ds,a,vs,j,F1,G,F2,d',v',rfl,hj,.inl ⟨rfl,hz,.inr ⟨h1,q⟩⟩,h4,h6,hdj,h2,h7,rfl,rfl,rfl,h5⟩
  | tup xs=>
   cases hd
   obtain⟨a,vs,rfl,q,rl⟩:=r.QaB
   obtain⟨v',G,F1,F2,h1,h2,h3,h4,h5,h6,h7⟩:=fin vs _ rl
   exact⟨a,vs,v',G,rfl,.inr ⟨rfl,q⟩,h3,ds,a,vs,j,F1,G,F2,d',v',rfl,hj,.inr ⟨rfl,h1,q⟩,h4,h6,hdj,h2,h7,rfl,rfl,rfl,h5⟩
  | _=>cases hd
theorem Focus.snoc:∀{is:List Int}{d:D}{v:V}{F:List Addr}{dm:D}{w:V}{Gm:List Addr}{i:Int}{d':D}{v':V}{G:List Addr},Focus K H is d v F dm w Gm->Focus K H [i] dm w Gm d' v' G->Focus K H (is++[i]) d v F d' v' G
 | [],_,_,_,_,_,_,_,_,_,_,h,g=>by
  obtain⟨rfl,rfl,rfl,r⟩:=h
  exact g
 | k::is,_,_,_,_,_,_,_,_,_,_,h,g=>by
  obtain⟨ds,a,vs,j,F1,G,F2,d',v',h1,h2,h3,h4,h5,h6,h7,h8,h9⟩:=h
  exact⟨ds,a,vs,j,F1,G,F2,d',v',h1,h2,h3,h4,h5,h6,h7,h8,h9.snoc g⟩
noncomputable def Qbx:D->List Int->Option D
 | d,[]=>some d
 | d,i::is=>(d.items).bind λds=>(atI ds i).bind λd'=>Qbx d' is
theorem Qhu:∀{is:List Int}{d:D}{i:Int}{d':D},Qbx d (is++[i])=some d'->∃dm ds,Qbx d is=some dm/\dm.items=some ds/\atI ds i=some d'
 | [],d,i,d',h=>by
  refine Qf h λds h1 h=>?_
  refine Qf h λd'' h2 h=>?_
  cases h
  exact⟨d,ds,rfl,h1,h2⟩
 | k::is,d,i,d',h=>by
  refine Qf h λds h1 h=>?_
  refine Qf h λd'' h2 h=>?_
  obtain⟨dm,es,h3,h4,h5⟩:=Qhu h
  refine⟨dm,es,?_,h4,h5⟩
  simp only[Qbx,h1,h2,Za,h3]
noncomputable def QaO:List Int->D->D->D
 | [],_,new=>new
 | i::is,.lst ds,new=>match ixN ds.length i with
  | some j=> .lst (ds.set j (QaO is (ds.getD j .non) new))
  | none=> .lst ds
 | i::is,.tup ds,new=>match ixN ds.length i with
  | some j=> .tup (ds.set j (QaO is (ds.getD j .non) new))
  | none=> .tup ds
 | _::_,d,_=>d
theorem Qgz:∀{ds:List D}{j:Nat}{d e:D},ds[j]? =some d->nls (ds.set j e)+d.nl=nls ds+e.nl
 | [],_,_,_,h=>by simp at h
 | x::ds,0,d,e,h=>by simp at h;subst h;simp only[List.set_cons_zero,nls];omega
 | x::ds,j+1,d,e,h=>by
  have:=Qgz (e:=e) (by simpa using h)
  simp only[List.set_cons_succ,nls];omega
theorem Qbi:∀(as bs:List D),nls (as++bs)=nls as+nls bs
 | [],bs=>by simp[nls]
 | a::as,bs=>by simp only[Zbs,nls,Qbi as bs];omega
theorem Focus.mut:∀{is:List Int}{d:D}{v:V}{F:List Addr}{Gm:List Addr},Focus K H is d v F (.lst dsm) (.ref p) Gm->F.Nodup->F.length=d.nl→
  ∃vsm Gp,H p=some (.lst vsm)/\Gm=p::Gp/\Rps K H dsm vsm Gp/\Gp.length=nls dsm/\p∈F/\(∀a∈Gp,a∈F)/\p∉Gp∧
   (Rps K (upd H p (.lst vs')) ds' vs' G'->ds'.length<=sizeLine->G'.length=nls ds'→
    ∃F',Rp K (upd H p (.lst vs')) (QaO is d (.lst ds')) v F'/\F'.length=(QaO is d (.lst ds')).nl/\∀a,F'.count a+Gp.count a=F.count a+G'.count a)
 | [],d,v,F,Gm,h,nd,hl=>by
  obtain⟨rfl,rfl,rfl,r⟩:=h
  simp only[Rp]at r
  obtain⟨hz,a,vs,e,h⟩:=r
  cases e
  rcases h with⟨L,rfl,q,rl⟩ | ⟨q,rl⟩
  ·obtain⟨n1,n2⟩:=Zac.mp nd
   have hl':L.length=nls dsm:=by simp only[D.nl,Zo]at hl;omega
   refine⟨vs,L,q,rfl,rl,hl',Zh,λa ha=>Zc _ ha,n1,λr' hz' hl2=>⟨p::G',Rp.Qe2 QaF r' hz',?_,λa=>?_⟩⟩
   ·simp only[QaO,D.nl,Zo,hl2]
   ·rw[ZaO,ZaO];omega
  ·have:=rl.Qax
   simp only[D.nl]at hl
   omega
 | i::is,d,v,F,Gm,h,nd,hl=>by
  obtain⟨ds,a,vs,j,F1,G,F2,d',v',rfl,hj,h3,h4,h5,h6,h7,h8,h9⟩:=h
  have hjl:j<ds.length:=(Zb.mp h6).1
  have gd:ds.getD j .non=d':=by rw[ZX,h6];rfl
  have l1:=h4.Qax
  have l2:=h5.Qax
  have l3:=h9.QoJ.Qax
  have nlsplit:nls (ds.take j)+(d'.nl+nls (ds.drop (j+1)))=nls ds:=by
   have e1:ds=ds.take j++d'::ds.drop (j+1):=by
    have:ds[j]=d':=(Zb.mp h6).2
    rw[← this,← Zap hjl,ZaK]
   have e2:=congrArg nls e1
   rw[Qbi]at e2
   simp only[nls]at e2
   exact e2.symm
  have core:(F1++(G++F2)).Nodup->(F1++(G++F2)).length=nls ds->_:=λnd' hl'=>by
   simp only[Zt]at hl'
   have hG:G.length=d'.nl:=by omega
   have ndG:G.Nodup:=(Zax.mp (Zax.mp nd').2.1).1
   exact(h9.mut (vs':=vs') (ds':=ds') (G':=G') ndG hG)
  have apart:(F1++(G++F2)).Nodup->p∈G->p∉F1/\p∉F2:=λnd' hp=>by
   have n1:=Zax.mp nd'
   have n2:=Zax.mp n1.2.1
   exact⟨λh=>n1.2.2 p h p (Zi _ hp) rfl,λh=>n2.2.2 p hp p h rfl⟩
  have cnt:∀(G'' Gp:List Addr),(∀a,G''.count a+Gp.count a=G.count a+G'.count a)->∀a,(F1++(G''++F2)).count a+Gp.count a=(F1++(G++F2)).count a+G'.count a:=λG'' Gp hc a=>by
   have:=hc a
   simp only[Zal];omega
  rcases h3 with⟨rfl,hz,⟨rfl,q⟩ | ⟨rfl,q⟩⟩ | ⟨rfl,rfl,q⟩
  ·
   obtain⟨n1,n2⟩:=Zac.mp nd
   have hl':(F1++(G++F2)).length=nls ds:=by simp only[D.nl,Zo]at hl;omega
   obtain⟨vsm,Gp,e1,e2,e3,e4,e5,e6,e7,e8⟩:=core n2 hl'
   have ap:=apart n2 e5
   have hap:a≠p:=λz=>n1 (by rw[z];exact Zl _ (Zi _ e5))
   refine⟨vsm,Gp,e1,e2,e3,e4,Zc _ (Zl _ (Zi _ e5)),λb hb=>Zc _ (Zl _ (Zi _ (e6 b hb))),e7,λr' hz' hl2=>?_⟩
   obtain⟨G'',f1,f2,f3⟩:=e8 r' hz' hl2
   have j1:=Rps.join (h4.upd e1 ap.1) f1 (h5.upd e1 ap.2) hjl h7
   refine⟨a::(F1++(G''++F2)),?_,?_,λb=>?_⟩
   ·simp only[QaO,hj,gd]
    exact Rp.Qe2 (by rw[QJ hap];exact q) j1 (by rw[ZaD];exact hz)
   ·have:=Qgz (e:=QaO is d' (.lst ds')) h6
    simp only[QaO,hj,gd,D.nl,Zo,Zt,f2]at hl' ⊢
    omega
   ·have:=cnt G'' Gp f3 b
    rw[ZaO,ZaO];omega
  ·have:(F1++(G++F2)).length<=nls ds:=by simp only[Zt];omega
   simp only[D.nl]at hl
   omega
  ·
   have hl':(F1++(G++F2)).length=nls ds:=by simpa only[D.nl]using hl
   obtain⟨vsm,Gp,e1,e2,e3,e4,e5,e6,e7,e8⟩:=core nd hl'
   have ap:=apart nd e5
   refine⟨vsm,Gp,e1,e2,e3,e4,Zl _ (Zi _ e5),λb hb=>Zl _ (Zi _ (e6 b hb)),e7,λr' hz' hl2=>?_⟩
   obtain⟨G'',f1,f2,f3⟩:=e8 r' hz' hl2
   have j1:=Rps.join (h4.upd e1 ap.1) f1 (h5.upd e1 ap.2) hjl h7
   refine⟨F1++(G''++F2),?_,?_,cnt G'' Gp f3⟩
   ·simp only[QaO,hj,gd,Rp]
    exact⟨a,vs,rfl,QmY e1 q,j1⟩
   ·have:=Qgz (e:=QaO is d' (.lst ds')) h6
    simp only[QaO,hj,gd,D.nl,Zt,f2]at hl' ⊢
    omega
end
end HS
namespace HS
open PySem PySem.Spec L2
section
theorem Rel.mut(rel:Rel K H0 A0 hs ρ F σ H)(p:QN K ρ F H H1 r vn Gn)(hf:r.fr=true)(nd:r.M.Nodup)(s12:QD H1 H2)(hx:ρ[x]? =some (some (d,true)))(hxM:x∉r.M)(hv0:σ[x]? =some (some v0))
  {dnew:D}{q:Addr}{F':List Addr}{vsm vs':List V}(e1:H2 q=some (.lst vsm)) (e5:q∈F x) (f1:Rp K (upd H2 q (.lst vs')) dnew v0 F') (f2:F'.length=dnew.nl) (cF:∀a,F'.count a<=(F x).count a+Gn.count a):
  ∃F',Rel K H0 A0 hs ((kill r.M ρ).set x (some (dnew,true))) F' σ (upd H2 q (.lst vs')):=by
 obtain⟨ol,on,o0,oap,oh⟩:=rel.own x d hx
 obtain⟨gn,gs⟩:=p.fresh rel hf nd
 have rel2:=(rel.ext p.same).ext s12
 have relk:=rel2.weak (QbS r.M ρ)
 have apn:∀a∈Gn,a∉F x:=λa ha hax=>by
  rcases(gs a ha).2 with z | ⟨k,d',hk,ek,hak⟩
  ·obtain⟨vs,w⟩:=rel.mem hx hax
   rw[z]at w;cases w
  ·have:k≠x:=λz=>hxM (z▸hk)
   exact oap k d' true this ek a hax hak
 have memF:∀a∈F',a∈F x∨a∈Gn:=λa ha=>by
  have h1:=cF a
  have h2:0<F'.count a:=ZaA.mpr ha
  by_cases h:a∈F x
  ·exact .inl h
  ·rw[Zab.mpr h]at h1
   exact .inr (ZaA.mp (by omega))
 have apart:∀(j:Nat) d' b,j≠x->(kill r.M ρ)[j]? =some (some (d',b))->∀a∈F',a∉F j:=λj d' b hj e a ha haj=>by
  obtain⟨b',e',_⟩:=(QbS r.M ρ).2 j d' b e
  rcases memF a ha with h | h
  ·exact oap j d' b' hj e' a h haj
  ·rcases(gs a h).2 with z | ⟨k,d'',hk,ek,hak⟩
   ·obtain⟨vs,w⟩:=rel.mem e' haj
    rw[z]at w;cases w
   ·have hjk:j≠k:=λz=>by subst z;exact Qf2 r.M ρ j d' b hk e
    exact(rel.own k d'' ek).2.2.2.1 j d' b' hjk e' a hak haj
 have apartH:∀t∈hs,∀a∈F',a∉t.2.2:=λt ht a ha hat=>by
  rcases memF a ha with h | h
  ·exact oh t ht a h hat
  ·rcases(gs a h).2 with z | ⟨k,d'',hk,ek,hak⟩
   ·obtain⟨vs,w⟩:=(rel.held t ht).1.mem a hat
    rw[z]at w;cases w
   ·exact(rel.own k d'' ek).2.2.2.2 t ht a hak hat
 have nqj:∀(j:Nat) d' b,j≠x->ρ[j]? =some (some (d',b))->q∉F j:=λj d' b hj e h=>oap j d' b hj e q e5 h
 have nF':F'.Nodup:=ZaB.mpr λa=>by
  have h1:=cF a
  have h2:=ZaB.mp on a
  have h3:=ZaB.mp gn a
  by_cases h:a∈Gn
  ·rw[Zab.mpr (apn a h)]at h1;omega
  ·rw[Zab.mpr h]at h1;omega
 have lt:∀{j:Nat}{z:Option (D×Bool)}{y:D×Bool},((kill r.M ρ).set j z)[j]? =some (some y)->j<(kill r.M ρ).length:=λ{j z y} e=>by
  by_cases hl:j<(kill r.M ρ).length
  ·exact hl
  ·rw[Zv (by simp;omega)]at e;cases e
 refine⟨λj=>if j=x then F' else F j,by simp[relk.len],λj d' b e=>?_,λj d' e=>?_,λj d' b e a ha=>?_,λt ht=>⟨(relk.held t ht).1.upd e1 λh=>oh t ht q e5 h,(relk.held t ht).2⟩,λb o hb=>?_⟩
 ·by_cases hj:j=x
  ·subst hj
   have hl:=lt e
   rw[ZH hl]at e
   cases e
   exact⟨v0,hv0,by rw[if_pos rfl];exact f1⟩
  ·rw[Zj (Ne.symm hj)]at e
   obtain⟨w,h1,h2⟩:=relk.val j d' b e
   obtain⟨b',e',_⟩:=(QbS r.M ρ).2 j d' b e
   exact⟨w,h1,by rw[if_neg hj];exact h2.upd e1 (nqj j d' b' hj e')⟩
 ·by_cases hj:j=x
  ·subst hj
   have hl:=lt e
   rw[ZH hl]at e
   cases e
   rw[if_pos rfl]
   refine⟨f2,nF',λa ha=>?_,λk d'' b hk ek a ha=>?_,apartH⟩
   ·rcases memF a ha with h | h
    ·exact o0 a h
    ·exact(gs a h).1
   ·rw[Zj (Ne.symm hk)]at ek
    rw[if_neg hk]
    exact apart k d'' b hk ek a ha
  ·rw[Zj (Ne.symm hj)]at e
   obtain⟨h1,h2,h3,h4,h5⟩:=relk.own j d' e
   rw[if_neg hj]
   refine⟨h1,h2,h3,λk d'' b hk ek a ha=>?_,h5⟩
   by_cases hki:k=x
   ·subst hki
    rw[if_pos rfl]
    exact λhG=>apart j d' true hj e a hG ha
   ·rw[Zj (Ne.symm hki)]at ek
    rw[if_neg hki]
    exact h4 k d'' b hk ek a ha
 ·by_cases hj:j=x
  ·subst hj
   rw[if_pos rfl]at ha
   rcases memF a ha with h | h
   ·exact .inl (o0 a h)
   ·exact .inl (gs a h).1
  ·rw[Zj (Ne.symm hj)]at e
   rw[if_neg hj]at ha
   exact relk.src j d' b e a ha
 ·have hbq:b≠q:=λz=>by rw[z,o0 q e5]at hb;cases hb
  rw[QJ hbq]
  exact relk.same b o hb
end
noncomputable abbrev DP:=En->Option (List Int)
noncomputable def QU:DP:=λ_=>some []
noncomputable def QgK(p:DP)(fb:DE):DP:=λρ=>(p ρ).bind λis=>(fb ρ).bind λr=>match r.d with
 | .int i=>some (is++[i])
 | _=>none
noncomputable def tP(K:PySem.W.Frag)(H0:Hp)(A0:List Addr)(x:Nat)(pf:DP):TE:=λσ H Q=>∃ρ hs F d b is dm,Rel K H0 A0 hs ρ F σ H/\ρ[x]? =some (some (d,b))/\pf ρ=some is/\Qbx d is=some dm∧
 ∀v0 v H' Gm,QD H H'->σ[x]? =some (some v0)->Focus K H' is d v0 (F x) dm v Gm->Q v H'
def SPa(X:Cx)(e:Expr)(x:Nat)(pf:DP):Prop:=∀H0 A0,PE X e (tP X.K H0 A0 x pf)
section
theorem Qfw(h:PE X (.Name y pos) (QiH x)):SPa X (.Name y pos) x QU:=λH0 A0=>h.mono λσ H Q hpt=>by
 obtain⟨ρ,hs,F,d,b,is,dm,rel,hx,hp,hd,q⟩:=hpt
 cases hp
 cases hd
 obtain⟨v,h1,h2⟩:=rel.val x d b hx
 exact⟨v,h1,q v v H (F x) (QD.refl _) h1 ⟨rfl,rfl,rfl,h2⟩⟩
theorem Qsa(ha:SPa X a x pf)(hb:SE X b fb)(hs:QgB b):SPa X (.Subscript a b pos) x (QgK pf fb):=λH0 A0=>
 (QrM (QmZ.or QpI) (ha H0 A0) (hb H0 A0) hs).mono λσ H Q hpt=>by
  obtain⟨ρ,hs,F,d,b',is,dm,rel,hx,hp,hd,q⟩:=hpt
  refine Qf hp λis' e1 hp=>?_
  refine Qf hp λr e2 hp=>?_
  cases hr:r.d with
  | int i=>
   rw[hr]at hp
   cases hp
   obtain⟨dn,ds,g1,g2,g3⟩:=Qhu hd
   refine⟨ρ,hs,F,d,b',is',dn,rel,hx,e1,g1,λv0 w H1 Gm s1 hv fo=>⟨ρ,hs,F,r,rel.ext s1,e2,λu H2 G p2=>?_⟩⟩
   have rp:=p2.rp
   rw[hr]at rp
   rw[rp.int_inv]
   have fo2:=fo.same p2.same
   obtain⟨c,vs,v',G',rfl,hc,h3,h4⟩:=Focus.one fo2.rp g2 g3
   have fin:=q v0 v' H2 G' (s1.trans p2.same) hv (fo2.snoc h4)
   rcases hc with⟨_,hc⟩ | ⟨_,hc⟩
   ·exact .inl ⟨c,vs,i,v',rfl,rfl,hc,h3,fin⟩
   ·exact .inr ⟨c,vs,i,v',rfl,rfl,hc,h3,fin⟩
  | _=>rw[hr]at hp;cases hp
noncomputable def QdL(x:Nat)(pf:DP)(fi fa:DE):DS:=λρ=>(fa ρ).bind λr0=>match ρ[x]? with
 | some (some (d,true))=>(pf ρ).bind λis=>(fi ρ).bind λri=>match ri.d,Qbx d is with
  | .int k,some (.lst ds)=>(ixN ds.length k).bind λj=>if r0.norm.fr && decide r0.norm.M.Nodup && !r0.norm.M.contains x then some (.nx ((kill r0.norm.M ρ).set x (some (QaO is d (.lst (ds.set j r0.d)),true))))else
   none
  | _,_=>none
 | _=>none
theorem set_mk(hq:H2 q=some (.lst vsm))(rs:Rps K H2 dsm vsm Gp)(hl:Gp.length=nls dsm)(nq:q∉Gp)(nqn:q∉Gn)(hn:Rp K H2 dn vn Gn)(hnl:Gn.length=dn.nl)(hj:j<dsm.length):
  ∃G',Rps K (upd H2 q (.lst (vsm.set j vn))) (dsm.set j dn) (vsm.set j vn) G'/\G'.length=nls (dsm.set j dn)/\∀a,G'.count a<=Gp.count a+Gn.count a:=by
 obtain⟨F1,G,F2,v,e1,e2,h1,h2,h3⟩:=rs.split (j:=j) (d:=dsm[j]) (by simp[hj])
 subst e1
 have hjv:j<vsm.length:=by rw[← rs.length];exact hj
 have n1:q∉F1:=λh=>nq (Zi _ h)
 have n2:q∉F2:=λh=>nq (Zl _ (Zl _ h))
 refine⟨F1++(Gn++F2),Rps.Qwc (h1.upd hq n1) (hn.upd hq nqn) (h3.upd hq n2) hj hjv,?_,λa=>?_⟩
 ·have:=Qgz (ds:=dsm) (j:=j) (d:=dsm[j]) (e:=dn) (by simp[hj])
  have l1:=h1.Qax
  have l2:=h2.Qax
  have l3:=h3.Qax
  have e1:nls (dsm.take j)+((dsm[j]).nl+nls (dsm.drop (j+1)))=nls dsm:=by
   have e2:=congrArg nls (ZaK j dsm)
   rw[Qbi,Zap hj]at e2
   simpa only[nls]using e2
  simp only[Zt]at hl ⊢
  omega
 ·simp only[Zal];omega
theorem QN.QrQ(p:QN K ρ F H H1 r v G)(s:QD H1 H2):QN K ρ F H H2 r v G:=⟨p.same.trans s,p.rp.same s,p.src,p.cnt,p.own⟩
theorem Qu8(hv:SE X e fa)(ho:SPa X a x pf)(hi:SE X i fi)
  (h:∀te to ti,PE X e te->PE X a to->PE X i ti->PS X (.Assign [.Subscript a i pos'] e pos) (QfL te (L2.Qb2 to ti QrO))):S1 X (.Assign [.Subscript a i pos'] e pos) (QdL x pf fi fa):=λH0 A0=>
 (h _ _ _ (hv H0 A0) (ho H0 A0) (hi H0 A0)).mono λE σ H=>exK λρ hs F o rel e q=>by
  refine Qf e λr0 e1 e=>?_
  split at e
  ·rename_i d hx
   refine Qf e λis e2 e=>?_
   refine Qf e λri e3 e=>?_
   split at e
   ·rename_i k ds hk hp
    refine Qf e λj e4 e=>?_
    split at e
    ·rename_i hc
     cases e
     simp only[Zk,decide_eq_true_eq,Zas]at hc
     obtain⟨⟨c1,c2⟩,c3⟩:=hc
     have c3:x∉r0.norm.M:=λh=>by rw[List.contains_iff_mem.mpr h]at c3;cases c3
     refine⟨ρ,hs,F,r0,rel,e1,λvn H1 Gn p=>⟨ρ,hs,F,d,true,is,.lst ds,rel.ext p.same,hx,e2,hp,λv0 w H2 Gm s2 hv0 fo=>⟨ρ,hs,F,ri,(rel.ext p.same).ext s2,e3,λu H3 Gi pi=>?_⟩⟩⟩
     have p':=(p.norm.QrQ s2).QrQ pi.same
     have fo3:=fo.same pi.same
     have rpi:=pi.rp
     rw[hk]at rpi
     rw[rpi.int_inv]
     obtain⟨l,ws,L,rfl,_⟩:=fo3.rp.lst_inv
     obtain⟨ol,on,_,oap,_⟩:=rel.own x d hx
     have hjl:=(QgA e4).2.1
     obtain⟨gn,gs⟩:=p'.fresh rel c1 c2
     have rn:=p'.rp
     rw[r0.Qcz]at rn
     have hnl:=(p'.cnt c1).2
     rw[r0.Qcz]at hnl
     obtain⟨vsm,_,f1,_⟩:=fo3.mut (vs':=[]) (ds':=[]) (G':=[]) on ol
     obtain⟨_,_,_,_,_,_,zl,_⟩:=fo3.rp.lst_inv
     have key:∃F',Rp X.K (upd H3 l (.lst (vsm.set j vn))) (QaO is d (.lst (ds.set j r0.d))) v0 F'/\F'.length=(QaO is d (.lst (ds.set j r0.d))).nl/\l∈F x/\ds.length=vsm.length/\∀a,F'.count a<=(F x).count a+Gn.count a:=by
      have own5:∀G',_:=λG'=>fo3.mut (vs':=vsm.set j vn) (ds':=ds.set j r0.d) (G':=G') on ol
      obtain⟨vs1,Gp,g1,g2,g3,g4,g5,g6,g7,_⟩:=own5 []
      rw[f1]at g1;cases g1
      have hq:l∉Gn:=λh=>by
       rcases(gs l h).2 with z | ⟨k',d',hk',ek,hak⟩
       ·obtain⟨vs,w⟩:=rel.mem hx g5
        rw[z]at w;cases w
       ·exact oap k' d' true (λz=>c3 (z▸hk')) ek l g5 hak
      obtain⟨G',m1,m2,m3⟩:=set_mk f1 g3 g4 g7 hq rn hnl hjl
      obtain⟨vs2,Gp2,k1,k2,k3,k4,k5,k6,k7,k8⟩:=own5 G'
      have eG:Gp2=Gp:=by rw[g2]at k2;exact(List.cons.inj k2).2.symm
      subst eG
      obtain⟨F',h1,h2,h3⟩:=k8 m1 (by rw[ZaD];exact zl) m2
      exact⟨F',h1,h2,g5,g3.length,λa=>by have:=h3 a;have:=m3 a;omega⟩
     obtain⟨F',k1,k2,k3,k4,k5⟩:=key
     refine⟨l,vsm,k,j,rfl,rfl,f1,by rw[← k4];exact e4,?_⟩
     obtain⟨F'',rel'⟩:=rel.mut p' c1 c2 (QD.refl _) hx c3 hv0 f1 k3 k1 k2 k5
     exact q _ _ F'' rel'
    ·
      cases e
   ·cases e
  ·cases e
end
section
variable {K:PySem.W.Frag}{H0 H H1 H2 H3:Hp}{A0:List Addr}{hs:List (V×D×List Addr)}{ρ:En}{F:Nat->List Addr}{σ:L2.St}
theorem Rel.write(rel:Rel K H0 A0 hs ρ F σ H)(p:QN K ρ F H H3 r vn Gn)(hf:r.fr=true)(nd:r.M.Nodup)(hx:ρ[x]? =some (some (d,true)))(hxM:x∉r.M)(hv0:σ[x]? =some (some v0))
  {is:List Int}{ds:List D}{Gm:List Addr}(fo:Focus K H3 is d v0 (F x) (.lst ds) w Gm):
  ∃l vsm Gp,w= .ref l/\H3 l=some (.lst vsm)/\Rps K H3 ds vsm Gp/\Gp.length=nls ds/\l∉Gp/\l∉Gn/\ds.length<=sizeLine∧
   ∀ds' vs' G',Rps K (upd H3 l (.lst vs')) ds' vs' G'->ds'.length<=sizeLine->G'.length=nls ds'->(∀a,G'.count a<=Gp.count a+Gn.count a)→
    ∃F',Rel K H0 A0 hs ((kill r.M ρ).set x (some (QaO is d (.lst ds'),true))) F' σ (upd H3 l (.lst vs')):=by
 obtain⟨l,ws,L,rfl,_,_,zl,_⟩:=fo.rp.lst_inv
 obtain⟨ol,on,_,oap,_⟩:=rel.own x d hx
 obtain⟨gn,gs⟩:=p.fresh rel hf nd
 obtain⟨vsm,Gp,g1,g2,g3,g4,g5,g6,g7,_⟩:=fo.mut (vs':=[]) (ds':=[]) (G':=[]) on ol
 have hq:l∉Gn:=λh=>by
  rcases(gs l h).2 with z | ⟨k',d',hk',ek,hak⟩
  ·obtain⟨vs,w⟩:=rel.mem hx g5
   rw[z]at w;cases w
  ·exact oap k' d' true (λz=>hxM (z▸hk')) ek l g5 hak
 refine⟨l,vsm,Gp,rfl,g1,g3,g4,g7,hq,zl,λds' vs' G' m1 m2 m3 m4=>?_⟩
 obtain⟨vs2,Gp2,k1,k2,k3,k4,k5,k6,k7,k8⟩:=fo.mut (vs':=vs') (ds':=ds') (G':=G') on ol
 have eG:Gp2=Gp:=by rw[g2]at k2;exact(List.cons.inj k2).2.symm
 subst eG
 obtain⟨F',h1,h2,h3⟩:=k8 m1 m2 m3
 exact rel.mut p hf nd (QD.refl _) hx hxM hv0 g1 g5 h1 h2 λa=>by have:=h3 a;have:=m4 a;omega
end
section
variable {X:Cx}{a b e:Expr}{fa fb:DE}{pf:DP}{x:Nat}{pos apos:Pos}
noncomputable def Qkc(r:R)(x:Nat):Bool:=r.norm.fr && decide r.norm.M.Nodup && !r.norm.M.contains x
theorem Qow(h:Qkc r x=true):r.norm.fr=true/\r.norm.M.Nodup/\x∉r.norm.M:=by
 unfold Qkc at h
 simp only[Zk,decide_eq_true_eq,Zas]at h
 exact⟨h.1.1,h.1.2,λz=>by rw[List.contains_iff_mem.mpr z]at h;cases h.2⟩
noncomputable def QcM(x:Nat)(pf:DP)(fa:DE):DS:=λρ=>match ρ[x]? with
 | some (some (d,true))=>(pf ρ).bind λis=>(fa ρ).bind λr0=>match Qbx d is with
  | some (.lst ds)=>if Qkc r0 x && decide (ds.length<sizeLine)then some (.nx ((kill r0.norm.M ρ).set x (some (QaO is d (.lst (ds++[r0.d])),true))))else none
  | _=>none
 | _=>none
theorem QqW{H0:Hp}{A0:List Addr}{E:Ends}{σ:L2.St}{H:Hp}:tS X.K H0 A0 (QcM x pf fa) E σ H->Qey (tBM X.K "list" QdY (tP X.K H0 A0 x pf) (Qb1 (tV X.K H0 A0 fa) Qdf)) E σ H:=exK λρ hs F o rel e q=>by
 unfold QcM at e
 split at e
 ·rename_i d hx
  refine Qf e λis e2 e=>?_
  refine Qf e λr0 e1 e=>?_
  split at e
  ·rename_i ds hp
   split at e
   ·rename_i hc
    simp only[Zk,decide_eq_true_eq]at hc
    obtain⟨c1,c2,c3⟩:=Qow hc.1
    cases e
    refine⟨ρ,hs,F,d,true,is,.lst ds,rel,hx,e2,hp,λv0 w H2 Gm s2 hv0 fo=>?_⟩
    have ty:tyV X.K "list" w H2:=by
     obtain⟨l,ws,L,rfl,hl,_⟩:=fo.rp.lst_inv
     exact .inl ⟨rfl,ws,QK hl⟩
    refine⟨ty,ρ,hs,F,r0,rel.ext s2,e1,λvn H3 Gn p=>?_⟩
    have p':=p.norm
    obtain⟨l,vsm,Gp,rfl,g1,g2,g3,g4,g5,g6,g7⟩:=(rel.ext s2).write p' c1 c2 hx c3 hv0 (fo.same p.same)
    refine⟨l,vsm,vn,rfl,rfl,g1,by rw[← g2.length];exact hc.2,?_⟩
    have rn:=p'.rp
    rw[r0.Qcz]at rn
    have hnl:=(p'.cnt c1).2
    rw[r0.Qcz]at hnl
    have rw1:Rps X.K (upd H3 l (.lst (vsm++[vn]))) [r0.d] [vn] Gn:=by
     simp only[Rps]
     exact⟨vn,[],Gn,[],rfl,by simp,rn.upd g1 g5,rfl,rfl⟩
    obtain⟨F',rel'⟩:=g7 (ds++[r0.d]) (vsm++[vn]) (Gp++Gn) ((g2.upd g1 g4).append rw1) (by rw[Zt,ZaJ];omega) (by rw[Zt,Qbi,g3,hnl];simp[nls]) (λa=>by rw[Zal];omega)
    exact q _ _ F' rel'
   ·cases e
  ·cases e
 ·cases e
open PyProof.Rows in
theorem Qoq:QuI X (Qvk X.K):=by
 intro pins s σ H o i ov iv Q I ro ri h
 obtain⟨p,xs,k,v,rfl,rfl,hq,ha,q⟩:=h
 cases ro
 obtain⟨t,rfl⟩:=ri
 obtain⟨its,r,pl,hz⟩:=I.list hq
 obtain⟨j,h1,h2,h3,h4,h5⟩:=Qio ha
 obtain⟨w,ew,rw'⟩:=r.get h2
 have hl:=r.length
 have hn:=Qfa
 by_cases h0:0<=k
 ·refine wpAny_getItem_list pl.isList h0 (by omega) (x:=w) ?_ ⟨v,H,I,rw',q⟩
  have:k.toNat=j:=by
   rw[seqIndex_of h0 h5]at h1
   exact Option.some.inj h1
  rw[this];simpa using ew
 ·refine wpAny_getItem_list_neg pl.isList (by omega) (by rw[Zu]<;>omega) (by omega) (x:=w) ?_ ⟨v,H,I,rw',q⟩
  have hj:(k+(its.toArray.size:Int)).toNat=j:=by
   rw[seqIndex_neg (by omega) h4]at h1
   rw[Zu,← hl]
   exact Option.some.inj h1
  rw[hj];simpa using ew
noncomputable def Qde(g:D->D->Option D)(x:Nat)(pf:DP)(fi fa:DE):DS:=λρ=>match ρ[x]? with
 | some (some (d,true))=>(pf ρ).bind λis=>(fi ρ).bind λri=>match ri.d,Qbx d is with
  | .int k,some (.lst ds)=>(ixN ds.length k).bind λj=>(ds[j]?).bind λold=>(fa ρ).bind λr=>(g old r.d).map λnew=> .nx (ρ.set x (some (QaO is d (.lst (ds.set j new)),true)))
  | _,_=>none
 | _=>none
theorem Qt3(ho:OpR X (inplaceOp op) r)(hg:Qbt X.K g r)(hv:SE X e fa)(hp:SPa X a x pf)(hi:SE X i fi)
  (ha:∀ov iv new,augStore i ov iv new=(do holding [new,ov,iv] (setItem ov iv new);release [new,ov,iv] [];pure .next)):S1 X (.AugAssign (.Subscript a i pos') op e pos) (Qde g x pf fi fa):=λH0 A0=>
 (Qsm (hp H0 A0) (hi H0 A0) Qoq (hv H0 A0) (λpins s σ H x y v u Q I rx ry q=>QwX ho I rx ry q) set_list ha).mono λE σ H=>exK λρ hs F o rel e q=>by
  unfold Qde at e
  split at e
  ·rename_i d hx
   refine Qf e λis e2 e=>?_
   refine Qf e λri e3 e=>?_
   split at e
   ·rename_i k ds hk hp'
    refine Qf e λj e4 e=>?_
    refine Qf e λold e5 e=>?_
    refine Qf e λrv e6 e=>?_
    obtain⟨new,e7,e⟩:=Ze.mp e
    subst e
    have hjl:=(QgA e4).2.1
    refine⟨ρ,hs,F,d,true,is,.lst ds,rel,hx,e2,hp',λv0 w H2 Gm s2 hv0 fo=>⟨ρ,hs,F,ri,rel.ext s2,e3,λu H3 Gi pi=>?_⟩⟩
    have fo3:=fo.same pi.same
    have rpi:=pi.rp
    rw[hk]at rpi
    rw[rpi.int_inv]
    have at3:atI ds k=some old:=by unfold atI;rw[e4];exact e5
    obtain⟨l,vs,v',Go,rfl,hc,h3,h4⟩:=Focus.one fo3.rp rfl at3
    have hc:SqL X.K H3 l vs:=by
     rcases hc with⟨_,hc⟩ | ⟨hc,_⟩
     ·exact hc
     ·cases hc
    refine⟨l,vs,k,v',rfl,rfl,hc,h3,ρ,hs,F,rv,(rel.ext s2).ext pi.same,e6,λy H4 G4 p4=>?_⟩
    have fo4:=fo3.same p4.same
    have ro:=h4.rp.same p4.same
    refine(hg _ _ _ e7).2 H4 v' y Go G4 _ ro p4.rp λz hz=>?_
    have rel4:=((rel.ext s2).ext pi.same).ext p4.same
    have pz:QN X.K ρ F H4 H4 ⟨new,true,[]⟩ z []:= .flat (QD.refl _) (hz H4) (hg _ _ _ e7).1
    obtain⟨l',vsm,Gp,el,g1,g2,g3,g4,g5,g6,g7⟩:=rel4.write pz rfl Zaw hx (by simp) hv0 fo4
    cases el
    refine⟨l,vsm,k,j,rfl,rfl,g1,by rw[← g2.length];exact e4,?_⟩
    obtain⟨G',m1,m2,m3⟩:=set_mk g1 g2 g3 g4 g5 (hz H4) (QcD new (hg _ _ _ e7).1).symm hjl
    obtain⟨F',rel'⟩:=g7 _ _ G' m1 (by rw[ZaD];exact g6) m2 m3
    exact q _ _ F' rel'
   ·cases e
  ·cases e
end
end HS
namespace HS
open PySem PySem.Spec L2 PyProof.Rows
noncomputable def D.QrP:D->Option Int
 | .int i=>some i
 | _=>none
noncomputable def Qbk:List D->Option (List Int)
 | []=>some []
 | d::ds=>(d.QrP).bind λi=>(Qbk ds).map λr=>i::r
theorem Qbl:∀{ds:List D}{ns:List Int},Qbk ds=some ns->ds=ns.map .int
 | [],_,h=>by cases h;rfl
 | d::ds,ns,h=>by
  unfold Qbk at h
  refine Qf h λi h1 h=>?_
  obtain⟨r,h2,rfl⟩:=Ze.mp h
  cases d with
  | int j=>cases h1;rw[Qbl h2];rfl
  | _=>cases h1
theorem QcW:∀(ns:List Int),Qbk (ns.map D.int)=some ns
 | []=>rfl
 | n::ns=>by simp[Qbk,QcW ns,D.QrP]
theorem Rps.ints{K:PySem.W.Frag}{H:Hp}:∀{ns:List Int}{vs:List V}{F:List Addr},Rps K H (ns.map .int) vs F->vs=ns.map .int
 | [],_,_,h=>by simp only[Zce,Rps]at h;rw[h.1];rfl
 | n::ns,_,_,h=>by
  simp only[Zx,Rps]at h
  obtain⟨v,ws,F1,F2,rfl,rfl,r,q⟩:=h
  rw[r.int_inv,Rps.ints q];rfl
theorem Qar(h:Qt (ns.map V.int) us):IntsAre us ns:=intsAre_of h
noncomputable def Qhk:List D->Option (List Bool)
 | []=>some []
 | d::ds=>(match d with | .bl b=>some b | _=>none).bind λi=>(Qhk ds).map λr=>i::r
theorem Qhl:∀{ds:List D}{ns:List Bool},Qhk ds=some ns->ds=ns.map .bl
 | [],_,h=>by cases h;rfl
 | d::ds,ns,h=>by
  unfold Qhk at h
  refine Qf h λi h1 h=>?_
  obtain⟨r,h2,rfl⟩:=Ze.mp h
  cases d with
  | bl j=>cases h1;rw[Qhl h2];rfl
  | _=>cases h1
theorem Rps.bls{K:PySem.W.Frag}{H:Hp}:∀{ns:List Bool}{vs:List V}{F:List Addr},Rps K H (ns.map .bl) vs F->vs=ns.map .bl
 | [],_,_,h=>by simp only[Zce,Rps]at h;rw[h.1];rfl
 | n::ns,_,_,h=>by
  simp only[Zx,Rps]at h
  obtain⟨v,ws,F1,F2,rfl,rfl,r,q⟩:=h
  rw[Rps.bls q]
  simp only[Rp]at r
  rw[r.1];rfl
theorem Qht:∀{ns:List Bool}{us:List Value},Qt (ns.map V.bl) us->LSm.BoolsAre us ns
 | [],_,.nil=> .nil
 | n::ns,_,.cons r h=>by cases r;exact .cons n (Qht h)
section
variable {X:Cx}{a b e:Expr}{es:List Expr}{fa fb:DE}{fs:DA}{pos p2:Pos}
noncomputable def QnY(K:PySem.W.Frag)(C:List Int->Int->Prop):List V->Hp->VK->Prop:=λxs H Q=>∃(p:Addr) (ns:List Int),xs=[.ref p]/\(SqL K H p (ns.map V.int)∨SqT K H p (ns.map V.int))/\ns≠[]/\∀M,C ns M->Q (.int M) H
def Qh9(ns:List Int)(M:Int):Prop:=M∈ns/\∀a∈ns,M<=a
def isMax(ns:List Int)(M:Int):Prop:=M∈ns/\∀a∈ns,a<=M
theorem QcA(hi:IntsAre us ns):∃xs:Array (Int×Tok),us.toArray=intItems xs/\ns=xs.toList.map (·.1):=by
 obtain⟨xs,e⟩:=hi.allInts.items
 exact⟨xs,e,by rw[← hi.numsOf,← nums_intItems,← e]⟩
theorem Qku(hh:A.handled=none)(hl:s.heap.IsTuple l (intItems xs))(hne:0<xs.size)
  (h:∀v h' tk,(intItems xs)[argBest (λi j=>decide (numAt xs i<numAt xs j)) (xs.size-1)]? =some v->(∀b o,s.heap.get? b=some o->h'.get? b=some o)->Q v {s with heap:=h',toks:=tk}):
  wpAny (model prog w) A (call (.builtin "min") [.ref l]) Q E s:=by
 have hlt:l<s.heap.objs.size:=by obtain⟨_,e,_⟩:=hl;exact Zr e
 refine call_min_walk (wpAny_pyIter_tuple hl ?_)
 refine⟨_,[_,l],[_],_,_,_,_,rfl,Walks.tuple (A:=A.in1) hh _ l (ZJ hlt) (intItems xs),⟨⟨_,Zz _ rfl,rfl,rfl⟩,hl.push _⟩,λb hb=>?_,by simpa[intItems]using hne,CmpOf.ints_lt (numAt xs) (λ_ _=>intItems_at),λv h' tk hP hk=>?_⟩
 ·show b<(s.heap.push _).objs.size
  rw[Zaf]
  rcases Zn.mp hb with rfl | hb
  ·exact ZaF _
  ·rcases Zn.mp hb with rfl | hb
   ·exact Zad hlt
   ·cases hb
 ·refine h v h' tk (by simpa[intItems]using hP) λb o e=>?_
  refine hk b o (λhm=>?_) (Zg _ e)
  rcases Zn.mp hm with e1 | hm
  ·exact absurd (e1▸Zr e) (ZU _)
  ·cases hm
theorem QoG(hc:X.calm=true):Qa5 X (.builtin "min") (QnY X.K Qh9):=by
 intro pins s σ H xs us Q I r h
 obtain⟨p,ns,rfl,hq,hne,q⟩:=h
 obtain⟨u,rfl,rx⟩:=vals1 r
 cases rx
 rcases hq with hq | hq
 ·obtain⟨its,r',pl,hz⟩:=I.list hq
  obtain⟨ys,e,hns⟩:=QcA (Qar r')
  have hl:=pl.isList
  rw[e]at hl
  have hsz:0<ys.size:=by
   rcases Zbh ys.size with z | z
   ·exact absurd (by rw[hns,Zba];exact Zae (by simpa using z)) hne
   ·exact z
  refine min_intList (I.ok.hd hc) hl hsz λv h' tk hv hk=>?_
  obtain⟨t,rfl⟩:=intItems_at hv
  obtain⟨h1,h2⟩:=argBest_lt (numAt ys) (ys.size-1)
  refine⟨.int _,H,I.kept hk,⟨t,rfl⟩,q _ ⟨?_,λa ha=>?_⟩⟩
  ·rw[hns,numAt_eq];exact getD_mem (by rw[Zd,Zs];omega)
  ·rw[hns]at ha
   obtain⟨j,hj,rfl⟩:=mem_getD ha
   rw[Zd,Zs]at hj
   rw[← numAt_eq];exact h2 j (by omega)
 ·obtain⟨its,r',pl,hz⟩:=I.tuple hq
  obtain⟨ys,e,hns⟩:=QcA (Qar r')
  have hl:=pl
  rw[e]at hl
  have hsz:0<ys.size:=by
   rcases Zbh ys.size with z | z
   ·exact absurd (by rw[hns,Zba];exact Zae (by simpa using z)) hne
   ·exact z
  refine Qku (I.ok.hd hc) hl hsz λv h' tk hv hk=>?_
  obtain⟨t,rfl⟩:=intItems_at hv
  obtain⟨h1,h2⟩:=argBest_lt (numAt ys) (ys.size-1)
  refine⟨.int _,H,I.kept hk,⟨t,rfl⟩,q _ ⟨?_,λa ha=>?_⟩⟩
  ·rw[hns,numAt_eq];exact getD_mem (by rw[Zd,Zs];omega)
  ·rw[hns]at ha
   obtain⟨j,hj,rfl⟩:=mem_getD ha
   rw[Zd,Zs]at hj
   rw[← numAt_eq];exact h2 j (by omega)
theorem Qlv(hh:A.handled=none)(hl:s.heap.IsTuple l (intItems xs))(hne:0<xs.size)
  (h:∀v h' tk,(intItems xs)[argBest (λi j=>decide (numAt xs i>numAt xs j)) (xs.size-1)]? =some v->(∀b o,s.heap.get? b=some o->h'.get? b=some o)->Q v {s with heap:=h',toks:=tk}):
  wpAny (model prog w) A (call (.builtin "max") [.ref l]) Q E s:=by
 have hlt:l<s.heap.objs.size:=by obtain⟨_,e,_⟩:=hl;exact Zr e
 refine call_max_walk (wpAny_pyIter_tuple hl ?_)
 refine⟨_,[_,l],[_],_,_,_,_,rfl,Walks.tuple (A:=A.in1) hh _ l (ZJ hlt) (intItems xs),⟨⟨_,Zz _ rfl,rfl,rfl⟩,hl.push _⟩,λb hb=>?_,by simpa[intItems]using hne,CmpOf.ints_gt (numAt xs) (λ_ _=>intItems_at),λv h' tk hP hk=>?_⟩
 ·show b<(s.heap.push _).objs.size
  rw[Zaf]
  rcases Zn.mp hb with rfl | hb
  ·exact ZaF _
  ·rcases Zn.mp hb with rfl | hb
   ·exact Zad hlt
   ·cases hb
 ·refine h v h' tk (by simpa[intItems]using hP) λb o e=>?_
  refine hk b o (λhm=>?_) (Zg _ e)
  rcases Zn.mp hm with e1 | hm
  ·exact absurd (e1▸Zr e) (ZU _)
  ·cases hm
theorem Qog(hc:X.calm=true):Qa5 X (.builtin "max") (QnY X.K isMax):=by
 intro pins s σ H xs us Q I r h
 obtain⟨p,ns,rfl,hq,hne,q⟩:=h
 obtain⟨u,rfl,rx⟩:=vals1 r
 cases rx
 rcases hq with hq | hq
 ·obtain⟨its,r',pl,hz⟩:=I.list hq
  obtain⟨ys,e,hns⟩:=QcA (Qar r')
  have hl:=pl.isList
  rw[e]at hl
  have hsz:0<ys.size:=by
   rcases Zbh ys.size with z | z
   ·exact absurd (by rw[hns,Zba];exact Zae (by simpa using z)) hne
   ·exact z
  refine max_intList (I.ok.hd hc) hl hsz λv h' tk hv hk=>?_
  obtain⟨t,rfl⟩:=intItems_at hv
  obtain⟨h1,h2⟩:=argBest_gt (numAt ys) (ys.size-1)
  refine⟨.int _,H,I.kept hk,⟨t,rfl⟩,q _ ⟨?_,λa ha=>?_⟩⟩
  ·rw[hns,numAt_eq];exact getD_mem (by rw[Zd,Zs];omega)
  ·rw[hns]at ha
   obtain⟨j,hj,rfl⟩:=mem_getD ha
   rw[Zd,Zs]at hj
   rw[← numAt_eq];exact h2 j (by omega)
 ·obtain⟨its,r',pl,hz⟩:=I.tuple hq
  obtain⟨ys,e,hns⟩:=QcA (Qar r')
  have hl:=pl
  rw[e]at hl
  have hsz:0<ys.size:=by
   rcases Zbh ys.size with z | z
   ·exact absurd (by rw[hns,Zba];exact Zae (by simpa using z)) hne
   ·exact z
  refine Qlv (I.ok.hd hc) hl hsz λv h' tk hv hk=>?_
  obtain⟨t,rfl⟩:=intItems_at hv
  obtain⟨h1,h2⟩:=argBest_gt (numAt ys) (ys.size-1)
  refine⟨.int _,H,I.kept hk,⟨t,rfl⟩,q _ ⟨?_,λa ha=>?_⟩⟩
  ·rw[hns,numAt_eq];exact getD_mem (by rw[Zd,Zs];omega)
  ·rw[hns]at ha
   obtain⟨j,hj,rfl⟩:=mem_getD ha
   rw[Zd,Zs]at hj
   rw[← numAt_eq];exact h2 j (by omega)
theorem QkH(hh:A.handled=none)(hl:s.heap.IsTuple l (intItems xs))
  (h:∀h' tk t',(∀b o,s.heap.get? b=some o->h'.get? b=some o)->Q (.int (preSum (numAt xs) xs.size) t') {s with heap:=h',toks:=tk}):
  wpAny (model prog w) A (call (.builtin "sum") [.ref l]) Q E s:=by
 have hlt:l<s.heap.objs.size:=by obtain⟨_,e,_⟩:=hl;exact Zr e
 refine call_sum_walkG (wpAny_pyIter_tuple hl ?_)
 refine⟨_,[_,l],[_],_,_,_,numAt xs,rfl,Walks.tuple (A:=A.in1) hh _ l (ZJ hlt) (intItems xs),⟨⟨_,Zz _ rfl,rfl,rfl⟩,hl.push _⟩,λb hb=>?_,(λ_ _=>intItems_at),λh' tk t' hk=>?_⟩
 ·show b<(s.heap.push _).objs.size
  rw[Zaf]
  rcases Zn.mp hb with rfl | hb
  ·exact ZaF _
  ·rcases Zn.mp hb with rfl | hb
   ·exact Zad hlt
   ·cases hb
 ·have:=h h' tk t' λb o e=>by
   refine hk b o (λhm=>?_) (Zg _ e)
   rcases Zn.mp hm with e1 | hm
   ·exact absurd (e1▸Zr e) (ZU _)
   ·cases hm
  simpa[intItems]using this
noncomputable def Qu2(K:PySem.W.Frag):List V->Hp->VK->Prop:=λxs H Q=>∃(p:Addr) (ns:List Int),xs=[.ref p]/\(SqL K H p (ns.map V.int)∨SqT K H p (ns.map V.int))/\Q (.int ns.sum) H
theorem Qpb(hc:X.calm=true):Qa5 X (.builtin "sum") (Qu2 X.K):=by
 intro pins s σ H xs us Q I r h
 obtain⟨p,ns,rfl,hq,q⟩:=h
 obtain⟨u,rfl,rx⟩:=vals1 r
 cases rx
 rcases hq with hq | hq
 ·obtain⟨its,r',pl,hz⟩:=I.list hq
  obtain⟨ys,e,hns⟩:=QcA (Qar r')
  have hl:=pl.isList
  rw[e]at hl
  refine sum_intListG (I.ok.hd hc) hl λh' tk t' hk=>?_
  refine⟨.int ns.sum,H,I.kept hk,⟨t',?_⟩,q⟩
  rw[preSum_eq,ZaV (by simp),hns]
 ·obtain⟨its,r',pl,hz⟩:=I.tuple hq
  obtain⟨ys,e,hns⟩:=QcA (Qar r')
  have hl:=pl
  rw[e]at hl
  refine QkH (I.ok.hd hc) hl λh' tk t' hk=>?_
  refine⟨.int ns.sum,H,I.kept hk,⟨t',?_⟩,q⟩
  rw[preSum_eq,ZaV (by simp),hns]
theorem QoW(hc:X.calm=true):Qa5 X (.builtin "all") (λxs H Q=>∃(p:Addr) (ns:List Bool),xs=[.ref p]/\SqL X.K H p (ns.map V.bl)/\Q (.bl (ns.all id)) H):=by
 intro pins s σ H xs us Q I r h
 obtain⟨p,ns,rfl,hq,q⟩:=h
 obtain⟨u,rfl,rx⟩:=vals1 r
 cases rx
 obtain⟨its,r',pl,hz⟩:=I.list hq
 have hb:=Qht r'
 have hl:=pl.isList
 have hlt:p<s.heap.objs.size:=by obtain⟨_,e,_⟩:=hl;exact Zr e
 refine call_all_walk (wpAny_pyIter_list hl ?_)
 refine⟨s.heap.objs.size,[s.heap.objs.size,p],[s.heap.objs.size],its.toArray.size,_,_,λi=>(ns[i]?).getD true,rfl,Walks.list (A:=X.A.in1) (I.ok.hd hc) _ p (ZJ hlt) its.toArray,
  ⟨⟨_,Zz _ rfl,rfl,rfl⟩,hl.push _⟩,λi v s' Q' E' hP hQ=>?_,λh' tk hk=>?_⟩
 ·obtain⟨b,e,rfl⟩:=hb.get i v (by simpa using hP)
  simp only[e,Option.getD_some]at hQ
  exact wpAny_truthy_bool hQ
 ·have e:((List.range its.toArray.size).all λi=>(ns[i]?).getD true)=ns.all id:=by
   rw[Zu,hb.length];exact LSm.range_all ns
  rw[e]
  exact⟨.bl (ns.all id),H,I.kept (LSm.kept_iter hk),rfl,q⟩
theorem Qoj(hc:X.calm=true):Qa5 X (.builtin "any") (λxs H Q=>∃(p:Addr) (ns:List Bool),xs=[.ref p]/\SqL X.K H p (ns.map V.bl)/\Q (.bl (ns.any id)) H):=by
 intro pins s σ H xs us Q I r h
 obtain⟨p,ns,rfl,hq,q⟩:=h
 obtain⟨u,rfl,rx⟩:=vals1 r
 cases rx
 obtain⟨its,r',pl,hz⟩:=I.list hq
 have hb:=Qht r'
 have hl:=pl.isList
 have hlt:p<s.heap.objs.size:=by obtain⟨_,e,_⟩:=hl;exact Zr e
 refine call_any_walk (wpAny_pyIter_list hl ?_)
 refine⟨s.heap.objs.size,[s.heap.objs.size,p],[s.heap.objs.size],its.toArray.size,_,_,λi=>(ns[i]?).getD false,rfl,Walks.list (A:=X.A.in1) (I.ok.hd hc) _ p (ZJ hlt) its.toArray,
  ⟨⟨_,Zz _ rfl,rfl,rfl⟩,hl.push _⟩,λi v s' Q' E' hP hQ=>?_,λh' tk hk=>?_⟩
 ·obtain⟨b,e,rfl⟩:=hb.get i v (by simpa using hP)
  simp only[e,Option.getD_some]at hQ
  exact wpAny_truthy_bool hQ
 ·have e:((List.range its.toArray.size).any λi=>(ns[i]?).getD false)=ns.any id:=by
   rw[Zu,hb.length];exact LSm.range_any ns
  rw[e]
  exact⟨.bl (ns.any id),H,I.kept (LSm.kept_iter hk),rfl,q⟩
noncomputable def Qhc:List Int->Option Int
 | []=>none
 | [n]=>some n
 | n::r=>(Qhc r).map λm=>if m<n then m else n
noncomputable def Qg9:List Int->Option Int
 | []=>none
 | [n]=>some n
 | n::r=>(Qg9 r).map λm=>if n<m then m else n
theorem QgD:∀{ns:List Int}{m:Int},Qhc ns=some m->Qh9 ns m
 | [],_,h=>by cases h
 | [n],_,h=>by cases h;exact⟨by simp,λa ha=>by simp at ha;omega⟩
 | n::k::r,m,h=>by
  simp only[Qhc]at h
  obtain⟨m',h1,rfl⟩:=Ze.mp h
  obtain⟨h2,h3⟩:=QgD h1
  constructor
  ·split
   ·exact Zc _ h2
   ·exact Zh
  ·intro a ha
   rcases Zn.mp ha with rfl | ha
   ·split<;>omega
   ·have:=h3 a ha;split<;>omega
theorem QgG:∀{ns:List Int}{m:Int},Qg9 ns=some m->isMax ns m
 | [],_,h=>by cases h
 | [n],_,h=>by cases h;exact⟨by simp,λa ha=>by simp at ha;omega⟩
 | n::k::r,m,h=>by
  simp only[Qg9]at h
  obtain⟨m',h1,rfl⟩:=Ze.mp h
  obtain⟨h2,h3⟩:=QgG h1
  constructor
  ·split
   ·exact Zc _ h2
   ·exact Zh
  ·intro a ha
   rcases Zn.mp ha with rfl | ha
   ·split<;>omega
   ·have:=h3 a ha;split<;>omega
theorem Qju{ns:List Int}{a b:Int}(h:Qh9 ns a)(g:Qh9 ns b):a=b:=by have:=h.2 b g.1;have:=g.2 a h.1;omega
theorem QjH{ns:List Int}{a b:Int}(h:isMax ns a)(g:isMax ns b):a=b:=by have:=h.2 b g.1;have:=g.2 a h.1;omega
noncomputable def Qdy:List D->Option D
 | [.lst xs]=>(Qbk xs).bind λns=>(Qhc ns).map .int
 | [.tup xs]=>(Qbk xs).bind λns=>(Qhc ns).map .int
 | _=>none
noncomputable def Qda:List D->Option D
 | [.lst xs]=>(Qbk xs).bind λns=>(Qg9 ns).map .int
 | [.tup xs]=>(Qbk xs).bind λns=>(Qg9 ns).map .int
 | _=>none
noncomputable def QdA:List D->Option D
 | [.lst xs]=>(Qbk xs).map λns=> .int ns.sum
 | [.tup xs]=>(Qbk xs).map λns=> .int ns.sum
 | _=>none
theorem Qsh{K:PySem.W.Frag}:QdH K Qdy (QnY K Qh9):=λds d e=>by
 unfold Qdy at e
 split at e
 ·refine Qf e λns h1 e=>?_
  obtain⟨m,h2,rfl⟩:=Ze.mp e
  refine⟨rfl,λH vs F Q r q=>?_⟩
  obtain⟨v,rfl,rp⟩:=r.one
  obtain⟨l,ws,L,rfl,hl,rl,zl,el⟩:=rp.lst_inv
  rw[Qbl h1]at rl
  rw[rl.ints]at hl
  exact⟨l,ns,rfl,.inl (QK hl),λz=>(by rw[z]at h2;cases h2),λM hM=>by rw[Qju hM (QgD h2)];exact q _ λ_=> .int_mk⟩
 ·refine Qf e λns h1 e=>?_
  obtain⟨m,h2,rfl⟩:=Ze.mp e
  refine⟨rfl,λH vs F Q r q=>?_⟩
  obtain⟨v,rfl,rp⟩:=r.one
  obtain⟨l,ws,rfl,hl,rl⟩:=rp.QaB
  rw[Qbl h1]at rl
  rw[rl.ints]at hl
  exact⟨l,ns,rfl,.inr hl,λz=>(by rw[z]at h2;cases h2),λM hM=>by rw[Qju hM (QgD h2)];exact q _ λ_=> .int_mk⟩
 ·cases e
theorem QtV{K:PySem.W.Frag}:QdH K Qda (QnY K isMax):=λds d e=>by
 unfold Qda at e
 split at e
 ·refine Qf e λns h1 e=>?_
  obtain⟨m,h2,rfl⟩:=Ze.mp e
  refine⟨rfl,λH vs F Q r q=>?_⟩
  obtain⟨v,rfl,rp⟩:=r.one
  obtain⟨l,ws,L,rfl,hl,rl,zl,el⟩:=rp.lst_inv
  rw[Qbl h1]at rl
  rw[rl.ints]at hl
  exact⟨l,ns,rfl,.inl (QK hl),λz=>(by rw[z]at h2;cases h2),λM hM=>by rw[QjH hM (QgG h2)];exact q _ λ_=> .int_mk⟩
 ·refine Qf e λns h1 e=>?_
  obtain⟨m,h2,rfl⟩:=Ze.mp e
  refine⟨rfl,λH vs F Q r q=>?_⟩
  obtain⟨v,rfl,rp⟩:=r.one
  obtain⟨l,ws,rfl,hl,rl⟩:=rp.QaB
  rw[Qbl h1]at rl
  rw[rl.ints]at hl
  exact⟨l,ns,rfl,.inr hl,λz=>(by rw[z]at h2;cases h2),λM hM=>by rw[QjH hM (QgG h2)];exact q _ λ_=> .int_mk⟩
 ·cases e
theorem Qtp{K:PySem.W.Frag}:QdH K QdA (Qu2 K):=λds d e=>by
 unfold QdA at e
 split at e
 ·obtain⟨ns,h1,rfl⟩:=Ze.mp e
  refine⟨rfl,λH vs F Q r q=>?_⟩
  obtain⟨v,rfl,rp⟩:=r.one
  obtain⟨l,ws,L,rfl,hl,rl,zl,el⟩:=rp.lst_inv
  rw[Qbl h1]at rl
  rw[rl.ints]at hl
  exact⟨l,ns,rfl,.inl (QK hl),q _ λ_=> .int_mk⟩
 ·obtain⟨ns,h1,rfl⟩:=Ze.mp e
  refine⟨rfl,λH vs F Q r q=>?_⟩
  obtain⟨v,rfl,rp⟩:=r.one
  obtain⟨l,ws,rfl,hl,rl⟩:=rp.QaB
  rw[Qbl h1]at rl
  rw[rl.ints]at hl
  exact⟨l,ns,rfl,.inr hl,q _ λ_=> .int_mk⟩
 ·cases e
noncomputable def QgC:List D->Option D
 | [.lst xs]=>(Qhk xs).map λns=> .bl (ns.all id)
 | _=>none
theorem Qr5{K:PySem.W.Frag}:QdH K QgC (λxs H Q=>∃(p:Addr) (ns:List Bool),xs=[.ref p]/\SqL K H p (ns.map V.bl)/\Q (.bl (ns.all id)) H):=λds d e=>by
 unfold QgC at e
 split at e
 ·obtain⟨ns,h1,rfl⟩:=Ze.mp e
  refine⟨rfl,λH vs F Q r q=>?_⟩
  obtain⟨v,rfl,rp⟩:=r.one
  obtain⟨l,ws,L,rfl,hl,rl,zl,el⟩:=rp.lst_inv
  rw[Qhl h1]at rl
  rw[rl.bls]at hl
  exact⟨l,ns,rfl,QK hl,q _ λ_=> .Qbn⟩
 ·cases e
noncomputable def QgH:List D->Option D
 | [.lst xs]=>(Qhk xs).map λns=> .bl (ns.any id)
 | _=>none
theorem QsN{K:PySem.W.Frag}:QdH K QgH (λxs H Q=>∃(p:Addr) (ns:List Bool),xs=[.ref p]/\SqL K H p (ns.map V.bl)/\Q (.bl (ns.any id)) H):=λds d e=>by
 unfold QgH at e
 split at e
 ·obtain⟨ns,h1,rfl⟩:=Ze.mp e
  refine⟨rfl,λH vs F Q r q=>?_⟩
  obtain⟨v,rfl,rp⟩:=r.one
  obtain⟨l,ws,L,rfl,hl,rl,zl,el⟩:=rp.lst_inv
  rw[Qhl h1]at rl
  rw[rl.bls]at hl
  exact⟨l,ns,rfl,QK hl,q _ λ_=> .Qbn⟩
 ·cases e
noncomputable def Qet(neg:Bool)(a b:D):Option D:=match a,b with
 | a,.non=>some (.bl (if neg then !a.Qno else a.Qno))
 | .bl x,.bl y=>some (.bl (if neg then !(x == y)else x == y))
 | _,_=>none
theorem QuL:OpR X (compareOp .Is) (λx y H Q=>∃c d,x= .bl c/\y= .bl d/\Q (.bl (c == d)) H):=by
 intro pins s σ H x y v u Q I rx ry h
 obtain⟨c,d,rfl,rfl,q⟩:=h
 cases rx
 cases ry
 exact PyProof.Rows.is_bool (Qh2 I q rfl)
theorem Qtf:OpR X (compareOp .IsNot) (λx y H Q=>∃c d,x= .bl c/\y= .bl d/\Q (.bl (!(c == d))) H):=by
 intro pins s σ H x y v u Q I rx ry h
 obtain⟨c,d,rfl,rfl,q⟩:=h
 cases rx
 cases ry
 exact PyProof.Rows.isnot_bool (Qh2 I q rfl)
theorem QuA{K:PySem.W.Frag}:Qbt K (Qet false) (λx y H Q=>(y= .non/\Q (.bl (decide (x= .non))) H)∨∃c d,x= .bl c/\y= .bl d/\Q (.bl (c == d)) H):=λa b d e=>by
 unfold Qet at e
 split at e
 ·cases e
  exact⟨rfl,λH x y F G Q ha hb q=> .inl ⟨hb.Qd6,by rw[Qm6 ha];exact q _ λ_=> .Qbn⟩⟩
 ·cases e
  exact⟨rfl,λH x y F G Q ha hb q=> .inr ⟨_,_,ha.QcO,hb.QcO,q _ λ_=> .Qbn⟩⟩
 ·cases e
theorem Qor{K:PySem.W.Frag}:Qbt K (Qet true) (λx y H Q=>(y= .non/\Q (.bl (!decide (x= .non))) H)∨∃c d,x= .bl c/\y= .bl d/\Q (.bl (!(c == d))) H):=λa b d e=>by
 unfold Qet at e
 split at e
 ·cases e
  exact⟨rfl,λH x y F G Q ha hb q=> .inl ⟨hb.Qd6,by rw[Qm6 ha];exact q _ λ_=> .Qbn⟩⟩
 ·cases e
  exact⟨rfl,λH x y F G Q ha hb q=> .inr ⟨_,_,ha.QcO,hb.QcO,q _ λ_=> .Qbn⟩⟩
 ·cases e
theorem Qm5:∀a b d,Qet neg a b=some d->∃k,d= .bl k:=λa b d h=>by
 unfold Qet at h
 split at h<;>cases h<;>exact⟨_,rfl⟩
theorem QkE:Qa5 X (.builtin "divmod") (λxs H Q=>∃i j,xs=[.int i,.int j]/\Qdx j=true/\∀p,H p=none->Q (.ref p) (upd H p (.tup [.int (Qeh i j),.int (Qeq i j)]))):=by
 intro pins s σ H xs us Q I r h
 obtain⟨i,j,rfl,hc,q⟩:=h
 obtain⟨u,w',rfl,⟨t,rfl⟩,⟨t',rfl⟩⟩:=vals2 r
 unfold Qdx at hc
 simp only[Zk,decide_eq_true_eq]at hc
 have h0:j.natAbs≠0:=by omega
 refine PyProof.Rows.divmod_int hc.1 ?_ (.inl (Zbb (Zcf ((Zcp h0).mpr hc.2) (by decide))))
 rw[← Qm7,← Qmm]
 have hn:H s.heap.objs.size=none:=I.hok.fresh (Zq _)
 refine⟨.ref s.heap.objs.size,_,?_,rfl,q _ hn⟩
 refine I.laid (λb o e=>Zg _ e) (Zq _) ⟨by simp only[Zo,List.length_nil];rw[sizeLine_eq];decide,[.int (Qeh i j) s.toks,.int (Qeq i j) (s.toks+1)],.cons ⟨_,rfl⟩ (.cons ⟨_,rfl⟩ .nil),?_⟩
 exact⟨_,Zz s.heap rfl,rfl,0,rfl⟩
noncomputable def dDm(fs:DA):DE:=λρ=>(fs ρ).bind λr=>match r.ds with
 | [.int i,.int j]=>if Qdx j=true then some ⟨.tup [.int (Qeh i j),.int (Qeq i j)],true,[]⟩else none
 | _=>none
theorem Qv8{x:Str}{p:Pos}(hg:Gl X "divmod")(hm:X.mg "divmod" =none)(ha:SA X (e::es) fs)(he:starEach (e::es) X.env=(false,eval e X.env)::starEach es X.env)(hpl:(backTo pos (starEach es X.env)).any (·.1)=false):
  SE X (.Call (.Name "divmod" p) (e::es) [] pos) (dDm fs):=λH0 A0=>
 (Qfy QkE hg hm PyProof.Rows.boot_divmod (ha H0 A0) (by decide) (by decide) he hpl).mono λσ H Q=>exK λρ hs F r' rel e q=>by
  refine Qf e λra e1 e=>?_
  refine⟨ρ,hs,F,ra,rel,e1,λvs H1 G p1=>?_⟩
  split at e
  ·rename_i i j hds
   split at e
   ·rename_i hc
    cases e
    have rp:=p1.rp
    rw[hds]at rp
    obtain⟨v,w,F1,F2,rfl,r1,r2⟩:=rp.two
    refine⟨i,j,by rw[r1.int_inv,r2.int_inv],hc,λp hp=>q _ _ [] (.flat (p1.same.trans (Qb4 hp)) (Rp.QhX QaF ?_) rfl)⟩
    simp only[Rps]
    exact⟨_,_,[],[],rfl,rfl,.int_mk,_,_,[],[],rfl,rfl,.int_mk,rfl,rfl⟩
   ·cases e
  ·cases e
end
end HS
namespace HS
open PySem PySem.Spec L2 PyProof.Rows
theorem QgV:∀{vs:List V}{us:List Value},us.length=vs.length->(∀(k:Nat) (v:V),vs[k]? =some v->∃u,us[k]? =some u/\RelV v u)->Qt vs us
 | [],[],_,_=> .nil
 | [],_::_,h,_=>by simp at h
 | _::_,[],h,_=>by simp at h
 | v::vs,u::us,h,g=>by
  obtain⟨u',e,r⟩:=g 0 v rfl
  cases e
  exact .cons r (QgV (by simpa using h) λk v hk=>g (k+1) v hk)
section
variable {X:Cx}{a b c e tg:Expr}{es:List Expr}{fa fb fc:DE}{fs:DA}{pos p2:Pos}
theorem Qpr(I:Inv X pins σ H s)(hc:X.calm=true)(h0:0<=j)(h1:j<=1000000)
  (q:∀l,H l=none->Q (.ref l) (upd H l (.lst ((List.range j.toNat).map λ(k:Nat)=>V.int (k:Int))))):
  wpAny (model X.prog X.w) X.A (call (.type "list") [.ref s.heap.objs.size]) (EP X pins σ Q) E {s with heap:=s.heap.push {cls:= .type "range",data:= .fields #[.int 0 t,.int j u,.int 1 v]},toks:=tk}:=by
 have I2:Inv X pins σ H {s with heap:=s.heap.push {cls:= .type "range",data:= .fields #[.int 0 t,.int j u,.int 1 v]},toks:=tk}:=I.kept λb o e=>Zg _ e
 refine call_list_range (n:=j.toNat) (I.ok.hd hc) (IsRange.new ..) (small_one (by omega) (by omega) (by omega) (by omega)) (by rw[rangeSize_one];split<;>omega) (by omega) λh' tk' acc' c' hk hS hacc=>?_
 have hv:Qt ((List.range j.toNat).map λ(k:Nat)=>V.int (k:Int)) acc'.toList:=by
  have hl:=hacc.1
  refine QgV (by simp[hl]) λk v hk=>?_
  rw[Zm]at hk
  have hkl:k<j.toNat:=by
   by_cases z:k<j.toNat
   ·exact z
   ·rw[Zv (by simp;omega)]at hk;cases hk
  rw[ZT hkl]at hk
  cases hk
  obtain⟨w,hw⟩:∃w,acc'[k]? =some w:=⟨acc'[k]'(by omega),by rw[ZQ (by omega)]⟩
  obtain⟨t',rfl⟩:=hacc.2 k w hw
  exact⟨_,by rw[ZS];exact hw,⟨t',by simp⟩⟩
 refine⟨.ref _,_,I2.laid hk (Zq _) (show Qcr X.prog X.w _ h' _ (.lst _)from⟨by simp[Qbd];omega,acc'.toList,c',hv,by simpa using hS⟩),rfl,q _ (I2.hok.fresh (Zq _))⟩
theorem QoB(hg:Gl X "list")(hm:X.mg "list" =none)(hg':Gl X "range")(hm':X.mg "range" =none)(hc:X.calm=true)(ha:PA X [a] ta)(hs:starEach [a] X.env=[(false,eval a X.env)]):
  PE X (.Call (.Name "list" p) [.Call (.Name "range" p') [a] [] pos'] [] pos) (λσ H Q=>ta σ H λvs H1=>∃j:Int,vs=[.int j]/\0<=j/\j<=1000000/\∀l,H1 l=none->Q (.ref l) (upd H1 l (.lst ((List.range j.toNat).map λ(k:Nat)=>V.int (k:Int))))):=by
 intro pins s σ H Q I h
 refine wpAny_Call_Name_kw (Qca I hg hm boot_list ?_ (by decide) (by decide))
 refine ZW (ZbK ?_) rfl rfl
 refine Call_ (Qca I hg' hm' boot_range (ZW (thn (ha pos' pins s σ H _ I h) λus s1 ⟨vs,H1,I1,r1,q1⟩=>?_) hs rfl))
 obtain⟨j,e,q1,q2,q⟩:=q1
 subst e
 cases r1 with
 | cons r rr=>
  cases rr
  obtain⟨t,rfl⟩:=r
  exact call_range_1 (ZbQ (Qpr I1 hc q1 q2 q))
noncomputable def QfG(fa:DE):DE:=λρ=>(fa ρ).bind λr=>match r.d with
 | .int j=>if 0<=j/\j<=1000000 then some ⟨.lst ((List.range j.toNat).map λ(k:Nat)=> .int (k:Int)),true,[]⟩else none
 | _=>none
theorem Rps.ofInts{K:PySem.W.Frag}{H:Hp}:∀ns:List Int,Rps K H (ns.map .int) (ns.map .int) []
 | []=>by simp[Rps]
 | n::ns=>by simp only[Zx,Rps];exact⟨_,_,[],[],rfl,rfl,.int_mk,Rps.ofInts ns⟩
theorem QhA:∀ns:List Int,QG (ns.map .int)=true
 | []=>rfl
 | n::ns=>by simp[QG,D.flat,QhA ns]
theorem Qr9{p p' pos':Pos}(hg:Gl X "list")(hm:X.mg "list" =none)(hg':Gl X "range")(hm':X.mg "range" =none)(hc:X.calm=true)(ha:SE X a fa)(hs:starEach [a] X.env=[(false,eval a X.env)]):
  SE X (.Call (.Name "list" p) [.Call (.Name "range" p') [a] [] pos'] [] pos) (QfG fa):=λH0 A0=>
 (QoB hg hm hg' hm' hc (Q5 (ha H0 A0) Qa2 hs) hs).mono λσ H Q=>exK λρ hs F r' rel e q=>by
  refine Qf e λra e1 e=>?_
  refine⟨ρ,hs,F,ra,rel,e1,λv H1 G p1=>?_⟩
  cases hd:ra.d with
  | int j=>
   rw[hd]at e
   dsimp only at e
   split at e
   ·rename_i hj
    cases e
    have rp:=p1.rp
    rw[hd]at rp
    refine⟨j,by rw[rp.int_inv],hj.1,hj.2,λl hl=>?_⟩
    have e2:((List.range j.toNat).map λ(k:Nat)=>D.int (k:Int))=((List.range j.toNat).map λ(k:Nat)=>(k:Int)).map D.int:=by rw[ZP];rfl
    have e3:((List.range j.toNat).map λ(k:Nat)=>V.int (k:Int))=((List.range j.toNat).map λ(k:Nat)=>(k:Int)).map V.int:=by rw[ZP];rfl
    have:=QN.Qaq (ρ:=ρ) (F:=F) p1.same hl (Rps.ofInts (K:=X.K) ((List.range j.toNat).map λ(k:Nat)=>(k:Int))) (by simp[Qbd];omega) Src.nil QaJ.nil
    rw[← e2,← e3]at this
    unfold Qaq at this
    rw[if_pos (by rw[e2];exact QhA _)]at this
    exact q _ _ _ this
   ·cases e
  | _=>rw[hd]at e;cases e
noncomputable def Itd(hi:Int)(n:Nat):It:=⟨λi _=>i<n,λi H x H'=>H'=H/\x= .int (hi-i),λi _=>n<=i⟩
theorem QlX{P:Program}{w:World}{K:PySem.W.Frag}{tg:Expr}(it:Addr)(lo:Int)(n:Nat):Turn P w K tg (Itd lo n) [it] it (λi h=>IsRangeIter h it (lo+(i:Nat)*(-1)) ((n:Int)-(i:Nat)) (-1)) where
 mem:=by simp
 obj:=λi h st b hb=>by
  have e:b=it:=by simpa using hb
  subst e
  exact⟨_,st,λv z=>by
   have z':Data.fields _=Data.cell v:=z
   cases z'⟩
 keep:=λi h h' st k=>k it (by simp) _ st
 item:=by
  intro X hP hw hK hc i pins s σ H E I hf st hg
  subst hP hw hK
  obtain⟨f0,f1,f2,f3,f4,f5⟩:=hf it (by simp)
  have W:=Walks.range (prog:=X.prog) (w:=X.w) (I.ok.hd hc) it lo (-1) n
  refine W.item i s _ _ hg st λv h' tk hv st' kk=>?_
  obtain⟨t,rfl⟩:=hv
  have I1:Inv X pins σ H {s with heap:=h',toks:=tk}:=I.turned (λb o hb e=>kk b o (by simpa using hb) e) f0 f1 f3 f4 f5
  refine⟨_,rfl,Qke st' rfl rfl (by decide) ⟨.int (lo-i),H,I1,⟨t,?_⟩,⟨rfl,rfl⟩,st',λb hb=>(hf b hb).1⟩⟩
  rw[show lo+(i:Int)* -1=lo-i by omega]
 done:=by
  intro X hP hw hK hc i pins s σ H E I hf st hg
  subst hP hw hK
  obtain⟨f0,f1,f2,f3,f4,f5⟩:=hf it (by simp)
  exact wpAny_pyNext_range_end (I.ok.hd hc) st (by have:n<=i:=hg;omega) λh' eb=>⟨rfl,I.turned (t':=s.toks) (λb o hb e=>eb b o hb e) f0 f1 f3 f4 f5⟩
 self:=λ_ _ _ _ _ st h=>wpAny_pyIter_rangeiter st h
theorem Qjm(lo hi:Int):Builtin.Range.rangeSize lo hi (-1)=if lo>hi then lo-hi else 0:=by
 unfold Builtin.Range.rangeSize
 rw[if_neg (by decide)]
 split
 ·rw[show(- -1:Int)=1 by decide,Int.ediv_one];omega
 ·rfl
theorem small_down{lo hi:Int}(h1: -(2^62)<=lo)(h2:lo<2^62)(h3: -(2^62)<=hi)(h4:hi<2^62):Builtin.Range.small lo hi (-1)=true:=by
 unfold Builtin.Range.small
 rw[Qjm]
 simp only[Builtin.Range.rangeFitsLong,Zk,ZaN,decide_eq_true_eq,beq_iff_eq,show ¬((-1:Int)>0) by decide,if_false]
 split<;>omega
theorem QpB{pins:List (Addr×Obj)}{σ:L2.St}{H:Hp}{s:Shared}{R:It->Hp->Prop}{E:Value->Shared->Prop}{lo hi:Int}{t u v:Tok}{tk:Nat}(I:Inv X pins σ H s)(h1: -(2^62)<=lo)(h2:lo<2^62)(h3: -(2^62)<=hi)(h4:hi<2^62)
  (q:R (Itd lo (lo-hi).toNat) H):wpAny (model X.prog X.w) X.A (pyIter (.ref s.heap.objs.size)) (PIE X pins σ tg R) E {s with heap:=s.heap.push {cls:= .type "range",data:= .fields #[.int lo t,.int hi u,.int (-1) v]},toks:=tk}:=by
 refine wpAny_pyIter_range (IsRange.new ..) (small_down h1 h2 h3 h4) ?_
 have I1:Inv X pins σ H {s with heap:=s.heap.push {cls:= .type "range",data:= .fields #[.int lo t,.int hi u,.int (-1) v]},toks:=tk}:=I.kept λb o e=>Zg _ e
 refine⟨(s.heap.push {cls:= .type "range",data:= .fields #[.int lo t,.int hi u,.int (-1) v]}).objs.size,[(s.heap.push {cls:= .type "range",data:= .fields #[.int lo t,.int hi u,.int (-1) v]}).objs.size],_,_,H,rfl,
  I1.kept (t':=tk) λb o e=>Zg _ e,QlX _ lo (lo-hi).toNat,?_,λb hb=>?_,q⟩
 ·have e1:lo+((0:Nat):Int)*(-1)=lo:=by simp
  have e2:(((lo-hi).toNat:Nat):Int)-((0:Nat):Int)=Builtin.Range.rangeSize lo hi (-1):=by rw[Qjm];split<;>omega
  show IsRangeIter _ _ (lo+((0:Nat):Int)*(-1)) ((((lo-hi).toNat:Nat):Int)-((0:Nat):Int)) (-1)
  rw[e1,e2]
  exact Zz _ rfl
 ·have e:b=(s.heap.push {cls:= .type "range",data:= .fields #[.int lo t,.int hi u,.int (-1) v]}).objs.size:=by simpa using hb
  subst e
  exact I1.Qie (Zq _) (I1.hok.fresh (Zq _))
noncomputable def Qwq(ta:TA):TI:=λσ H R=>ta σ H λvs H1=>∃i j:Int,vs=[.int i,.int j,.int (-1)]/\(-(2^62)<=i/\i<2^62/\ -(2^62)<=j/\j<2^62)/\R (Itd i (i-j).toNat) H1
theorem Qn3(hg:Gl X "range")(hm:X.mg "range" =none)(ha:PA X [a,b,c] ta)(hs:starEach [a,b,c] X.env=(false,eval a X.env)::starEach [b,c] X.env)(hs2:(backTo pos (starEach [b,c] X.env)).any (·.1)=false):
  PI X tg (.Call (.Name "range" p) [a,b,c] [] pos) (Qwq ta):=by
 intro pins s σ H R I h
 refine Call_ (Qca I hg hm boot_range (ZW (thn (ha pos pins s σ H _ I h) λus s1 ⟨vs,H1,I1,r1,q1⟩=>?_) hs hs2))
 obtain⟨i,j,e,⟨q1,q2,q3,q4⟩,q⟩:=q1
 subst e
 cases r1 with
 | cons r rr=>
  cases rr with
  | cons r' rr=>
   cases rr with
   | cons r'' rr=>
    cases rr
    obtain⟨t,rfl⟩:=r
    obtain⟨t',rfl⟩:=r'
    obtain⟨t'',rfl⟩:=r''
    exact call_range_3 (by decide) (QpB I1 q1 q2 q3 q4 q) (.inl (Zbb (by decide+kernel)))
noncomputable def QiF(hi:Int)(n:Nat):List D:=(List.range n).map λ(k:Nat)=> .int (hi-(k:Int))
theorem QqU{lo:Int}{n i:Nat}{d:D}(h:(QiF lo n)[i]? =some d):i<n/\d= .int (lo-i):=by
 unfold QiF at h
 rw[Zm]at h
 by_cases hi:i<n
 ·rw[ZT hi]at h;cases h;exact⟨hi,rfl⟩
 ·rw[Zv (by simp;omega)]at h;cases h
noncomputable def Qe9(fa fb fc:DE):DI:=λρ=>(fa ρ).bind λr=>(fb ρ).bind λr'=>(fc ρ).bind λr''=>match r.d,r'.d,r''.d with
 | .int i,.int j,.int (-1)=>if i-j<=16777216/\ -(2^62)<=i/\i<2^62/\ -(2^62)<=j/\j<2^62 then some ⟨QiF i (i-j).toNat,[]⟩else none
 | _,_,_=>none
theorem Qg4{lo:Int}{n:Nat}:(QiF lo n).length=n:=by simp[QiF]
theorem QlW{K:PySem.W.Frag}{lo:Int}{n:Nat}:Walk K (Itd lo n) [] (QiF lo n) where
 stop:=λH _=>by rw[Qg4];exact Zq _
 go:=λi H hi _=>by rw[Qg4]at hi;exact hi
 yld:=λi d H x H' e _ y=>by
  obtain⟨h1,rfl⟩:=QqU e
  obtain⟨rfl,rfl⟩:=y
  exact⟨QD.refl _,[],.int_mk,λz hz=>by simp at hz⟩
theorem Qou(hg:Gl X "range")(hm:X.mg "range" =none)(ha:SE X a fa)(hb:SE X b fb)(hc:SE X c fc)(h1:starEach [a,b,c] X.env=(false,eval a X.env)::starEach [b,c] X.env)(h2:starEach [b,c] X.env=(false,eval b X.env)::starEach [c] X.env)(h3:starEach [c] X.env=(false,eval c X.env)::starEach [] X.env):
  SI X tg (.Call (.Name "range" p) [a,b,c] [] pos) (Qe9 fa fb fc):=λH0 A0=>
 (Qn3 hg hm (Q5 (ha H0 A0) (Q5 (hb H0 A0) (Q5 (hc H0 A0) Qa2 h3) h2) h1) h1 (by rw[h2,h3];rfl)).mono λσ H Rr=>exK λρ hs F ir rel e q=>by
  refine Qf e λr e1 e=>?_
  refine Qf e λr' e2 e=>?_
  refine Qf e λr'' e3 e=>?_
  refine⟨ρ,hs,F,r,rel,e1,λv H1 G pp=>⟨ρ,hs,F,r',rel.ext pp.same,e2,λv' H2 G' pp'=>⟨ρ,hs,F,r'',(rel.ext pp.same).ext pp'.same,e3,λv'' H3 G'' pp''=>?_⟩⟩⟩
  split at e
  ·rename_i i j hr hr' hr''
   split at e
   ·rename_i hz
    cases e
    have rp:=(pp.rp.same pp'.same).same pp''.same
    have rp':=pp'.rp.same pp''.same
    have rp'':=pp''.rp
    rw[hr]at rp
    rw[hr']at rp'
    rw[hr'']at rp''
    rw[rp.int_inv,rp'.int_inv,rp''.int_inv]
    refine⟨i,j,rfl,hz.2,q _ H3 [] ((pp.same.trans pp'.same).trans pp''.same) QlW (λt ht=>by simp at ht) QaJ.nil ?_⟩
    rw[Qg4,Qbd];omega
   ·cases e
  ·cases e
theorem QtY:MtR X "int.bit_length" (λx vs H Q=>∃i,x= .int i/\vs=[]/\Q (.int (Builtin.Int.intBits i)) H):=by
 intro pins s σ H x vs v us Q I rx rv h
 obtain⟨i,rfl,rfl,q⟩:=h
 obtain⟨t,rfl⟩:=rx
 have hus:=rv.zero
 subst hus
 exact call_int_bit_length ⟨.int _,H,I.tok _,⟨_,rfl⟩,q⟩
noncomputable def Qkg(fa:DE):DE:=λρ=>(fa ρ).bind λr=>match r.d with
 | .int i=>some ⟨.int (Builtin.Int.intBits i),true,[]⟩
 | _=>none
theorem QsU(ha:SE X a fa)(hb:attributeBase a "bit_length" X.env (eval a X.env)=eval a X.env)(hl:(apos.endLine == cpos.line)=true):SE X (.Call (.Attribute a "bit_length" apos) [] [] cpos) (Qkg fa):=λH0 A0=>
 (Quq PySem.F.plainAttrs_int PySem.F.slot_int_bit_length PySem.F.type_int_bit_length QtY (ha H0 A0) hb hl).mono λσ H Q=>exK λρ hs F r' rel e q=>by
  refine Qf e λra e1 e=>?_
  refine⟨ρ,hs,F,ra,rel,e1,λv H1 G p1=>?_⟩
  cases hd:ra.d with
  | int i=>
   rw[hd]at e
   cases e
   have rp:=p1.rp
   rw[hd]at rp
   rw[rp.int_inv]
   exact⟨rfl,i,rfl,rfl,q _ _ [] (.flat p1.same .int_mk)⟩
  | _=>rw[hd]at e;cases e
noncomputable def insI(x:Int):List Int->List Int
 | []=>[x]
 | y::r=>if x<=y then x::y::r else y::insI x r
noncomputable def Qb5:List Int->List Int
 | []=>[]
 | x::r=>insI x (Qb5 r)
theorem insI_perm(x:Int):∀l:List Int,(insI x l).Perm (x::l)
 | []=> .refl _
 | y::r=>by
  unfold insI
  split
  ·exact .refl _
  ·exact((insI_perm x r).cons y).trans (.swap x y r)
theorem Qbp:∀l:List Int,(Qb5 l).Perm l
 | []=> .refl _
 | x::r=>(insI_perm x (Qb5 r)).trans ((Qbp r).cons x)
theorem QgQ(x:Int):∀l:List Int,l.Pairwise (· <= ·)->(insI x l).Pairwise (· <= ·)
 | [],_=>by simp[insI]
 | y::r,h=>by
  unfold insI
  have h1:=ZaH.mp h
  split
  ·rename_i hxy
   refine ZaH.mpr ⟨λz hz=>?_,h⟩
   rcases Zn.mp hz with rfl | hz
   ·exact hxy
   ·exact Zbl hxy (h1.1 z hz)
  ·rename_i hxy
   refine ZaH.mpr ⟨λz hz=>?_,QgQ x r h1.2⟩
   rcases Zn.mp ((insI_perm x r).mem_iff.mp hz)with rfl | hz
   ·omega
   ·exact h1.1 z hz
theorem QcR:∀l:List Int,(Qb5 l).Pairwise (· <= ·)
 | []=> .nil
 | x::r=>QgQ x _ (QcR r)
theorem QfM:∀{l l':List Int},l.Pairwise (· <= ·)->l'.Pairwise (· <= ·)->l.Perm l'->l=l'
 | [],l',_,_,p=>(List.Perm.nil_eq p)
 | x::l,[],_,_,p=>by have:=p.length_eq;simp at this
 | x::l,y::l',h,h',p=>by
  have h1:=ZaH.mp h
  have h2:=ZaH.mp h'
  have e:x=y:=by
   have a:=p.mem_iff.mp (Zh)
   have b:=p.mem_iff.mpr (Zh)
   rcases Zn.mp a with a | a
   ·exact a
   ·rcases Zn.mp b with b | b
    ·exact b.symm
    ·have:=h1.1 y b;have:=h2.1 x a;omega
  subst e
  rw[QfM h1.2 h2.2 (List.Perm.cons_inv p)]
theorem QkX:Qa5 X (.builtin "sorted") (λxs H Q=>∃(p:Addr) (ns:List Int),xs=[.ref p]/\SqL X.K H p (ns.map V.int)/\ns.length<64/\∀l,H l=none->Q (.ref l) (upd H l (.lst ((Qb5 ns).map V.int)))):=by
 intro pins s σ H xs us Q I r h
 obtain⟨p,ns,rfl,hq,hl64,q⟩:=h
 obtain⟨u,rfl,rx⟩:=vals1 r
 cases rx
 obtain⟨its,r',pl,hz⟩:=I.list hq
 have hI:=Qar r'
 refine sorted_ints pl.isList hI (by rw[← hI.length]at *;simpa using hl64) λout ns' a1 a2 a3=>?_
 have e:ns'=Qb5 ns:=QfM a3 (QcR ns) (a2.trans (Qbp ns).symm)
 subst e
 obtain⟨ep,hat⟩:=sortedAll_at s.heap its out
 refine⟨.ref (s.heap.objs.size+1),_,I.laid (t':=s.toks) (o:= .lst ((Qb5 ns).map V.int)) (λb o hb=>?_) (ZaP _) ⟨?_,out.toList,ep,L2.Qar a1,by simpa using hat⟩,rfl,q _ (I.hok.fresh (ZaP _))⟩
 ·exact sortedAll_old hb
 ·rw[Zd,(Qbp ns).length_eq,Qbd];omega
noncomputable def Qgw(fs:DA):DE:=λρ=>(fs ρ).bind λr=>match r.ds with
 | [.lst xs]=>(Qbk xs).bind λns=>if ns.length<64 then some ⟨.lst ((Qb5 ns).map .int),true,[]⟩else none
 | _=>none
theorem Qs9{p:Pos}(hg:Gl X "sorted")(hm:X.mg "sorted" =none)(ha:SA X (e::es) fs)(he:starEach (e::es) X.env=(false,eval e X.env)::starEach es X.env)(hpl:(backTo pos (starEach es X.env)).any (·.1)=false):
  SE X (.Call (.Name "sorted" p) (e::es) [] pos) (Qgw fs):=λH0 A0=>
 (Qfy QkX hg hm boot_sorted (ha H0 A0) (by decide) (by decide) he hpl).mono λσ H Q=>exK λρ hs F r' rel e q=>by
  refine Qf e λra e1 e=>?_
  refine⟨ρ,hs,F,ra,rel,e1,λvs H1 G p1=>?_⟩
  split at e
  ·rename_i xs hds
   refine Qf e λns h1 e=>?_
   split at e
   ·rename_i hl
    cases e
    have rp:=p1.rp
    rw[hds]at rp
    obtain⟨v,rfl,rq⟩:=rp.one
    obtain⟨l,ws,L,rfl,hl',rl,zl,el⟩:=rq.lst_inv
    rw[Qbl h1]at rl
    rw[rl.ints]at hl'
    refine⟨l,ns,rfl,QK hl',hl,λc hc=>?_⟩
    have:=QN.Qaq (ρ:=ρ) (F:=F) p1.same hc (Rps.ofInts (K:=X.K) (Qb5 ns)) (by rw[Zd,(Qbp ns).length_eq,Qbd];omega) Src.nil QaJ.nil
    unfold Qaq at this
    rw[if_pos (QhA _)]at this
    exact q _ _ _ this
   ·cases e
  ·cases e
end
end HS
namespace HS
open PySem L2
noncomputable def Qeg(ns:List Int):List Int:=ns.foldl PyProof.Rows.step_dedup []
noncomputable def Qgv(fa:DE):DE:=λρ=>(fa ρ).bind λr=>match r.d with
 | .lst xs=>(Qbk xs).bind λns=>if ns.length<=18 then some ⟨.lst ((Qb5 (Qeg ns)).map .int),true,[]⟩else none
 | _=>none
theorem Qln:∀(ns σ:List Int),(σ++ns).Nodup->ns.foldl PyProof.Rows.step_dedup σ=σ++ns
 | [],σ,_=>by simp
 | n::ns,σ,h=>by
  have hn:σ.any (· == n)=false:=by
   rw[Zav]
   intro x hx e
   rw[beq_iff_eq]at e
   subst e
   exact(Zax.mp h).2.2 x hx x Zh rfl
  have e:PyProof.Rows.step_dedup σ n=σ++[n]:=by unfold PyProof.Rows.step_dedup;rw[hn];rfl
  show ns.foldl PyProof.Rows.step_dedup (PyProof.Rows.step_dedup σ n)=_
  rw[e,Qln ns (σ++[n]) (by simpa using h)]
  simp
theorem Qot{ns:List Int}(h:ns.Nodup):Qeg ns=ns:=by
 have:=Qln ns [] (by simpa using h)
 simpa[Qeg]using this
theorem QnK:∀{a b:List Int},a.Perm b->a.Pairwise (· <= ·)->b.Pairwise (· <= ·)->a=b:=λ{a b} p ha hb=>p.eq_of_pairwise (λx y _ _ h1 h2=>Int.le_antisymm h1 h2) ha hb
theorem QnI{ns:List Int}(h:ns.Pairwise (· <= ·)):Qb5 ns=ns:=QnK (Qbp ns) (QcR ns) h
def Inc(xs:Array Nat):Prop:=xs.toList.Pairwise (· < ·)
theorem Inc.get{xs:Array Nat}(h:Inc xs){i j a b:Nat}(hi:xs[i]? =some a)(hj:xs[j]? =some b)(hij:i<j):a<b:=by
 rw[← ZS]at hi hj
 obtain⟨i1,rfl⟩:=Zb.mp hi
 obtain⟨j1,rfl⟩:=Zb.mp hj
 exact ZbO.mp h i j i1 j1 hij
structure Cut (xs:Array Nat) (j r:Nat):Prop where
 le:r<=xs.size
 lo:∀i a,i<r->xs[i]? =some a->a<j
 hi:∀i a,r<=i->xs[i]? =some a->j<=a
theorem Qhj{xs:Array Nat}(hx:Inc xs)(j:Nat):∀(fuel lo hi:Nat),hi-lo<=fuel->lo<=hi->hi<=xs.size->(∀i a,i<lo->xs[i]? =some a->a<j)->(∀i a,hi<=i->xs[i]? =some a->j<=a)->Cut xs j (SetTable.below.go xs j fuel lo hi)
 | 0,lo,hi,hf,h1,h2,h3,h4=>by
  unfold SetTable.below.go
  exact⟨by omega,h3,λi a q=>h4 i a (by omega)⟩
 | fuel+1,lo,hi,hf,h1,h2,h3,h4=>by
  unfold SetTable.below.go
  by_cases z:lo<hi
  ·rw[if_pos z]
   obtain⟨a,ha⟩:∃a,xs[(lo+hi) / 2]? =some a:=⟨_,ZQ (by omega)⟩
   have e:xs.getD ((lo+hi) / 2) j=a:=by rw[Array.getD_eq_getD_getElem?,ha];rfl
   dsimp only
   rw[e]
   by_cases y:a<j
   ·rw[if_pos y]
    refine Qhj hx j fuel _ hi (by omega) (by omega) h2 (λi b q hb=>?_) h4
    by_cases w:i=(lo+hi) / 2
    ·rw[w,ha]at hb;cases hb;exact y
    ·have:=hx.get hb ha (by omega);omega
   ·rw[if_neg y]
    refine Qhj hx j fuel lo _ (by omega) (by omega) (by omega) h3 λi b q hb=>?_
    by_cases w:i=(lo+hi) / 2
    ·rw[w,ha]at hb;cases hb;omega
    ·have:=hx.get ha hb (by omega);omega
  ·rw[if_neg z]
   exact⟨by omega,h3,λi a q=>h4 i a (by omega)⟩
theorem QeF{xs:Array Nat}(hx:Inc xs)(j:Nat):Cut xs j (SetTable.below xs j):=Qhj hx j _ 0 _ (by omega) (ZZ _) (Zq _) (λi a q=>by omega) λi a q h=>by
 rw[Array.getElem?_eq_none q]at h;cases h
theorem QnU{xs:Array Nat}(hx:Inc xs):SetTable.below xs 0=0:=by
 have c:=QeF hx 0
 by_cases z:SetTable.below xs 0=0
 ·exact z
 ·have le:=c.le
  have:=c.lo 0 _ (by omega) (ZQ (by omega))
  omega
theorem QnA{xs:Array Nat}(hx:Inc xs){i a:Nat}(ha:xs[i]? =some a):SetTable.below xs (a+1)=i+1:=by
 have c:=QeF hx (a+1)
 have hi:i<xs.size:=by
  by_cases z:i<xs.size
  ·exact z
  ·rw[Array.getElem?_eq_none (by omega)]at ha;cases ha
 by_cases z:SetTable.below xs (a+1)<=i
 ·have:=c.hi i a z ha;omega
 ·by_cases y:i+1<SetTable.below xs (a+1)
  ·have le:=c.le
   have h1:=ZQ (xs:=xs) (i:=i+1) (by omega)
   have h2:=c.lo (i+1) _ y h1
   have h3:=hx.get ha h1 (by omega)
   omega
  ·omega
theorem Qo3{xs:Array Nat}(hx:Inc xs){j:Nat}(h:xs[SetTable.below xs j]? ≠some j):∀k:Nat,xs[k]? ≠some j:=λk hk=>by
 have c:=QeF hx j
 by_cases z:k<SetTable.below xs j
 ·have:=c.lo k j z hk;omega
 ·by_cases y:k=SetTable.below xs j
  ·rw[y]at hk;exact h hk
  ·have ks:k<xs.size:=by
    by_cases z:k<xs.size
    ·exact z
    ·rw[Array.getElem?_eq_none (by omega)]at hk;cases hk
   have h1:=ZQ (xs:=xs) (i:=SetTable.below xs j) (by omega)
   have h2:=hx.get h1 hk (by omega)
   have h3:=c.hi _ _ (Zq _) h1
   omega
theorem QsZ{xs:Array Nat}(hx:Inc xs){j:Nat}(hj:∀k:Nat,xs[k]? ≠some j):Inc (SetTable.insertAt xs (SetTable.below xs j) j):=by
 have c:=QeF hx j
 unfold Inc
 rw[SetTable.toList_insertAt,List.pairwise_append,ZaH]
 have lo:∀a∈xs.toList.take (SetTable.below xs j),a<j:=λa ha=>by
  obtain⟨i,hi⟩:=Zam ha
  rw[List.getElem?_take]at hi
  split at hi
  ·rename_i z;exact c.lo i a z (by rw[← ZS];exact hi)
  ·cases hi
 have hi:∀a∈xs.toList.drop (SetTable.below xs j),j<a:=λa ha=>by
  obtain⟨i,hi⟩:=Zam ha
  rw[List.getElem?_drop,ZS]at hi
  have h1:=c.hi _ a (by omega) hi
  have h2:a≠j:=λe=>hj _ (by rw[hi,e])
  omega
 refine⟨List.Pairwise.sublist (List.take_sublist _ _) hx,⟨hi,List.Pairwise.sublist (List.drop_sublist _ _) hx⟩,λa ha b hb=>?_⟩
 have h1:=lo a ha
 rcases Zn.mp hb with rfl | hb
 ·exact h1
 ·have:=hi b hb;omega
structure TbI (t:SetTable):Prop where
 inc:Inc t.place
 dum:t.dummies= #[]
theorem Qgs(j:Nat):SetTable.has #[] j=false:=by
 unfold SetTable.has
 rw[Array.getElem?_eq_none (ZZ _)]
 rfl
theorem Qpn{t:SetTable}(h:TbI t){j:Nat}(e:t.slot j= .empty):∀k:Nat,t.place[k]? ≠some j:=by
 refine Qo3 h.inc λz=>?_
 unfold SetTable.slot at e
 dsimp only at e
 rw[z,if_pos (by simp)]at e
 cases e
theorem QiO{t:SetTable}(h:TbI t)(j:Nat):t.slot j≠ .dummy:=λe=>by
 unfold SetTable.slot at e
 dsimp only at e
 rw[h.dum,Qgs]at e
 split at e
 ·cases e
 ·cases e
theorem Qo5(t:SetTable)(p:SetTable.Probe):(t.advance p).dummy=p.dummy:=by
 unfold SetTable.advance
 split
 ·rfl
 ·rfl
theorem QfI{t:SetTable}(h:TbI t)(f:Nat->Int)(x:Int):∀(fuel:Nat) (p:SetTable.Probe),p.dummy=none->∀j d,SetTable.probe.go t f x fuel p=some (.empty j d)->d=none/\t.slot j= .empty
 | 0,p,hp,j,d,e=>by unfold SetTable.probe.go at e;cases e
 | fuel+1,p,hp,j,d,e=>by
  unfold SetTable.probe.go at e
  split at e
  ·rename_i hs;cases e;exact⟨hp,hs⟩
  ·rename_i hs;exact absurd hs (QiO h _)
  ·split at e
   ·cases e
   ·exact QfI h f x fuel _ (by rw[Qo5];exact hp) j d e
theorem QpQ{t:SetTable}(h:TbI t){x:Int}{j:Nat}{w:Bool}(e:t.freeSlot x=some (j,w)):∀k:Nat,t.place[k]? ≠some j:=by
 unfold SetTable.freeSlot at e
 split at e
 ·rename_i j' d hp
  obtain⟨rfl,hs⟩:=QfI h _ _ _ _ rfl j' d hp
  cases e
  exact Qpn h hs
 ·cases e
theorem Qon(n:Nat):Inc (Array.range n):=by
 unfold Inc
 rw[Array.toList_range]
 exact Zbm
theorem QdT(t:SetTable)(n:Nat):TbI (t.standIn n):=⟨Qon n,rfl⟩
theorem Qn8{t:SetTable}(h:TbI t)(es:Array (Int×Value))(x:Int)(v:Value):TbI (layNew t es x v).2.1/\(layNew t es x v).2.1.led=t.led:=by
 unfold layNew
 split
 ·rename_i j w e
  have hf:=QpQ h e
  have tp:TbI (t.put j).1:=⟨QsZ h.inc hf,by show(if SetTable.has t.dummies j then _ else t.dummies)= #[];rw[h.dum,Qgs];rfl⟩
  dsimp only
  unfold SetTable.orStandIn
  split
  ·exact⟨tp,rfl⟩
  ·exact⟨QdT _ _,rfl⟩
 ·exact⟨QdT _ _,rfl⟩
theorem Qrj(t:SetTable)(es:Array (Int×Value))(n:Nat):TbI (relayAll t es n).2.1/\(relayAll t es n).2.1.led=t.led:=by
 unfold relayAll
 split
 ·rename_i t' order e
  dsimp only
  split
  ·unfold SetTable.relaid SetTable.laid at e
   rw[Option.bind_eq_bind]at e
   refine Qf e λow _ e=>?_
   cases e
   refine⟨⟨?_,rfl⟩,rfl⟩
   unfold Inc
   dsimp only
   rw[Zay]
   refine List.Pairwise.filterMap _ (λa a' haa b hb b' hb'=>?_) Zbm
   obtain⟨_,_,rfl⟩:=Ze.mp hb
   obtain⟨_,_,rfl⟩:=Ze.mp hb'
   exact haa
  ·exact⟨QdT _ _,rfl⟩
 ·exact⟨QdT _ _,rfl⟩
theorem QmG{α:Type}:∀{l:List α}{j:Nat}{a:α},l[j]? =some a->(a::l.eraseIdx j).Perm l
 | [],j,a,h=>by simp at h
 | x::l,0,a,h=>by cases h;exact .refl _
 | x::l,j+1,a,h=>(List.Perm.swap x a _).trans ((QmG (l:=l) (j:=j) (by simpa using h)).cons x)
theorem QjB{α:Type}(next:Nat->Nat):∀(fuel k:Nat) (left:List α) (out:Array α),left.length=fuel->List.Perm (pickOrder.go next fuel k left out).toList (out.toList++left)
 | 0,k,left,out,h=>by
  rw[List.length_eq_zero_iff]at h
  subst h
  unfold pickOrder.go
  simp
 | fuel+1,k,left,out,h=>by
  unfold pickOrder.go
  have hlt:next k % left.length<left.length:=Nat.mod_lt _ (by omega)
  rw[Zp hlt]
  dsimp only
  refine(QjB next fuel (k+1) _ _ (by rw[List.length_eraseIdx_of_lt hlt];omega)).trans ?_
  rw[Array.toList_push,ZaQ]
  refine List.Perm.append_left _ ?_
  show List.Perm (left[next k % left.length]::left.eraseIdx (next k % left.length)) left
  exact QmG (Zp hlt)
end HS
namespace HS
open PySem
noncomputable def lpx(m:Nat):Nat->Nat->Nat->Nat×Nat
 | 0,i,p=>(i,p)
 | l+1,i,p=>lpx m l ((i*5+1+p / 32) % (m+1)) (p / 32)
theorem QmP(m:Nat):∀(a b i p:Nat),lpx m (a+b) i p=lpx m b (lpx m a i p).1 (lpx m a i p).2
 | 0,b,i,p=>by rw[Zcg];rfl
 | a+1,b,i,p=>by
  rw[Nat.add_right_comm]
  exact QmP m a b _ _
theorem Qld(m:Nat):∀(a i p:Nat),(lpx m a i p).2=p / 32^a
 | 0,i,p=>by show p=p / 1;rw[Nat.div_one]
 | a+1,i,p=>by
  show(lpx m a _ (p / 32)).2=_
  rw[Qld m a,Nat.div_div_eq_div_mul,Nat.pow_succ,Nat.mul_comm 32]
theorem Qpd(m:Nat):∀(a i p:Nat),(lpx m (a+1) i p).1<m+1
 | 0,i,p=>Nat.mod_lt _ (Nat.succ_pos _)
 | a+1,i,p=>Qpd m a _ _
noncomputable def orb(m:Nat):Nat->Nat->List Nat
 | 0,_=>[]
 | n+1,i=>i::orb m n ((i*5+1) % (m+1))
theorem QmI(m:Nat):∀(n i j:Nat),j∈orb m n i->∃l,l<n/\(lpx m l i 0).1=j
 | 0,i,j,h=>nomatch h
 | n+1,i,j,h=>by
  rcases Zn.mp h with rfl | h
  ·exact⟨0,Nat.succ_pos _,rfl⟩
  ·obtain⟨l,h1,h2⟩:=QmI m n _ j h
   exact⟨l+1,Nat.succ_lt_succ h1,h2⟩
abbrev Qfe(m:Nat):Prop:=m=7∨m=31
theorem QtW{m:Nat}(h:Qfe m):∀i<m+1,∀j<m+1,j∈orb m (m+1) i:=by
 have e:∀m:Nat,((List.range (m+1)).all λi=>(List.range (m+1)).all λj=>(orb m (m+1) i).contains j)=true->∀i<m+1,∀j<m+1,j∈orb m (m+1) i:=λm z i hi j hj=>by
  have z1:=Zaa.mp z i (Zf.mpr hi)
  have z2:=Zaa.mp z1 j (Zf.mpr hj)
  simpa using z2
 rcases h with rfl | rfl
 ·exact e 7 (by decide+kernel)
 ·exact e 31 (by decide+kernel)
theorem Qk4{m:Nat}(h:Qfe m)(i p:Nat)(hp:p<2^64){j:Nat}(hj:j<m+1):∃l,l<m+15/\(lpx m l i p).1=j:=by
 have h1:(lpx m 13 i p).2=0:=by
  rw[Qld]
  exact Nat.div_eq_of_lt (Zcf hp (by decide))
 obtain⟨l,a,b⟩:=QmI m _ _ j (QtW h _ (Qpd m 12 i p) j hj)
 refine⟨13+l,by omega,?_⟩
 rw[QmP,h1]
 exact b
section
variable {t:SetTable}
noncomputable abbrev stp(t:SetTable)(i p:Nat)(d:Option Nat):SetTable.Probe:={j:=i,more:=SetTable.runEnd t.mask i-i,i:=i,perturb:=p,dummy:=d}
theorem QiN(f:Nat->Int)(x:Int):∀(n:Nat) (p:SetTable.Probe),SetTable.probe.go t f x (n+1) p=none->SetTable.probe.go t f x n p=none
 | 0,p,_=>by unfold SetTable.probe.go;rfl
 | n+1,p,h=>by
  unfold SetTable.probe.go at h ⊢
  split
  ·rename_i e;rw[e]at h;cases h
  ·rename_i e;rw[e]at h;exact QiN f x n _ h
  ·rename_i e
   rw[e]at h
   dsimp only at h
   split
   ·rename_i y;rw[if_pos y]at h;cases h
   ·rename_i y;rw[if_neg y]at h;exact QiN f x n _ h
theorem Qkx(f:Nat->Int)(x:Int)(n:Nat)(p:SetTable.Probe):∀d,SetTable.probe.go t f x (n+d) p=none->SetTable.probe.go t f x n p=none
 | 0,h=>h
 | d+1,h=>Qkx f x n p d (QiN f x _ p h)
theorem QlA(ht:TbI t)(x:Int)(n:Nat)(p:SetTable.Probe)(h:SetTable.probe.go t (λ_=>x+1) x (n+1) p=none):t.slot p.j≠ .empty/\SetTable.probe.go t (λ_=>x+1) x n (t.advance p)=none:=by
 unfold SetTable.probe.go at h
 cases e:t.slot p.j with
 | empty=>rw[e]at h;cases h
 | dummy=>exact absurd e (QiO ht _)
 | live k=>
  rw[e]at h
  dsimp only at h
  rw[if_neg (by rw[beq_iff_eq];omega)]at h
  exact⟨(λz=>nomatch z),h⟩
theorem Qoe(ht:TbI t)(x:Int)(n:Nat):∀(more:Nat) (p:SetTable.Probe),p.more=more->SetTable.probe.go t (λ_=>x+1) x (n+more+1) p=none->SetTable.probe.go t (λ_=>x+1) x n (stp t ((p.i*5+1+p.perturb / 32) % (t.mask+1)) (p.perturb / 32) p.dummy)=none
 | 0,p,e,h=>by
  have:=(QlA ht x _ p h).2
  unfold SetTable.advance at this
  rw[if_neg (by omega)]at this
  exact this
 | more+1,p,e,h=>by
  have:=(QlA ht x _ p h).2
  unfold SetTable.advance at this
  rw[if_pos (by omega)]at this
  exact Qoe ht x n more {p with j:=p.j+1,more:=p.more-1} (by show p.more-1=more;omega) this
theorem Qlz(ht:TbI t)(x:Int):∀(m i p:Nat) (d:Option Nat),SetTable.probe.go t (λ_=>x+1) x (10*m) (stp t i p d)=none->∀l<m,t.slot (lpx t.mask l i p).1≠ .empty
 | 0,i,p,d,h,l,hl=>by omega
 | m+1,i,p,d,h,l,hl=>by
  have more:(stp t i p d).more<=9:=by
   show SetTable.runEnd t.mask i-i<=9
   unfold SetTable.runEnd
   split<;>omega
  cases l with
  | zero=>exact(QlA ht x (10*m+9) _ h).1
  | succ l=>
   have h1:SetTable.probe.go t (λ_=>x+1) x (10*m+(stp t i p d).more+1) (stp t i p d)=none:=Qkx _ _ _ _ (9-(stp t i p d).more) (by
    rw[show 10*m+(stp t i p d).more+1+(9-(stp t i p d).more)=10*(m+1) by omega];exact h)
   exact Qlz ht x m _ _ _ (Qoe ht x (10*m) _ _ rfl h1) l (by omega)
theorem Qi9(ht:TbI t)(x:Int):∀(n:Nat) (p:SetTable.Probe) (j i:Nat) (q:SetTable.Probe),SetTable.probe.go t (λ_=>x+1) x n p≠some (.candidate j i q)
 | 0,p,j,i,q,h=>by unfold SetTable.probe.go at h;cases h
 | n+1,p,j,i,q,h=>by
  unfold SetTable.probe.go at h
  cases e:t.slot p.j with
  | empty=>rw[e]at h;cases h
  | dummy=>exact absurd e (QiO ht _)
  | live k=>
   rw[e]at h
   dsimp only at h
   rw[if_neg (by rw[beq_iff_eq];omega)]at h
   exact Qi9 ht x n _ j i q h
theorem Qtb{j:Nat}(ht:TbI t)(h:t.slot j≠ .empty):j∈t.place.toList:=by
 unfold SetTable.slot at h
 dsimp only at h
 rw[ht.dum,Qgs]at h
 split at h
 ·rename_i z
  rw[beq_iff_eq,← ZS]at z
  exact Zy z
 ·exact absurd rfl h
theorem QtT{l:List Nat}(n:Nat)(h:∀j<n,j∈l):n<=l.length:=by
 have:=(Zao (n:=n)).length_le_of_subset (l₂:=l) λj hj=>h j (Zf.mp hj)
 rwa[ZE]at this
theorem Qmx(x:Int):SetTable.bits x<2^64:=by
 unfold SetTable.bits
 have h1:=ZN x (show(2^64:Int)≠0 by decide)
 have h2:=ZL x (show(0:Int)<2^64 by decide)
 omega
theorem Qtl(ht:TbI t)(hm:Qfe t.mask)(hs:t.place.size<=t.mask)(x:Int):∃j,t.freeSlot x=some (j,false):=by
 unfold SetTable.freeSlot
 cases e:t.probe (λ_=>x+1) x (t.probeStart x)with
 | none=>
  have:=QtT (l:=t.place.toList) (t.mask+1) λj hj=>by
   obtain⟨l,h1,h2⟩:=Qk4 hm (SetTable.bits x % (t.mask+1)) (SetTable.bits x) (Qmx x) hj
   have h3:=Qlz ht x _ _ _ _ (show SetTable.probe.go t (λ_=>x+1) x (10*(t.mask+15)) (stp t (SetTable.bits x % (t.mask+1)) (SetTable.bits x) none)=none from e) l h1
   rw[h2]at h3
   exact Qtb ht h3
  rw[Zs]at this
  omega
 | some m=>
  cases m with
  | empty j d=>
   obtain⟨rfl,_⟩:=QfI ht _ _ _ _ rfl j d e
   exact⟨_,rfl⟩
  | candidate j i q=>exact absurd e (Qi9 ht x _ _ j i q)
theorem Qlp(ht:TbI t)(hm:Qfe t.mask){es:Array (Int×Value)}(hf:t.fits es.size=true)(hs:es.size+1<=t.mask)(x:Int)(v:Value):(layNew t es x v).2.1.plain=t.plain/\(layNew t es x v).2.1.mask=t.mask/\(layNew t es x v).2.2.1=false:=by
 have h1:t.place.size=es.size:=by unfold SetTable.fits at hf;simp only[Zk,beq_iff_eq]at hf;exact hf.1
 obtain⟨j,e⟩:=Qtl ht hm (by omega) x
 unfold layNew
 rw[e]
 dsimp only
 have ft:(t.put j).1.fits (SetTable.insertAt es (t.put j).2 (x,v)).size=true:=by
  have a1:(SetTable.insertAt t.place (SetTable.below t.place j) j).size=es.size+1:=by
   rw[← Zs,SetTable.toList_insertAt,Zt,Zo,Zah,Zan,Zs,h1]
   omega
  have a2:(SetTable.insertAt es (SetTable.below t.place j) (x,v)).size=es.size+1:=by
   rw[← Zs,SetTable.toList_insertAt,Zt,Zo,Zah,Zan,Zs]
   omega
  unfold SetTable.fits SetTable.fill SetTable.put
  dsimp only
  rw[ht.dum,Qgs,if_neg (by decide),a1,a2]
  simp
  exact hs
 unfold SetTable.orStandIn
 rw[if_pos ft]
 exact⟨rfl,rfl,rfl⟩
end
section
variable {mask:Nat}{owner:Array (Option Nat)}
theorem Qmw:∀(fuel i p j:Nat),SetTable.layClean.free mask owner fuel i p=some j->owner[j]? =some none
 | 0,i,p,j,h=>by unfold SetTable.layClean.free at h;cases h
 | fuel+1,i,p,j,h=>by
  unfold SetTable.layClean.free at h
  split at h
  ·rename_i k e
   cases h
   have:=List.find?_some e
   rw[Array.getD_eq_getD_getElem?]at this
   cases z:owner[i+k]? with
   | none=>rw[z]at this;cases this
   | some o=>rw[z]at this;cases o with
    | none=>rfl
    | some _=>cases this
  ·exact Qmw fuel _ _ j h
theorem QmS:∀(fuel i p:Nat),SetTable.layClean.free mask owner fuel i p=none->∀l<fuel,owner[(lpx mask l i p).1]? ≠some none
 | 0,i,p,h,l,hl=>by omega
 | fuel+1,i,p,h,l,hl=>by
  unfold SetTable.layClean.free at h
  split at h
  ·cases h
  ·rename_i e
   cases l with
   | zero=>
    intro z
    have r:0∈List.range (SetTable.runEnd mask i+1-i):=by
     rw[Zf]
     unfold SetTable.runEnd
     split<;>omega
    have:=List.find?_eq_none.mp e 0 r
    rw[Array.getD_eq_getD_getElem?,Nat.add_zero,show owner[i]? =some none from z]at this
    exact this rfl
   | succ l=>exact QmS fuel _ _ h l (by omega)
theorem Qll{α:Type}:∀(l:List (Option α)),(∀o∈l,o≠none)->(l.filterMap id).length=l.length
 | [],_=>rfl
 | none::l,h=>absurd rfl (h none Zh)
 | some a::l,h=>by
  show(a::l.filterMap id).length=_
  rw[Zo,Qll l λo ho=>h o (Zc _ ho),Zo]
theorem Qhg{α:Type}(a:α):∀(l:List (Option α)) (j:Nat),l[j]? =some none->((l.set j (some a)).filterMap id).Perm (a::l.filterMap id)
 | [],j,h=>by simp at h
 | o::l,0,h=>by cases h;exact .refl _
 | none::l,j+1,h=>Qhg a l j (by simpa using h)
 | some b::l,j+1,h=>((Qhg a l j (by simpa using h)).cons b).trans (.swap a b _)
structure Own (mask:Nat) (owner:Array (Option Nat)) (k:Nat):Prop where
 size:owner.size=mask+1
 perm:(owner.toList.filterMap id).Perm (List.range k)
theorem Qmr(hm:Qfe mask):∀(hs:List Int) (owner:Array (Option Nat)) (k:Nat),Own mask owner k->k+hs.length<=mask->∃o2,Own mask o2 (k+hs.length)/\List.foldl (λ(acc:Option (Array (Option Nat)×Nat)) h=>do
  let (owner,k) ← acc
  let j ← SetTable.layClean.free mask owner (SetTable.turns mask) (SetTable.bits h % (mask+1)) (SetTable.bits h)
  pure (owner.setIfInBounds j (some k),k+1)) (some (owner,k)) hs=some (o2,k+hs.length)
 | [],owner,k,O,_=>⟨owner,O,rfl⟩
 | h::hs,owner,k,O,le=>by
  rw[Zo]at le
  cases e:SetTable.layClean.free mask owner (SetTable.turns mask) (SetTable.bits h % (mask+1)) (SetTable.bits h)with
  | none=>
   have all:∀o∈owner.toList,o≠none:=λo ho z=>by
    subst z
    obtain⟨j,hj⟩:=Zam ho
    rw[ZS]at hj
    have jl:j<mask+1:=by
     rw[← O.size]
     exact(Array.getElem?_eq_some_iff.mp hj).1
    obtain⟨l,h1,h2⟩:=Qk4 hm (SetTable.bits h % (mask+1)) (SetTable.bits h) (Qmx h) jl
    exact QmS _ _ _ e l h1 (by rw[h2];exact hj)
   have h1:=Qll _ all
   rw[O.perm.length_eq,ZE,Zs,O.size]at h1
   omega
  | some j=>
   have at0:=Qmw _ _ _ j e
   have O2:Own mask (owner.setIfInBounds j (some k)) (k+1):=⟨by rw[Array.size_setIfInBounds];exact O.size,by
    rw[Array.toList_setIfInBounds]
    refine(Qhg k _ j (by rw[ZS];exact at0)).trans ?_
    refine(O.perm.cons k).trans ?_
    rw[ZaE]
    exact(List.perm_append_singleton k _).symm⟩
   obtain⟨o2,h1,h2⟩:=Qmr hm hs _ _ O2 (by omega)
   have ek:k+1+hs.length=k+(h::hs).length:=by rw[Zo];omega
   rw[ek]at h1 h2
   refine⟨o2,h1,Eq.trans ?_ h2⟩
   rw[ZbA]
   congr 1
   show(SetTable.layClean.free mask owner (SetTable.turns mask) (SetTable.bits h % (mask+1)) (SetTable.bits h)).bind _=_
   rw[e]
   rfl
theorem Qp4(l:List (Option Nat)):(List.range l.length).filterMap (λj=>l.getD j none)=l.filterMap id:=by
 have:(List.range l.length).map (λj=>l.getD j none)=l:=by
  refine Zaz λi=>?_
  rw[Zm]
  by_cases z:i<l.length
  ·rw[ZT z,Zp z]
   show some (l.getD i none)=_
   rw[ZX,Zp z];rfl
  ·rw[Zv (by simp;omega),Zv (by omega)];rfl
 have h:=congrArg (List.filterMap id) this
 rw[List.filterMap_map]at h
 exact h
theorem range_all{α:Type}(es:Array α):(List.range es.size).filterMap (es[·]?)=es.toList:=by
 have h1:∀(l:List α),(List.range l.length).filterMap (l[·]?)=l:=λl=>by
  induction l with
  | nil=>rfl
  | cons a l ih=>
   rw[Zo,Zch,ZaZ]
   dsimp only[List.getElem?_cons_zero]
   rw[List.filterMap_map]
   congr 1
 have:=h1 es.toList
 rw[Zs]at this
 refine Eq.trans ?_ this
 congr 1
 funext i
 rw[ZS]
theorem Ql8{t:SetTable}{es:Array (Int×Value)}{n:Nat}(hm:Qfe (SetTable.sizeAbove n-1))(hs:es.size<=SetTable.sizeAbove n-1):(relayAll t es n).2.1.plain=t.plain/\(relayAll t es n).2.1.mask=SetTable.sizeAbove n-1:=by
 generalize hk:SetTable.sizeAbove n-1=m at *
 have O0:Own m (Array.replicate (m+1) none) 0:=⟨by simp,by rw[Array.toList_replicate];exact(by
  have:∀k,(List.replicate k (none:Option Nat)).filterMap id=[]:=λk=>by
   induction k with
   | zero=>rfl
   | succ k ih=>exact ih
  rw[this];exact .refl _)⟩
 obtain⟨o2,O,e⟩:=Qmr hm (es.map (·.1)).toList _ 0 O0 (by rw[Zs,Array.size_map];omega)
 rw[Zcg,Zs,Array.size_map]at O e
 have el:SetTable.layClean m (es.map (·.1))=some o2:=by
  unfold SetTable.layClean
  rw[← Array.foldl_toList,e]
  rfl
 have ord:(((List.range (m+1)).filterMap λj=>(o2.getD j none).map (j, ·)).map (·.2))=o2.toList.filterMap id:=by
  rw[List.map_filterMap,← Qp4,Zs,O.size]
  congr 1
  funext j
  rw[Option.map_map]
  show Option.map id _=_
  rw[Option.map_id,Array.getD_eq_getD_getElem?,ZX,ZS]
  rfl
 have ln:((List.range (m+1)).filterMap λj=>(o2.getD j none).map (j, ·)).length=es.size:=by
  rw[← Zd (f:=(·.2)),ord,O.perm.length_eq,ZE]
 unfold relayAll SetTable.relaid
 rw[hk]
 unfold SetTable.laid
 rw[el,Option.bind_eq_bind,Za]
 dsimp only[pure]
 rw[ord]
 have c1:coversAll (o2.toList.filterMap id).toArray es.size=true:=by
  unfold coversAll
  exact List.isPerm_iff.mpr O.perm
 have c2:((o2.toList.filterMap id).toArray.filterMap (es[·]?)).size=es.size:=by
  rw[← Zs,Array.toList_filterMap,(O.perm.filterMap _).length_eq,range_all,Zs]
 rw[c1,if_pos (by
  unfold SetTable.fits SetTable.fill
  dsimp only
  rw[c2,Zu,Zd,ln]
  simp
  omega)]
 exact⟨rfl,rfl⟩
end
end HS
namespace HS
open PySem L2 PyProof.Rows
section
variable {prog:Program}{w:World}{A:Around}{E:Value->Shared->Prop}{s:Shared}
structure QfF (prog:Program) (w:World) (L:Bool) (ob:Obj) (ar:Array (Int×Value)) (tb:SetTable) (S:Int->Bool) (n:Nat):Prop where
 ex:ob.ExactSet
 el:ElemsOf (intKind prog w) ar.toList
 mem:∀k,S k=true↔∃e∈ar.toList,(intKind prog w).is k e.2=true
 lt:ar.size<scanBound
 fit:tb.fits ar.size=true
 num:ar.size=n
 ti:TbI tb
 led:tb.led=L
def Sz(tb:SetTable)(n:Nat):Prop:=tb.plain=true/\(tb.mask=7/\n<=4∨tb.mask=31/\n<=18)
def Qdl(prog:Program)(w:World)(L:Bool)(h:Heap)(a:Addr)(S:Int->Bool)(n:Nat):Prop:=∃ob ar en tb,h.get? a=some ob/\ob.data= .set ar en tb/\QfF prog w L ob ar tb S n/\Sz tb n
theorem Qdl.QeS{L:Bool}{h h':Heap}{a:Addr}{S:Int->Bool}{n:Nat}(r:Qdl prog w L h a S n)(k:∀o,h.get? a=some o->h'.get? a=some o):Qdl prog w L h' a S n:=by
 obtain⟨ob,ar,en,tb,h1,h2⟩:=r
 exact⟨ob,ar,en,tb,k _ h1,h2⟩
theorem Qdl.cast{L:Bool}{h:Heap}{a:Addr}{S S':Int->Bool}{n n':Nat}(r:Qdl prog w L h a S n)(e:∀k,S k=S' k)(en:n=n'):Qdl prog w L h a S' n':=by
 have:S=S':=funext e
 subst this;subst en;exact r
theorem Qlt{L:Bool}{h:Heap}{a:Addr}{ob:Obj}{ar ar1:Array (Int×Value)}{en:Nat}{tb tb1:SetTable}{S:Int->Bool}(g:h.get? a=some ob)(d:ob.data= .set ar en tb)(c:QfF prog w L ob ar1 tb1 S ar1.size)(z:Sz tb1 ar1.size):
  Qdl prog w L (h.update a (Obj.putSet ar1 tb1)) a S ar1.size:=by
 obtain⟨g1,g2⟩:=SetOf_store (knd:=intKind prog w) g c.ex d c.el c.mem c.lt c.fit
 exact⟨_,_,_,_,g1,rfl,⟨c.ex,c.el,c.mem,c.lt,c.fit,rfl,c.ti,c.led⟩,z⟩
theorem Qli{M:Model}(b:Bool){s1:Shared}{Q:Unit->Shared->Prop}(q:Q () s1):wpAny M A (match b with | true=>rule "set.scan.the-table-gave-way" | false=>pure ()) Q E s1:=by
 cases b
 ·exact wpAny_pure q
 ·exact wpAny_rule q
theorem Qvm{L:Bool}{a:Addr}{ob:Obj}{ar ar1:Array (Int×Value)}{en:Nat}{tb tb1:SetTable}{S:Int->Bool}{wd:Bool}{g:Bool->Sem Unit}{Q:Option Bool->Shared->Prop}
  (hg:∀(b:Bool) (s1:Shared) (Q':Unit->Shared->Prop),Q' () s1->wpAny (model prog w) A (g b) Q' E s1)
  (ho:s.heap.get? a=some ob) (hd:ob.data= .set ar en tb) (c:QfF prog w L ob ar1 tb1 S ar1.size) (hwd:wd=false) (pl:tb1.plain=true) (sm:tb1.mask=7/\ar1.size<=5∨tb1.mask=31/\ar1.size<=18)
  (q:∀h',Heap.SameBut a s.heap h'->Qdl prog w L h' a S ar1.size->Q (some true) {s with heap:=h'}):
  wpAny (model prog w) A (do
   storeSet a ar1 tb1
   if(!wd && tb1.tooFull)=true then do
    g (relayAll tb1 ar1 (SetTable.grown ar1.size)).2.2
    storeSet a (relayAll tb1 ar1 (SetTable.grown ar1.size)).1 (relayAll tb1 ar1 (SetTable.grown ar1.size)).2.1
    pure (some true)
   else pure (some true)) Q E s:=by
 have up1:=ZbD s.heap a (Obj.putSet ar1 tb1)
 have fl:tb1.tooFull=decide (ar1.size*5≥tb1.mask*3):=by
  have h1:=c.fit
  unfold SetTable.fits at h1
  simp only[Zk,beq_iff_eq]at h1
  unfold SetTable.tooFull SetTable.fill
  rw[c.ti.dum,h1.1];rfl
 refine wpAny_bind (wpAny_storeSet_of ho hd ?_ (fits_of_scanBound c.lt))
 by_cases z:(!wd && tb1.tooFull)=true
 ·rw[if_pos z]
  rw[hwd,fl,Bool.not_false,ZbT,decide_eq_true_iff]at z
  have s5:ar1.size=5:=by omega
  obtain⟨pl2,mk2⟩:=Ql8 (t:=tb1) (es:=ar1) (n:=SetTable.grown ar1.size) (by rw[s5];decide+kernel) (by rw[s5];decide+kernel)
  have mk3:SetTable.sizeAbove (SetTable.grown ar1.size)-1=31:=by rw[s5];decide+kernel
  rw[mk3]at mk2
  obtain⟨ti2,led2⟩:=Qrj tb1 ar1 (SetTable.grown ar1.size)
  have pm:=relayAll_perm tb1 ar1 (SetTable.grown ar1.size)
  have ft:=relayAll_fits tb1 ar1 (SetTable.grown ar1.size)
  generalize relayAll tb1 ar1 (SetTable.grown ar1.size)=Z at *
  obtain⟨ar2,tb2,gv⟩:=Z
  dsimp only at *
  have sz:ar2.size=ar1.size:=by have:=pm.length_eq;simpa using this
  obtain⟨g1,_⟩:=SetOf_store (knd:=intKind prog w) ho c.ex hd c.el c.mem c.lt c.fit
  have c2:QfF prog w L {ob with data:= .set ar1 (en+1) tb1} ar2 tb2 S ar2.size:=⟨c.ex,c.el.perm pm,λk=>(c.mem k).trans ⟨λ⟨e,he,y⟩=>⟨e,pm.mem_iff.mpr he,y⟩,λ⟨e,he,y⟩=>⟨e,pm.mem_iff.mp he,y⟩⟩,by rw[sz];exact c.lt,ft,rfl,ti2,led2.trans c.led⟩
  refine wpAny_bind (hg _ _ _ (wpAny_bind (wpAny_storeSet_of g1 rfl ?_ (fits_of_scanBound c2.lt))))
  exact wpAny_pure (q _ (up1.trans (ZbD _ a _)) ((Qlt g1 rfl c2 ⟨pl2.trans pl,.inr ⟨mk2,by omega⟩⟩).cast (λ_=>rfl) sz))
 ·rw[if_neg z]
  rw[hwd,fl,Bool.not_false,ZbT,decide_eq_true_iff]at z
  exact wpAny_pure (q _ up1 (Qlt ho hd c ⟨pl,by omega⟩))
theorem add_one{L:Bool}{a:Addr}{S:Int->Bool}{n:Nat}{k:Int}{tk:Tok}{Q:Bool->Shared->Prop}(r:Qdl prog w L s.heap a S n)(room:n+1<=18)
  (q:∀b h',Heap.SameBut a s.heap h'->Qdl prog w L h' a (λj=>S j || decide (j=k)) (if S k then n else n+1)->Q b {s with heap:=h'}):
  wpAny (model prog w) A (setAddHashed a (.int k tk) ((intKind prog w).hash k)) Q E s:=by
 obtain⟨ob,ar,en,tb,ho,hd,c,sz0⟩:=r
 have key:(intKind prog w).is k (.int k tk)=true:=intKind_is _ _ _ _
 have sc:(Value.int k tk).scannable=true:=rfl
 unfold setAddHashed
 refine wpAny_holding ?_
 unfold setAddHashedIn
 refine wpAny_bind (wpAny_setState_of ho hd c.fit ?_)
 dsimp only
 rw[byScan_of sc c.lt c.el,if_pos rfl]
 refine wpAny_bind ?_
 unfold setAddByScan
 refine wpAny_bind (wpAny_rule (wpAny_bind (wpAny_setScan_of key ho hd c.fit c.el ?_)))
 cases hr:List.findIdx? (λe=>(intKind prog w).is k e.2) ar.toList with
 | some j=>
  obtain⟨hj,pj,_⟩:=List.findIdx?_eq_some_iff_getElem.mp hr
  have there:S k=true:=(c.mem k).mpr ⟨_,Zca hj,pj⟩
  dsimp only
  refine wpAny_pure (wpAny_pure ?_)
  refine q false s.heap (Heap.SameBut.refl a s.heap) ⟨ob,ar,en,tb,ho,hd,⟨c.ex,c.el,λi=>?_,c.lt,c.fit,by rw[there];exact c.num,c.ti,c.led⟩,by rw[there];exact sz0⟩
  rw[← c.mem i,ZaN,decide_eq_true_iff]
  exact⟨λy=>y.elim id λe=>e▸there,.inl⟩
 | none=>
  have away:S k=false:=by
   cases y:S k with
   | false=>rfl
   | true=>
    obtain⟨e,he,pe⟩:=(c.mem k).mp y
    have:=List.findIdx?_eq_none_iff.mp hr e he
    rw[pe]at this;cases this
  have pm:=layNew_perm tb ar ((intKind prog w).hash k) (.int k tk)
  have ft:=layNew_fits tb ar ((intKind prog w).hash k) (.int k tk)
  obtain⟨pl1,mk1,wd1⟩:=Qlp c.ti (sz0.2.imp And.left And.left) c.fit (by have:=sz0.2;have:=c.num;omega) ((intKind prog w).hash k) (.int k tk)
  obtain⟨ti1,led1⟩:=Qn8 c.ti ar ((intKind prog w).hash k) (.int k tk)
  dsimp only
  generalize layNew tb ar ((intKind prog w).hash k) (.int k tk)=Z at *
  obtain⟨ar1,tb1,wd,gv⟩:=Z
  dsimp only at *
  rw[Array.toList_push]at pm
  have sz:ar1.size=n+1:=by have:=pm.length_eq;rw[Zt,Zs,Zs,c.num]at this;simpa using this
  have base:QfF prog w L ob ar1 tb1 (λj=>S j || decide (j=k)) ar1.size:=⟨c.ex,(c.el.push key sc).perm pm,mem_push_iff key c.mem pm,(by rw[sz];exact ZbL room (by decide)),ft,rfl,ti1,led1.trans c.led⟩
  have fin:∀h',Heap.SameBut a s.heap h'->Qdl prog w L h' a (λj=>S j || decide (j=k)) ar1.size->Q true {s with heap:=h'}:=λh' sb sr=>q true h' sb (sr.cast (λ_=>rfl) (by rw[away,sz];rfl))
  refine wpAny_bind (Qli _ ?_)
  have hv:hashByValue 8 (.int k tk)=pure true:=by unfold hashByValue;rfl
  rw[if_pos (pl1.trans sz0.1),hv]
  refine wpAny_bind (wpAny_pure ?_)
  refine Qvm (λb s1 Q' y=>Qli b y) ho hd base wd1 (pl1.trans sz0.1) (show tb1.mask=7/\ar1.size<=5∨tb1.mask=31/\ar1.size<=18 by rw[mk1,sz];have:=sz0.2;omega) λh' sb sr=>wpAny_pure (fin h' sb sr)
end
end HS
namespace HS
open PySem L2 PyProof.Rows
section
variable {prog:Program}{w:World}{A:Around}{R:Result->Shared->Prop}{I:Addr}{fp wr:List Addr}{G:Array GenState->Array GenState->Prop}{n:Nat}{P:Nat->Value->Prop}{St:Nat->Shared->Prop}
abbrev InI(prog:Program)(w:World)(L:Bool)(h:Heap)(a:Addr)(val:Nat->Int)(i:Nat):Prop:=Qdl prog w L h a (λj=>(firstMet val i).any (· == j)) (firstMet val i).length
theorem QqR{L:Bool}(W:WalksS prog w A.in1 I fp wr G n P St){a:Addr}(af:a∉fp){val:Nat->Int}(pv:∀i v,P i v->∃t,v= .int (val i) t)(nb:n<=18):
  ∀(left i:Nat) (s:Shared),n-i=left->i<=n->St i s->InI prog w L s.heap a val i->(∀s',Moved (a::wr) G s s'->InI prog w L s'.heap a val n->R (.ok (.ret .none)) s')→
   codeAny (model prog w) A (.builtin "set.update.loop" ⟨[.ref a,.ref I],[]⟩) R s:=by
 have aw:a∉wr:=λz=>af (W.sub _ z)
 have wide:∀b∈wr,b∈a::wr:=λb z=>Zc _ z
 intro left
 induction left with
 | zero=>
  intro i s e le st r q
  obtain rfl:i=n:=by omega
  refine codeAny_builtin PyProof.Rows.F.entry_set_update_loop ?_
  rw[Around.under_plainId PyProof.Rows.F.plain_set_update_loop]
  show wpAny _ A.in1 (pyNext (.ref I) >>= _) _ _ s
  refine wpAny_bind (W.done s _ _ st λs1 mv=>?_)
  show wpAny _ A.in1 (ret Value.none) _ _ s1
  exact wpAny_pure (q s1 (mv.mono wide) (r.QeS λo z=>mv.heap a o aw z))
 | succ left ih=>
  intro i s e le st r q
  have il:i<n:=by omega
  refine codeAny_builtin PyProof.Rows.F.entry_set_update_loop ?_
  rw[Around.under_plainId PyProof.Rows.F.plain_set_update_loop]
  show wpAny _ A.in1 (pyNext (.ref I) >>= _) _ _ s
  refine wpAny_bind (W.item i s _ _ il st λv s1 pi st1 mv=>?_)
  obtain⟨t,rfl⟩:=pv i v pi
  have r1:InI prog w L s1.heap a val i:=r.QeS λo z=>mv.heap a o aw z
  show wpAny _ A.in1 (holding [Value.int (val i) t] (setAdd a (.int (val i) t)) >>= _) _ _ s1
  refine wpAny_bind (wpAny_holding ?_)
  unfold setAdd
  refine wpAny_holding (wpAny_bind ((intKind prog w).pyHash (k:=val i) (intKind_is _ _ _ _) ?_))
  have few:=firstMet_length_le val i
  refine add_one (s:={s1 with toks:=s1.toks+1}) r1 (by omega) λb h' sb r2=>?_
  have r3:InI prog w L h' a val (i+1):=r2.cast (λj=>by rw[firstMet_succ,step_any]) (by rw[firstMet_succ,step_length])
  refine wpAny_pure ⟨plainId_quiet PyProof.Rows.F.plain_set_update_loop _,ih (i+1) _ (by omega) il (W.frame _ s1 _ _ st1 (ZaP _) λb hb o z=>?_) r3 λs2 mv2 r4=>?_⟩
  ·rw[sb.2 b λy:b=a=>af (y▸hb)];exact z
  ·refine q s2 (Moved.trans W.gtrans ((mv.mono wide).then_heap (ZaP _) λb o hb z=>?_) mv2) r4
   rw[sb.2 b λy:b=a=>hb (y▸Zh)];exact z
end
end HS
namespace HS
open PySem L2 PyProof.Rows
section
variable {prog:Program}{w:World}{A:Around}{E:Value->Shared->Prop}{s:Shared}
noncomputable abbrev Qf3(w:World):Bool:= !w.params.followText "set-order"
noncomputable abbrev Qds(w:World):Obj:={cls:= .type "set",dict:=none,data:= .set #[] 0 (.fresh 0 0 (Qf3 w))}
theorem QpJ(x:Value){Q:Value->Shared->Prop}(q:Q (.ref s.heap.objs.size) {s with heap:=s.heap.push (Qds w)}):
  codeAny (model prog w) A (.call (.builtin "set.__new__") ⟨[.type "set",x],[]⟩) (wants Q E) s:=by
 refine codeAny_of_tree ?_
 show wpAny _ A.in1 (do checkBuiltinCall "set.__new__" ⟨[.type "set",x],[]⟩;again (.builtin "set.__new__" ⟨[.type "set",x],[]⟩)) _ _ s
 refine wpAny_bind (wpAny_of_eq (PySem.F.newCall_set_1 x) (wpAny_pure ⟨plainId_quiet PySem.F.plain_set_new _,codeAny_builtin PySem.F.entry_set_new ?_⟩))
 rw[Around.under_plainId PySem.F.plain_set_new]
 unfold Builtin.«set.__new__» Builtin.Frozenset.newClass
 have sub:=sub_set_self
 obtain⟨hp,g,d,tk,os⟩:=s
 dsimp only at q ⊢
 wp_walk
 refine wpAny_askSetting (wpAny_pure ?_)
 dsimp only
 simp only[newObj]
 refine wpAny_bind (wpAny_alloc (wpAny_pure ?_))
 exact wpAny_pure q
set_option maxHeartbeats 4000000 in
theorem QrB{l:Addr}{items:Array Value}{ns:List Int}{Q:Value->Shared->Prop}(hh:A.handled=none)(hl:s.heap.IsList l items)(hi:IntsAre items.toList ns)(hb:items.size<=18)
  (q:∀(h':Heap) (tk:Nat),InI prog w (Qf3 w) h' s.heap.objs.size (λi=>ns.getD i 0) items.size->(∀b o,b<s.heap.objs.size->s.heap.get? b=some o->h'.get? b=some o)->Q (.ref s.heap.objs.size) {s with heap:=h',toks:=tk}):
  wpAny (model prog w) A (call (.type "set") [.ref l]) Q E s:=by
 obtain⟨cc,ct,mro⟩:=PySem.F.called_set.mro
 have mk:=PySem.F.called_set.made
 have sb:=PySem.F.called_set.sub
 have nt:=PySem.F.called_set.notType
 have cr:=PySem.F.called_set.canCreate
 have tc:=PySem.F.typeCall_set_1 (.ref l)
 refine wpAny_call (codeAny_of_tree ?_)
 show wpAny _ _ (callAny (.type "set") _) _ _ _
 refine wpAny_pure ⟨Code.quiet_builtin _ (by decide+kernel),codeAny_builtin PySem.F.entry_type_call ?_⟩
 rw[Around.under_plain (weight_type_call_type "set" [.ref l] []) rfl]
 repeat (any_goals (first | assumption | wp_step))
 refine codeAny_mono (QpJ (.ref l) (E:=E) (Q:=λv s1=>v= .ref s.heap.objs.size/\s1={s with heap:=s.heap.push (Qds w)}) ⟨rfl,rfl⟩) λr s1 hr=>?_
 cases r with
 | error e=>exact hr
 | ok fl=>
  cases fl with
  | ret v=>
   obtain⟨rfl,rfl⟩:=hr
   have at0:(s.heap.push (Qds w)).get? s.heap.objs.size=some (Qds w):=Zz _ rfl
   have ty:Shared.TypeIs {s with heap:=s.heap.push (Qds w)} (.ref s.heap.objs.size) "set" :=⟨_,at0,rfl⟩
   have li:=PySem.F.called_set.init.lookup
   have bi:=PySem.F.called_set.init.bind (.ref s.heap.objs.size)
   repeat (any_goals (first | assumption | wp_step))
   refine codeAny_mono (codeAny_call_builtin (R:=wants (λv s2=>v= .none/\∃h' tk,s2={s with heap:=h',toks:=tk}/\InI prog w (Qf3 w) h' s.heap.objs.size (λi=>ns.getD i 0) items.size/\∀b o,b<s.heap.objs.size->s.heap.get? b=some o->h'.get? b=some o) E) PySem.F.called_set.init.plain PySem.F.entry_set_init (check_set_init_1 ty ?_)) λr2 s2 hr2=>?_
   ·obtain⟨ol,ho,hc,nl,hd⟩:=hl
    obtain⟨oc,od,odt,osl⟩:=ol
    dsimp only at hc hd
    subst hc hd
    have ho1:(s.heap.push (Qds w)).get? l=some {cls:= .type "list",dict:=od,data:= .seq items nl,slots:=osl}:=Zg _ ho
    have s1:=PySem.F.sub_list_set
    have s2:=PySem.F.sub_list_frozenset
    have nd:(Value.type "list" == Value.type "dict")=false:=by decide
    have hl1:(s.heap.push (Qds w)).IsList l items:=⟨_,ho1,rfl,nl,rfl⟩
    unfold Builtin.«set.__init__» noKeywords Builtin.Frozenset.updateFrom
    generalize hPI:pyIter=PI
    wp_walk
    subst hPI
    refine wpAny_pyIter_list hl1 (wpAny_bind (wpAny_runValue ?_))
    have ll:l<s.heap.objs.size:=Zr ho
    have h3:A.in1.in1.in1.handled=none:=by simp[hh]
    have ne:l≠(s.heap.push (Qds w)).objs.size:=by rw[Zaf];exact ZJ (Zad ll)
    have nf:s.heap.objs.size∉[(s.heap.push (Qds w)).objs.size,l]:=by
     rw[Zaf]
     simp only[Zn,ZbX,or_false,not_or]
     exact⟨ZJ (ZaF _),Zbj ll⟩
    have pv:∀(i:Nat) (v:Value),items[i]? =some v->∃t,v= .int ((λi=>ns.getD i 0) i) t:=λi v hv=>IntsAre.int_at hi i v (by rw[ZS];exact hv)
    refine QqR (L:=Qf3 w) ((Walks.list h3 _ l ne items).toS) nf pv hb (items.size-0) 0 _ (by omega) (ZZ _) ⟨⟨_,Zz _ rfl,rfl,rfl⟩,hl1.push _⟩ ?hA0 ?hB0
    case hA0=>
     refine⟨Qds w,#[],0,.fresh 0 0 (Qf3 w),Zg _ at0,rfl,⟨⟨rfl,rfl,rfl⟩,(λe he=>nomatch he),(λk=>?_),(by decide),rfl,rfl,⟨List.Pairwise.nil,rfl⟩,rfl⟩,⟨rfl,.inl ⟨rfl,ZZ _⟩⟩⟩
     exact⟨(λz=>by cases z),(λ⟨e,he,_⟩=>nomatch he)⟩
    case hB0=>
     intro s3 mv r3
     obtain⟨h',g',d',t',o'⟩:=s3
     have e1:g'=s.gens:=mv.gens
     have e2:d'=s.drawn:=mv.drawn
     have e3:o'=s.os:=mv.os
     subst e1 e2 e3
     refine wpAny_pure ?_
     show wpAny _ _ (ret Value.none) _ _ _
     refine wpAny_pure ⟨rfl,h',t',rfl,r3,λb o hb z=>?_⟩
     refine mv.heap b o ?_ (Zg _ (Zg _ z))
     rw[Zaf]
     simp only[Zn,ZbX,or_false,not_or]
     exact⟨ZJ hb,ZJ (Zad hb)⟩
   ·cases r2 with
    | error e=>exact hr2
    | ok fl2=>
     cases fl2 with
     | ret v=>
      obtain⟨rfl,h',tk,rfl,r3,kp⟩:=hr2
      repeat (any_goals (first | assumption | wp_step))
      exact q _ _ r3 kp
     | _=>exact hr2.elim
  | _=>exact hr.elim
end
end HS
namespace HS
open PySem L2 PyProof.Rows
theorem QeT{α:Type}[DecidableEq α]:∀{F K:List α},F.Nodup->(∀x∈F,x∈K)->K.length<=F.length->F.Perm K
 | [],K,_,_,h=>by
  rw[List.length_nil,Nat.le_zero,List.length_eq_zero_iff]at h
  subst h
  exact .refl _
 | x::F,K,nd,sub,h=>by
  have hx:x∈K:=sub x Zh
  obtain⟨n1,n2⟩:=Zac.mp nd
  have pe:=List.perm_cons_erase hx
  refine((QeT n2 (λy hy=>?_) ?_).cons x).trans pe.symm
  ·have ne:y≠x:=λe=>n1 (by rw[← e];exact hy)
   exact(Zby ne).mpr (sub y (Zc _ hy))
  ·have:=pe.length_eq
   rw[Zo]at this h
   omega
theorem Qnk{σ:List Int}(h:σ.Nodup)(v:Int):(step_dedup σ v).Nodup:=by
 unfold step_dedup
 split
 ·exact h
 ·rename_i z
  rw[Bool.not_eq_true,Zav]at z
  exact Zax.mpr ⟨h,by simp,λa ha b hb=>by
   rw[ZF]at hb
   subst hb
   exact λe=>z a ha (by rw[e];simp)⟩
theorem Qg2(val:Nat->Int):∀i,(firstMet val i).Nodup
 | 0=>Zaw
 | i+1=>by rw[firstMet_succ];exact Qnk (Qg2 val i) _
theorem range_getD(ns:List Int):(List.range ns.length).map (λi=>ns.getD i 0)=ns:=by
 refine Zaz λi=>?_
 rw[Zm]
 by_cases z:i<ns.length
 ·rw[ZT z,Zp z]
  show some (ns.getD i 0)=_
  rw[ZX,Zp z];rfl
 ·rw[Zv (by simp;omega),Zv (by omega)];rfl
theorem Qjz(ns:List Int):firstMet (λi=>ns.getD i 0) ns.length=Qeg ns:=by
 unfold firstMet Qeg
 rw[range_getD]
theorem QqO{prog:Program}{w:World}{L:Bool}{ob:Obj}{ar:Array (Int×Value)}{tb:SetTable}{F:List Int}(c:QfF prog w L ob ar tb (λj=>F.any (· == j)) F.length)(nd:F.Nodup):∃ks:List Int,IntsAre (ar.toList.map (·.2)) ks/\ks.Perm F:=by
 have ex:∀l:List (Int×Value),ElemsOf (intKind prog w) l->∃ks:List Int,IntsAre (l.map (·.2)) ks/\ks.length=l.length/\∀k,(∃e∈l,(intKind prog w).is k e.2=true)->k∈ks:=by
  intro l
  induction l with
  | nil=>exact λ_=>⟨[],.nil,rfl,λk ⟨e,he,_⟩=>nomatch he⟩
  | cons e r ih=>
   intro hl
   obtain⟨ks,h1,h2,h3⟩:=ih hl.tail
   obtain⟨⟨k,hk,_⟩,_⟩:=hl.head
   obtain⟨x,v⟩:=e
   obtain⟨t,rfl⟩:=ZbP hk
   refine⟨k::ks,.cons k t h1,by rw[Zo,Zo,h2],λj ⟨e,he,hj⟩=>?_⟩
   rcases Zn.mp he with rfl | he
   ·obtain⟨u,eu⟩:=ZbP (show Value.isInt j (.int k t)=true from hj)
    cases eu
    exact Zh
   ·exact Zc _ (h3 j ⟨e,he,hj⟩)
 obtain⟨ks,h1,h2,h3⟩:=ex ar.toList c.el
 refine⟨ks,h1,(QeT nd (λx hx=>h3 x ((c.mem x).mp ?_)) ?_).symm⟩
 ·rw[List.any_eq_true];exact⟨x,hx,by simp⟩
 ·rw[h2,Zs,c.num];exact Zq _
section
variable {prog:Program}{w:World}
structure Qh7 (prog:Program) (w:World) (a:Addr) (ob:Obj) (ep:Nat) (wk:Array (Int×Value)) (sl:Nat->Nat):Prop where
 zero:sl 0=0
 next:∀(A:Around) (E:Value->Shared->Prop) (s:Shared) (Q:Option (Value×Nat)->Shared->Prop) (i:Nat) (e:Int×Value),s.heap.get? a=some ob->wk[i]? =some e->Q (some (e.2,sl (i+1))) s->wpAny (model prog w) A (setNext a (sl i) i ep) Q E s
 stop:∀(A:Around) (E:Value->Shared->Prop) (s:Shared) (Q:Option (Value×Nat)->Shared->Prop),s.heap.get? a=some ob->Q none s->wpAny (model prog w) A (setNext a (sl wk.size) wk.size ep) Q E s
theorem Qjx{a:Addr}{ob:Obj}{ar:Array (Int×Value)}{ep:Nat}{tb:SetTable}{A:Around}{E:Value->Shared->Prop}{s:Shared}{Q:Option (Value×Nat)->Shared->Prop}{j i:Nat}(hf:w.params.followText "set-order" =true)(ho:s.heap.get? a=some ob)(hd:ob.data= .set ar ep tb)(ft:tb.fits ar.size=true)
  (q:Q (((pickOrder (w.params.setOrder a ep) ar)[i]?).map λe=>(e.2,j)) s):wpAny (model prog w) A (setNext a j i ep) Q E s:=by
 unfold setNext
 refine wpAny_bind (wpAny_setState_of ho hd ft ?_)
 unfold setsByText
 refine wpAny_bind (wpAny_bind (wpAny_askSetting (wpAny_pure ?_)))
 show wpAny _ _ (if w.params.followText "set-order" =true then _ else _) _ _ _
 rw[hf,if_pos rfl,if_neg (by simp)]
 show wpAny _ _ (setWalk a >>= _) _ _ _
 unfold setWalk
 refine wpAny_bind (wpAny_bind (wpAny_setState_of ho hd ft ?_))
 unfold setsByText
 refine wpAny_bind (wpAny_bind (wpAny_askSetting (wpAny_pure ?_)))
 show wpAny _ _ (if w.params.followText "set-order" =true then _ else _) _ _ _
 rw[hf,if_pos rfl]
 exact wpAny_bind (wpAny_askSetting (wpAny_pure (wpAny_pure q)))
theorem Qjg{a:Addr}{ob:Obj}{ar:Array (Int×Value)}{ep:Nat}{tb:SetTable}{A:Around}{E:Value->Shared->Prop}{s:Shared}{Q:Option (Value×Nat)->Shared->Prop}{j i:Nat}(hf:w.params.followText "set-order" =false)(ho:s.heap.get? a=some ob)(hd:ob.data= .set ar ep tb)(ft:tb.fits ar.size=true)(hp:tb.plain=true)(hl:tb.led=true)
  (q:Q (match ar[SetTable.below tb.place j]?,tb.place[SetTable.below tb.place j]? with
   | some (_,x),some k=>some (x,k+1)
   | _,_=>none) s):wpAny (model prog w) A (setNext a j i ep) Q E s:=by
 unfold setNext
 refine wpAny_bind (wpAny_setState_of ho hd ft ?_)
 unfold setsByText
 refine wpAny_bind (wpAny_bind (wpAny_askSetting (wpAny_pure ?_)))
 show wpAny _ _ (if w.params.followText "set-order" =true then _ else _) _ _ _
 rw[hf,if_neg (by decide)]
 refine wpAny_ite_split (λz=>?_) (λ_=>?_)
 ·have z':(!tb.plain && decide (ar.size>1))=true:=z
  rw[hp]at z'
  cases z'
 show wpAny _ _ ((if(!tb.led && !ar.isEmpty)=true then unsupported "set:maker-not-led" else pure ()) >>= _) _ _ _
 rw[hl,if_neg (by simp)]
 exact wpAny_bind (wpAny_pure (wpAny_pure q))
theorem Qrw{a:Addr}{ob:Obj}{ar:Array (Int×Value)}{ep:Nat}{tb:SetTable}{S:Int->Bool}{n:Nat}(hd:ob.data= .set ar ep tb)(c:QfF prog w (Qf3 w) ob ar tb S n)(hp:tb.plain=true):∃wk sl,wk.toList.Perm ar.toList/\Qh7 prog w a ob ep wk sl:=by
 have sz:tb.place.size=ar.size:=by
  have h1:=c.fit
  unfold SetTable.fits at h1
  simp only[Zk,beq_iff_eq]at h1
  exact h1.1
 cases hf:w.params.followText "set-order" with
 | true=>
  have pm:(pickOrder (w.params.setOrder a ep) ar).toList.Perm ar.toList:=by
   unfold pickOrder
   exact QjB _ _ _ _ _ (Zs)
  refine⟨_,λ_=>0,pm,rfl,λA E s Q i e ho he q=>Qjx hf ho hd c.fit ?_,λA E s Q ho q=>Qjx hf ho hd c.fit ?_⟩
  ·rw[he];exact q
  ·rw[Array.getElem?_eq_none (Zq _)];exact q
 | false=>
  have hl:tb.led=true:=by rw[c.led];unfold Qf3;rw[hf];rfl
  have cut:∀i,i<=ar.size->SetTable.below tb.place (if i=0 then 0 else tb.place.getD (i-1) 0+1)=i:=λi hi=>by
   cases i with
   | zero=>exact QnU c.ti.inc
   | succ i=>
    have h1:=ZQ (xs:=tb.place) (i:=i) (by omega)
    have:=QnA c.ti.inc h1
    rw[if_neg (by omega),Nat.add_sub_cancel,Array.getD_eq_getD_getElem?,h1]
    exact this
  refine⟨ar,λi=>if i=0 then 0 else tb.place.getD (i-1) 0+1,.refl _,rfl,λA E s Q i e ho he q=>Qjg hf ho hd c.fit hp hl ?_,λA E s Q ho q=>Qjg hf ho hd c.fit hp hl ?_⟩
  ·have il:i<ar.size:=(Array.getElem?_eq_some_iff.mp he).1
   have h1:=ZQ (xs:=tb.place) (i:=i) (by omega)
   rw[cut i (by omega),he,h1]
   rw[if_neg (by omega),Nat.add_sub_cancel,Array.getD_eq_getD_getElem?,h1]at q
   exact q
  ·rw[cut _ (Zq _),Array.getElem?_eq_none (Zq _)]
   exact q
end
end HS
namespace HS
open PySem L2 PyProof.Rows
theorem Qla:entryFor table "set.__iter__" =some Builtin.«frozenset.__iter__» :=entryFor_alias (id':= "frozenset.__iter__") (by kernel_rfl) rfl (by decide+kernel) (by kernel_rfl)
theorem QoH:Manifest.owners.lookup (String.ofList ['r','o','t','a','r','e','t','i','_','t','e','s'].reverse)=some Manifest.sig_set_iterator:=by kernel_rfl
theorem QdZ:Slot "set_iterator" "__next__" "set_iterator.__next__" := .of (owner:= "set_iterator") (n:= "__next__") (by rw[typeLookup_type,builtinLookup_eq_fast];kernel_rfl) (by decide+kernel) (by decide+kernel) (by decide+kernel) (.inl (by decide+kernel)) (by rw[isSubtype_type];kernel_rfl)
theorem Qle:entryFor table "set_iterator.__next__" =some Builtin.«set_iterator.__next__» :=entryFor_of_tree (by kernel_rfl)
theorem Qkt(a:Value):argsOk "set_iterator.__next__" ⟨[a],[]⟩:=by
 unfold argsOk
 rw[signature?_of (id:= "set_iterator.__next__") (n:=['_','_','t','x','e','n','_','_']) (o:=['r','o','t','a','r','e','t','i','_','t','e','s']) (by kernel_rfl) QoH]
 kernel_rfl
theorem Qm4:Slot "set_iterator" "__iter__" "set_iterator.__iter__" := .of (owner:= "set_iterator") (n:= "__iter__") (by rw[typeLookup_type,builtinLookup_eq_fast];kernel_rfl) (by decide+kernel) (by decide+kernel) (by decide+kernel) (.inl (by decide+kernel)) (by rw[isSubtype_type];kernel_rfl)
theorem Qqr:entryFor table "set_iterator.__iter__" =some Builtin.«dict_keyiterator.__iter__» :=entryFor_alias (id':= "dict_keyiterator.__iter__") (by kernel_rfl) rfl (by decide+kernel) (by kernel_rfl)
theorem QqF(a:Value):argsOk "set_iterator.__iter__" ⟨[a],[]⟩:=by
 unfold argsOk
 rw[signature?_of (id:= "set_iterator.__iter__") (n:=['_','_','r','e','t','i','_','_']) (o:=['r','o','t','a','r','e','t','i','_','t','e','s']) (by kernel_rfl) QoH]
 kernel_rfl
section
variable {prog:Program}{w:World}{A:Around}{E:Value->Shared->Prop}{s:Shared}
noncomputable abbrev siO(j i:Nat)(a:Addr)(n ep:Nat):Obj:={cls:= .type "set_iterator",data:= .fields #[rawInt j,rawInt i,.ref a,rawInt n,rawInt ep]}
theorem Qu0{a:Addr}{ob:Obj}{ar:Array (Int×Value)}{ep:Nat}{tb:SetTable}{Q:Value->Shared->Prop}(ho:s.heap.get? a=some ob)(hx:ob.ExactSet)(hd:ob.data= .set ar ep tb)(ft:tb.fits ar.size=true)(hp:tb.plain=true)
  (q:Q (.ref s.heap.objs.size) {s with heap:=s.heap.push (siO 0 0 a ar.size ep)}):wpAny (model prog w) A (pyIter (.ref a)) Q E s:=by
 have ty:s.TypeIs (.ref a) "set" :=⟨ob,ho,hx.1⟩
 refine wpAny_pyIter_slot ty PySem.F.slot_set_iter (wpAny_call_entry PySem.F.slot_set_iter ty Qla ?_ (PySem.F.args_set_iter_1 _))
 unfold Builtin.«frozenset.__iter__»
 refine wpAny_bind (m:=Builtin.Frozenset.slot0 "__iter__" _) (wpAny_pure ?_)
 unfold Builtin.Frozenset.sizeOf setEntries setDrawn setsByText
 refine wpAny_bind (wpAny_bind (wpAny_bind (wpAny_setState_of ho hd ft (wpAny_pure (wpAny_pure ?_)))))
 refine wpAny_bind (wpAny_bind (wpAny_setState_of ho hd ft ?_))
 refine wpAny_bind (wpAny_bind (wpAny_askSetting (wpAny_pure (wpAny_pure ?_))))
 dsimp only
 refine wpAny_ite_split (λz=>?_) (λ_=>?_)
 ·have z':(!w.params.followText "set-order" && (!tb.plain && decide (ar.size>1)))=true:=z
  rw[hp]at z'
  simp at z'
 refine wpAny_bind (wpAny_pure ?_)
 unfold setEpoch
 refine wpAny_bind (wpAny_bind (wpAny_setState_of ho hd ft (wpAny_pure ?_)))
 exact wpAny_bind (wpAny_newObj_type (wpAny_pure ⟨_,rfl,"set_iterator",_,⟨_,Zz _ rfl,rfl⟩,QdZ.lookup,q⟩))
theorem Qs2{I a:Addr}{ob:Obj}{ar wk:Array (Int×Value)}{ep i:Nat}{tb:SetTable}{sl:Nat->Nat}{e:Int×Value}{Q:Option Value->Shared->Prop}(hi:s.heap.get? I=some (siO (sl i) i a ar.size ep))(ho:s.heap.get? a=some ob)(hd:ob.data= .set ar ep tb)(ft:tb.fits ar.size=true)(na:a≠I)(W:Qh7 prog w a ob ep wk sl)(he:wk[i]? =some e)
  (q:∀h',h'.get? I=some (siO (sl (i+1)) (i+1) a ar.size ep)->Heap.SameBut I s.heap h'->Q (some e.2) {s with heap:=h'}):wpAny (model prog w) A (pyNext (.ref I)) Q E s:=by
 have ty:s.TypeIs (.ref I) "set_iterator" :=⟨_,hi,rfl⟩
 unfold pyNext
 refine wpAny_bind (wpAny_attempt (wpAny_callSpecial?_slot (name:=Str.ofString "__next__") ty QdZ (wpAny_call_entry QdZ ty Qle ?_ (Qkt _))))
 unfold Builtin.«set_iterator.__next__»
 refine wpAny_bind (m:=slotArgs "__next__" 0 _) (wpAny_pure ?_)
 refine wpAny_bind (wpAny_fieldsOf hi rfl ?_)
 unfold setEntries
 show wpAny _ _ ((setState a >>= λz=>pure z.1) >>= _) _ _ _
 refine wpAny_bind (wpAny_bind (wpAny_setState_of ho hd ft (wpAny_pure ?_)))
 dsimp only
 rw[if_neg (by simp)]
 show wpAny _ _ (setNext a (Int.toNat (sl i:Int)) (Int.toNat (i:Int)) (Int.toNat (ep:Int)) >>= _) _ _ _
 rw[Zw,Zw,Zw]
 refine wpAny_bind (W.next _ _ _ _ i e ho he ?_)
 refine wpAny_bind (wpAny_setField_rec hi (by simp) λh1 z1 b1=>?_)
 refine wpAny_bind (wpAny_setField_rec (s:={s with heap:=h1}) z1 (by simp) λh2 z2 b2=>?_)
 exact wpAny_pure ⟨_,rfl,wpAny_pure (q h2 (by rw[z2];rfl) (b1.trans b2))⟩
theorem QtO{I a:Addr}{ob:Obj}{ar wk:Array (Int×Value)}{ep:Nat}{tb:SetTable}{sl:Nat->Nat}{Q:Option Value->Shared->Prop}(hh:A.handled=none)(hi:s.heap.get? I=some (siO (sl wk.size) wk.size a ar.size ep))(ho:s.heap.get? a=some ob)(hd:ob.data= .set ar ep tb)(ft:tb.fits ar.size=true)(W:Qh7 prog w a ob ep wk sl)
  (q:∀h',Heap.ExtBut I s.heap h'->Q none {s with heap:=h'}):wpAny (model prog w) A (pyNext (.ref I)) Q E s:=by
 have ty:s.TypeIs (.ref I) "set_iterator" :=⟨_,hi,rfl⟩
 unfold pyNext
 refine wpAny_bind (wpAny_attempt (wpAny_callSpecial?_slot (name:=Str.ofString "__next__") ty QdZ (wpAny_call_entry QdZ ty Qle ?_ (Qkt _))))
 unfold Builtin.«set_iterator.__next__»
 refine wpAny_bind (m:=slotArgs "__next__" 0 _) (wpAny_pure ?_)
 refine wpAny_bind (wpAny_fieldsOf hi rfl ?_)
 unfold setEntries
 show wpAny _ _ ((setState a >>= λz=>pure z.1) >>= _) _ _ _
 refine wpAny_bind (wpAny_bind (wpAny_setState_of ho hd ft (wpAny_pure ?_)))
 dsimp only
 rw[if_neg (by simp)]
 show wpAny _ _ (setNext a (Int.toNat (sl wk.size:Int)) (Int.toNat (wk.size:Int)) (Int.toNat (ep:Int)) >>= _) _ _ _
 rw[Zw,Zw,Zw]
 refine wpAny_bind (W.stop _ _ _ _ ho ?_)
 dsimp only
 refine wpAny_bind (wpAny_setField hi rfl (by simp) ?_)
 refine wpAny_bind ?_
 simp only[newExc,newTuple]
 refine wpAny_bind (wpAny_newObj_type ?_ (by size_fits))
 refine wpAny_bind (m:=firstArgMember _ _) (wpAny_of_eq (a:=Value.none) rfl ?_)
 refine wpAny_newObj_type ?_ (by size_fits)
 simp only[raiseNew]
 refine wpAny_bind (wpAny_handled ?_)
 rw[show A.in1.handled=none from hh]
 refine wpAny_bind (wpAny_pure (wpAny_throw ?_))
 refine wpAny_bind (wpAny_isInstance (T:= "StopIteration") (b:=true) ⟨_,Zz _ rfl,rfl⟩ isSubtype_stop ?_)
 exact wpAny_pure (q _ (((ZbD ..).extBut.push _).push _))
theorem Qsy{I a:Addr}{j i n ep:Nat}{Q:Value->Shared->Prop}(hi:s.heap.get? I=some (siO j i a n ep))(q:Q (.ref I) s):wpAny (model prog w) A (pyIter (.ref I)) Q E s:=by
 have ty:s.TypeIs (.ref I) "set_iterator" :=⟨_,hi,rfl⟩
 refine wpAny_pyIter_slot ty Qm4 (wpAny_call_entry Qm4 ty Qqr ?_ (QqF _))
 show wpAny _ _ (ret (.ref I)) _ _ s
 exact wpAny_pure ⟨_,rfl,"set_iterator",_,ty,QdZ.lookup,q⟩
theorem Qq1(hh:A.handled=none){I a:Addr}{ob:Obj}{ar wk:Array (Int×Value)}{ep:Nat}{tb:SetTable}{sl:Nat->Nat}(hd:ob.data= .set ar ep tb)(ft:tb.fits ar.size=true)(na:a≠I)(W:Qh7 prog w a ob ep wk sl):
  Walks prog w A I [I,a] [I] wk.size (λi v=>∃e,wk[i]? =some e/\v=e.2) (λi h=>h.get? I=some (siO (sl i) i a ar.size ep)/\h.get? a=some ob) where
 sub:=λb hb=>by simp at hb;simp[hb]
 frame:=λ_ _ _ st k=>⟨k I (by simp) _ st.1,k a (by simp) _ st.2⟩
 item:=λi s Q E hi st q=>Qs2 st.1 st.2 hd ft na W (ZQ hi) λh' z b=>q _ h' s.toks ⟨_,ZQ hi,rfl⟩ ⟨z,b.extBut a _ na st.2⟩ λc o hc z=>b.extBut c o (λy=>hc (by simp[y])) z
 done:=λs Q E st q=>QtO hh st.1 st.2 hd ft W λh' b=>q h' s.toks λc o hc z=>b c o (λy=>hc (by simp[y])) z
 self:=λ_ _ _ _ st q=>Qsy st.1 q
end
end HS
namespace HS
open PySem L2 PyProof.Rows
section
variable {prog:Program}{w:World}{A:Around}{E:Value->Shared->Prop}{s:Shared}
theorem Qri{a:Addr}{ob:Obj}{Q:Bool->Shared->Prop}(ho:s.heap.get? a=some ob)(hx:ob.ExactSet)(q:Q false s):wpAny (model prog w) A (Builtin.List.listLengthHint (.ref a)) Q E s:=by
 have ty:s.TypeIs (.ref a) "set" :=⟨ob,ho,hx.1⟩
 unfold Builtin.List.listLengthHint
 refine wpAny_bind (wpAny_specialOf ty PySem.F.slot_set_len.lookup ?_)
 generalize e:("set.__len__" :String)=x
 wp_delta
 rw[show splitId x=some ("set","__len__")from by subst e;decide+kernel]
 subst e
 refine wpAny_bind (wpAny_isInstance (T:= "set") (b:=true) ty (by rw[isSubtype_type];kernel_rfl) ?_)
 refine wpAny_ite_split (λz=>absurd z (by decide)) (λ_=>?_)
 refine wpAny_ite_split (λ_=>?_) (λz=>absurd (by decide+kernel) z)
 exact wpAny_bind (wpAny_typeOf ty (wpAny_pure q))
theorem Qhd{h:Heap}{S:Addr}{f g:Obj->Obj}(b:Addr)(o:Obj)(hb:b≠S)(z:h.get? b=some o):((h.update S f).update S g).get? b=some o:=(ZaU _ _ (Ne.symm hb)).trans ((ZaU _ _ (Ne.symm hb)).trans z)
set_option maxHeartbeats 400000 in
theorem QsO{a:Addr}{ob:Obj}{ar wk:Array (Int×Value)}{ep:Nat}{tb:SetTable}{sl:Nat->Nat}{Q:List Value->Shared->Prop}(hh:A.handled=none)(ho:s.heap.get? a=some ob)(hx:ob.ExactSet)(hd:ob.data= .set ar ep tb)(ft:tb.fits ar.size=true)(hp:tb.plain=true)(W:Qh7 prog w a ob ep wk sl)(nb:wk.size<=sizeLine)
  (q:∀h' tk acc,(∀b o,s.heap.get? b=some o->h'.get? b=some o)->s.heap.objs.size<h'.objs.size->ItemsOf (λi v=>∃e,wk[i]? =some e/\v=e.2) acc wk.size->Q acc.toList {s with heap:=h',toks:=tk}):wpAny (model prog w) A (collect (.ref a)) Q E s:=by
 unfold collect
 refine wpAny_bind (wpAny_runValue (codeAny_builtin PySem.F.entry_proto_collect ?_))
 rw[Around.under_plainId PySem.F.plain_proto_collect _]
 show wpAny _ A.in1 (newList [] >>= λl=>again (.builtin "list.__iadd__" ⟨[l,.ref a],[]⟩)) _ _ s
 refine wpAny_bind (wpAny_newObj_type (wpAny_pure ⟨plainId_quiet PySem.F.plain_list_iadd _,codeAny_builtin PySem.F.entry_list_iadd ?_⟩))
 rw[Around.under_plainId PySem.F.plain_list_iadd _]
 have al:a<s.heap.objs.size:=Zr ho
 have ho1:=Zg (seqObj "list" ([]:List Value).toArray 0) ho
 have hS:(s.heap.push (seqObj "list" ([]:List Value).toArray 0)).get? s.heap.objs.size=some (seqObj "list" ([]:List Value).toArray 0):=Zz _ rfl
 show wpAny _ A.in1 (Builtin.List.listExtendWith (.ref s.heap.objs.size) (.ref a) (.ref s.heap.objs.size)) _ _ {s with heap:=s.heap.push (seqObj "list" ([]:List Value).toArray 0)}
 unfold Builtin.List.listExtendWith
 refine wpAny_bind (wpAny_typeOf (T:= "set") ⟨ob,ho1,hx.1⟩ ?_)
 have h1:Builtin.List.listSameRef (.ref s.heap.objs.size) (.ref a)=false:=by simp[Builtin.List.listSameRef,Zbj al]
 rw[if_neg (by rw[h1];decide)]
 have WW:=(Qq1 (prog:=prog) (w:=w) (A:=A.in1) (I:=s.heap.objs.size+1) (wk:=wk) (sl:=sl) hh hd ft (ZJ (Zad al)) W).toS
 have key:∀(R:Result->Shared->Prop) (h:Heap) (c tk:Nat),h.get? (s.heap.objs.size+1)=some (siO 0 0 a ar.size ep)->h.get? a=some ob->(∀b o,s.heap.get? b=some o->h.get? b=some o)->h.get? s.heap.objs.size=some {cls:= .type "list",data:= .seq #[] c}→
   (∀(h':Heap) (tk c:Nat) (acc:Array Value),(∀b o,s.heap.get? b=some o->h'.get? b=some o)->h'.get? s.heap.objs.size=some {cls:= .type "list",data:= .seq acc c}->ItemsOf (λi v=>∃e,wk[i]? =some e/\v=e.2) acc wk.size->R (.ok (.ret (.ref s.heap.objs.size))) {s with heap:=h',toks:=tk})→
   codeAny (model prog w) A (.builtin "list.extend.loop" ⟨[.ref s.heap.objs.size,.ref (s.heap.objs.size+1),.ref s.heap.objs.size],[]⟩) R {s with heap:=h,toks:=tk}:=by
  intro R h c tk k1 k2 k3 k4 k5
  refine codeAny_extend_loopS WW nb s.heap.objs.size (by simp[Zbj al]) _ wk.size 0 _ #[] c rfl (ZZ _) ⟨(by rw[W.zero];exact k1),k2⟩ k4 (ItemsOf.nil _) λs' acc c mv g ia=>?_
  rw[Moved.eq_with mv]
  refine k5 s'.heap s'.toks c acc (λb o z=>?_) g ia
  have bl:=Zr z
  exact mv.heap b o (by simp[ZJ bl,ZJ (Zad bl)]) (k3 b o z)
 have ho2:=Zg (siO 0 0 a ar.size ep) ho1
 have hS2:=Zg (siO 0 0 a ar.size ep) hS
 have hI2:((s.heap.push (seqObj "list" ([]:List Value).toArray 0)).push (siO 0 0 a ar.size ep)).get? (s.heap.push (seqObj "list" ([]:List Value).toArray 0)).objs.size=some (siO 0 0 a ar.size ep):=Zz _ rfl
 refine wpAny_bind (Qu0 ho1 hx hd ft hp ?_)
 refine wpAny_bind (wpAny_holding (Qri ho2 hx ?_))
 rw[if_pos (by decide)]
 refine wpAny_bind (wpAny_rule (wpAny_bind ?_))
 have sI:(s.heap.push (seqObj "list" ([]:List Value).toArray 0)).objs.size=s.heap.objs.size+1:=Zaf _ _
 rw[sI]at hI2 ⊢
 show wpAny _ _ (updateSeq s.heap.objs.size (·.push .none) >>= λ_=>updateSeq s.heap.objs.size (·.pop)) _ _ _
 refine wpAny_bind (wpAny_updateSeq hS2 rfl ?_)
 have hS3:=Zbq (Obj.mapSeq (·.push Value.none)) hS2 rfl
 refine wpAny_updateSeq (hz:=by seq_fits) hS3 rfl ?_
 have hS4:=Zbq (Obj.mapSeq (·.pop)) hS3 rfl
 refine wpAny_pure ⟨plainId_quiet PySem.F.plain_extend_loop _,key _ _ 2 _ ?_ ?_ ?_ hS4 ?_⟩
 ·dsimp only
  exact Qhd _ _ (Nat.succ_ne_self _) hI2
 ·dsimp only
  exact Qhd _ _ (ZJ al) ho2
 ·intro b o z
  dsimp only
  refine Qhd b o (ZJ (Zr z)) ?_
  exact Zg _ (Zg _ z)
 ·intro h' tk c acc m1 m2 m3
  exact wpAny_bind (wpAny_load m2 (wpAny_pure (q h' tk acc m1 (Zr m2) m3)))
end
end HS
namespace HS
open PySem L2 PyProof.Rows
theorem Qpi{vs vs':List Value}(p:vs'.Perm vs):∀{ks:List Int},IntsAre vs ks->∃ks',IntsAre vs' ks'/\ks'.Perm ks:=by
 induction p with
 | nil=>exact λh=>⟨_,h,.refl _⟩
 | cons x p ih=>
  intro ks h
  cases h with
  | cons n t h=>
   obtain⟨k,h1,h2⟩:=ih h
   exact⟨n::k,.cons n t h1,h2.cons n⟩
 | swap x y l=>
  intro ks h
  cases h with
  | cons n t h=>
   cases h with
   | cons m u h=>exact⟨_,.cons m u (.cons n t h),.swap n m _⟩
 | trans p1 p2 i1 i2=>
  intro ks h
  obtain⟨k1,a1,b1⟩:=i2 h
  obtain⟨k2,a2,b2⟩:=i1 a1
  exact⟨k2,a2,b2.trans b1⟩
theorem QnN{wk:Array (Int×Value)}{acc:Array Value}(h:ItemsOf (λi v=>∃e,wk[i]? =some e/\v=e.2) acc wk.size):acc.toList=wk.toList.map (·.2):=by
 refine Zaz λi=>?_
 rw[Zm,ZS,ZS]
 by_cases z:i<acc.size
 ·obtain⟨e,h1,h2⟩:=h.2 i _ (ZQ z)
  rw[ZQ z,h1,h2];rfl
 ·rw[Array.getElem?_eq_none (by omega),Array.getElem?_eq_none (by have:=h.1;omega)];rfl
section
variable {prog:Program}{w:World}{A:Around}{E:Value->Shared->Prop}{s:Shared}
theorem Qt0{a:Addr}{F:List Int}{Q:Value->Shared->Prop}(hh:A.handled=none)(nd:F.Nodup)(r:Qdl prog w (Qf3 w) s.heap a (λj=>F.any (· == j)) F.length)
  (q:∀h' tk l out e,(∀b o,s.heap.get? b=some o->h'.get? b=some o)->s.heap.objs.size<=l->h'.get? l=some (seqObj "list" out e)->IntsAre out.toList (Qb5 F)->Q (.ref l) {s with heap:=h',toks:=tk}):wpAny (model prog w) A (call (.builtin "sorted") [.ref a]) Q E s:=by
 obtain⟨ob,ar,ep,tb,ho,hd,c,sz⟩:=r
 obtain⟨ks,i1,i2⟩:=QqO c nd
 obtain⟨wk,sl,pm,W⟩:=Qrw (a:=a) hd c sz.1
 have few:F.length<=18:=by have:=sz.2;omega
 have wz:wk.size<=18:=by
  have:=pm.length_eq
  rw[Zs,Zs,c.num]at this
  omega
 refine Calls.call_function_entry kind_sorted plain_sorted entry_sorted (args_sorted1 _) ?_
 unfold Builtin.«sorted»
 refine wpAny_bind (m:=checkCount "sorted" 1 1 _) (wpAny_pure ?_)
 refine wpAny_bind (QsO (by simp[hh]) ho c.ex hd c.fit sz.1 W (ZM wz (by rw[Qbd];decide)) λh1 t1 acc k1 z1 ia=>?_)
 obtain⟨ks',j1,j2⟩:=Qpi (pm.map (·.2)) i1
 rw[← QnN ia]at j1
 have al:acc.toList.length<64:=by rw[Zs,ia.1];omega
 refine wpAny_bind (wpAny_newList ?_)
 have oL:(h1.push (seqObj "list" acc.toList.toArray 0)).get? h1.objs.size=some (seqObj "list" acc.toList.toArray 0):=Zz _ rfl
 refine wpAny_bind (wpAny_holding (wpAny_call_entry slot_list_sort ⟨_,oL,rfl⟩ entry_list_sort (list_sort_tree oL j1 al λout ns' a1 a2 a3=>⟨_,rfl,?_⟩) (args_list_sort _)))
 obtain⟨e,hat⟩:=sortedHeap_at (out:=out) oL
 have es:ns'=Qb5 F:=QfM a3 (QcR F) ((a2.trans (j2.trans i2)).trans (Qbp F).symm)
 subst es
 refine wpAny_pure ⟨_,rfl,q _ t1 _ out e (λb o z=>?_) (Zbi z1) hat a1⟩
 have b1:=Zr (k1 b o z)
 rw[sortedHeap_old (ZJ b1) (by rw[Zaf];exact Zad b1)]
 exact Zg _ (k1 b o z)
end
end HS
namespace HS
open PySem PySem.Spec L2 PyProof.Rows
section
variable {X:Cx}{a:Expr}{fa:DE}{pos:Pos}
theorem boot_set:bootBuiltins "set" =some (.type "set"):=by kernel_rfl
theorem Qs5{l:Addr}{ns:List Int}(I:Inv X pins σ H s)(hc:X.calm=true)(hq:SqL X.K H l (ns.map V.int))(hn:ns.length<=18)(q:∀l,H l=none->Q (.ref l) (upd H l (.lst ((Qb5 (Qeg ns)).map V.int)))):
  wpAny (model X.prog X.w) X.A (call (.type "set") [.ref l]) (λv s1=>wpAny (model X.prog X.w) X.A (call (.builtin "sorted") [v]) (EP X pins σ Q) E s1) E s:=by
 obtain⟨its,r',pl,hz⟩:=I.list hq
 have hI:=Qar r'
 have il:its.toArray.size=ns.length:=by rw[Zu];exact hI.length
 refine QrB (I.ok.hd hc) pl.isList (ns:=ns) hI (by omega) λh1 t1 si kp=>?_
 have ed:firstMet (λi=>ns.getD i 0) its.toArray.size=Qeg ns:=by rw[il];exact Qjz ns
 have nd:(Qeg ns).Nodup:=by rw[← ed];exact Qg2 _ _
 unfold InI at si
 rw[ed]at si
 have sz:s.heap.objs.size<h1.objs.size:=by
  obtain⟨ob,ar,en,tb,g,_⟩:=si
  exact Zr g
 refine Qt0 (I.ok.hd hc) nd si λh2 t2 b out e k2 z2 g2 io=>?_
 refine⟨.ref b,_,I.laid (t':=t2) (o:= .lst ((Qb5 (Qeg ns)).map V.int)) (λc o z=>k2 c o (kp c o (Zr z) z)) (ZM (Zbi sz) z2) ⟨?_,out.toList,e,L2.Qar io,by simpa using g2⟩,rfl,q _ (I.hok.fresh (ZM (Zbi sz) z2))⟩
 rw[Zd,(Qbp _).length_eq,← ed,Qbd]
 have:=firstMet_length_le (λi=>ns.getD i 0) its.toArray.size
 omega
theorem Qsk{p p' pos':Pos}(hg:Gl X "sorted")(hm:X.mg "sorted" =none)(hg':Gl X "set")(hm':X.mg "set" =none)(hc:X.calm=true)(ha:PA X [a] ta)(hs:starEach [a] X.env=[(false,eval a X.env)]):
  PE X (.Call (.Name "sorted" p) [.Call (.Name "set" p') [a] [] pos'] [] pos) (λσ H Q=>ta σ H λvs H1=>∃(l:Addr) (ns:List Int),vs=[.ref l]/\SqL X.K H1 l (ns.map V.int)/\ns.length<=18/\∀l,H1 l=none->Q (.ref l) (upd H1 l (.lst ((Qb5 (Qeg ns)).map V.int)))):=by
 intro pins s σ H Q I h
 refine wpAny_Call_Name_kw (Qca I hg hm boot_sorted ?_ (by decide) (by decide))
 refine Zbr (ZbK ?_) rfl rfl
 refine Call_ (Qca I hg' hm' boot_set (ZW (thn (ha pos' pins s σ H _ I h) λus s1 ⟨vs,H1,I1,r1,q1⟩=>?_) hs rfl))
 obtain⟨l,ns,e,q1,q2,q⟩:=q1
 subst e
 cases r1 with
 | cons r rr=>
  cases rr
  cases r
  exact wpAny_mono (Qs5 I1 hc q1 q2 q) (λv s2 z=>ZbQ z) λ_ _ z=>z
theorem Qst{p p' pos':Pos}(hg:Gl X "sorted")(hm:X.mg "sorted" =none)(hg':Gl X "set")(hm':X.mg "set" =none)(hc:X.calm=true)(ha:SE X a fa)(hs:starEach [a] X.env=[(false,eval a X.env)]):
  SE X (.Call (.Name "sorted" p) [.Call (.Name "set" p') [a] [] pos'] [] pos) (Qgv fa):=λH0 A0=>
 (Qsk hg hm hg' hm' hc (Q5 (ha H0 A0) Qa2 hs) hs).mono λσ H Q=>exK λρ hs F r' rel e q=>by
  refine Qf e λra e1 e=>?_
  refine⟨ρ,hs,F,ra,rel,e1,λv H1 G p1=>?_⟩
  cases hd:ra.d with
  | lst xs=>
   rw[hd]at e
   dsimp only at e
   refine Qf e λns h1 e=>?_
   split at e
   ·rename_i hl
    cases e
    have rp:=p1.rp
    rw[hd]at rp
    obtain⟨l,ws,L,rfl,hl',rl,zl,el⟩:=rp.lst_inv
    rw[Qbl h1]at rl
    rw[rl.ints]at hl'
    refine⟨l,ns,rfl,QK hl',hl,λc hc=>?_⟩
    have:=QN.Qaq (ρ:=ρ) (F:=F) p1.same hc (Rps.ofInts (K:=X.K) (Qb5 (Qeg ns))) (by
     rw[Zd,(Qbp _).length_eq,Qbd,← Qjz]
     have:=firstMet_length_le (λi=>ns.getD i 0) ns.length
     omega) Src.nil QaJ.nil
    unfold Qaq at this
    rw[if_pos (QhA _)]at this
    exact q _ _ _ this
   ·cases e
  | _=>rw[hd]at e;cases e
end
end HS
namespace HS
open PySem PySem.Spec PyProof.Rows L2
section
variable {X:Cx}{a b c:Expr}{fa fb fc:DE}{pos:Pos}
end
end HS
namespace HS
open PySem PySem.Spec L2
structure FnR where
 n:Nat
 dfl:List D
 den:Den
structure Th where
 N:List Str
 sc:List (Str×NameKind)
 Γ:List (Str×FnR)
 cs:List (Str×Int)
 tr:Stmt->Option DS:=λ_=>none
noncomputable def posOf(x:Str):List Str->Option Nat
 | []=>none
 | y::ys=>if x=y then some 0 else(posOf x ys).map (· +1)
theorem QeG:∀{x:Str}{ys:List Str}{i:Nat},posOf x ys=some i->ys[i]? =some x
 | x,[],i,h=>by cases h
 | x,y::ys,i,h=>by
  unfold posOf at h
  split at h
  ·rename_i e;cases h;subst e;rfl
  ·obtain⟨j,hj,rfl⟩:=Ze.mp h
   simpa using QeG hj
noncomputable def look{α:Type}(x:Str):List (Str×α)->Option α
 | []=>none
 | (y,a)::r=>if x=y then some a else look x r
theorem Qa8{α:Type}:∀{x:Str}{l:List (Str×α)},look x l=l.lookup x
 | x,[]=>rfl
 | x,(y,a)::r=>by
  unfold look
  rw[ZC]
  by_cases h:x=y
  ·subst h;simp
  ·rw[if_neg h,Qa8]
   have:(x == y)=false:=by simpa using h
   rw[this]
noncomputable def QrH:NameKind->Bool
 | .local =>true | .cell=>true | .free=>true | _=>false
noncomputable def QrN:NameKind->Bool
 | .local =>true | .cell=>true | _=>false
noncomputable def Qxr:NameKind->Bool
 | .globalImplicit=>true | _=>false
noncomputable def isFree:NameKind->Bool
 | .free=>true | _=>false
noncomputable def odd(x:Str):Bool:=decide (x= "__debug__") || decide (x= "__classdict__") || decide (x= "__name__")
noncomputable def Th.slot(Θ:Th)(x:Str):Option Nat:=if((look x Θ.sc).map QrH).getD false && !odd x then posOf x Θ.N else none
noncomputable def Th.QbX(Θ:Th)(x:Str):Option Nat:=if((look x Θ.sc).map QrN).getD false && !odd x then posOf x Θ.N else none
noncomputable def Th.gl(Θ:Th)(x:Str):Bool:=((look x Θ.sc).map Qxr).getD false && !odd x
def QtP(X:Cx)(x:Str)(r:FnR):Prop:=∃k f fd ps,QbD X.prog X.w X.K X.mg X.base CX0 k f fd ps (spV X.K r.n r.den)/\Qas k X.A/\X.mg x=some (.ref f)/\PySem.W.keepIn X.K (.ref f)=true∧
 ∀m,m<=r.dfl.length->∃ds dvs,Binds X.K fd ps ds/\Qt dvs ds/\∀H,Rps X.K H (r.dfl.drop (r.dfl.length-m)) dvs []
noncomputable def QkI:List Str:=["range","enumerate","zip","len","list","min","max","sum","abs","isinstance","int","bool","tuple","str","divmod","sorted","any","all","set"]
structure CtxB (X:Cx) (Θ:Th):Prop where
 N:X.N=Θ.N
 nd:Θ.N.Nodup
 lc:∀x,look x Θ.sc=some .local ->X.env.scope.names.lookup x=some .local
 ce:∀x,look x Θ.sc=some .cell->X.env.scope.names.lookup x=some .cell/\X.fn x=true
 fe:∀x,look x Θ.sc=some .free->X.env.scope.names.lookup x=some .cell∨X.env.scope.names.lookup x=some .free
 gl:∀x,look x Θ.sc=some .globalImplicit->X.env.scope.names.lookup x=some .globalImplicit
 units:X.A.units+64<cLine
 mg:∀x∈QkI,X.mg x=none
 cs:∀x i,look x Θ.cs=some i->∃t,X.mg x=some (.int i t)
structure Qah (X:Cx) (Θ:Th):Prop extends CtxB X Θ where
 calm:X.calm=true
 pass:PassesOwn (model X.prog X.w) X.A X.env X.xe
 fns:∀x r,look x Θ.Γ=some r->QtP X x r
 tr:∀st f,Θ.tr st=some f->S1 X st f
section
theorem QmH(h:odd x=false):(x == ("__debug__" :Str))=false/\(x == ("__classdict__" :Str))=false/\x≠ "__name__" :=by
 unfold odd at h
 simp only[Bool.or_eq_false_iff,decide_eq_false_iff_not]at h
 exact⟨by simpa using h.1.1,by simpa using h.1.2,h.2⟩
theorem Qc0(ok:CtxB X Θ)(h:Θ.slot x=some i):PE X (.Name x pos) (QiH i):=by
 unfold Th.slot at h
 split at h
 ·rename_i hc
  simp only[Zk,Zas]at hc
  obtain⟨h1,h2,_⟩:=QmH hc.2
  refine Qox (by rw[ok.N];exact QeG h) ?_ h1 h2
  cases q:look x Θ.sc with
  | none=>rw[q]at hc;cases hc.1
  | some k=>
   rw[q]at hc
   cases k with
   | «local» =>exact .inl (ok.lc x q)
   | cell=>exact .inr (.inl (ok.ce x q).1)
   | free=>exact .inr (ok.fe x q)
   | _=>cases hc.1
 ·cases h
theorem QcX(ok:CtxB X Θ)(h:Θ.QbX x=some i):X.N[i]? =some x/\Loc X.env.scope x/\(X.fn x=true∨X.env.scope.names.lookup x=some .local):=by
 unfold Th.QbX at h
 split at h
 ·rename_i hc
  simp only[Zk,Zas]at hc
  refine⟨by rw[ok.N];exact QeG h,?_⟩
  cases q:look x Θ.sc with
  | none=>rw[q]at hc;cases hc.1
  | some k=>
   rw[q]at hc
   cases k with
   | «local» =>exact⟨.inl (ok.lc x q),.inr (ok.lc x q)⟩
   | cell=>exact⟨.inr (ok.ce x q).1,.inl (ok.ce x q).2⟩
   | _=>cases hc.1
 ·cases h
theorem QeH(ok:CtxB X Θ)(h:Θ.gl x=true):Gl X x/\(x == ("__debug__" :Str))=false/\x≠ "__name__" :=by
 unfold Th.gl at h
 simp only[Zk,Zas]at h
 obtain⟨h1,h2,h3⟩:=QmH h.2
 refine⟨?_,h1,h3⟩
 cases q:look x Θ.sc with
 | none=>rw[q]at h;cases h.1
 | some k=>
  rw[q]at h
  cases k with
  | globalImplicit=>exact ok.gl x q
  | _=>cases h.1
end
noncomputable def isTup:Expr->Bool
 | .Tuple .. =>true
 | _=>false
noncomputable def Qpy:Expr->Option Str
 | .Name x _=>some x
 | _=>none
noncomputable def Qec(Θ:Th):Expr->Option Tg
 | .Name x _=>(Θ.QbX x).map .nm
 | .Tuple es _ _=>((es.mapM Qpy).bind λxs=>xs.mapM Θ.QbX).map .tp
 | _=>none
noncomputable def Qnf:CmpOp->Option (D->D->Option D)
 | .Eq=>some gEq | .NotEq=>some gNe | .Lt=>some gLt | .LtE=>some gLe | .Gt=>some gGt | .GtE=>some gGe
 | .Is=>some (Qet false) | .IsNot=>some (Qet true)
 | .In=>some (gIn false) | .NotIn=>some (gIn true)
noncomputable def QqV(x:Str):Option String:=
 if x= "int" then some "int" else if x= "bool" then some "bool" else if x= "list" then some "list" else if x= "tuple" then some "tuple" else if x= "str" then some "str" else none
noncomputable def inner(Θ:Th)(scope:Scope):Th:={N:=(scope.names.filter λy=>QrH y.2).map (·.1),sc:=scope.names,Γ:=Θ.Γ,cs:=Θ.cs}
noncomputable def QgI(Θ:Th)(scope:Scope):List (Option Nat):=(inner Θ scope).N.map λx=>if((look x scope.names).map isFree).getD false then posOf x Θ.N else none
noncomputable def QhF(Θ:Th)(scope:Scope)(t:Tg):Bool:=(scope.kind == .function) && decide (inner Θ scope).N.Nodup &&
 (scope.names.all λy=>match y.2 with
  | .cell=>decide (look y.1 scope.names=some .cell)
  | .local =>decide (look y.1 scope.names=some .local)
  | .free=>match look y.1 Θ.sc with
   | some .cell=>true
   | some .free=>true
   | _=>false
  | _=>true) &&
 t.slots.all λj=>match (QgI Θ scope)[j]? with
  | some (some _)=>false
  | _=>true
noncomputable def Qho(Θ:Th)(x:Str)(a:Expr):Option Expr:=match a with
 | .Call (.Name y _) [b] [] _=>if x= "list" /\y= "range" /\Θ.gl y=true/\(look y Θ.Γ).isNone=true then some b else none
 | _=>none
noncomputable def setArg(Θ:Th)(x:Str)(a:Expr):Option Expr:=match a with
 | .Call (.Name y _) [b] [] _=>if x= "sorted" /\y= "set" /\Θ.gl y=true/\(look y Θ.Γ).isNone=true then some b else none
 | _=>none
noncomputable def QwM:List Expr->Bool
 | []=>true | [_]=>true | _=>false
noncomputable def bf1(x:Str)(fa:DE):Option DE:=
 if x= "len" then some (dBf QaS (Qb fa Qg))else
 if x= "list" then some (dList (Qb fa Qg))else
 if x= "min" then some (dBf Qdy (Qb fa Qg))else
 if x= "max" then some (dBf Qda (Qb fa Qg))else
 if x= "sum" then some (dBf QdA (Qb fa Qg))else
 if x= "sorted" then some (Qgw (Qb fa Qg))else
 if x= "all" then some (dBf QgC (Qb fa Qg))else
 if x= "any" then some (dBf QgH (Qb fa Qg))else
 none
noncomputable def bf2(x:Str)(fa fb:DE):Option DE:=
 if x= "min" then some (dBf QeB (Qb fa (Qb fb Qg)))else
 if x= "divmod" then some (dDm (Qb fa (Qb fb Qg)))else
 none
mutual
noncomputable def Ql(n:Nat)(Θ:Th)(e:Expr):Option DE:=match n with
 | 0=>none
 | n+1=>match e with
  | .Name x _=>match Θ.slot x with
   | some i=>some (Qa i)
   | none=>if Θ.gl x then(look x Θ.cs).map λi=>dC (.int i)else none
  | .Constant (.int i) _ _=>some (dC (.int i))
  | .Constant (.bool b) _ _=>some (dC (.bl b))
  | .Constant .none _ _=>some (dC .non)
  | .Constant (.str x) _ _=>some (dC (.str x))
  | .BinOp a op b _=>(Ql n Θ a).bind λfa=>(Ql n Θ b).bind λfb=>match op with
   | .Add=>some (QQ fa fb)
   | .Mult=>some (Qau fa fb)
   | .Sub=>some (dOp Qb2 fa fb)
   | .FloorDiv=>some (dOp QnO fa fb)
   | .Mod=>some (dOp Qbz fa fb)
   | .Pow=>some (dOp Qi0 fa fb)
   | .RShift=>some (dOp Qkj fa fb)
   | _=>none
  | .UnaryOp .USub a _=>(Ql n Θ a).map Qhr
  | .UnaryOp .Not a _=>(Ql n Θ a).map QpS
  | .BoolOp .And [a] _=>Ql n Θ a
  | .BoolOp .And (a::b::r) p=>(Ql n Θ a).bind λfa=>(Ql n Θ (.BoolOp .And (b::r) p)).map λfb=>QiC fa fb
  | .BoolOp .Or [a] _=>Ql n Θ a
  | .BoolOp .Or (a::b::r) p=>(Ql n Θ a).bind λfa=>(Ql n Θ (.BoolOp .Or (b::r) p)).map λfb=>dOr fa fb
  | .Compare a [op] [b] _=>(Ql n Θ a).bind λfa=>(Ql n Θ b).bind λfb=>(Qnf op).map λg=>dOp g fa fb
  | .Tuple es _ _=>(Qby n Θ es).map Qbu
  | .List es _=>(Qby n Θ es).map Q1
  | .Subscript a (.Slice lo hi none _) _=>(Ql n Θ a).bind λfa=>(QhD n Θ lo).bind λfl=>(QhD n Θ hi).map λfh=>Qc7 fa fl fh
  | .Subscript a b _=>(Ql n Θ a).bind λfa=>(Ql n Θ b).map λfb=>Qi fa fb
  | .Call (.Name x _) args [] _=>if Θ.gl x then(match look x Θ.Γ with
    | some r=>if r.n<=args.length+r.dfl.length/\args.length<=r.n then(Qby n Θ args).map λfs=>QB r.n r.den (r.dfl.drop (r.dfl.length-(r.n-args.length))) fs else none
    | none=>Qkf n Θ x args)else none
  | .Call (.Attribute (.Name x p) m apos) [] [] cpos=>if m= "bit_length" /\(apos.endLine == cpos.line)=true then(Ql n Θ (.Name x p)).map Qkg else none
  | .ListComp elt [⟨tg,iter,ifs,0⟩] scope _=>(Qec (inner Θ scope) tg).bind λt=>if QhF Θ scope t && QwM ifs then
    (QeD n Θ tg iter).bind λfi=>(Qe7 n (inner Θ scope) ifs).bind λft=>(Ql n (inner Θ scope) elt).map λfe=>Qaf fi t (QgI Θ scope) ft fe else none
  | _=>none
noncomputable def Qkf(n:Nat)(Θ:Th)(x:Str)(args:List Expr):Option DE:=match n with
  | 0=>none
  | n+1=>match args with
    | [a]=>match Qho Θ x a with
     | some b=>(Ql n Θ b).map QfG
     | none=>
       match setArg Θ x a with
       | some b=>(Ql n Θ b).map Qgv
       | none=>
         (Ql n Θ a).bind λfa=>bf1 x fa
    | [a,b]=>if x= "isinstance" then(Ql n Θ a).bind λfa=>match b with
        | .Name y _=>if Θ.gl y then(QqV y).map λT=>Qip T fa else none
        | _=>none
      else(Ql n Θ a).bind λfa=>(Ql n Θ b).bind λfb=>bf2 x fa fb
    | _=>none
noncomputable def QaV(n:Nat)(Θ:Th)(e:Expr):Option DT:=match n with
 | 0=>none
 | n+1=>match e with
  | .UnaryOp .Not a _=>(QaV n Θ a).map Qdg
  | .BoolOp .And [a] _=>QaV n Θ a
  | .BoolOp .And (a::b::r) p=>(QaV n Θ a).bind λfa=>(QaV n Θ (.BoolOp .And (b::r) p)).map λfb=>QfJ fa fb
  | .BoolOp .Or [a] _=>QaV n Θ a
  | .BoolOp .Or (a::b::r) p=>(QaV n Θ a).bind λfa=>(QaV n Θ (.BoolOp .Or (b::r) p)).map λfb=>bOr fa fb
  | .Compare a [op] [b] _=>(Ql n Θ a).bind λfa=>(Ql n Θ b).bind λfb=>(Qnf op).map λg=>QA (dOp g fa fb)
  | .BoolOp _ _ _=>none
  | .IfExp _ _ _ _=>none
  | .Compare _ _ _ _=>none
  | e=>(Ql n Θ e).map QA
noncomputable def Qe7(n:Nat)(Θ:Th)(es:List Expr):Option DT:=match n with
 | 0=>none
 | n+1=>match es with
  | []=>some Qb3
  | [c]=>QaV n Θ c
  | _=>none
noncomputable def Qby(n:Nat)(Θ:Th)(es:List Expr):Option DA:=match n with
 | 0=>none
 | n+1=>match es with
  | []=>some Qg
  | e::es=>(Ql n Θ e).bind λfa=>(Qby n Θ es).map λfs=>Qb fa fs
noncomputable def QhD(n:Nat)(Θ:Th)(e:Option Expr):Option DO:=match n with
 | 0=>none
 | n+1=>match e with
  | none=>some QdU
  | some e=>(Ql n Θ e).map Qa6
noncomputable def QeD(n:Nat)(Θ:Th)(tg e:Expr):Option DI:=match n with
 | 0=>none
 | n+1=>match e with
  | .Call (.Name x _) args [] _=>if Θ.gl x && (look x Θ.Γ).isNone then(match args with
    | [a]=>if x= "range" then(Ql n Θ a).map QaT else
     if x= "enumerate" then(if isTup tg then(Ql n Θ a).map QbH else none)else
     (Ql n Θ e).map Q7
    | [a,b,c]=>
     if x= "range" then(Ql n Θ a).bind λfa=>(Ql n Θ b).bind λfb=>(Ql n Θ c).map λfc=>Qe9 fa fb fc else
     (Ql n Θ e).map Q7
    | [a,b]=>
     if x= "range" then(Ql n Θ a).bind λfa=>(Ql n Θ b).map λfb=>Qe6 fa fb else
     if x= "zip" then(if isTup tg then(Ql n Θ a).bind λfa=>(Ql n Θ b).map λfb=>QcF fa fb else none)else
     (Ql n Θ e).map Q7
    | _=>(Ql n Θ e).map Q7)else(Ql n Θ e).map Q7
  | e=>(Ql n Θ e).map Q7
end
theorem QaN{α β γ:Type}{x:Option α}{y:α->Option β}{k:α->β->γ}{r:γ}(e:(x.bind λa=>(y a).map λb=>k a b)=some r):∃a b,x=some a/\y a=some b/\k a b=r:=by
 refine Qf e λa h1 e=>?_
 obtain⟨b,h2,e⟩:=Ze.mp e
 exact⟨a,b,h1,h2,e⟩
theorem bindR{α β γ:Type}{x:Option α}{y:α->Option β}{k:α->β->γ}{r:γ}{M:γ->Prop}(e:(x.bind λa=>(y a).map λb=>k a b)=some r)(g:∀a b,x=some a->y a=some b->M (k a b)):M r:=by
 obtain⟨a,b,h1,h2,rfl⟩:=QaN e
 exact g a b h1 h2
theorem Qak(h:Ql n Θ e=some f)(es:List Expr)(env:Env):starEach (e::es) env=(false,eval e env)::starEach es env:=by
 cases n with
 | zero=>exact nomatch (show(none:Option DE)=some _ from h)
 | succ n=>cases e<;>first | rfl | (exact nomatch (show(none:Option DE)=some _ from h))
theorem Qmn:∀{n:Nat}{Θ:Th}{es:List Expr}{f:DA},Qby n Θ es=some f->∀(pos:Pos) (env:Env),(backTo pos (starEach es env)).any (·.1)=false
 | 0,_,_,_,h,_,_=>by simp[Qby]at h
 | n+1,_,[],_,h,_,_=>rfl
 | n+1,_,e::es,_,h,pos,env=>by
  simp only[Qby]at h
  obtain⟨fa,fs,h1,h2,_⟩:=QaN h
  rw[Qak h1]
  have:=Qmn h2 pos env
  simpa[backTo]using this
theorem QmM(h:Ql n Θ b=some f):QgB b:=by
 cases n with
 | zero=>exact nomatch (show(none:Option DE)=some _ from h)
 | succ n=>cases b<;>first | (intro o i;rfl) | (exact nomatch (show(none:Option DE)=some _ from h))
theorem QuZ(h:Ql n Θ e=some f)(env:Env):∀x,foldedSetIterable e env x=pure x:=by
 cases n with
 | zero=>exact nomatch (show(none:Option DE)=some _ from h)
 | succ n=>cases e<;>first | (intro x;rfl) | (exact nomatch (show(none:Option DE)=some _ from h))
theorem Qn4(h:Ql n Θ e=some f)(op:CmpOp):behindInMarks op e=false:=by
 cases n with
 | zero=>exact nomatch (show(none:Option DE)=some _ from h)
 | succ n=>cases e<;>first | rfl | (exact nomatch (show(none:Option DE)=some _ from h))
theorem Qdj{env:Env}:∀{names:List (Str×NameKind)}{x:Str},names.lookup x=some .cell→
  (names.map λ(n,k)=>if(k == NameKind.free && env.scope.kind == .function && env.kindOf n == some .cell)then(n,NameKind.cell)else(n,k)).lookup x=some .cell
 | [],_,h=>by simp at h
 | (n,k)::r,x,h=>by
  have ih:= @Qdj env r x
  rw[Zx]
  cases hx:x == n with
  | true=>
   simp only[ZC,hx]at h
   cases h
   dsimp only
   split<;>simp[ZC,hx]
  | false=>
   simp only[ZC,hx]at h
   dsimp only
   split<;>(simp only[ZC,hx];exact ih h)
theorem Qkz{X:Cx}{Θ:Th}{scope:Scope}{t:Tg}(ok:Qah X Θ)(h:QhF Θ scope t=true):QdC X (inner Θ scope).N scope/\Qj9 X (inner Θ scope).N scope (QgI Θ scope) t.slots/\∀cl C fp s3 H3,Qah (cxc X (inner Θ scope).N scope cl C fp s3 H3) (inner Θ scope):=by
 unfold QhF at h
 simp only[Zk,decide_eq_true_eq]at h
 obtain⟨⟨⟨h1,h2⟩,h3⟩,h4⟩:=h
 have hk:scope.kind= .function:=by simpa using h1
 have each:∀y∈scope.names,(y.2= .cell->scope.names.lookup y.1=some .cell)/\(y.2= .local ->scope.names.lookup y.1=some .local)/\(y.2= .free->X.env.kindOf y.1=some .cell∨X.env.kindOf y.1=some .free):=λy hy=>by
  have:=Zaa.mp h3 y hy
  obtain⟨y,k⟩:=y
  cases k with
  | cell=>exact⟨λ_=>(by rw[← Qa8];simpa using this),λz=>(by cases z),λz=>(by cases z)⟩
  | «local» =>exact⟨λz=>(by cases z),λ_=>by rw[← Qa8];simpa using this,λz=>by cases z⟩
  | free=>
   refine⟨λz=>(by cases z),λz=>(by cases z),λ_=>?_⟩
   dsimp only at this
   split at this
   ·rename_i q;exact .inl (ok.ce _ q).1
   ·rename_i q;exact ok.fe _ q
   ·cases this
  | _=>exact⟨λz=>(by cases z),λz=>(by cases z),λz=>(by cases z)⟩
 have S:QdC X (inner Θ scope).N scope:=⟨hk,λy hy=>(each y hy).1,λy hy=>(each y hy).2.1,λy hy=>(each y hy).2.2⟩
 refine⟨S,⟨by unfold QgI;simp,λj i e=>?_,λj i e hj=>?_⟩,λcl C fp s3 H3=>⟨⟨rfl,h2,λx e=>?_,λx e=>?_,λx e=>?_,λx e=>?_,ok.units,ok.mg,ok.cs⟩,ok.calm,PassesOwn.never,ok.fns,λ_ _ e=>nomatch e⟩⟩
 ·unfold QgI at e
  rw[Zm]at e
  cases q:(inner Θ scope).N[j]? with
  | none=>rw[q]at e;cases e
  | some x=>
   rw[q]at e
   simp only[ZO,Option.some.injEq]at e
   split at e
   ·rename_i hf
    cases hl:look x scope.names with
    | none=>rw[hl]at hf;cases hf
    | some k=>
     rw[hl]at hf
     cases k with
     | free=>
      rw[Qa8]at hl
      exact⟨x,rfl,hl,by rw[ok.N];exact QeG e,(each (x,.free) (Zaj hl)).2.2 rfl⟩
     | _=>cases hf
   ·cases e
 ·have:=Zaa.mp h4 j hj
  rw[e]at this
  cases this
 ·have e':scope.names.lookup x=some .local :=by rw[← Qa8];exact e
  exact lookup_relabel_local e'
 ·have e':scope.names.lookup x=some .cell:=by rw[← Qa8];exact e
  exact⟨Qdj e',decide_eq_true e'⟩
 ·have e':scope.names.lookup x=some .free:=by rw[← Qa8];exact e
  exact Qcq e'
 ·have e':scope.names.lookup x=some .globalImplicit:=by rw[← Qa8];exact e
  show(relabel scope X.env).names.lookup x=some .globalImplicit
  unfold relabel
  have gen:∀{names:List (Str×NameKind)},names.lookup x=some .globalImplicit→
    (names.map λ(n,k)=>if(k == NameKind.free && X.env.scope.kind == .function && X.env.kindOf n == some .cell)then(n,NameKind.cell)else(n,k)).lookup x=some .globalImplicit:=by
   intro names
   induction names with
   | nil=>intro z;simp at z
   | cons y r ih=>
    intro z
    obtain⟨n,k⟩:=y
    rw[Zx]
    cases hx:x == n with
    | true=>
     simp only[ZC,hx]at z
     cases z
     simp[ZC,hx]
    | false=>
     simp only[ZC,hx]at z
     dsimp only
     split<;>(simp only[ZC,hx];exact ih z)
  exact gen e'
theorem QgM(ok:Qah X Θ)(h:Qec Θ tg=some t):SG X tg t:=by
 have hN:X.N.Nodup:=by rw[ok.N];exact ok.nd
 cases tg with
 | Name x pos=>
  change Option.map _ _=_ at h
  refine mapR h λi hi=>?_
  obtain⟨h1,h2,h3⟩:=QcX ok.toCtxB hi
  exact Qsv (QmO hN h1 h2 h3)
 | Tuple es k pos=>
  change Option.map _ _=_ at h
  refine mapR h λis hi=>?_
  refine Qf hi λxs h1 h2=>?_
  have key:∀(es:List Expr) (xs:List Str) (is:List Nat),es.mapM Qpy=some xs->xs.mapM Θ.QbX=some is->PGs X es (QhZ is)/\(assignEach es X.env).length=is.length/\(assignEach es X.env).findIdx? (·.1)=none:=by
   intro es
   induction es with
   | nil=>
    intro xs is h1 h2
    cases h1
    cases h2
    exact⟨QsR,rfl,rfl⟩
   | cons e es ih=>
    intro xs is h1 h2
    rw[List.mapM_cons]at h1
    refine Qf h1 λx hx h1=>?_
    refine Qf h1 λys hy h1=>?_
    cases h1
    rw[List.mapM_cons]at h2
    refine Qf h2 λi hi h2=>?_
    refine Qf h2 λjs hj h2=>?_
    cases h2
    obtain⟨a1,a2,a3⟩:=ih ys js hy hj
    cases e with
    | Name y p=>
     cases hx
     obtain⟨g1,g2,g3⟩:=QcX ok.toCtxB hi
     refine⟨Qqv (QmO hN g1 g2 g3) a1 rfl,?_,?_⟩
     ·show(assignEach es X.env).length+1=_
      rw[a2];rfl
     ·show List.findIdx? (·.1) ((false,assign (.Name x p) X.env)::assignEach es X.env)=none
      rw[List.findIdx?_cons]
      simp only[a3];rfl
    | _=>cases hx
  obtain⟨a1,a2,a3⟩:=key es xs is h1 h2
  exact QuO ok.calm a1 a2 a3
 | _=>exact nomatch (show(none:Option Tg)=some _ from h)
theorem Qn0{f:Int->Int->Bool}:∀a b d,gI (λi j=>some (.bl (f i j))) a b=some d->∃k,d= .bl k:=λa b d h=>by
 obtain⟨i,j,_,_,e⟩:=QoO h
 cases e
 exact⟨_,rfl⟩
theorem Qo9(ok:Qah X Θ)(h:Qnf op=some g):∃r,OpR X (compareOp op) r/\Qbt X.K g r/\∀a b d,g a b=some d->∃k,d= .bl k:=by
 cases op<;>cases h
 ·exact⟨_,Qu9 ok.units,QwN,λa b d h=>by unfold gEq at h;split at h<;>cases h;exact⟨_,rfl⟩⟩
 ·exact⟨_,QuV ok.units,QwE,λa b d h=>by unfold gNe at h;split at h<;>cases h;exact⟨_,rfl⟩⟩
 ·exact⟨_,Qwb,Qwg,Qn0⟩
 ·exact⟨_,QwB,Qv9,Qn0⟩
 ·exact⟨_,QwO,Qv4,Qn0⟩
 ·exact⟨_,QwS,Qwu,Qn0⟩
 ·exact⟨_,Qvs.or QuL,QuA,Qm5⟩
 ·exact⟨_,QsB.or Qtf,Qor,Qm5⟩
 ·exact⟨_,QvH ok.units,QrT,λa b d h=>by unfold gIn at h;split at h<;>first | (split at h<;>cases h;exact⟨_,rfl⟩) | cases h⟩
 ·exact⟨_,Qoy ok.units,QrT,λa b d h=>by unfold gIn at h;split at h<;>first | (split at h<;>cases h;exact⟨_,rfl⟩) | cases h⟩
structure Qh6 (n:Nat):Prop where
 E:∀X Θ e f,Qah X Θ->Ql n Θ e=some f->SE X e f
 B:∀X Θ x args f p pos,Qah X Θ->Θ.gl x=true->Qkf n Θ x args=some f->SE X (.Call (.Name x p) args [] pos) f
 T:∀X Θ e f,Qah X Θ->QaV n Θ e=some f->ST X e f
 Ts:∀X Θ e f,Qah X Θ->Qe7 n Θ e=some f->QkT X e f
 A:∀X Θ e f,Qah X Θ->Qby n Θ e=some f->SA X e f
 O:∀X Θ e f,Qah X Θ->QhD n Θ e=some f->SO X e f
 I:∀X Θ tg e f,Qah X Θ->QeD n Θ tg e=some f->SI X tg e f/\∀x,foldedSetIterable e X.env x=pure x
theorem callArgs{X:Cx}{n:Nat}{Θ:Th}{es:List Expr}{fs:DA}(h:Qby n Θ es=some fs){e:Expr}{es':List Expr}(he:es=e::es')(pos:Pos):starEach (e::es') X.env=(false,eval e X.env)::starEach es' X.env/\(backTo pos (starEach es' X.env)).any (·.1)=false:=by
 subst he
 cases n with
 | zero=>simp[Qby]at h
 | succ n=>
  simp only[Qby]at h
  obtain⟨fa,fs',h1,h2,_⟩:=QaN h
  exact⟨Qak h1 es' X.env,Qmn h2 pos X.env⟩
theorem Qv5(ih:Qh6 n):∀X Θ e f,Qah X Θ->Ql (n+1) Θ e=some f->SE X e f:=by
  intro X Θ e f ok h
  cases e with
  | Name x pos=>
    (conv at h=>lhs;whnf)
    cases q:Θ.slot x with
    | some i=>rw[q]at h;cases h;exact Qly (Qc0 ok.toCtxB q)
    | none=>
      rw[q]at h
      dsimp only at h
      split at h
      · rename_i hg
        refine mapR h λi hi=>?_
        obtain⟨g1,g2,g3⟩:=QeH ok.toCtxB hg
        obtain⟨t,hm⟩:=ok.cs x i hi
        exact QlT (v:= .int i) (QsY g1 hm ⟨t,rfl⟩ g2) (λ_ _=> .int_mk) rfl
      · cases h
  | Constant c k pos=>
    cases c with
    | int i=>(conv at h=>lhs;whnf);cases h;exact QlT Qu7 (λ_ _=> .int_mk) rfl
    | bool b=>(conv at h=>lhs;whnf);cases h;exact QlT Qws (λ_ _=> .Qbn) rfl
    | none=>(conv at h=>lhs;whnf);cases h;exact QlT QuK (λ_ _=> .Qko) rfl
    | str x=>(conv at h=>lhs;whnf);cases h;exact QlT Qt4 (λ_ _=> .str_mk) rfl
    | _=>exact nomatch (show(none:Option DE)=some _ from h)
  | BinOp a op b pos=>
    (conv at h=>lhs;whnf)
    refine Qf h λfa h1 h=>?_
    refine Qf h λfb h2 h=>?_
    have ha:=ih.E X Θ a fa ok h1
    have hb:=ih.E X Θ b fb ok h2
    cases op with
    | Add=>cases h;exact Qu1 ha hb
    | Mult=>cases h;exact Qvu ha hb
    | Sub=>cases h;exact Qhx Qvi Qpk ha hb
    | FloorDiv=>cases h;exact Qhx Qsz Qur ha hb
    | Mod=>cases h;exact Qhx QtU QvO ha hb
    | Pow=>cases h;exact Qhx Qsu QvU ha hb
    | RShift=>cases h;exact Qhx QvG Qt8 ha hb
    | _=>cases h
  | UnaryOp op a pos=>
    cases op with
    | USub=>
      (conv at h=>lhs;whnf)
      refine mapR h λfa h1=>?_
      exact Qus (ih.E X Θ a fa ok h1)
    | Not=>
      (conv at h=>lhs;whnf)
      refine mapR h λfa h1=>?_
      exact Qvd (ih.E X Θ a fa ok h1)
    | _=>exact nomatch (show(none:Option DE)=some _ from h)
  | BoolOp op es pos=>
    cases op with
    | And=>
      match es,h with
      | [],h=>exact nomatch (show(none:Option DE)=some _ from h)
      | [a],h=>(conv at h=>lhs;whnf);exact QoK (ih.E X Θ a f ok h)
      | a::b::r,h=>
        (conv at h=>lhs;whnf)
        refine bindR h λfa fb h1 h2=>?_
        exact Quu (ih.E X Θ a fa ok h1) (ih.E X Θ _ fb ok h2)
    | Or=>
      match es,h with
      | [],h=>exact nomatch (show(none:Option DE)=some _ from h)
      | [a],h=>(conv at h=>lhs;whnf);exact QoK (ih.E X Θ a f ok h)
      | a::b::r,h=>
        (conv at h=>lhs;whnf)
        refine bindR h λfa fb h1 h2=>?_
        exact QvX (ih.E X Θ a fa ok h1) (ih.E X Θ _ fb ok h2)
  | Compare a ops bs pos=>
    match ops,bs,h with
    | [op],[b],h=>
      (conv at h=>lhs;whnf)
      refine Qf h λfa h1 h=>?_
      refine bindR h λfb g h2 h3=>?_
      obtain⟨r,o1,o2,_⟩:=Qo9 ok h3
      exact Qvv o1 o2 (ih.E X Θ a fa ok h1) (ih.E X Θ b fb ok h2) (Qn4 h2 op)
    | [],_,h=>exact nomatch (show(none:Option DE)=some _ from h)
    | [_],[],h=>exact nomatch (show(none:Option DE)=some _ from h)
    | [_],_::_::_,h=>exact nomatch (show(none:Option DE)=some _ from h)
    | _::_::_,_,h=>exact nomatch (show(none:Option DE)=some _ from h)
  | Tuple es k pos=>
    (conv at h=>lhs;whnf)
    refine mapR h λfs h1=>?_
    exact QuP (ih.A X Θ es fs ok h1)
  | List es pos=>
    (conv at h=>lhs;whnf)
    refine mapR h λfs h1=>?_
    exact QoP (ih.A X Θ es fs ok h1)
  | Subscript a b pos=>
    by_cases hb:∃lo hi p2,b= .Slice lo hi none p2
    · obtain⟨lo,hi,p2,rfl⟩:=hb
      (conv at h=>lhs;whnf)
      refine Qf h λfa h1 h=>?_
      refine bindR h λfl fh h2 h3=>?_
      exact QuY (ih.E X Θ a fa ok h1) (ih.O X Θ lo fl ok h2) (ih.O X Θ hi fh ok h3)
    · have h':((Ql n Θ a).bind λfa=>(Ql n Θ b).map λfb=>Qi fa fb)=some f:=by
        cases b<;>first
          | (exact h)
          | (rename_i lo hi st p2;cases lo<;>cases hi<;>cases st<;>first | (exact absurd ⟨_,_,_,rfl⟩ hb) | (exact h))
      refine bindR h' λfa fb h1 h2=>?_
      exact Quh (ih.E X Θ a fa ok h1) (ih.E X Θ b fb ok h2) (QmM h2)
  | Call fn args kws pos=>
    cases fn with
    | Name x p=>
     cases kws with
     | cons k ks=>exact nomatch (show(none:Option DE)=some _ from h)
     | nil=>
      have h:(if Θ.gl x then(match look x Θ.Γ with | some r=>if r.n<=args.length+r.dfl.length/\args.length<=r.n then(Qby n Θ args).map λfs=>QB r.n r.den (r.dfl.drop (r.dfl.length-(r.n-args.length))) fs else none | none=>Qkf n Θ x args)else none)=some f:=h
      split at h
      · rename_i hg
        obtain⟨g1,g2,g3⟩:=QeH ok.toCtxB hg
        split at h
        · rename_i r hr
          split at h
          · rename_i hn
            refine mapR h λfs h1=>?_
            obtain⟨k,fa,fd,ps,F1,F2,F3,F4,F5⟩:=ok.fns x r hr
            obtain⟨ds,dvs,b1,b2,b3⟩:=F5 (r.n-args.length) (by omega)
            cases args with
            | nil=>
              cases n with
              | zero=>simp[Qby]at h1
              | succ n=>
                simp only[Qby]at h1
                cases h1
                exact QqY F1 F2 g1 F3 F4 b1 b2 b3 g2
            | cons e es=>
              obtain⟨s1,s2⟩:=callArgs (X:=X) h1 rfl pos
              exact QtG F1 F2 g1 F3 F4 b1 b2 b3 (ih.A X Θ _ fs ok h1) g2 s1 s2
          · cases h
        · exact ih.B X Θ x args f p pos ok hg h
      · cases h
    | Attribute o m apos=>
      cases o with
      | Name x p=>
        cases args with
        | nil=>
          cases kws with
          | nil=>
            have h:(if m= "bit_length" /\(apos.endLine == pos.line)=true then(Ql n Θ (.Name x p)).map Qkg else none)=some f:=h
            split at h
            · rename_i hc
              refine mapR h λfa h1=>?_
              obtain⟨rfl,hl⟩:=hc
              exact QsU (ih.E X Θ _ fa ok h1) rfl hl
            · cases h
          | cons _ _=>exact nomatch (show(none:Option DE)=some _ from h)
        | cons _ _=>exact nomatch (show(none:Option DE)=some _ from h)
      | _=>exact nomatch (show(none:Option DE)=some _ from h)
    | _=>exact nomatch (show(none:Option DE)=some _ from h)
  | ListComp elt gens scope pos=>
    match gens,h with
    | [⟨tg,iter,ifs,k⟩],h=>
      by_cases hk:k=0
      · subst hk
        (conv at h=>lhs;whnf)
        refine Qf h λt ht h=>?_
        split at h
        · rename_i hc
          simp only[Zk]at hc
          refine Qf h λfi h1 h=>?_
          refine bindR h λft fe h2 h3=>?_
          obtain⟨S,cap,inn⟩:=Qkz ok hc.1
          obtain⟨i1,i2⟩:=ih.I X Θ tg iter fi ok h1
          exact QsV ok.calm S i1 cap (λcl C fp s3 H3=>⟨QgM (inn cl C fp s3 H3) ht,ih.Ts _ _ ifs ft (inn cl C fp s3 H3) h2,ih.E _ _ elt fe (inn cl C fp s3 H3) h3⟩) i2
        · cases h
      · exfalso
        cases k with
        | ofNat k=>
          cases k with
          | zero=>exact hk rfl
          | succ k=>exact nomatch (show(none:Option DE)=some _ from h)
        | negSucc k=>exact nomatch (show(none:Option DE)=some _ from h)
    | [],h=>exact nomatch (show(none:Option DE)=some _ from h)
    | ⟨_,_,_,.ofNat 0⟩::_::_,h=>exact nomatch (show(none:Option DE)=some _ from h)
    | ⟨_,_,_,.ofNat (k+1)⟩::_::_,h=>exact nomatch (show(none:Option DE)=some _ from h)
    | ⟨_,_,_,.negSucc k⟩::_::_,h=>exact nomatch (show(none:Option DE)=some _ from h)
  | _=>exact nomatch (show(none:Option DE)=some _ from h)
theorem QvD(ok:Qah X Θ)(g1:Gl X x)(sa:SA X [a] (Qb fa Qg))(st:starEach [a] X.env=(false,eval a X.env)::starEach [] X.env)(h:bf1 x fa=some f):SE X (.Call (.Name x p) [a] [] pos) f:=by
 unfold bf1 at h
 by_cases e:x= "len"
 ·rw[if_pos e]at h;cases h;subst e;have hm:=ok.mg "len" (by decide+kernel)
  exact QfE Qk8 Quy g1 hm PySem.boot_len sa (by decide) (by decide) st rfl
 rw[if_neg e]at h;clear e
 by_cases e:x= "list"
 ·rw[if_pos e]at h;cases h;subst e;have hm:=ok.mg "list" (by decide+kernel)
  exact QsW g1 hm sa st rfl
 rw[if_neg e]at h;clear e
 by_cases e:x= "min"
 ·rw[if_pos e]at h;cases h;subst e;have hm:=ok.mg "min" (by decide+kernel)
  exact QfE (QoG ok.calm) Qsh g1 hm PyProof.Rows.boot_min sa (by decide) (by decide) st rfl
 rw[if_neg e]at h;clear e
 by_cases e:x= "max"
 ·rw[if_pos e]at h;cases h;subst e;have hm:=ok.mg "max" (by decide+kernel)
  exact QfE (Qog ok.calm) QtV g1 hm PyProof.Rows.boot_max sa (by decide) (by decide) st rfl
 rw[if_neg e]at h;clear e
 by_cases e:x= "sum"
 ·rw[if_pos e]at h;cases h;subst e;have hm:=ok.mg "sum" (by decide+kernel)
  exact QfE (Qpb ok.calm) Qtp g1 hm PyProof.Rows.boot_sum sa (by decide) (by decide) st rfl
 rw[if_neg e]at h;clear e
 by_cases e:x= "sorted"
 ·rw[if_pos e]at h;cases h;subst e;have hm:=ok.mg "sorted" (by decide+kernel)
  exact Qs9 g1 hm sa st rfl
 rw[if_neg e]at h;clear e
 by_cases e:x= "all"
 ·rw[if_pos e]at h;cases h;subst e;have hm:=ok.mg "all" (by decide+kernel)
  exact QfE (QoW ok.calm) Qr5 g1 hm PyProof.Rows.boot_all sa (by decide) (by decide) st rfl
 rw[if_neg e]at h;clear e
 by_cases e:x= "any"
 ·rw[if_pos e]at h;cases h;subst e;have hm:=ok.mg "any" (by decide+kernel)
  exact QfE (Qoj ok.calm) QsN g1 hm PyProof.Rows.boot_any sa (by decide) (by decide) st rfl
 rw[if_neg e]at h;clear e
 cases h
theorem Qvc(ok:Qah X Θ)(g1:Gl X x)(sa:SA X [a,b] (Qb fa (Qb fb Qg)))(st:starEach [a,b] X.env=(false,eval a X.env)::starEach [b] X.env)(pl:(backTo pos (starEach [b] X.env)).any (·.1)=false)(h:bf2 x fa fb=some f):SE X (.Call (.Name x p) [a,b] [] pos) f:=by
 unfold bf2 at h
 by_cases e:x= "min"
 ·rw[if_pos e]at h;cases h;subst e;have hm:=ok.mg "min" (by decide+kernel)
  exact QfE (Qo2 ok.calm) Qs8 g1 hm PyProof.Rows.boot_min sa (by decide) (by decide) st pl
 rw[if_neg e]at h;clear e
 by_cases e:x= "divmod"
 ·rw[if_pos e]at h;cases h;subst e;have hm:=ok.mg "divmod" (by decide+kernel)
  exact Qv8 (x:= "divmod") g1 hm sa st pl
 rw[if_neg e]at h;clear e
 cases h
theorem Qv1(ih:Qh6 n):∀X Θ x args f p pos,Qah X Θ->Θ.gl x=true->Qkf (n+1) Θ x args=some f->SE X (.Call (.Name x p) args [] pos) f:=by
 intro X Θ x args f p pos ok hg h
 obtain⟨g1,g2,g3⟩:=QeH ok.toCtxB hg
 match args,h with
 | [],h=>exact nomatch (show(none:Option DE)=some _ from h)
 | [a],h=>
  change(match Qho Θ x a with | some b=>(Ql n Θ b).map QfG | none=>_)=some f at h
  split at h
  ·rename_i b hr
   refine mapR h λfb h1=>?_
   unfold Qho at hr
   split at hr
   ·rename_i y p' b' pos'
    split at hr
    ·rename_i hc
     cases hr
     obtain⟨c1,c2,c3,_⟩:=hc
     subst c1
     subst c2
     obtain⟨y1,y2,y3⟩:=QeH ok.toCtxB c3
     exact Qr9 g1 (ok.mg _ (by decide+kernel)) y1 (ok.mg _ (by decide+kernel)) ok.calm (ih.E X Θ b fb ok h1) (Qak h1 [] X.env)
    ·cases hr
   ·cases hr
  change(match setArg Θ x a with | some b=>(Ql n Θ b).map Qgv | none=>_)=some f at h
  split at h
  ·rename_i b hr
   refine mapR h λfb h1=>?_
   unfold setArg at hr
   split at hr
   ·rename_i y p' b' pos'
    split at hr
    ·rename_i hc
     cases hr
     obtain⟨c1,c2,c3,_⟩:=hc
     subst c1
     subst c2
     obtain⟨y1,y2,y3⟩:=QeH ok.toCtxB c3
     exact Qst g1 (ok.mg _ (by decide+kernel)) y1 (ok.mg _ (by decide+kernel)) ok.calm (ih.E X Θ b fb ok h1) (Qak h1 [] X.env)
    ·cases hr
   ·cases hr
  change((Ql n Θ a).bind λfa=>bf1 x fa)=some f at h
  refine Qf h λfa h1 h=>?_
  have ha:=ih.E X Θ a fa ok h1
  have st:=Qak h1 [] X.env
  exact QvD ok g1 (Qfb ha QhN st) st h
 | [a,b],h=>
  change(if x= "isinstance" then(Ql n Θ a).bind λfa=>(match b with | .Name y _=>if Θ.gl y then(QqV y).map λT=>Qip T fa else none | _=>none)else(Ql n Θ a).bind λfa=>(Ql n Θ b).bind λfb=>bf2 x fa fb)=some f at h
  split at h
  ·rename_i e
   refine Qf h λfa h1 h=>?_
   have ha:=ih.E X Θ a fa ok h1
   split at h
   ·rename_i y p2
    split at h
    ·rename_i hy
     refine mapR h λT hT=>?_
     obtain⟨y1,y2,y3⟩:=QeH ok.toCtxB hy
     clear h
     subst e
     refine QuR g1 (ok.mg _ (by decide+kernel)) ha ?_ (Qak h1 _ X.env)
     unfold QqV at hT
     split at hT
     ·rename_i e;cases hT;subst e
      exact Qfg y1 (ok.mg _ (by decide+kernel)) PyProof.Rows.boot_int rfl
     ·split at hT
      ·rename_i e;cases hT;subst e
       exact Qfg y1 (ok.mg _ (by decide+kernel)) PyProof.Rows.boot_bool rfl
      ·split at hT
       ·rename_i e;cases hT;subst e
        exact Qfg y1 (ok.mg _ (by decide+kernel)) Zbk rfl
       ·split at hT
        ·rename_i e;cases hT;subst e
         exact Qfg y1 (ok.mg _ (by decide+kernel)) PyProof.Rows.boot_tuple rfl
        ·split at hT
         ·rename_i e;cases hT;subst e
          exact Qfg y1 (ok.mg _ (by decide+kernel)) PyProof.Rows.boot_str rfl
         ·cases hT
    ·cases h
   ·cases h
  ·refine Qf h λfa h1 h=>?_
   refine Qf h λfb h2 h=>?_
   have ha:=ih.E X Θ a fa ok h1
   have hb:=ih.E X Θ b fb ok h2
   have sb:SA X [b] (Qb fb Qg):=Qfb hb QhN (Qak h2 [] X.env)
   have sa:SA X [a,b] (Qb fa (Qb fb Qg)):=Qfb ha sb (Qak h1 [b] X.env)
   have pl:(backTo pos (starEach [b] X.env)).any (·.1)=false:=by rw[Qak h2 [] X.env];rfl
   exact Qvc ok g1 sa (Qak h1 [b] X.env) pl h
 | _::_::_::_,h=>exact nomatch (show(none:Option DE)=some _ from h)
theorem Qwj{n:Nat}(ih:Qh6 n):∀X Θ e f,Qah X Θ->QaV (n+1) Θ e=some f->ST X e f:=by
 intro X Θ e f ok h
 have dflt:(Ql n Θ e).map QA=some f->(∀whole,isTrue e X.env whole=(do let v ← whole;standAt e.pos;holding [v] (truthy v)))->ST X e f:=λh he=>by
  refine mapR h λfa h1=>?_
  exact Qu3 (ih.E X Θ e fa ok h1) he
 cases e with
 | UnaryOp op a pos=>
  cases op with
  | Not=>
   change(QaV n Θ a).map Qdg=some f at h
   refine mapR h λfa h1=>?_
   exact Qt9 (ih.T X Θ a fa ok h1)
  | _=>exact dflt h λ_=>rfl
 | BoolOp op es pos=>
  cases op with
  | And=>
   match es,h with
   | [],h=>exact nomatch (show(none:Option DT)=some _ from h)
   | [a],h=>exact(Qs1 (ih.T X Θ a f ok h)).st
   | a::b::r,h=>
    change((QaV n Θ a).bind λfa=>(QaV n Θ (.BoolOp .And (b::r) pos)).map λfb=>QfJ fa fb)=some f at h
    refine bindR h λfa fb h1 h2=>?_
    have hb:=ih.T X Θ _ fb ok h2
    exact(Quz (ih.T X Θ a fa ok h1) (λH0 A0 wh pins s σ H Q I q=>by have:=hb H0 A0 pins s σ H Q I q;exact this)).st
  | Or=>
   match es,h with
   | [],h=>exact nomatch (show(none:Option DT)=some _ from h)
   | [a],h=>exact(Qum (ih.T X Θ a f ok h)).st
   | a::b::r,h=>
    change((QaV n Θ a).bind λfa=>(QaV n Θ (.BoolOp .Or (b::r) pos)).map λfb=>bOr fa fb)=some f at h
    refine bindR h λfa fb h1 h2=>?_
    have hb:=ih.T X Θ _ fb ok h2
    exact(QwQ (ih.T X Θ a fa ok h1) (λH0 A0 wh pins s σ H Q I q=>by have:=hb H0 A0 pins s σ H Q I q;exact this)).st
 | Compare a ops bs pos=>
  match ops,bs,h with
  | [op],[b],h=>
   change((Ql n Θ a).bind λfa=>(Ql n Θ b).bind λfb=>(Qnf op).map λg=>QA (dOp g fa fb))=some f at h
   refine Qf h λfa h1 h=>?_
   refine bindR h λfb g h2 h3=>?_
   obtain⟨r,o1,o2,o3⟩:=Qo9 ok h3
   exact Qui o1 o2 o3 (ih.E X Θ a fa ok h1) (ih.E X Θ b fb ok h2) (Qn4 h2 op)
  | [],_,h=>exact nomatch (show(none:Option DT)=some _ from h)
  | [_],[],h=>exact nomatch (show(none:Option DT)=some _ from h)
  | [_],_::_::_,h=>exact nomatch (show(none:Option DT)=some _ from h)
  | _::_::_,_,h=>exact nomatch (show(none:Option DT)=some _ from h)
 | IfExp c a b pos=>exact nomatch (show(none:Option DT)=some _ from h)
 | _=>exact dflt h λ_=>rfl
theorem QwP(ih:Qh6 n):∀X Θ tg e f,Qah X Θ->QeD (n+1) Θ tg e=some f->SI X tg e f/\∀x,foldedSetIterable e X.env x=pure x:=by
 intro X Θ tg e f ok h
 have dflt:(Ql n Θ e).map Q7=some f->SI X tg e f/\∀x,foldedSetIterable e X.env x=pure x:=λh=>by
  obtain⟨fa,h1,rfl⟩:=Ze.mp h
  exact⟨Qvb (ih.E X Θ e fa ok h1),QuZ h1 X.env⟩
 cases e with
 | Call fn args kws pos=>
  cases fn with
  | Name x p=>
   cases kws with
   | cons k ks=>exact dflt h
   | nil=>
    change @ite _ _ _ _ _=_ at h
    split at h
    ·rename_i hg
     simp only[Zk]at hg
     obtain⟨g1,g2,g3⟩:=QeH ok.toCtxB hg.1
     match args,h with
     | [],h=>exact dflt h
     | [a],h=>
      dsimp only at h
      by_cases er:x= "range"
      ·rw[if_pos er]at h
       obtain⟨fa,h1,rfl⟩:=Ze.mp h
       subst er
       exact⟨QoI g1 (ok.mg _ (by decide+kernel)) (ih.E X Θ a fa ok h1) (Qak h1 [] X.env),λ_=>rfl⟩
      rw[if_neg er]at h
      by_cases ez:x= "enumerate"
      ·rw[if_pos ez]at h
       split at h
       ·rename_i ht
        obtain⟨fa,h1,rfl⟩:=Ze.mp h
        subst ez
        cases tg with
        | Tuple es k tp=>exact⟨QtX g1 (ok.mg _ (by decide+kernel)) (ih.E X Θ a fa ok h1) (Qak h1 [] X.env),λ_=>rfl⟩
        | _=>exact nomatch (show false=true from ht)
       ·cases h
      rw[if_neg ez]at h
      exact dflt h
     | [a,b],h=>
      dsimp only at h
      by_cases er:x= "range"
      ·rw[if_pos er]at h
       obtain⟨fa,fb,h1,h2,rfl⟩:=QaN h
       subst er
       exact⟨QoM g1 (ok.mg _ (by decide+kernel)) (ih.E X Θ a fa ok h1) (ih.E X Θ b fb ok h2) (by rw[Qak h1 [b] X.env,Qak h2 [] X.env];rfl) (Qak h2 [] X.env),λ_=>rfl⟩
      rw[if_neg er]at h
      by_cases ez:x= "zip"
      ·rw[if_pos ez]at h
       split at h
       ·rename_i ht
        obtain⟨fa,fb,h1,h2,rfl⟩:=QaN h
        subst ez
        cases tg with
        | Tuple es k tp=>exact⟨Quw g1 (ok.mg _ (by decide+kernel)) (ih.E X Θ a fa ok h1) (ih.E X Θ b fb ok h2) (by rw[Qak h1 [b] X.env,Qak h2 [] X.env];rfl) (Qak h2 [] X.env),λ_=>rfl⟩
        | _=>exact nomatch (show false=true from ht)
       ·cases h
      rw[if_neg ez]at h
      exact dflt h
     | [a,b,c],h=>
      dsimp only at h
      by_cases er:x= "range"
      ·rw[if_pos er]at h
       refine Qf h λfa h1 h=>?_
       obtain⟨fb,fc,h2,h3,rfl⟩:=QaN h
       subst er
       exact⟨Qou g1 (ok.mg _ (by decide+kernel)) (ih.E X Θ a fa ok h1) (ih.E X Θ b fb ok h2) (ih.E X Θ c fc ok h3) (Qak h1 [b,c] X.env) (Qak h2 [c] X.env) (Qak h3 [] X.env),λ_=>rfl⟩
      rw[if_neg er]at h
      exact dflt h
     | _::_::_::_::_,h=>exact dflt h
    ·exact dflt h
  | _=>exact dflt h
 | _=>exact dflt h
theorem QbN:∀n,Qh6 n
 | 0=>⟨λ_ _ _ _ _ h=>(nomatch (show(none:Option DE)=some _ from h)),λ_ _ _ _ _ _ _ _ _ h=>(nomatch (show(none:Option _)=some _ from h)),λ_ _ _ _ _ h=>(nomatch (show(none:Option _)=some _ from h)),λ_ _ _ _ _ h=>(nomatch (show(none:Option _)=some _ from h)),λ_ _ _ _ _ h=>(nomatch (show(none:Option _)=some _ from h)),λ_ _ _ _ _ h=>(nomatch (show(none:Option _)=some _ from h)),λ_ _ _ _ _ _ h=>(nomatch (show(none:Option _)=some _ from h))⟩
 | n+1=>by
  have ih:=QbN n
  refine⟨Qv5 ih,Qv1 ih,Qwj ih,λX Θ e f ok h=>?_,λX Θ e f ok h=>?_,λX Θ e f ok h=>?_,QwP ih⟩
  ·match e,h with
   | [],h=>simp only[Qe7]at h;cases h;exact Qrs
   | [c],h=>simp only[Qe7]at h;exact QqP (ih.T X Θ c f ok h)
   | _::_::_,h=>simp only[Qe7]at h;cases h
  ·match e,h with
   | [],h=>simp only[Qby]at h;cases h;exact QhN
   | e::es,h=>
    simp only[Qby]at h
    refine bindR h λfa fs h1 h2=>?_
    exact Qfb (ih.E X Θ e fa ok h1) (ih.A X Θ es fs ok h2) (Qak h1 es X.env)
  ·match e,h with
   | none,h=>simp only[QhD]at h;cases h;exact Qse
   | some e,h=>
    simp only[QhD]at h
    refine mapR h λfa h1=>?_
    exact QrX (ih.E X Θ e fa ok h1)
section
noncomputable def QH:DS:=λ_=>none
theorem Qqu:S1 X st QH:=λH0 A0=>Qp5.mono λE σ H ⟨ρ,hs,F,o,rel,e,q⟩=>by cases e
theorem Qfp:∀{n:Nat}{ρ:En}{o:Out},QaL g fb n ρ=some o->QaL g fb (n+1) ρ=some o
 | 0,_,_,h=>by cases h
 | n+1,ρ,o,h=>by
  unfold QaL at h ⊢
  refine Qf h λb hb h=>?_
  rw[hb]
  cases b with
  | false=>exact h
  | true=>
   rw[if_pos rfl]at h
   refine Qf h λo1 ho h=>?_
   rw[Za,if_pos rfl,ho]
   cases o1 with
   | nx ρ2=>exact Qfp h
   | ct ρ2=>exact Qfp h
   | bk ρ2=>exact h
   | rt d fr=>exact h
theorem Qk6(h:QaL g fb n ρ=some o)(hm:n<=m):QaL g fb m ρ=some o:=by
 induction hm with
 | refl=>exact h
 | step _ ih=>exact Qfp ih
open Classical in
noncomputable def QcN(g:DT)(fb:DS):DS:=λρ=>if h:∃n,(QaL g fb n ρ).isSome=true then QaL g fb h.choose ρ else none
theorem QcG:QcN g fb ρ=some o↔∃n,QaL g fb n ρ=some o:=by
 unfold QcN
 constructor
 ·intro h
  split at h
  ·exact⟨_,h⟩
  ·cases h
 ·rintro⟨n,h⟩
  have hx:∃n,(QaL g fb n ρ).isSome=true:=⟨n,by rw[h];rfl⟩
  rw[dif_pos hx]
  obtain⟨o',ho'⟩:=ZbS.mp hx.choose_spec
  have h1:=Qk6 h (Nat.le_max_left n hx.choose)
  have h2:=Qk6 ho' (Nat.le_max_right n hx.choose)
  rw[h1]at h2
  rw[ho',← h2]
theorem QoE(hp:PassesOwn (model X.prog X.w) X.A X.env X.xe)(hc:ST X c gc)(hb:SS X body f):S1 X (.While c body [] pos) (QcN gc f):=λH0 A0 pins s σ H D I h=>by
 obtain⟨ρ,hs,F,o,rel,e,q⟩:=h
 obtain⟨n,hn⟩:=QcG.mp e
 exact Qrf (n:=n) hp hc hb H0 A0 pins s σ H D I ⟨ρ,hs,F,o,rel,hn,q⟩
theorem Qoz(g:DT)(fb:DS)(ρ:En):QcN g fb ρ=(g ρ).bind λb=>if b=true then(fb ρ).bind λo=>match o with
  | .nx ρ2=>QcN g fb ρ2
  | .ct ρ2=>QcN g fb ρ2
  | .bk ρ2=>some (.nx ρ2)
  | .rt d fr=>some (.rt d fr)
  else some (.nx ρ):=by
 apply Option.ext
 intro o
 rw[QcG]
 constructor
 ·rintro⟨n,h⟩
  cases n with
  | zero=>cases h
  | succ n=>
   unfold QaL at h
   refine Qf h λb hb h=>?_
   rw[hb]
   cases b with
   | false=>exact h
   | true=>
    rw[if_pos rfl]at h
    refine Qf h λo1 ho h=>?_
    rw[Za,if_pos rfl,ho]
    cases o1 with
    | nx ρ2=>exact QcG.mpr ⟨n,h⟩
    | ct ρ2=>exact QcG.mpr ⟨n,h⟩
    | bk ρ2=>exact h
    | rt d fr=>exact h
 ·intro h
  refine Qf h λb hb h=>?_
  cases b with
  | false=>exact⟨1,by unfold QaL;rw[hb];exact h⟩
  | true=>
   rw[if_pos rfl]at h
   refine Qf h λo1 ho h=>?_
   cases o1 with
   | nx ρ2=>
    obtain⟨n,hn⟩:=QcG.mp h
    exact⟨n+1,by unfold QaL;rw[hb];rw[Za,if_pos rfl,ho];exact hn⟩
   | ct ρ2=>
    obtain⟨n,hn⟩:=QcG.mp h
    exact⟨n+1,by unfold QaL;rw[hb];rw[Za,if_pos rfl,ho];exact hn⟩
   | bk ρ2=>exact⟨1,by unfold QaL;rw[hb];rw[Za,if_pos rfl,ho];exact h⟩
   | rt d fr=>exact⟨1,by unfold QaL;rw[hb];rw[Za,if_pos rfl,ho];exact h⟩
noncomputable def QcT(t:Tg)(fa:DE):DS:=λρ=>(fa ρ).bind λr=>(QaC t r.d (QaE r.norm.M ρ)).map .nx
theorem Qsp(he:SE X e fa)(hg:SG X tg t)(hs:swapsWithSole [tg] e pos.line X.env=pure false)(hw:swappedStores [tg] e X.env=pure none)(h1:(assignEach [tg] X.env).map (·.2)=[assign tg X.env]):
  S1 X (.Assign [tg] e pos) (QcT t fa):=λH0 A0=>(QkV (he H0 A0) (hg H0 A0) hs hw h1).mono λE σ H=>exK λρ hs F o rel e q=>by
 refine Qf e λr e1 e=>?_
 obtain⟨ρ',e2,rfl⟩:=Ze.mp e
 refine⟨ρ,hs,F,r,rel,e1,λv H' G p=>?_⟩
 have p':=p.norm
 have rp:=p'.rp
 rw[r.Qcz]at rp
 exact⟨QaE r.norm.M ρ,hs,F,r.d,G,ρ',(rel.ext p'.same).weak (Qat _ _),rp,Shr.of rel p'.src,e2,λσ' F' rel' _ _=>q _ _ F' rel'⟩
theorem QtL(hN:X.N.Nodup)(hx1:X.N[i]? =some x)(hx:Loc X.env.scope x)(hf:X.fn x=true∨X.env.scope.names.lookup x=some .local)
  (hcalm:X.calm=true) (S:QdC X N' scope) (hi:SI X tg iter fi) (hcap:Qj9 X N' scope cap t.slots)
  (hin:∀cl C fp s3 H3,SG (cxc X N' scope cl C fp s3 H3) tg t/\QkT (cxc X N' scope cl C fp s3 H3) ifs ft/\SE (cxc X N' scope cl C fp s3 H3) elt fe) (hs:∀x,foldedSetIterable iter X.env x=pure x):
  S1 X (.Assign [.Name x pos'] (.ListComp elt [⟨tg,iter,ifs,0⟩] scope pos) spos) (Qy i (Qaf fi t cap ft fe)):=
 QlH λH0 A0=>(QsP hN hx1 hx hf hcalm S (hi H0 A0) (λcl C fp s3 H3=>⟨(hin cl C fp s3 H3).1 _ _,(hin cl C fp s3 H3).2.1 _ _,(hin cl C fp s3 H3).2.2 _ _⟩) hs).mono λE σ H h=>Qjk hcap h
end
end HS
namespace HS
open PySem PySem.Spec L2 PyProof.Rows
section
variable {X:Cx}{a b e:Expr}{fa fb:DE}{pf:DP}{x:Nat}{pos apos:Pos}
theorem QiP{X:Cx}{H:Hp}{ds:List D}{w:V}{Gm:List Addr}(h:Rp X.K H (.lst ds) w Gm):tyV X.K "list" w H:=by
 obtain⟨l,ws,L,rfl,hl,_⟩:=h.lst_inv
 exact .inl ⟨rfl,ws,QK hl⟩
theorem QN.unit{K:PySem.W.Frag}{ρ:En}{F:Nat->List Addr}{H:Hp}:QN K ρ F H H ⟨.non,true,[]⟩ .non []:= .flat (QD.refl _) .Qko
noncomputable def Qab(xs:List α)(k:Nat)(y:α):List α:=xs.take k++y::xs.drop k
noncomputable def QuW:V->List V->Hp->VK->Prop:=λx vs H Q=>∃l xs i y,x= .ref l/\vs=[.int i,y]/\H l=some (.lst xs)/\0<=i/\i<2^62/\xs.length<sizeLine/\Q .non (upd H l (.lst (Qab xs (min i.toNat xs.length) y)))
theorem Qvh:MtM X "list.insert" QuW:=by
 intro pins s σ H x vs v us Q I rx rv h
 obtain⟨l,xs,i,y,rfl,rfl,hH,h0,h1,hz,q⟩:=h
 cases rx
 obtain⟨u,w',rfl,⟨t,rfl⟩,rw'⟩:=vals2 rv
 obtain⟨z,its,n,r,hl,e⟩:=I.Qnj hH
 have hfit:¬(!Builtin.List.listFitsIndex i)=true:=by
  unfold Builtin.List.listFitsIndex
  simp only[Zas,Bool.and_eq_false_iff,decide_eq_false_iff_not]
  omega
 refine call_meets F.slot_list_insert ⟨_,e,rfl⟩ F.entry_list_insert (F.args_list_insert_3 _ _ _) (AutoSeq1.list_insert_list_int_val_1 l its.toArray n i t w' hfit (by rw[Zu];omega)) ⟨e,?_⟩
 refine⟨.non,_,I.Qrx (its':=Qab its (min i.toNat its.length) w') hH e ?_ ?_ ?_,rfl,q⟩
 ·dsimp only
  rw[if_neg (by omega)]
  apply Array.ext'
  simp[Qab]
  rw[ZaV (by simp)]
 ·rw[hl]
  unfold Qab
  exact(r.take _).append (.cons rw' (r.drop _))
 ·unfold Qab
  rw[Zt,Zo,Zah,Zan]
  omega
theorem Rps.Qvt{K:PySem.W.Frag}{H:Hp}{d:D}{v:V}(hd:Rp K H d v []):∀{ds:List D}{vs:List V}{F:List Addr}(k:Nat),Rps K H ds vs F->Rps K H (Qab ds k d) (Qab vs k v) F
 | ds,vs,F,0,h=>by
  simp only[Qab,List.take_zero,List.drop_zero,ZbB,Rps]
  exact⟨v,vs,[],F,rfl,rfl,hd,h⟩
 | [],vs,F,k+1,h=>by
  simp only[Rps]at h
  obtain⟨rfl,rfl⟩:=h
  simp only[Qab,List.take_nil,List.drop_nil,ZbB,Rps]
  exact⟨v,[],[],[],rfl,rfl,hd,rfl,rfl⟩
 | d'::ds,vs,F,k+1,h=>by
  simp only[Rps]at h
  obtain⟨w,ws,F1,F2,rfl,rfl,r,q⟩:=h
  have ih:=Rps.Qvt hd k q
  simp only[Qab,ZbC,List.drop_succ_cons,Zbs,Rps]at ih ⊢
  exact⟨w,_,F1,F2,rfl,rfl,r,ih⟩
theorem Qr2(hd:d.flat=true)(ds:List D)(k:Nat):nls (Qab ds k d)=nls ds:=by
 unfold Qab
 rw[Qbi]
 simp only[nls,QcD d hd]
 have:=congrArg nls (ZaK k ds)
 rw[Qbi]at this
 omega
noncomputable def Qgm(x:Nat)(pf:DP)(fi fa:DE):DS:=λρ=>match ρ[x]? with
 | some (some (d,true))=>(pf ρ).bind λis=>(fi ρ).bind λri=>(fa ρ).bind λr0=>match Qbx d is,ri.d with
  | some (.lst ds),.int i=>if r0.d.flat=true/\0<=i/\i<2^62/\ds.length<sizeLine then some (.nx (ρ.set x (some (QaO is d (.lst (Qab ds (min i.toNat ds.length) r0.d)),true))))else none
  | _,_=>none
 | _=>none
theorem Qre{fi:DE}{H0:Hp}{A0:List Addr}{E:Ends}{σ:L2.St}{H:Hp}:tS X.K H0 A0 (Qgm x pf fi fa) E σ H->Qey (tBM X.K "list" QuW (tP X.K H0 A0 x pf) (Qb1 (tV X.K H0 A0 fi) (Qb1 (tV X.K H0 A0 fa) Qdf))) E σ H:=exK λρ hs F o rel e q=>by
 unfold Qgm at e
 split at e
 ·rename_i d hx
  refine Qf e λis e2 e=>?_
  refine Qf e λri e3 e=>?_
  refine Qf e λr0 e1 e=>?_
  split at e
  ·rename_i ds i hp hr
   split at e
   ·rename_i hc
    cases e
    refine⟨ρ,hs,F,d,true,is,.lst ds,rel,hx,e2,hp,λv0 w H2 Gm s2 hv0 fo=>⟨QiP fo.rp,ρ,hs,F,ri,rel.ext s2,e3,λvi H3 Gi pi=>⟨ρ,hs,F,r0,(rel.ext s2).ext pi.same,e1,λvn H4 Gn p=>?_⟩⟩⟩
    have rel4:=((rel.ext s2).ext pi.same).ext p.same
    obtain⟨l,vsm,Gp,rfl,g1,g2,g3,g4,g5,g6,g7⟩:=rel4.write .unit rfl Zaw hx (by simp) hv0 ((fo.same pi.same).same p.same)
    have ri':=pi.rp
    rw[hr]at ri'
    have rn:=p.rp
    have z:=rn.QaW hc.1
    subst z
    have n1:=g2.length
    rw[ri'.int_inv]
    refine⟨l,vsm,i,vn,rfl,rfl,g1,hc.2.1,hc.2.2.1,by omega,?_⟩
    obtain⟨F',rel'⟩:=g7 (Qab ds (min i.toNat ds.length) r0.d) (Qab vsm (min i.toNat vsm.length) vn) Gp (by rw[← n1];exact Rps.Qvt (rn.upd g1 (by simp)) _ (g2.upd g1 g4)) (by unfold Qab;rw[Zt,Zo,Zah,Zan];omega) (by rw[Qr2 hc.1,g3]) (λa=>by omega)
    exact q _ _ F' rel'
   ·cases e
  ·cases e
 ·cases e
theorem Rps.erase{K:PySem.W.Frag}{H:Hp}:∀{ds:List D}{vs:List V}{F:List Addr}(k:Nat),QG ds=true->Rps K H ds vs F->Rps K H (ds.eraseIdx k) (vs.eraseIdx k) []
 | [],vs,F,k,_,h=>by
  simp only[Rps]at h
  obtain⟨rfl,rfl⟩:=h
  simp[Rps]
 | d::ds,vs,F,0,hf,h=>by
  have hF:=h.QaW hf
  subst hF
  simp only[Rps]at h
  obtain⟨w,ws,F1,F2,rfl,eF,r,q⟩:=h
  have:F2=[]:=(Zci.mp eF.symm).2
  subst this
  simpa using q
 | d::ds,vs,F,k+1,hf,h=>by
  have hF:=h.QaW hf
  subst hF
  simp only[Rps]at h
  obtain⟨w,ws,F1,F2,rfl,eF,r,q⟩:=h
  obtain⟨rfl,rfl⟩:=Zci.mp eF.symm
  simp only[QG,Zk]at hf
  have ih:=Rps.erase k hf.2 q
  simp only[ZaS,Rps]
  exact⟨w,_,[],[],rfl,rfl,r,ih⟩
theorem QgU:∀(ds:List D) (k:Nat),QG ds=true->QG (ds.eraseIdx k)=true
 | [],_,_=>rfl
 | d::ds,0,h=>by simp only[QG,Zk]at h;exact h.2
 | d::ds,k+1,h=>by
  simp only[QG,Zk]at h
  simp only[ZaS,QG,Zk]
  exact⟨h.1,QgU ds k h.2⟩
noncomputable def Qd7(x y:Nat)(fi:DE):DS:=λρ=>match ρ[x]?,ρ[y]? with
 | some (some (.lst xs,true)),some (some (.lst ys,true))=>(fi ρ).bind λri=>match ri.d with
  | .int i=>if x≠y/\QG ys=true/\0<=i/\i<2^62/\xs.length<sizeLine then(ys[i.toNat]?).map λd=> .nx ((ρ.set y (some (.lst (ys.eraseIdx i.toNat),true))).set x (some (.lst (xs++[d]),true)))else none
  | _=>none
 | _,_=>none
theorem Qmd{y:Nat}{fi:DE}{H0:Hp}{A0:List Addr}{E:Ends}{σ:L2.St}{H:Hp}:tS X.K H0 A0 (Qd7 x y fi) E σ H->Qey (tBM X.K "list" QdY (tP X.K H0 A0 x QU) (Qb1 (tBM X.K "list" QlI (tP X.K H0 A0 y QU) (Qb1 (tV X.K H0 A0 fi) Qdf)) Qdf)) E σ H:=exK λρ hs F o rel e q=>by
 unfold Qd7 at e
 split at e
 ·rename_i xs ys hx hy
  refine Qf e λri e3 e=>?_
  split at e
  ·rename_i i hr
   split at e
   ·rename_i hc
    obtain⟨hxy,hfl,h0,h1,hz⟩:=hc
    obtain⟨d,hd,rfl⟩:=Ze.mp e
    refine⟨ρ,hs,F,.lst xs,true,[],.lst xs,rel,hx,rfl,rfl,λv0 w H2 Gm s2 hv0 fo=>⟨QiP fo.rp,ρ,hs,F,.lst ys,true,[],.lst ys,rel.ext s2,hy,rfl,rfl,λv1 w1 H3 Gm1 s3 hv1 fo1=>⟨QiP fo1.rp,ρ,hs,F,ri,(rel.ext s2).ext s3,e3,λvi H4 Gi pi=>?_⟩⟩⟩
    have rel4:=((rel.ext s2).ext s3).ext pi.same
    obtain⟨l,vsm,Gp,rfl,g1,g2,g3,g4,g5,g6,g7⟩:=rel4.write .unit rfl Zaw hy (by simp) hv1 (fo1.same pi.same)
    have ri':=pi.rp
    rw[hr]at ri'
    rw[ri'.int_inv]
    have n1:=g2.length
    have hil:i.toNat<ys.length:=(Zb.mp hd).1
    obtain⟨yv,Gy,hyv,ryv,_⟩:=g2.nth hd
    have gz:=ryv.QaW (by
     have gen:∀(l:List D) (k:Nat) (d:D),QG l=true->l[k]? =some d->d.flat=true:=by
      intro l
      induction l with
      | nil=>intro k d _ h;simp at h
      | cons a l ih=>
       intro k d hf h
       simp only[QG,Zk]at hf
       cases k with
       | zero=>simp at h;rw[← h];exact hf.1
       | succ k=>exact ih k d hf.2 (by simpa using h)
     exact gen ys _ _ hfl hd)
    subst gz
    refine⟨l,vsm,i,i.toNat,yv,rfl,rfl,g1,by omega,by omega,?_,hyv,?_⟩
    ·unfold seqIndex?
     simp only[if_neg (by omega:¬i<0)]
     rw[if_pos (by simp;omega)]
    obtain⟨F',rel'⟩:=g7 (ys.eraseIdx i.toNat) (vsm.eraseIdx i.toNat) [] (Rps.erase i.toNat hfl (g2.upd g1 g4)) (by rw[List.length_eraseIdx];split<;>omega) (by rw[Qfm _ (QgU ys _ hfl)];rfl) (λa=>by simp)
    simp only[QaO,kill]at rel'
    have hx':(ρ.set y (some (.lst (ys.eraseIdx i.toNat),true)))[x]? =some (some (.lst xs,true)):=by rw[Zj (Ne.symm hxy)];exact hx
    obtain⟨v0',hv0',rp0⟩:=rel'.val x _ _ hx'
    rw[hv0]at hv0'
    cases hv0'
    have hw:w=v0:=fo.2.1
    subst hw
    obtain⟨l2,vs2,Gp2,el2,k1,k2,k3,k4,k5,k6,k7⟩:=rel'.write .unit rfl Zaw hx' (by simp) hv0 (is:=[]) ⟨rfl,rfl,rfl,rp0⟩
    cases el2
    refine⟨l2,vs2,yv,rfl,rfl,k1,by rw[← k2.length];exact hz,?_⟩
    have ryv':Rps X.K (upd (upd H4 l (.lst (vsm.eraseIdx i.toNat))) l2 (.lst (vs2++[yv]))) [d] [yv] []:=by
     simp only[Rps]
     exact⟨yv,[],[],[],rfl,rfl,(ryv.upd g1 (by simp)).upd k1 (by simp),rfl,rfl⟩
    have hfd:d.flat=true:=by
     have gen:∀(l:List D) (k:Nat) (d:D),QG l=true->l[k]? =some d->d.flat=true:=by
      intro l
      induction l with
      | nil=>intro k d _ h;simp at h
      | cons a l ih=>
       intro k d hf h
       simp only[QG,Zk]at hf
       cases k with
       | zero=>simp at h;rw[← h];exact hf.1
       | succ k=>exact ih k d hf.2 (by simpa using h)
     exact gen ys _ _ hfl hd
    obtain⟨F'',rel''⟩:=k7 (xs++[d]) (vs2++[yv]) (Gp2++[]) ((k2.upd k1 k4).append ryv') (by rw[Zt,ZaJ];omega) (by rw[Zag,Qbi,k3];simp[nls,QcD d hfd]) (λa=>by rw[Zag];omega)
    exact q _ _ F'' rel''
   ·cases e
  ·cases e
 ·cases e
end
noncomputable def QcB:Expr->Bool
 | .ListComp .. =>false
 | .SetComp .. =>false
 | .DictComp .. =>false
 | _=>true
theorem Qcy(h:QcB e=true):swapsWith e t l env=pure false:=by
 cases e<;>first | rfl | cases h
noncomputable def Qh0:Expr->Bool
 | .Tuple .. =>true
 | _=>false
noncomputable def QcV(n:Nat)(Θ:Th)(e:Expr):Option (Nat×DP):=match n with
 | 0=>none
 | n+1=>match e with
  | .Name x _=>(Θ.slot x).map λi=>(i,QU)
  | .Subscript a b _=>(QcV n Θ a).bind λq=>(Ql n Θ b).map λfb=>(q.1,QgK q.2 fb)
  | _=>none
theorem Qfs:∀(n:Nat) (X:Cx) (Θ:Th) (e:Expr) (q:Nat×DP),Qah X Θ->QcV n Θ e=some q->SPa X e q.1 q.2/\attributeBase e=λ_ env w=>w
 | 0,_,_,_,_,_,h=>(nomatch (show(none:Option _)=some _ from h))
 | n+1,X,Θ,e,q,ok,h=>by
  cases e with
  | Name x pos=>
   change Option.map _ _=_ at h
   obtain⟨i,hi,rfl⟩:=Ze.mp h
   exact⟨Qfw (Qc0 ok.toCtxB hi),by funext a b c;rfl⟩
  | Subscript a b pos=>
   change Option.bind _ _=_ at h
   obtain⟨q',fb,h1,h2,rfl⟩:=QaN h
   exact⟨Qsa (Qfs n X Θ a q' ok h1).1 ((QbN n).E X Θ b fb ok h2) (QmM h2),by funext a b c;rfl⟩
  | _=>exact nomatch (show(none:Option _)=some _ from h)
noncomputable def Qfc:Expr->Bool
 | .Name .. =>true
 | .Subscript _ (.Slice ..) _=>false
 | .Subscript (.Call ..) _ _=>false
 | .Subscript .. =>true
 | _=>false
noncomputable def Qry:Operator->Option (D->D->Option D)
 | .Add=>some (gI λi j=>some (.int (i+j)))
 | .Sub=>some Qb2
 | _=>none
theorem Qu4(h:Qry op=some g):∃r,OpR X (inplaceOp op) r/\Qbt X.K g r:=by
 cases op<;>cases h
 ·exact⟨_,QsA,QeL (λi j d e=>by cases e;rfl) λi j d e H Q q=>by cases e;exact⟨i,j,rfl,rfl,q _ λ_=> .int_mk⟩⟩
 ·exact⟨_,Qta,Qpk⟩
noncomputable def Qtv:Expr->Bool
 | .Slice .. =>true
 | _=>false
noncomputable def Qia(n:Nat)(Θ:Th)(o:Expr)(m:Str)(args:List Expr):Option DS:=match args with
  | []=>(QcV n Θ o).bind λq=>
    none
  | [e]=>if m= "append" then
     (match o,e with
      | .Name x _,.Call (.Attribute (.Name y _) pm apos) [i] [] cpos=>if pm= "pop" /\(apos.endLine == cpos.line)=true then(Θ.slot x).bind λsx=>(Θ.slot y).bind λsy=>(Ql n Θ i).map λfi=>Qd7 sx sy fi else none
      | o,e=>(QcV n Θ o).bind λq=>(Ql n Θ e).map λfa=>QcM q.1 q.2 fa)
    else
    none
  | [i,e]=>if m= "insert" then(QcV n Θ o).bind λq=>(Ql n Θ i).bind λfi=>(Ql n Θ e).map λfa=>Qgm q.1 q.2 fi fa else none
  | _=>none
theorem Qqs(ok:Qah X Θ)(h:Qia n Θ o m args=some f)(hl:(apos.endLine == cpos.line)=true):
  S1 X (.Expr (.Call (.Attribute o m apos) args [] cpos) pos) f:=by
 have base:∀{q:Nat×DP},QcV n Θ o=some q->SPa X o q.1 q.2/\attributeBase o m X.env (eval o X.env)=eval o X.env:=λ{q} h1=>by
  obtain⟨sp,ab⟩:=Qfs n X Θ o _ ok h1
  exact⟨sp,by rw[ab]⟩
 have app:∀{e:Expr}{f:DS},m= "append" ->((QcV n Θ o).bind λq=>(Ql n Θ e).map λfa=>QcM q.1 q.2 fa)=some f->S1 X (.Expr (.Call (.Attribute o m apos) [e] [] cpos) pos) f:=λ{e f} em h=>by
  obtain⟨q,fa,h1,h2,rfl⟩:=QaN h
  obtain⟨sp,hb⟩:=base h1
  subst em
  have he:=(QbN n).E X Θ e fa ok h2
  have st:=Qak h2 [] X.env
  have sa:∀H0 A0,PA X [e] (Qb1 (tV X.K H0 A0 fa) Qdf):=λH0 A0=>Q5 (he H0 A0) Qa2 st
  exact λH0 A0=>(Qfi (Qh4 ZaC Zbc Zbd Qex (sp H0 A0) (sa H0 A0) hb (by rw[st];rfl) hl st rfl) rfl).mono λE σ H q=>QqW q
 match args,h with
 | [],h=>
  unfold Qia at h
  dsimp only at h
  obtain⟨⟨x,pf⟩,h1,h⟩:=bind1 h
  obtain⟨sp,hb⟩:=base h1
  cases h
 | [e],h=>
  unfold Qia at h
  dsimp only at h
  by_cases em:m= "append"
  ·rw[if_pos em]at h
   split at h
   ·rename_i x p y p' pm apos' i cpos' hz
    split at h
    ·rename_i hc
     refine Qf h λsx h1 h=>?_
     obtain⟨sy,fi,h2,h3,rfl⟩:=QaN h
     obtain⟨rfl,hl2⟩:=hc
     subst em
     have spx:=Qfw (Qc0 ok.toCtxB h1 (pos:=p))
     have spy:=Qfw (Qc0 ok.toCtxB h2 (pos:=p'))
     have hi:=(QbN n).E X Θ i fi ok h3
     have st:=Qak h3 [] X.env
     have sa:∀H0 A0,PA X [i] (Qb1 (tV X.K H0 A0 fi) Qdf):=λH0 A0=>Q5 (hi H0 A0) Qa2 st
     have pop:∀H0 A0,PE X (.Call (.Attribute (.Name y p') "pop" apos') [i] [] cpos') (tBM X.K "list" QlI (tP X.K H0 A0 sy QU) (Qb1 (tV X.K H0 A0 fi) Qdf)):=λH0 A0=>
      Qh4 ZaC PySem.F.slot_list_pop PySem.F.type_list_pop QpR (spy H0 A0) (sa H0 A0) rfl (by rw[st];rfl) hl2 st rfl
     exact λH0 A0=>(Qfi (Qh4 ZaC Zbc Zbd Qex (spx H0 A0) (Q5 (pop H0 A0) Qa2 rfl) rfl rfl hl rfl rfl) rfl).mono λE σ H q=>Qmd q
    ·cases h
   ·exact app em h
  rw[if_neg em]at h
  clear em
  clear app
  cases h
 | [i,e],h=>
  change(if m= "insert" then(QcV n Θ o).bind λq=>(Ql n Θ i).bind λfi=>(Ql n Θ e).map λfa=>Qgm q.1 q.2 fi fa else none)=some f at h
  split at h
  ·rename_i em
   refine Qf h λq h1 h=>?_
   obtain⟨fi,fa,h2,h3,rfl⟩:=QaN h
   obtain⟨sp,hb⟩:=base h1
   subst em
   have hi:=(QbN n).E X Θ i fi ok h2
   have he:=(QbN n).E X Θ e fa ok h3
   have st2:=Qak h3 [] X.env
   have st:=Qak h2 [e] X.env
   have sa:∀H0 A0,PA X [i,e] (Qb1 (tV X.K H0 A0 fi) (Qb1 (tV X.K H0 A0 fa) Qdf)):=λH0 A0=>Q5 (hi H0 A0) (Q5 (he H0 A0) Qa2 st2) st
   exact λH0 A0=>(Qfi (Qh4 ZaC PySem.F.slot_list_insert PySem.F.type_list_insert Qvh (sp H0 A0) (sa H0 A0) hb (by rw[st,st2];rfl) hl st (by rw[st2];rfl)) rfl).mono λE σ H q=>Qre q
  ·cases h
 | _::_::_::_,h=>exact nomatch (show(none:Option DS)=some _ from h)
end HS
namespace HS
open PySem PySem.Spec L2 PyProof.Rows
section
variable {K:PySem.W.Frag}{H0 H H':Hp}{A0:List Addr}{hs:List (V×D×List Addr)}{ρ:En}{F:Nat->List Addr}{σ:L2.St}{x i j:Nat}{ds es:List D}{a:Addr}{vs:List V}{v vn:V}{dn:D}
theorem Rel.Qun(rel:Rel K H0 A0 hs ρ F σ H)(hx:ρ[x]? =some (some (.lst ds,true))):∃a vs L,σ[x]? =some (some (.ref a))/\H a=some (.lst vs)/\F x=a::L/\Rps K H ds vs L/\ds.length<=sizeLine:=by
 obtain⟨w,h1,h2⟩:=rel.val x _ _ hx
 have ol:=(rel.own x _ hx).1
 simp only[Rp]at h2
 obtain⟨hz,b,vs,rfl,⟨L,eF,q,rl⟩ | ⟨q,rl⟩⟩:=h2
 ·exact⟨b,vs,L,h1,q,eF,rl,hz⟩
 ·have:=rl.Qax
  simp only[D.nl]at ol
  omega
end
end HS
namespace HS
open PySem PySem.Spec L2 PyProof.Rows
noncomputable def Qa4(x:Nat)(ρ:En):Option D:=match ρ[x]? with
 | some (some (.lst ds,_))=>ds.getLast?
 | _=>none
def Gh(K:PySem.W.Frag)(y:Nat)(σ:L2.St)(H:Hp)(d:D):Prop:=∃v G,σ[y]? =some (some v)/\Rp K H d v G
theorem Gh.same{K:PySem.W.Frag}{y:Nat}{σ σ':L2.St}{H H':Hp}{d:D}(h:Gh K y σ H d)(s:QD H H')(e:σ'[y]? =σ[y]?):Gh K y σ' H' d:=by
 obtain⟨v,G,h1,h2⟩:=h
 exact⟨v,G,e.trans h1,h2.same s⟩
noncomputable def QwJ(K:PySem.W.Frag)(H0:Hp)(A0:List Addr)(x y:Nat)(hs:List (V×D×List Addr))(E:Ends):Out->Prop
 | .nx ρ=>∀σ H F,Rel K H0 A0 hs ρ F σ H->(∀d,Qa4 x ρ=some d->Gh K y σ H d)->E.nx σ H
 | o=>Fits K H0 A0 hs E o
noncomputable def tSA(K:PySem.W.Frag)(H0:Hp)(A0:List Addr)(x y:Nat)(f:DS):TS:=λE σ H=>∃ρ hs F o,Rel K H0 A0 hs ρ F σ H/\f ρ=some o/\QwJ K H0 A0 x y hs E o
def SSA(X:Cx)(x y:Nat)(sts:List Stmt)(f:DS):Prop:=∀H0 A0,PSs X sts (tSA X.K H0 A0 x y f)
section
variable {X:Cx}{x y z:Nat}{st:Stmt}{sts:List Stmt}{f g:DS}
theorem Qqd(h1:S1 X st f)(h2:SSA X x y sts g):SSA X x y (st::sts) (Qe f g):=λH0 A0=>(Qb0 (h1 H0 A0) (h2 H0 A0)).mono λE σ H=>exK λρ hs F o rel e q=>by
 refine Qf e λo1 e1 e=>?_
 refine⟨ρ,hs,F,o1,rel,e1,?_⟩
 cases o1 with
 | nx ρ'=>exact λσ' H' F' rel'=>⟨ρ',hs,F',o,rel',e,q⟩
 | bk ρ'=>cases e;exact q
 | ct ρ'=>cases e;exact q
 | rt d fr=>cases e;exact q
noncomputable def QiV(x y z u:Nat):DS:=λρ=>if x≠y/\z≠y/\x≠z/\x≠u/\z≠u/\y≠u then match ρ[x]?,ρ[y]?,ρ[z]?,ρ[u]? with
 | some (some (.lst ds,true)),some (some (dy,true)),some (some (.lst zs,true)),some (some (du,true))=>
  if dy.flat=false/\du.flat=false/\ds.length<sizeLine/\zs.length<sizeLine then some (.nx ((((ρ.set y none).set x (some (.lst (ds++[dy]),true))).set u none).set z (some (.lst (zs++[du]),true))))else none
 | _,_,_,_=>none else none
theorem Qmy{K:PySem.W.Frag}{H0 H H3:Hp}{A0:List Addr}{hs:List (V×D×List Addr)}{ρ:En}{F:Nat->List Addr}{σ:L2.St}{ds:List D}{d:D}{vn:V}{Gn:List Addr}{a:Addr}(rel:Rel K H0 A0 hs ρ F σ H)(hx:ρ[x]? =some (some (.lst ds,true)))(hxy:x≠y)(hl:ds.length<sizeLine)(hσ:σ[x]? =some (some (.ref a)))
  (p:QN K ρ F H H3 ⟨d,true,[y]⟩ vn Gn):∃vs,H3 a=some (.lst vs)/\vs.length<sizeLine/\∃F',Rel K H0 A0 hs ((ρ.set y none).set x (some (.lst (ds++[d]),true))) F' σ (upd H3 a (.lst (vs++[vn]))):=by
 obtain⟨w,k1,k2⟩:=rel.val x _ _ hx
 rw[hσ]at k1;cases k1
 have fo:Focus K H3 [] (.lst ds) (.ref a) (F x) (.lst ds) (.ref a) (F x):=⟨rfl,rfl,rfl,k2.same p.same⟩
 obtain⟨l,vsm,Gp,e,g1,g2,g3,g4,g5,g6,g7⟩:=rel.write p rfl (by simp) hx (by simpa using hxy) hσ fo
 cases e
 have hnl:=(p.cnt rfl).2
 have rw1:Rps K (upd H3 a (.lst (vsm++[vn]))) [d] [vn] Gn:=by
  simp only[Rps]
  exact⟨vn,[],Gn,[],rfl,by simp,p.rp.upd g1 g5,rfl,rfl⟩
 obtain⟨F',rel'⟩:=g7 (ds++[d]) (vsm++[vn]) (Gp++Gn) ((g2.upd g1 g4).append rw1) (by rw[Zt,ZaJ];omega) (by rw[Zt,Qbi,g3,hnl];simp[nls]) (λa=>by rw[Zal];omega)
 exact⟨vsm,g1,by rw[← g2.length];exact hl,F',rel'⟩
theorem QsL{u:Nat}{st3 st4:Stmt}(h3:∀H0 A0,PS X st3 (Qey (tBM X.K "list" QdY (tP X.K H0 A0 x QU) (Qb1 (tV X.K H0 A0 (Qa y)) Qdf))))(h4:∀H0 A0,PS X st4 (Qey (tBM X.K "list" QdY (tP X.K H0 A0 z QU) (Qb1 (tV X.K H0 A0 (Qa u)) Qdf)))):SSA X x y [st3,st4] (QiV x y z u):=λH0 A0=>
 (Qb0 (h3 H0 A0) (Qb0 (h4 H0 A0) Qna)).mono λE σ H=>exK λρ hs F o rel e q=>by
 unfold QiV at e
 split at e
 case isFalse=>cases e
 rename_i hne
 obtain⟨n1,n2,n3,n4,n5,n6⟩:=hne
 split at e
 case h_2=>cases e
 rename_i ds dy zs du hx hy hz hu
 split at e
 case isFalse=>cases e
 rename_i hc
 obtain⟨c1,c2,c3,c4⟩:=hc
 cases e
 obtain⟨a,vs,L,i1,i2,i3,_,_⟩:=rel.Qun hx
 obtain⟨b,ws,M,j1,j2,j3,_,_⟩:=rel.Qun hz
 obtain⟨vy,y1,y2⟩:=rel.val y _ _ hy
 have ay:a∉F y:=(rel.own x _ hx).2.2.2.1 y dy true (Ne.symm n1) hy a (by rw[i3];exact Zh)
 have bw:b∉F y:=(rel.own z _ hz).2.2.2.1 y dy true (Ne.symm n2) hy b (by rw[j3];exact Zh)
 have ty:∀{H:Hp}{v:V}{ds:List D}{F:List Addr},Rp X.K H (.lst ds) v F->tyV X.K "list" v H:=λh=>by
  obtain⟨l,ws,L,rfl,hl,_⟩:=h.lst_inv
  exact .inl ⟨rfl,ws,QK hl⟩
 refine⟨ρ,hs,F,.lst ds,true,[],.lst ds,rel,hx,rfl,rfl,λv0 w H2 Gm s2 hv0 fo=>⟨?_,ρ,hs,F,⟨dy,true,[y]⟩,rel.ext s2,?_,λvn H3 Gn p=>?_⟩⟩
 ·exact ty fo.rp
 ·unfold Qa;rw[hy];dsimp only;rw[if_neg (by rw[c1];decide),if_pos rfl]
 obtain⟨_,ew,_,_⟩:=fo
 subst ew
 rw[i1]at hv0
 cases hv0
 obtain⟨vs3,q1,q2,F3,rel3⟩:=Qmy (rel.ext s2) hx n1 c3 i1 p
 refine⟨a,vs3,vn,rfl,rfl,q1,q2,?_⟩
 have y3:=(y2.same (s2.trans p.same)).upd (ys:=vs3++[vn]) q1 ay
 have hz3:((ρ.set y none).set x (some (D.lst (ds++[dy]),true)))[z]? =some (some (.lst zs,true)):=by rw[Zj n3,Zj (Ne.symm n2)];exact hz
 have hu3:((ρ.set y none).set x (some (D.lst (ds++[dy]),true)))[u]? =some (some (du,true)):=by rw[Zj n4,Zj n6];exact hu
 have hx3:((ρ.set y none).set x (some (D.lst (ds++[dy]),true)))[x]? =some (some (.lst (ds++[dy]),true)):=ZH (by rw[ZaD];exact(Zb.mp hx).1)
 generalize (ρ.set y none).set x (some (D.lst (ds++[dy]),true))=ρ3 at *
 refine⟨ρ3,hs,F3,.lst zs,true,[],.lst zs,rel3,hz3,rfl,rfl,λv0 w H4 Gm s4 hv0 fo=>⟨ty fo.rp,ρ3,hs,F3,⟨du,true,[u]⟩,rel3.ext s4,?_,λvn' H5 Gn' p'=>?_⟩⟩
 ·unfold Qa;rw[hu3];dsimp only;rw[if_neg (by rw[c2];decide),if_pos rfl]
 obtain⟨_,ew,_,_⟩:=fo
 subst ew
 rw[j1]at hv0
 cases hv0
 obtain⟨vs5,r1,r2,F5,rel5⟩:=Qmy (rel3.ext s4) hz3 n5 c4 j1 p'
 refine⟨b,vs5,vn',rfl,rfl,r1,r2,q _ _ F5 rel5 λd hd=>?_⟩
 have hxe:((ρ3.set u none).set z (some (D.lst (zs++[du]),true)))[x]? =some (some (.lst (ds++[dy]),true)):=by rw[Zj (Ne.symm n3),Zj (Ne.symm n4)];exact hx3
 unfold Qa4 at hd
 rw[hxe]at hd
 have ed:dy=d:=by simpa using hd
 subst ed
 exact⟨vy,F y,y1,(y3.same (s4.trans p'.same)).upd r1 bw⟩
end
noncomputable def QpW:D->Bool
 | .lst es=>QG es
 | _=>false
noncomputable def Qfz(x y:Nat)(t t1:Tg)(f1:DE)(fb:DS):List D->DS
 | [],ρ=>some (.nx ρ)
 | c::cs,ρ=>(Qa4 x ρ).bind λdl=>if QpW dl=true then(QaC t c ρ).bind λρ1=>(f1 ρ1).bind λr=>(QaC t1 r.d (QaE r.norm.M ρ1)).bind λρ2=>(fb (ρ2.set y (some (dl,true)))).bind λo=>match o with
  | .nx ρ3=>Qfz x y t t1 f1 fb cs ρ3
  | .rt d fr=>some (.rt d fr)
  | _=>none
  else none
noncomputable def Qfn(x y z:Nat)(fz:DE)(fi:DI)(t t1:Tg)(f1:DE)(fb:DS):DS:=λρ=>if x≠y/\z≠y/\x≠z/\y∉t.slots/\y∉t1.slots then match ρ[y]? with
 | some (some (dy,true))=>if dy.flat=false then(fz (asg x ⟨.lst [dy],true,[y]⟩ ρ)).bind λrz=>(fi (asg z rz (asg x ⟨.lst [dy],true,[y]⟩ ρ))).bind λir=>Qfz x y t t1 f1 fb ir.items (QaE ir.M (asg z rz (asg x ⟨.lst [dy],true,[y]⟩ ρ)))else none
 | _=>none else none
theorem Qfo{x:Nat}{ρ ρ':En}{d:D}(w:Qb7 ρ ρ')(h:Qa4 x ρ'=some d):Qa4 x ρ=some d:=by
 unfold Qa4 at h ⊢
 split at h
 ·rename_i ds b e
  obtain⟨b',e',_⟩:=w.2 x _ b e
  rw[e'];exact h
 ·cases h
theorem QpN{x z:Nat}{r:R}{ρ:En}{d:D}(hz:x≠z)(h:Qa4 x (asg z r ρ)=some d):Qa4 x ρ=some d:=by
 unfold asg at h
 split at h
 ·refine Qfo (QbS r.norm.M ρ) ?_
  unfold Qa4 at h ⊢
  rw[Zj (Ne.symm hz)]at h
  exact h
 ·refine Qfo (Qat r.norm.M ρ) ?_
  unfold Qa4 at h ⊢
  rw[Zj (Ne.symm hz)]at h
  exact h
section
variable {X:Cx}{x y z:Nat}{tg iter:Expr}{stx stz st1 st2:Stmt}{bd rest:List Stmt}{fz f1:DE}{fi:DI}{t t1:Tg}{fb g:DS}{pos:Pos}
theorem Qr8(hx:∀H0 A0,PS X stx (QfL (tV X.K H0 A0 (Q1 (Qb (Qa y) Qg))) (QdR x)))(hz:∀H0 A0,PS X stz (QfL (tV X.K H0 A0 fz) (QdR z)))(hp:PassesOwn (model X.prog X.w) X.A X.env X.xe)(hc:X.calm=true)(hi:SI X tg iter fi)(hg:SG X tg t)
  (h1:∀H0 A0,PS X st1 (QfL (tV X.K H0 A0 f1) (tG X.K H0 A0 t1))) (h2:PS X st2 (QfL (tCB (λxs H Q=>∃p ys,xs=[.ref p]/\(SqL X.K H p ys∨SqT X.K H p ys)/\∀l,H l=none->Q (.ref l) (upd H l (.lst ys))) (Qb1 (QiH y) Qdf)) (QdR y))) (hb:SSA X x y bd fb) (hs:∀x,foldedSetIterable iter X.env x=pure x) (hr:SS X rest g):
  SS X (stx::stz:: .For tg iter (st1::st2::bd) [] pos::rest) (Qe (Qfn x y z fz fi t t1 f1 fb) g):=λH0 A0=>
 (Qb0 (hx H0 A0) (Qb0 (hz H0 A0) (Qb0 (QoL hp hc (hi H0 A0) (hg H0 A0) (Qb0 (h1 H0 A0) (Qb0 h2 (hb H0 A0))) hs) (hr H0 A0)))).mono λE σ H=>exK λρ hs F o rel e q=>by
 refine Qf e λo1 e1 e=>?_
 unfold Qfn at e1
 split at e1
 case isFalse=>cases e1
 rename_i hne
 obtain⟨n1,n2,n3,n4,n5⟩:=hne
 split at e1
 case h_2=>cases e1
 rename_i dy hy
 split at e1
 case isFalse=>cases e1
 rename_i hfl
 refine Qf e1 λrz ez e1=>?_
 refine Qf e1 λir ei e1=>?_
 obtain⟨vy,y1,y2⟩:=rel.val y _ _ hy
 refine⟨ρ,hs,F,⟨.lst [dy],true,[y]⟩,rel,?_,λv H1 G p=>?_⟩
 ·have ev:Qa y ρ=some ⟨dy,true,[y]⟩:=by unfold Qa;rw[hy];dsimp only;rw[if_neg (by rw[hfl];decide),if_pos rfl]
  unfold Q1 Qb Qg
  rw[ev]
  rfl
 obtain⟨F1,rel1⟩:=rel.asg (i:=x) p
 have g1:Gh X.K y (σ.set x (some v)) H1 dy:=⟨vy,F y,by rw[Zj n1];exact y1,y2.same p.same⟩
 have l1:∀d,Qa4 x (asg x ⟨.lst [dy],true,[y]⟩ ρ)=some d->d=dy:=λd hd=>by
  unfold Qa4 asg at hd
  by_cases hl:x<ρ.length
  ·rw[if_pos (by simp[R.norm,D.flat]),ZH (by show x<(ρ.set y none).length;rw[ZaD];exact hl)]at hd
   simpa using hd.symm
  ·rw[if_pos (by simp[R.norm,D.flat]),Zv (by rw[ZaD];show(ρ.set y none).length<=x;rw[ZaD];omega)]at hd
   cases hd
 generalize asg x ⟨.lst [dy],true,[y]⟩ ρ=ρ1 at *
 clear rel p hy y1 y2
 refine⟨ρ1,hs,F1,rz,rel1,ez,λv2 H2 G2 p2=>?_⟩
 obtain⟨F2,rel2⟩:=rel1.asg (i:=z) p2
 have g2:Gh X.K y ((σ.set x (some v)).set z (some v2)) H2 dy:=g1.same p2.same (Zj n2)
 have l2:∀d,Qa4 x (asg z rz ρ1)=some d->d=dy:=λd hd=>l1 d (QpN n3 hd)
 generalize asg z rz ρ1=ρ2 at *
 clear rel1 p2 g1 l1 ez
 refine⟨ρ2,hs,F2,ir,rel2,ei,λJ H3 ts s3 wk hts ow hzl=>?_⟩
 have rel3:Rel X.K H0 A0 (ts++hs) (QaE ir.M ρ2) F2 ((σ.set x (some v)).set z (some v2)) H3:=((rel2.ext s3).weak (Qat ir.M ρ2)).hold λt ht=>⟨(hts t ht).1,Shr.of rel2 (hts t ht).2⟩
 refine⟨λi m σ' H'=>m=ir.items.length-i/\i<=ir.items.length/\∃ρi Fi,Rel X.K H0 A0 (ts++hs) ρi Fi σ' H'/\(∀d,Qa4 x ρi=some d->Gh X.K y σ' H' d)/\Qfz x y t t1 f1 fb (ir.items.drop i) ρi=some o1,⟨_,rfl,ZZ _,_,F2,rel3,λd hd=>by rw[l2 d (Qfo (Qat _ _) hd)];exact g2.same s3 rfl,by simpa using e1⟩,?_⟩
 clear rel2 rel3 g2 l2 e1 hts
 rintro i m σ' H' ⟨rfl,hi',ρi,Fi,reli,gi,ei⟩
 have held:Qim X.K H' ts:=λt ht=>(reli.held t (Zi _ ht)).1
 by_cases hlt:i<ir.items.length
 ·rw[Zap hlt]at ei
  unfold Qfz at ei
  refine Qf ei λdl hdl ei=>?_
  split at ei
  case isFalse=>cases ei
  rename_i hrow
  refine Qf ei λρ1 eb ei=>?_
  refine Qf ei λr er ei=>?_
  refine Qf ei λρ3 eb1 ei=>?_
  refine Qf ei λo2 eo ei=>?_
  refine .inr ⟨wk.go i H' hlt held,λσ2 H2=>∃ρ2 F2,Rel X.K H0 A0 (ts++hs) ρ2 F2 σ2 H2/\(∀d,Qa4 x ρ2=some d->Gh X.K y σ2 H2 d)/\Qfz x y t t1 f1 fb (ir.items.drop (i+1)) ρ2=some o1,λσ2 H2 ⟨ρ2,F2,rel2,g2,e2⟩=>⟨_,by omega,rfl,hlt,ρ2,F2,rel2,g2,e2⟩,λu H2 hyl=>?_⟩
  obtain⟨s2,G0,rp0,hG0⟩:=wk.yld i ir.items[i] H' u H2 (by simp[hlt]) held hyl
  have shr:Shr H0 A0 ρi Fi G0:=λa ha=>by
   obtain⟨t,ht,hat⟩:=hG0 a ha
   exact⟨(reli.held t (Zi _ ht)).2 a hat,λj d ej hj=>(reli.own j d ej).2.2.2.2 t (Zi _ ht) a hj hat⟩
  have gh:=gi dl hdl
  refine⟨ρi,ts++hs,Fi,ir.items[i],G0,ρ1,reli.ext s2,rp0,shr,eb,λσ3 F3 rel3 un3 _=>⟨ρ1,ts++hs,F3,r,rel3,er,λv H4 G p=>?_⟩⟩
  have p':=p.norm
  have rp:=p'.rp
  rw[r.Qcz]at rp
  refine⟨QaE r.norm.M ρ1,ts++hs,F3,r.d,G,ρ3,(rel3.ext p'.same).weak (Qat _ _),rp,Shr.of rel3 p'.src,eb1,λσ4 F4 rel4 un4 _=>?_⟩
  have gh4:Gh X.K y σ4 H4 dl:=gh.same (s2.trans p.same) ((un4 y n5).trans (un3 y n4))
  cases dl with
  | lst es=>
   obtain⟨w,G',w1,w2⟩:=gh4
   obtain⟨l,ws,L,rfl,hl,rl,zl,el⟩:=w2.lst_inv
   refine⟨.ref l,w1,l,ws,rfl,.inl (QK hl),λc hc=>?_⟩
   have hf:QG es=true:=hrow
   have hL:L=[]:=rl.QaW hf
   subst hL
   have pn:=QN.Qaq (ρ:=ρ3) (F:=F4) (QD.refl H4) hc rl zl Src.nil QaJ.nil
   unfold Qaq at pn
   rw[if_pos hf]at pn
   have rel5:=rel4.Qds (i:=y) pn rfl Zaw
   refine⟨_,ts++hs,_,o2,rel5,eo,?_⟩
   cases o2 with
   | nx ρ6=>exact λσ6 H6 F6 rel6 g6=>⟨ρ6,F6,rel6,g6,ei⟩
   | ct ρ6=>cases ei
   | bk ρ6=>cases ei
   | rt d fr=>cases ei;cases e;exact q
  | _=>cases hrow
 ·have hn:i=ir.items.length:=by omega
  subst hn
  rw[ZbZ]at ei
  cases ei
  exact .inl ⟨wk.stop H' held,ρi,hs,Fi,o,reli.Qlo,e,q⟩
end
end HS
namespace HS
open PySem PySem.Spec L2 PyProof.Rows
noncomputable def hName(st:Stmt):Option (Str×Expr):=match st with
 | .Assign [.Name x _] e _=>some (x,e)
 | _=>none
theorem Qgj{st:Stmt}{x:Str×Expr}(h:hName st=some x):∃p q,st= .Assign [.Name x.1 p] x.2 q:=by
 unfold hName at h
 split at h
 ·cases h;exact⟨_,_,rfl⟩
 ·cases h
noncomputable def QnJ(st:Stmt):Option (Expr×Expr):=match st with
 | .Assign [.Tuple es k p] e _=>if QcB e=true/\Qh0 e=false then some (.Tuple es k p,e)else none
 | _=>none
theorem Qqa{st:Stmt}{x:Expr×Expr}(h:QnJ st=some x):∃es k p q,st= .Assign [.Tuple es k p] x.2 q/\x.1= .Tuple es k p/\QcB x.2=true/\Qh0 x.2=false:=by
 unfold QnJ at h
 split at h
 ·split at h
  ·rename_i hc
   cases h;exact⟨_,_,_,_,rfl,rfl,hc⟩
  ·cases h
 ·cases h
noncomputable def Qrg(e:Expr):Option Str:=match e with
 | .List [.Name y _] _=>some y
 | _=>none
theorem Qrq{e:Expr}{y:Str}(h:Qrg e=some y):∃p q,e= .List [.Name y p] q:=by
 unfold Qrg at h
 split at h
 ·cases h;exact⟨_,_,rfl⟩
 ·cases h
noncomputable def Qnb(e:Expr):Option Str:=match e with
 | .Call (.Name f _) [.Name y _] [] _=>if f= "list" then some y else none
 | _=>none
theorem Qpv{e:Expr}{y:Str}(h:Qnb e=some y):∃p q r,e= .Call (.Name "list" p) [.Name y q] [] r:=by
 unfold Qnb at h
 split at h
 ·split at h
  ·rename_i hf
   cases h;subst hf;exact⟨_,_,_,rfl⟩
  ·cases h
 ·cases h
noncomputable def Qhh(st:Stmt):Option (Str×Str):=match st with
 | .Expr (.Call (.Attribute (.Name x _) m apos) [.Name y _] [] cpos) _=>if m= "append" /\(apos.endLine == cpos.line)=true then some (x,y)else none
 | _=>none
theorem Qqw{st:Stmt}{x:Str×Str}(h:Qhh st=some x):∃p apos q cpos pos,st= .Expr (.Call (.Attribute (.Name x.1 p) "append" apos) [.Name x.2 q] [] cpos) pos/\(apos.endLine == cpos.line)=true:=by
 unfold Qhh at h
 split at h
 ·split at h
  ·rename_i hc
   obtain⟨rfl,hl⟩:=hc
   cases h;exact⟨_,_,_,_,_,rfl,hl⟩
  ·cases h
 ·cases h
noncomputable def QnW:List Stmt->Option (List Stmt×Stmt×Stmt)
 | []=>none
 | a::r=>match r with
  | []=>none
  | [b]=>some ([],a,b)
  | r=>(QnW r).map λq=>(a::q.1,q.2)
theorem QlR:∀{l:List Stmt}{q:List Stmt×Stmt×Stmt},QnW l=some q->l=q.1++[q.2.1,q.2.2]
 | [],q,h=>by cases h
 | [a],q,h=>by cases h
 | [a,b],q,h=>by cases h;rfl
 | a::b::c::r,q,h=>by
  have h:(QnW (b::c::r)).map (λq=>(a::q.1,q.2))=some q:=h
  obtain⟨q',h1,rfl⟩:=Ze.mp h
  rw[QlR h1]
  rfl
structure Qvq where
 x:Str
 y:Str
 z:Str
 u:Str
 ez:Expr
 tg:Expr
 iter:Expr
 t1:Expr
 e1:Expr
 mid:List Stmt
 r:List Stmt
noncomputable def Qkd:List Stmt->Option Qvq
 | a::b:: .For tg iter (c::d::body) [] _::r=>(hName a).bind λp=>(hName b).bind λq=>(QnJ c).bind λs=>(hName d).bind λw=>(Qrg p.2).bind λy=>(Qnb w.2).bind λy'=>(QnW body).bind λk=>(Qhh k.2.1).bind λm=>(Qhh k.2.2).bind λn=>
  if y'=y/\w.1=y/\m.1=p.1/\m.2=y/\n.1=q.1/\QcB q.2=true/\Qfc q.2=false then some ⟨p.1,y,q.1,n.2,q.2,tg,iter,s.1,s.2,k.1,r⟩else none
 | _=>none
theorem Qo8{sts:List Stmt}{q:Qvq}(h:Qkd sts=some q):∃a b c d e f pos,sts=a::b:: .For q.tg q.iter (c::d::(q.mid++[e,f])) [] pos::q.r/\hName b=some (q.z,q.ez)/\QnJ c=some (q.t1,q.e1)/\QcB q.ez=true/\Qfc q.ez=false/\Qhh e=some (q.x,q.y)/\Qhh f=some (q.z,q.u)/\(∃p1 p2 p3 p4,a= .Assign [.Name q.x p1] (.List [.Name q.y p2] p3) p4)/\∃p1 p2 p3 p4 p5,d= .Assign [.Name q.y p1] (.Call (.Name "list" p2) [.Name q.y p3] [] p4) p5:=by
 unfold Qkd at h
 split at h
 ·rename_i a b tg iter c d body pos r
  refine Qf h λp h1 h=>?_
  refine Qf h λq' h2 h=>?_
  refine Qf h λs h3 h=>?_
  refine Qf h λw h4 h=>?_
  refine Qf h λy h5 h=>?_
  refine Qf h λy' h6 h=>?_
  refine Qf h λk h7 h=>?_
  refine Qf h λm h8 h=>?_
  refine Qf h λn h9 h=>?_
  split at h
  case isFalse=>cases h
  rename_i hc
  obtain⟨c1,c2,c3,c4,c5,c6,c7⟩:=hc
  cases h
  obtain⟨p1,p4,ea⟩:=Qgj h1
  obtain⟨p2,p3,eo⟩:=Qrq h5
  obtain⟨d1,d5,ed⟩:=Qgj h4
  obtain⟨d2,d3,d4,el⟩:=Qpv h6
  obtain⟨m1,m2⟩:=m
  obtain⟨n1,n2⟩:=n
  dsimp only at c3 c4 c5
  subst c3 c4 c5
  exact⟨a,b,c,d,_,_,pos,by rw[QlR h7],h2,h3,c6,c7,h8,h9,⟨p1,p2,p3,p4,by rw[ea,eo]⟩,⟨d1,d2,d3,d4,d5,by rw[ed,el,c2,c1]⟩⟩
 ·cases h
noncomputable def QkB(e:DS):List (Option DS)->Option DS
 | []=>some e
 | o::r=>o.bind λf=>(QkB e r).map λg=>Qe f g
theorem QmV{X:Cx}{x y:Nat}{cs:Stmt->Option DS}(hS:∀st f,cs st=some f->S1 X st f){en:List Stmt}{fe:DS}(he:SSA X x y en fe):∀{mid:List Stmt}{f:DS},QkB fe (mid.map cs)=some f->SSA X x y (mid++en) f
 | [],f,h=>by cases h;exact he
 | st::mid,f,h=>by
  have h:((cs st).bind λf=>(QkB fe (mid.map cs)).map λg=>Qe f g)=some f:=h
  obtain⟨f1,g,h1,h2,rfl⟩:=QaN h
  exact Qqd (hS st f1 h1) (QmV hS he h2)
theorem QrG{X:Cx}{Θ:Th}{st:Stmt}{a b:Str}{i j:Nat}(ok:Qah X Θ)(h:Qhh st=some (a,b))(ha:Θ.slot a=some i)(hb:Θ.slot b=some j):∀H0 A0,PS X st (Qey (tBM X.K "list" QdY (tP X.K H0 A0 i QU) (Qb1 (tV X.K H0 A0 (Qa j)) Qdf))):=by
 obtain⟨p,apos,q,cpos,pos,rfl,hl⟩:=Qqw h
 exact λH0 A0=>Qfi (Qh4 ZaC Zbc Zbd Qex (Qfw (Qc0 ok.toCtxB ha) H0 A0) (Q5 (Qly (Qc0 ok.toCtxB hb) H0 A0) Qa2 rfl) rfl rfl hl rfl rfl) rfl
mutual
noncomputable def Qgt(n:Nat)(Θ:Th)(st:Stmt):Option DS:=match n with
 | 0=>none
 | n+1=>match st with
  | .Pass _=>some Qp
  | .Break _=>some Qrd
  | .Continue _=>some Qp3
  | .Raise _ _ _=>some QH
  | .Return (some e) _=>(Ql n Θ e).map QZ
  | .Expr (.Constant (.str _) _ _) _=>some Qp
  | .Expr (.Call (.Attribute o m apos) args [] cpos) _=>if(apos.endLine == cpos.line)=true then Qia n Θ o m args else none
  | .Expr (.Call (.Name x p) args [] cpos) _=>(Ql n Θ (.Call (.Name x p) args [] cpos)).map Qdc
  | .Assign [.Name x _] e _=>(Θ.QbX x).bind λi=>(Ql n Θ e).map λfa=>Qy i (if Qfc e=true then Qcw fa else fa)
  | .Assign [.Tuple es k p] e _=>if QcB e=true/\Qh0 e=false then(Qec Θ (.Tuple es k p)).bind λt=>(Ql n Θ e).map λfa=>QcT t fa else none
  | .Assign [.Subscript a i _] e _=>(QcV n Θ a).bind λq=>(Ql n Θ i).bind λfi=>(Ql n Θ e).map λfa=>QdL q.1 q.2 fi fa
  | .AugAssign (.Subscript a i _) op e _=>(QcV n Θ a).bind λq=>(Ql n Θ i).bind λfi=>(Qry op).bind λg=>(Ql n Θ e).map λfa=>Qde g q.1 q.2 fi fa
  | .If c a b _=>(QaV n Θ c).bind λg=>(QaP n Θ a).bind λf1=>(QaP n Θ b).map λf2=>sIf g f1 f2
  | .For tg iter body [] _=>(Qec Θ tg).bind λt=>(QeD n Θ tg iter).bind λfi=>(QaP n Θ body).map λfb=>QaH fi t fb
  | .While c body [] _=>(QaV n Θ c).bind λg=>(QaP n Θ body).map λfb=>QcN g fb
  | .Try a b c d p=>Θ.tr (.Try a b c d p)
  | _=>none
noncomputable def QaP(n:Nat)(Θ:Th)(sts:List Stmt):Option DS:=match n with
  | 0=>none
  | n+1=>match sts with
    | []=>some Qp
    | st::r=>
     match Qkd (st::r)with
     | some q=>if Θ.gl "list" =true then(Θ.QbX q.x).bind λx=>(Θ.slot q.x).bind λx'=>(Θ.QbX q.y).bind λy=>(Θ.slot q.y).bind λy'=>(Θ.QbX q.z).bind λz=>(Θ.slot q.z).bind λz'=>(Θ.slot q.u).bind λu=>if x'=x/\y'=y/\z'=z then(Ql n Θ q.ez).bind λfz=>(Qec Θ q.tg).bind λt=>(QeD n Θ q.tg q.iter).bind λfi=>(Qec Θ q.t1).bind λt1=>(Ql n Θ q.e1).bind λf1=>(QkB (QiV x y z u) (q.mid.map (Qgt n Θ))).bind λfb=>(QaP n Θ q.r).map λg=>Qe (Qfn x y z fz fi t t1 f1 fb) g else none else none
     | none=>
       (Qgt n Θ st).bind λf=>(QaP n Θ r).map λg=>Qe f g
end
theorem Qm0(h:Ql n Θ e=some f):Qtv e=false:=by
 cases n with
 | zero=>exact nomatch (show(none:Option DE)=some _ from h)
 | succ n=>cases e<;>first | rfl | (exact nomatch (show(none:Option DE)=some _ from h))
theorem Qs3(h:Ql n Θ (.ListComp elt gens scope pos)=some f):∃m tg iter ifs t fi ft fe,n=m+1/\gens=[⟨tg,iter,ifs,0⟩]/\Qec (inner Θ scope) tg=some t/\QhF Θ scope t=true∧
  QeD m Θ tg iter=some fi/\Qe7 m (inner Θ scope) ifs=some ft/\Ql m (inner Θ scope) elt=some fe/\f=Qaf fi t (QgI Θ scope) ft fe:=by
 cases n with
 | zero=>exact nomatch (show(none:Option DE)=some _ from h)
 | succ n=>
  match gens,h with
  | [⟨tg,iter,ifs,k⟩],h=>
   by_cases hk:k=0
   ·subst hk
    (conv at h=>lhs;whnf)
    refine Qf h λt ht h=>?_
    split at h
    ·rename_i hc
     simp only[Zk]at hc
     refine Qf h λfi h1 h=>?_
     obtain⟨ft,fe,h2,h3,rfl⟩:=QaN h
     exact⟨n,tg,iter,ifs,t,fi,ft,fe,rfl,rfl,ht,hc.1,h1,h2,h3,rfl⟩
    ·cases h
   ·exfalso
    cases k with
    | ofNat k=>
     cases k with
     | zero=>exact hk rfl
     | succ k=>exact nomatch (show(none:Option DE)=some _ from h)
    | negSucc k=>exact nomatch (show(none:Option DE)=some _ from h)
  | [],h=>exact nomatch (show(none:Option DE)=some _ from h)
  | ⟨_,_,_,.ofNat 0⟩::_::_,h=>exact nomatch (show(none:Option DE)=some _ from h)
  | ⟨_,_,_,.ofNat (k+1)⟩::_::_,h=>exact nomatch (show(none:Option DE)=some _ from h)
  | ⟨_,_,_,.negSucc k⟩::_::_,h=>exact nomatch (show(none:Option DE)=some _ from h)
theorem QsC(ok:Qah X Θ)(hx:Θ.QbX x=some i)(h:Ql n Θ e=some fa):S1 X (.Assign [.Name x p] e pos) (Qy i fa):=by
 have hN:X.N.Nodup:=by rw[ok.N];exact ok.nd
 obtain⟨h1,h2,h3⟩:=QcX ok.toCtxB hx
 by_cases hc:QcB e=true
 ·have he:=(QbN n).E X Θ e fa ok h
  exact QlH λH0 A0=>QeZ hN h1 h2 (he H0 A0) (Qcy hc) h3
 ·cases e with
  | ListComp elt gens scope cpos=>
   obtain⟨m,tg,iter,ifs,t,fi,ft,fe,rfl,rfl,ht,hco,g1,g2,g3,rfl⟩:=Qs3 h
   obtain⟨S,cap,inn⟩:=Qkz ok hco
   obtain⟨i1,i2⟩:=(QbN m).I X Θ tg iter fi ok g1
   exact QtL hN h1 h2 h3 ok.calm S i1 cap (λcl C fp s3 H3=>⟨QgM (inn cl C fp s3 H3) ht,(QbN m).Ts _ _ ifs ft (inn cl C fp s3 H3) g2,(QbN m).E _ _ elt fe (inn cl C fp s3 H3) g3⟩) i2
  | SetComp _ _ _ _=>cases n<;>exact nomatch (show(none:Option DE)=some _ from h)
  | DictComp _ _ _ _ _=>cases n<;>exact nomatch (show(none:Option DE)=some _ from h)
  | _=>exact absurd rfl hc
theorem QpX(ok:Qah X Θ)(hx:Θ.QbX x=some i)(h:Ql n Θ e=some fa)(ha:Qfc e=true):S1 X (.Assign [.Name x p] e pos) (Qy i (Qcw fa)):=by
 have hN:X.N.Nodup:=by rw[ok.N];exact ok.nd
 obtain⟨h1,h2,h3⟩:=QcX ok.toCtxB hx
 have hc:QcB e=true:=by cases e<;>first | rfl | cases ha
 have he:=Qqh ((QbN n).E X Θ e fa ok h)
 exact QlH λH0 A0=>QeZ hN h1 h2 (he H0 A0) (Qcy hc) h3
theorem QpD:swapsWithSole [.Subscript a i p] e l env=pure false:=by
 cases e<;>rfl
structure Qve (n:Nat):Prop where
 S:∀X Θ st f,Qah X Θ->Qgt n Θ st=some f->S1 X st f
 Ss:∀X Θ sts f,Qah X Θ->QaP n Θ sts=some f->SS X sts f
theorem QvS(ih:Qve n):∀X Θ st f,Qah X Θ->Qgt (n+1) Θ st=some f->S1 X st f:=by
 intro X Θ st f ok h
 have hN:X.N.Nodup:=by rw[ok.N];exact ok.nd
 have E:=QbN n
 cases st with
 | Pass pos=>change some Qp=some f at h;cases h;exact Qth
 | Break pos=>change some Qrd=some f at h;cases h;exact Qrb
 | Continue pos=>change some Qp3=some f at h;cases h;exact Qs7
 | Raise a b pos=>change some QH=some f at h;cases h;exact Qqu
 | Return e pos=>
  cases e with
  | none=>exact nomatch (show(none:Option DS)=some _ from h)
  | some e=>
   change(Ql n Θ e).map QZ=some f at h
   obtain⟨fa,h1,rfl⟩:=Ze.mp h
   exact QvK (E.E X Θ e fa ok h1)
 | Expr e pos=>
  cases e with
  | Constant c k p=>
   cases c with
   | str x=>
    change some Qp=some f at h
    cases h
    exact λH0 A0=>Qvj.mono λE σ H ⟨ρ,hs,F,o,rel,e,q⟩=>by cases e;exact q σ H F rel
   | _=>exact nomatch (show(none:Option DS)=some _ from h)
  | Call fn args kws cpos=>
   cases fn with
   | Attribute o m apos=>
    cases kws with
    | nil=>
     change(if(apos.endLine == cpos.line)=true then Qia n Θ o m args else none)=some f at h
     split at h
     ·rename_i hl
      exact Qqs ok h hl
     ·cases h
    | cons _ _=>exact nomatch (show(none:Option DS)=some _ from h)
   | Name x p=>
    cases kws with
    | nil=>
     change(Ql n Θ (.Call (.Name x p) args [] cpos)).map Qdc=some f at h
     obtain⟨fa,h1,rfl⟩:=Ze.mp h
     exact λH0 A0=>Qtt (Qfi (E.E X Θ _ fa ok h1 H0 A0) rfl)
    | cons _ _=>exact nomatch (show(none:Option DS)=some _ from h)
   | _=>exact nomatch (show(none:Option DS)=some _ from h)
  | _=>exact nomatch (show(none:Option DS)=some _ from h)
 | Assign ts e pos=>
  match ts,h with
  | [t],h=>
   cases t with
   | Name x p=>
    change((Θ.QbX x).bind λi=>(Ql n Θ e).map λfa=>Qy i (if Qfc e=true then Qcw fa else fa))=some f at h
    obtain⟨i,fa,h1,h2,rfl⟩:=QaN h
    split
    ·rename_i ha;exact QpX ok h1 h2 ha
    ·exact QsC ok h1 h2
   | Tuple es k p=>
    change(if QcB e=true/\Qh0 e=false then(Qec Θ (.Tuple es k p)).bind λt=>(Ql n Θ e).map λfa=>QcT t fa else none)=some f at h
    split at h
    ·rename_i hc
     obtain⟨t,fa,h1,h2,rfl⟩:=QaN h
     refine Qsp (E.E X Θ e fa ok h2) (QgM ok h1) (by show swapsWith e (some (.Tuple es k p)) pos.line X.env=pure false;exact Qcy hc.1) ?_ rfl
     cases e<;>first | rfl | (cases hc.2)
    ·cases h
   | Subscript a i p=>
    change((QcV n Θ a).bind λq=>(Ql n Θ i).bind λfi=>(Ql n Θ e).map λfa=>QdL q.1 q.2 fi fa)=some f at h
    refine Qf h λq h1 h=>?_
    obtain⟨fi,fa,h2,h3,rfl⟩:=QaN h
    obtain⟨sp,_⟩:=Qfs n X Θ a q ok h1
    have ns:=Qm0 h2
    refine Qu8 (E.E X Θ e fa ok h3) sp (E.E X Θ i fi ok h2) λte to ti he ho hi=>QkV he (Qt5 ho hi set_list ?_) QpD ?_ rfl
    ·intro v;cases i<;>first | rfl | (cases ns)
    ·cases e<;>rfl
   | _=>exact nomatch (show(none:Option DS)=some _ from h)
  | [],h=>exact nomatch (show(none:Option DS)=some _ from h)
  | t::_::_,h=>cases t<;>exact nomatch (show(none:Option DS)=some _ from h)
 | AugAssign t op e pos=>
  cases t with
  | Subscript a i p=>
   change((QcV n Θ a).bind λq=>(Ql n Θ i).bind λfi=>(Qry op).bind λg=>(Ql n Θ e).map λfa=>Qde g q.1 q.2 fi fa)=some f at h
   refine Qf h λq h1 h=>?_
   refine Qf h λfi h2 h=>?_
   obtain⟨g,fa,h3,h4,rfl⟩:=QaN h
   obtain⟨r,o1,o2⟩:=Qu4 (X:=X) h3
   obtain⟨sp,_⟩:=Qfs n X Θ a q ok h1
   have ns:=Qm0 h2
   exact Qt3 o1 o2 (E.E X Θ e fa ok h4) sp (E.E X Θ i fi ok h2) λov iv new=>by cases i<;>first | rfl | (cases ns)
  | _=>exact nomatch (show(none:Option DS)=some _ from h)
 | If c a b pos=>
  change((QaV n Θ c).bind λg=>(QaP n Θ a).bind λf1=>(QaP n Θ b).map λf2=>sIf g f1 f2)=some f at h
  refine Qf h λg h1 h=>?_
  obtain⟨f1,f2,h2,h3,rfl⟩:=QaN h
  exact Qwz (E.T X Θ c g ok h1) (ih.Ss X Θ a f1 ok h2) (ih.Ss X Θ b f2 ok h3)
 | For tg iter body els pos=>
  cases els with
  | nil=>
   change((Qec Θ tg).bind λt=>(QeD n Θ tg iter).bind λfi=>(QaP n Θ body).map λfb=>QaH fi t fb)=some f at h
   refine Qf h λt h1 h=>?_
   obtain⟨fi,fb,h2,h3,rfl⟩:=QaN h
   obtain⟨i1,i2⟩:=E.I X Θ tg iter fi ok h2
   exact Qub ok.pass ok.calm i1 (QgM ok h1) (ih.Ss X Θ body fb ok h3) i2
  | cons _ _=>exact nomatch (show(none:Option DS)=some _ from h)
 | While c body els pos=>
  cases els with
  | nil=>
   change((QaV n Θ c).bind λg=>(QaP n Θ body).map λfb=>QcN g fb)=some f at h
   obtain⟨g,fb,h1,h2,rfl⟩:=QaN h
   exact QoE ok.pass (E.T X Θ c g ok h1) (ih.Ss X Θ body fb ok h2)
  | cons _ _=>exact nomatch (show(none:Option DS)=some _ from h)
 | Try a b c d pos=>exact ok.tr _ _ h
 | _=>exact nomatch (show(none:Option DS)=some _ from h)
theorem QrF:∀n,Qve n
 | 0=>⟨λ_ _ _ _ _ h=>(nomatch (show(none:Option DS)=some _ from h)),λ_ _ _ _ _ h=>(nomatch (show(none:Option DS)=some _ from h))⟩
 | n+1=>by
  have ih:=QrF n
  refine⟨QvS ih,λX Θ sts f ok h=>?_⟩
  match sts,h with
  | [],h=>change some Qp=some f at h;cases h;exact QvL
  | st::r,h=>
   change(match Qkd (st::r)with
    | some q=>if Θ.gl "list" =true then(Θ.QbX q.x).bind λx=>(Θ.slot q.x).bind λx'=>(Θ.QbX q.y).bind λy=>(Θ.slot q.y).bind λy'=>(Θ.QbX q.z).bind λz=>(Θ.slot q.z).bind λz'=>(Θ.slot q.u).bind λu=>if x'=x/\y'=y/\z'=z then(Ql n Θ q.ez).bind λfz=>(Qec Θ q.tg).bind λt=>(QeD n Θ q.tg q.iter).bind λfi=>(Qec Θ q.t1).bind λt1=>(Ql n Θ q.e1).bind λf1=>(QkB (QiV x y z u) (q.mid.map (Qgt n Θ))).bind λfb=>(QaP n Θ q.r).map λg=>Qe (Qfn x y z fz fi t t1 f1 fb) g else none else none
    | none=>_)=some f at h
   split at h
   ·rename_i q hq
    split at h
    case isFalse=>cases h
    rename_i hg
    refine Qf h λx hx h=>?_
    refine Qf h λx' hx' h=>?_
    refine Qf h λy hy h=>?_
    refine Qf h λy' hy' h=>?_
    refine Qf h λz hz h=>?_
    refine Qf h λz' hz' h=>?_
    refine Qf h λu hu h=>?_
    split at h
    case isFalse=>cases h
    rename_i hxx
    obtain⟨rfl,rfl,rfl⟩:=hxx
    refine Qf h λfz h1 h=>?_
    refine Qf h λt h2 h=>?_
    refine Qf h λfi h3 h=>?_
    refine Qf h λt1 h4 h=>?_
    refine Qf h λf1 h5 h=>?_
    obtain⟨fb,g,h6,h7,rfl⟩:=QaN h
    obtain⟨a,b,c,d,e3,e4,pos,es,eb,ec,n1,n2,e5,e6,⟨p1,p2,p3,p4,ea⟩,p5,p6,p7,p8,p9,ed⟩:=Qo8 hq
    rw[es]
    obtain⟨b1,b2,eb⟩:=Qgj eb
    obtain⟨c1,c2,c3,c4,ec,ec2,ec3,ec4⟩:=Qqa ec
    dsimp only at eb ec ec2 ec3 ec4
    subst ea eb ec ed
    have E:=QbN n
    have hN:X.N.Nodup:=by rw[ok.N];exact ok.nd
    have B:=ok.toCtxB
    obtain⟨g1,_,_⟩:=QeH B hg
    obtain⟨x1,x2,x3⟩:=QcX B hx
    obtain⟨y1,y2,y3⟩:=QcX B hy
    obtain⟨z1,z2,z3⟩:=QcX B hz
    obtain⟨i1,i2⟩:=E.I X Θ q.tg q.iter fi ok h3
    have ht:=QgM ok h4
    rw[ec2]at ht
    refine Qr8 (λH0 A0=>QeZ hN x1 x2 (QoP (Qfb (Qly (Qc0 B hy')) QhN rfl) H0 A0) (Qcy rfl) x3) (λH0 A0=>QeZ hN z1 z2 (E.E X Θ q.ez fz ok h1 H0 A0) (Qcy n1) z3) ok.pass ok.calm i1 (QgM ok h2) (λH0 A0=>QkV (E.E X Θ q.e1 f1 ok h5 H0 A0) (ht H0 A0) (by show swapsWith q.e1 (some (.Tuple c1 c2 c3)) c4.line X.env=pure false;exact Qcy ec3) ?_ rfl) (QeZ hN y1 y2 (Qjq Qgb g1 (ok.mg _ (by decide+kernel)) Zbk (Q5 (Qc0 B hy') Qa2 rfl) (by decide) (by decide) rfl rfl) (Qcy rfl) y3) (QmV (λst f hst=>ih.S X Θ st f ok hst) (QsL (QrG ok e5 hx' hy') (QrG ok e6 hz' hu)) h6) i2 (ih.Ss X Θ q.r g ok h7)
    cases hq1:q.e1<;>first | rfl | (rw[hq1]at ec4;cases ec4)
   change((Qgt n Θ st).bind λf=>(QaP n Θ r).map λg=>Qe f g)=some f at h
   obtain⟨fs,fr,h1,h2,rfl⟩:=QaN h
   exact Qr1 (ih.S X Θ st fs ok h1) (ih.Ss X Θ r fr ok h2)
noncomputable def Qam(k:Nat)(ds:List D):En:=ds.map (λd=>some (d,d.flat))++List.replicate (k-ds.length) none
noncomputable def outD:Out->Option (D×Bool)
 | .rt d fr=>some (d,fr)
 | .nx _=>some (.non,true)
 | _=>none
noncomputable def Qs(k:Nat)(f:DS):Den:=λds=>(f (Qam k ds)).bind outD
theorem Rps.parts{K:PySem.W.Frag}{H:Hp}:∀{ds:List D}{vs:List V}{F:List Addr},Rps K H ds vs F→
  ∃Fs:List (List Addr),(∀L∈Fs,∀a∈L,a∈F)/\∀(i:Nat) (d:D),ds[i]? =some d->∃v,vs[i]? =some v/\Rp K H d v (Fs.getD i [])
 | [],_,_,h=>⟨[],λL hL=>by simp at hL,λi d e=>by simp at e⟩
 | d::ds,_,_,h=>by
  simp only[Rps]at h
  obtain⟨v,ws,F1,F2,rfl,rfl,r,q⟩:=h
  obtain⟨Fs,h1,h2⟩:=Rps.parts q
  refine⟨F1::Fs,λL hL a ha=>?_,λi d' e=>?_⟩
  ·rcases Zn.mp hL with rfl | hL
   ·exact Zi _ ha
   ·exact Zl _ (h1 L hL a ha)
  ·cases i with
   | zero=>simp at e;subst e;exact⟨v,by simp,by simpa using r⟩
   | succ i=>obtain⟨w,hw,hr⟩:=h2 i d' (by simpa using e);exact⟨w,by simpa using hw,by simpa using hr⟩
theorem QgW{k:Nat}{ds:List D}{i:Nat}{d:D}{b:Bool}(h:(Qam k ds)[i]? =some (some (d,b))):ds[i]? =some d/\b=d.flat:=by
 unfold Qam at h
 by_cases hi:i<ds.length
 ·rw[ZV (by simpa using hi),Zm]at h
  cases e:ds[i]? with
  | none=>rw[e]at h;cases h
  | some a=>rw[e]at h;cases h;exact⟨rfl,rfl⟩
 ·rw[ZaG (by simpa using hi),ZbW]at h
  split at h<;>cases h
theorem Qoi{K:PySem.W.Frag}{H:Hp}{ds:List D}{vs:List V}{F:List Addr}{N:List Str}(r:Rps K H ds vs F):∃F0,Rel K H F [] (Qam N.length ds) F0 (start N vs) H:=by
 obtain⟨Fs,h1,h2⟩:=r.parts
 have hl:=r.length
 have src:∀i a,a∈Fs.getD i []->a∈F:=λi a ha=>by
  by_cases hi:i<Fs.length
  ·have:Fs.getD i []∈Fs:=by rw[ZX,Zp hi];exact Zca hi
   exact h1 _ this a ha
  ·rw[ZX,Zv (by omega)]at ha;simp at ha
 refine⟨λi=>Fs.getD i [],?_,λi d b e=>?_,λi d e=>?_,λi d b e a ha=> .inr (src i a ha),λt ht=>absurd ht (by simp),QD.refl _⟩
 ·unfold Qam L2.start;simp[hl]
 ·obtain⟨e1,_⟩:=QgW e
  obtain⟨v,hv,hr⟩:=h2 i d e1
  refine⟨v,?_,hr⟩
  have hi:i<vs.length:=(Zb.mp hv).1
  unfold L2.start
  rw[ZV (by simpa using hi),Zm,hv];rfl
 ·obtain⟨e1,e2⟩:=QgW e
  obtain⟨v,hv,hr⟩:=h2 i d e1
  have z:Fs.getD i []=[]:=hr.QaW e2.symm
  simp only[z]
  exact⟨(QcD d e2.symm).symm,Zaw,λa ha=>by simp at ha,λ_ _ _ _ _ a ha=>by simp at ha,λ_ _ a ha=>by simp at ha⟩
section
variable (P:Program) (w:World) (K:PySem.W.Frag) (mg:Str->Option Value) (base:Heap)
def Known(k:Nat)(x:Str)(r:FnR):Prop:=∃f fd ps,QbD P w K mg base CX0 k f fd ps (spV K r.n r.den)/\mg x=some (.ref f)/\PySem.W.keepIn K (.ref f)=true∧
 ∀m,m<=r.dfl.length->∃ds dvs,Binds K fd ps ds/\Qt dvs ds/\∀H,Rps K H (r.dfl.drop (r.dfl.length-m)) dvs []
def QcU(k:Nat)(Γ:List (Str×FnR)):Prop:=∀x r,look x Γ=some r->Known P w K mg base k x r
structure QfH (cs:List (Str×Int)):Prop where
 bn:∀x∈QkI,mg x=none
 cs:∀x i,look x cs=some i->∃t,mg x=some (.int i t)
end
section
variable {P:Program}{w:World}{K:PySem.W.Frag}{mg:Str->Option Value}{base:Heap}
theorem QcU.nil{k:Nat}:QcU P w K mg base k []:=λx r h=>by cases h
theorem Known.mono{j k:Nat}{x:Str}{r:FnR}(h:Known P w K mg base j x r)(hk:j<=k):Known P w K mg base k x r:=by
 obtain⟨f,fd,ps,h1,h2⟩:=h
 exact⟨f,fd,ps,h1.mono hk,h2⟩
theorem QcU.cons{k:Nat}{Γ:List (Str×FnR)}{x:Str}{r:FnR}(t:QcU P w K mg base k Γ)(h:Known P w K mg base (k+1) x r):QcU P w K mg base (k+1) ((x,r)::Γ):=λy q e=>by
 unfold look at e
 split at e
 ·rename_i z;cases e;subst z;exact h
 ·exact(t y q e).mono (ZaP _)
noncomputable def namesOf(sc:Scope):List Str:=(sc.names.filter λy=>QrN y.2).map (·.1)
noncomputable def QiT(st:Stmt)(Γ:List (Str×FnR))(cs:List (Str×Int)):Th:=⟨namesOf (Qu st),(Qu st).names,Γ,cs,λ_=>none⟩
theorem QtA{CX:CXT}{xe:Value->Shared->Prop}{st:Stmt}{ps:List Str}{qual:Str}{f:Addr}{cdv:Value}{A:Around}{outer:List Env}{s:Shared}{H:Hp}{E:XK}{k:Nat}{Γ:List (Str×FnR)}{cs:List (Str×Int)}(S:QcK (namesOf (Qu st)) ps (Qu st))(M:QfH mg cs)(tab:QcU P w K mg base k Γ)
  (hr:Qas k (A.deeper (envOfC qual (Qu st) s.heap.objs.size f cdv))) (hp:PassesOwn (model P w) (A.deeper (envOfC qual (Qu st) s.heap.objs.size f cdv)) (envOfC qual (Qu st) s.heap.objs.size f cdv) xe):
  Qah ((Qgr CX P w K mg base (namesOf (Qu st)) qual (Qu st) f cdv A outer s H E).Qdu xe) (QiT st Γ cs) where
 N:=rfl
 nd:=S.nd
 lc:=λx h=>by rw[Qa8]at h;exact h
 ce:=λx h=>by rw[Qa8]at h;exact⟨h,rfl⟩
 fe:=λx h=>by rw[Qa8]at h;exact absurd rfl (S.nofree _ (Zaj h))
 gl:=λx h=>by rw[Qa8]at h;exact h
 calm:=decide_eq_true hr.hd
 pass:=hp
 tr:=λ_ _ h=>by cases h
 units:=hr.units
 mg:=M.bn
 fns:=λx r h=>by
  obtain⟨f',fd,ps',h1,h2,h3,h4⟩:=tab x r h
  exact⟨k,f',fd,ps',h1,hr,h2,h3,h4⟩
 cs:=M.cs
theorem QuM{st:Stmt}{ps:List Str}{qual:Str}{f:Addr}{cdv:Value}{A:Around}{outer:List Env}{s:Shared}{H:Hp}{E:XK}{k:Nat}{Γ:List (Str×FnR)}{cs:List (Str×Int)}(S:QcK (namesOf (Qu st)) ps (Qu st))(M:QfH mg cs)(tab:QcU P w K mg base k Γ)
  (hr:Qas k (A.deeper (envOfC qual (Qu st) s.heap.objs.size f cdv))):Qah (Qgr CX0 P w K mg base (namesOf (Qu st)) qual (Qu st) f cdv A outer s H E).nox (QiT st Γ cs):=QtA S M tab hr PassesOwn.never
theorem QoR{x qual:Str}{st:Stmt}{f:Addr}{fd:FuncData}{ps:List Str}{k n:Nat}{Γ:List (Str×FnR)}{cs:List (Str×Int)}{g:DS}(F:Fun K x qual st f fd)(S:QcK (namesOf (Qu st)) ps (Qu st))(M:QfH mg cs)(tab:QcU P w K mg base k Γ)
  (hc:QaP n (QiT st Γ cs) (QbC st)=some g):QbD P w K mg base CX0 (k+1) f fd ps (spV K ps.length (Qs (namesOf (Qu st)).length g)):=by
 refine F.ok S (QsJ rfl) λcdv A outer s H vs Q E hr h=>?_
 obtain⟨ds,L,d,fr,rps,hl,hd,q⟩:=h
 refine⟨_,(QrF n).Ss _ _ _ g (QuM S M tab hr) hc H L,?_⟩
 obtain⟨F0,rel⟩:=Qoi (N:=namesOf (Qu st)) rps
 unfold Qs at hd
 refine Qf hd λo ho hd=>?_
 refine⟨_,[],F0,o,rel,ho,?_⟩
 cases o with
 | nx ρ=>
  cases hd
  exact λσ H' F' rel'=>q .non H' [] ⟨rel'.same,.Qko,λa ha=>by simp at ha,λ_=>⟨Zaw,rfl,λa ha=>by simp at ha⟩⟩
 | bk ρ=>cases hd
 | ct ρ=>cases hd
 | rt d' fr'=>
  cases hd
  exact λv H' G r=>q v H' G r
structure Fact (K:PySem.W.Frag) (x:Str) (st:Stmt):Prop where
 ex:∃f fd,Fun K x x st f fd/\PySem.W.nsIn K mainGlobals x=some (some (.ref f))
theorem fact_mk{x:Str}{st:Stmt}{f:Addr}{oc:Value}{od an:Option Addr}{osl:Array (Option Value)}{kV doc pm cdv ct:Value}(a:PySem.W.nsIn K mainGlobals x=some (some (.ref f)))(l:K.lookup f=some ⟨oc,od,.func (PySem.W.fnOf x x (Qd1 st) (QbC st) (Qu st) .none kV doc pm an cdv ct),osl⟩)
  (c:PySem.W.codeIn K cdv x=true) (k:PySem.W.keepIn K (.ref f)=true):Fact K x st:=⟨f,_,Qvl l c k,a⟩
theorem l0{α:Type}{P:List α->Prop}(h:P []):∀l:List α,l.length=0->P l:=λl e=>(List.length_eq_zero_iff.mp e).symm▸h
theorem lc{α:Type}{n:Nat}{P:List α->Prop}(h:∀a,∀l:List α,l.length=n->P (a::l)):∀l:List α,l.length=n+1->P l
 | a::l,e=>h a l (Nat.succ.inj e)
def QE(x:Str)(st:Stmt)(ps:List Str):Prop:=∀(kV doc pm:Value) (an:Option Addr) (cdv ct:Value) (us:List Value),us.length=ps.length->bindArgs (PySem.W.fnOf x x (Qd1 st) (QbC st) (Qu st) .none kV doc pm an cdv ct) ⟨us,[]⟩=pure (ps.zip us)
theorem QI{h:Heap}{x:Str}{st:Stmt}{ps:List Str}{k n:Nat}{Γ:List (Str×FnR)}{cs:List (Str×Int)}{g:DS}(X:K.In h)(G:h.Ns mainGlobals mg)(F:Fact K x st)(S:QcK (namesOf (Qu st)) ps (Qu st))(B:QE x st ps)(M:QfH mg cs)(tab:QcU P w K mg base k Γ)
  (hc:QaP n (QiT st Γ cs) (QbC st)=some g):Known P w K mg base (k+1) x ⟨ps.length,[],Qs (namesOf (Qu st)).length g⟩:=by
 obtain⟨f,fd,Fn,a⟩:=F.ex
 refine⟨f,fd,ps,QoR Fn S M tab hc,PySem.W.mg_of X G a,Fn.kp,λm hm=>⟨[],[],Fn.binds (B ·),.nil,λH=>by simp[Rps]⟩⟩
end
end HS
namespace HS
open PySem PySem.Spec L2 PyProof.Rows
theorem Qp8{l:PySem.W.OpenLaw}{k:Nat}{q:Program}{loose:List Str}{XP:(Str->Option Value)->Heap->Prop}{YP:World->Heap->Prop}{d:DefRec}{K:Params->PySem.W.Frag}{den:Den}{x:Str}
  (hn:l.most=some 63) (hdf:d.params.defaults=[]) (hr:Qas k callerA) (hY:∀(w:World) (h:Heap),YP w h->(K w.params).In h)
  (hden:∀ns:List Int,ns.length<=63->∃fr,den [.lst (ns.map .int)]=some (.bl true,fr))
  (F:∀(w:World) (mg:Str->Option Value) (fa:Addr) (h:Heap),(K w.params).In h->h.Ns mainGlobals mg->mg d.name=some (.ref fa)→
   ∃fd:FuncData,(∀(s:Shared) (u:Value),BindsTo s fd ⟨[u],[]⟩ [(x,u)])∧
    ∀base:Heap,(K w.params).In base->base.Ns mainGlobals mg->QbD l.prog w (K w.params) mg base CX0 k fa fd [x] (spV (K w.params) 1 den)):
  PySem.W.WalkO q loose XP YP l.row.toRowW d [] (λf vs=>PySem.call f vs):=by
 refine Att.QgR hn hdf λw s₀ s₁ mg mb fa o pm cd doc a vs ns G Y ho hd hcd hmg hobj hints hlen hg=>?_
 have KX:=hY w _ Y
 obtain⟨fd,hb,hF⟩:=F w mg fa _ KX G.T.g hmg
 have h63:(63:Nat)<=sizeLine:=by decide
 refine Qlu KX G.T.g G.T.b G.T.builtins G.T.nolimit hg hobj hints (ZM hlen h63) hr hF hb (λH hO hS=>?_) λH e s' z=>z
 have fx:Fix (K w.params) H a (ns.map V.int):=by
  rcases hS with(h | ⟨o,h⟩) | ⟨o,its,n,hk,hc,hdn,hda,hz,rv⟩
  ·rcases hO a with z | ⟨o,xs,z⟩<;>rw[h]at z<;>cases z
  ·exact .inl ⟨o,h⟩
  ·have e:=KX a o hk
   rw[hobj]at e
   cases e
   cases hda
   exact .inr ⟨vs,_,hk,by rw[Zd];exact ZM hlen h63,by simpa using rv⟩
 obtain⟨fr,hfr⟩:=hden ns hlen
 have rp:Rp (K w.params) H (.lst (ns.map .int)) (.ref a) []:=by
  simp only[Rp]
  refine⟨by rw[Zd];exact ZM hlen h63,a,_,rfl,.inr ⟨fx,?_⟩⟩
  have gen:∀ns:List Int,Rps (K w.params) H (ns.map .int) (ns.map .int) []:=by
   intro ns
   induction ns with
   | nil=>simp[Rps]
   | cons n ns ih=>simp only[Zx,Rps];exact⟨_,_,[],[],rfl,rfl,.int_mk,ih⟩
  exact gen ns
 refine⟨[.lst (ns.map .int)],[],.bl true,fr,?_,rfl,hfr,λv H' G r=>r.rp.QcO⟩
 simp only[Rps]
 exact⟨_,_,[],[],rfl,rfl,rp,rfl,rfl⟩
theorem Qv0{P:Program}{w:World}{K:PySem.W.Frag}{mg:Str->Option Value}{h:Heap}{x y:Str}{st:Stmt}{fa:Addr}{k n:Nat}{Γ:List (Str×FnR)}{cs:List (Str×Int)}{g:DS}(X:K.In h)(G:h.Ns mainGlobals mg)(hmg:mg x=some (.ref fa))
  (F:Fact K x st) (S:QcK (namesOf (Qu st)) [y] (Qu st)) (B:QE x st [y]) (M:QfH mg cs) (tab:∀base:Heap,QcU P w K mg base k Γ) (hc:QaP n (QiT st Γ cs) (QbC st)=some g):
  ∃fd:FuncData,(∀(s:Shared) (u:Value),BindsTo s fd ⟨[u],[]⟩ [(y,u)])∧
    ∀base:Heap,K.In base->base.Ns mainGlobals mg->QbD P w K mg base CX0 (k+1) fa fd [y] (spV K 1 (Qs (namesOf (Qu st)).length g)):=by
 obtain⟨f,fd,Fn,a⟩:=F.ex
 have e:=hmg.symm.trans (PySem.W.mg_of X G a)
 cases e
 refine⟨fd,λs u=>?_,λbase _ _=>QoR Fn S M (tab base) hc⟩
 obtain⟨oc,od,kV,doc,pm,an,cdv,ct,osl,rfl,lk,hcd⟩:=Fn.ex
 exact .of_eq (B kV doc pm an cdv ct [u] rfl)
end HS
namespace HS
open PySem PySem.Spec PyProof.Rows L2
section
variable {P:Program}{w:World}{K:PySem.W.Frag}{mg:Str->Option Value}{base:Heap}
end
end HS
namespace HS
open PySem L2
noncomputable def pairD(p:Int×Int):D:= .tup [.int p.1,.int p.2]
noncomputable def Qqb(p:Int×Int×Bool):D:= .tup [.int p.1,.int p.2.1,.bl p.2.2]
noncomputable def Qm(ns:List Int):D:= .lst (ns.map .int)
noncomputable def Qk(ps:List (Int×Int)):D:= .lst (ps.map pairD)
noncomputable def Qj(m:Int)(R L:List (Int×Int)):D:= .tup [.int m,Qk R,Qk L]
theorem QbT{α:Type}{f:α->D}(h:∀a,(f a).flat=true):∀l:List α,QG (l.map f)=true
 | []=>rfl
 | a::l=>by simp[QG,h a,QbT h l]
@[simp] theorem Qxl(i:Int):(D.int i).flat=true:=rfl
@[simp] theorem QxF(i:Bool):(D.bl i).flat=true:=rfl
@[simp] theorem Qxd:D.non.flat=true:=rfl
@[simp] theorem QwY(x:Str):(D.str x).flat=true:=rfl
@[simp] theorem Qxo(xs:List D):(D.lst xs).flat=false:=rfl
@[simp] theorem Qxs(xs:List D):(D.tup xs).flat=QG xs:=rfl
@[simp] theorem QwU:QG []=true:=rfl
@[simp] theorem Qwd(d:D)(ds:List D):QG (d::ds)=(d.flat && QG ds):=rfl
@[simp] theorem QwV(p:Int×Int):(pairD p).flat=true:=rfl
@[simp] theorem Qw7(p:Int×Int×Bool):(Qqb p).flat=true:=rfl
@[simp] theorem QwT(ns:List Int):(Qm ns).flat=false:=rfl
@[simp] theorem QwA(ns:List (Int×Int)):(Qk ns).flat=false:=rfl
@[simp] theorem QvW(ps:List (Int×Int)):QG (ps.map pairD)=true:=QbT (λ_=>rfl) _
@[simp] theorem Qwt(ps:List (Int×Int×Bool)):QG (ps.map Qqb)=true:=QbT (λ_=>rfl) _
@[simp] theorem Qid(ns:List Int):QG (ns.map .int)=true:=QbT (λ_=>rfl) _
@[simp] theorem Qpq(xs ys:List D):QG (xs++ys)=(QG xs && QG ys):=Qei xs ys
def Run(f:DS)(ρ:En)(Q:Out->Prop):Prop:=∃o,f ρ=some o/\Q o
noncomputable def Nx(Q:En->Prop):Out->Prop
 | .nx ρ=>Q ρ
 | _=>False
noncomputable def Rt(Q:D->Bool->Prop):Out->Prop
 | .rt d fr=>Q d fr
 | _=>False
theorem Run.mono(h:Run f ρ Q)(m:∀o,Q o->Q' o):Run f ρ Q':=let ⟨o,h1,h2⟩:=h;⟨o,h1,m o h2⟩
theorem Qn(h:Q (.nx ρ)):Run Qp ρ Q:=⟨_,rfl,h⟩
theorem run_seq(h:Run f ρ (Nx λρ'=>Run g ρ' Q)):Run (Qe f g) ρ Q:=by
 obtain⟨o,h1,h2⟩:=h
 cases o with
 | nx ρ'=>
  obtain⟨o',h3,h4⟩:=h2
  exact⟨o',by simp[Qe,h1,h3],h4⟩
 | _=>exact False.elim h2
theorem Qay(h:Run f ρ λo=>match o with | .nx ρ'=>Run g ρ' Q | o=>Q o):Run (Qe f g) ρ Q:=by
 obtain⟨o,h1,h2⟩:=h
 cases o with
 | nx ρ'=>
  obtain⟨o',h3,h4⟩:=h2
  exact⟨o',by simp[Qe,h1,h3],h4⟩
 | bk ρ'=>exact⟨_,by simp[Qe,h1],h2⟩
 | ct ρ'=>exact⟨_,by simp[Qe,h1],h2⟩
 | rt d fr=>exact⟨_,by simp[Qe,h1],h2⟩
theorem Qo(h:fa ρ=some r)(q:Q (.nx (asg i r ρ))):Run (Qy i fa) ρ Q:=⟨_,by simp[Qy,h],q⟩
theorem QsQ(h:fa ρ=some r)(q:Q (.rt r.d (r.norm.fr && decide r.norm.M.Nodup))):Run (QZ fa) ρ Q:=⟨_,by simp[QZ,h],q⟩
theorem QW(h:g ρ=some b)(q1:b=true->Run f1 ρ Q)(q2:b=false->Run f2 ρ Q):Run (sIf g f1 f2) ρ Q:=by
 cases b with
 | true=>obtain⟨o,h1,h2⟩:=q1 rfl;exact⟨o,by simp[sIf,h,h1],h2⟩
 | false=>obtain⟨o,h1,h2⟩:=q2 rfl;exact⟨o,by simp[sIf,h,h1],h2⟩
theorem QaR(h:Run f (Qam k ds) (Rt λd' fr'=>d'=d/\fr'=fr)):Qs k f ds=some (d,fr):=by
 obtain⟨o,h1,h2⟩:=h
 unfold Qs
 cases o with
 | rt d' fr'=>obtain⟨rfl,rfl⟩:=h2;rw[h1];rfl
 | _=>exact False.elim h2
theorem QkR{α:Type}{t:Tg}{fb:DS}{toD:α->D}{Q:Out->Prop}(I:Nat->En->Prop):∀(xs ys:List α) (ρ:En),I ys.length ρ→
  (∀i x ρ,(ys++xs)[i]? =some x->ys.length<=i->I i ρ->∃ρ1,QaC t (toD x) ρ=some ρ1/\Run fb ρ1 λo=>match o with | .nx ρ2=>I (i+1) ρ2 | .ct ρ2=>I (i+1) ρ2 | .bk ρ2=>Q (.nx ρ2) | .rt d fr=>Q (.rt d fr))→
  (∀ρ,I (ys++xs).length ρ->Q (.nx ρ))->Run (QcS t fb (xs.map toD)) ρ Q
 | [],ys,ρ,h0,_,fin=>⟨_,rfl,fin ρ (by simpa using h0)⟩
 | x::xs,ys,ρ,h0,turn,fin=>by
  obtain⟨ρ1,h1,o,h2,h3⟩:=turn ys.length x ρ (by simp) (Zq _) h0
  have next:∀ρ2,I (ys.length+1) ρ2->Run (QcS t fb (xs.map toD)) ρ2 Q:=λρ2 hi=>
   QkR I xs (ys++[x]) ρ2 (by simpa using hi) (λi y ρ' e hl=>turn i y ρ' (by simpa using e) (by simp at hl;omega)) (λρ' h=>fin ρ' (by simpa using h))
  cases o with
  | nx ρ2=>obtain⟨o',e1,e2⟩:=next ρ2 h3;exact⟨o',by simp[QcS,h1,h2,e1],e2⟩
  | ct ρ2=>obtain⟨o',e1,e2⟩:=next ρ2 h3;exact⟨o',by simp[QcS,h1,h2,e1],e2⟩
  | bk ρ2=>exact⟨_,by simp[QcS,h1,h2],h3⟩
  | rt d fr=>exact⟨_,by simp[QcS,h1,h2],h3⟩
theorem QX{α:Type}{fi:DI}{t:Tg}{fb:DS}{toD:α->D}{ρ:En}{ir:IR}{Q:Out->Prop}(xs:List α)(I:Nat->En->Prop)(h:fi ρ=some ir)(hx:ir.items=xs.map toD)(h0:I 0 (QaE ir.M ρ))
  (turn:∀i x ρ,xs[i]? =some x->I i ρ->∃ρ1,QaC t (toD x) ρ=some ρ1/\Run fb ρ1 λo=>match o with | .nx ρ2=>I (i+1) ρ2 | .ct ρ2=>I (i+1) ρ2 | .bk ρ2=>Q (.nx ρ2) | .rt d fr=>Q (.rt d fr))
  (fin:∀ρ,I xs.length ρ->Q (.nx ρ)):Run (QaH fi t fb) ρ Q:=by
 obtain⟨o,h1,h2⟩:=QkR (t:=t) (fb:=fb) (toD:=toD) (Q:=Q) I xs [] (QaE ir.M ρ) h0 (λi x ρ e _=>turn i x ρ (by simpa using e)) (λρ h=>fin ρ (by simpa using h))
 exact⟨o,by simp[QaH,h,hx,h1],h2⟩
theorem QjE{α:Type}{t:Tg}{ft:DT}{fe:DE}{ρc:En}{toD:α->D}{keep:α->Bool}{out:α->D}:∀(xs:List α) (acc:List D),
  (∀x∈xs,∃ρ1,QaC t (toD x) ρc=some ρ1/\ft ρ1=some (keep x)/\(keep x=true->∃r,fe ρ1=some r/\r.d=out x/\r.norm.fr=true))→
  (xs.map toD).foldlM (QeE t ft fe ρc) (acc,true)=some (acc++(xs.filter keep).map out,true)
 | [],acc,_=>by simp
 | x::xs,acc,h=>by
  obtain⟨ρ1,h1,h2,h3⟩:=h x Zh
  have ih:=λacc=>QjE xs acc (λy hy=>h y (Zc _ hy))
  cases hk:keep x with
  | false=>
   have e:QeE t ft fe ρc (acc,true) (toD x)=some (acc,true):=by simp[QeE,h1,h2,hk]
   simp[ZbY,e,ih,hk]
  | true=>
   obtain⟨r,h4,h5,h6⟩:=h3 hk
   have e:QeE t ft fe ρc (acc,true) (toD x)=some (acc++[out x],true):=by simp[QeE,h1,h2,hk,h4,h5,h6]
   simp[ZbY,e,ih,hk]
theorem Qdo{α:Type}{fi:DI}{t:Tg}{cap:List (Option Nat)}{ft:DT}{fe:DE}{ρ:En}{ir:IR}{toD:α->D}{keep:α->Bool}{out:α->D}(xs:List α)(h:fi ρ=some ir)(hx:ir.items=xs.map toD)
  (turn:∀x∈xs,∃ρ1,QaC t (toD x) (QdW cap ρ)=some ρ1/\ft ρ1=some (keep x)/\(keep x=true->∃r,fe ρ1=some r/\r.d=out x/\r.norm.fr=true)):
  Qaf fi t cap ft fe ρ=some ⟨.lst ((xs.filter keep).map out),true,[]⟩:=by
 unfold Qaf
 rw[h,Za,hx,QjE xs [] turn]
 simp
theorem Qa3{α:Type}{fi:DI}{t:Tg}{cap:List (Option Nat)}{fe:DE}{ρ:En}{ir:IR}{toD:α->D}{out:α->D}(xs:List α)(h:fi ρ=some ir)(hx:ir.items=xs.map toD)
  (turn:∀x∈xs,∃ρ1,QaC t (toD x) (QdW cap ρ)=some ρ1/\∃r,fe ρ1=some r/\r.d=out x/\r.norm.fr=true):
  Qaf fi t cap Qb3 fe ρ=some ⟨.lst (xs.map out),true,[]⟩:=by
 have:=Qdo (keep:=λ_=>true) (ft:=Qb3) xs h hx (cap:=cap) (t:=t) (fe:=fe) (out:=out) λx hx=>by
  obtain⟨ρ1,h1,h2⟩:=turn x hx
  exact⟨ρ1,h1,rfl,λ_=>h2⟩
 rw[this,ZbE.mpr λ_ _=>rfl]
@[simp] theorem Qxi(d:D):R.norm ⟨d,true,[]⟩=⟨d,true,[]⟩:=by unfold R.norm;split<;>rfl
@[simp] theorem Qq(i:Nat)(d:D)(ρ:En):asg i ⟨d,true,[]⟩ ρ=ρ.set i (some (d,true)):=by unfold asg;simp[kill]
theorem QfO{i:Nat}{d:D}{fr:Bool}{M:List Nat}{ρ:En}(h:d.flat=true):asg i ⟨d,fr,M⟩ ρ=ρ.set i (some (d,true)):=by
 unfold asg R.norm;simp[h,kill]
theorem QbK{i:Nat}{ρ:En}{d:D}{b:Bool}(h:ρ[i]? =some (some (d,b))):Qa i ρ=some (if d.flat then⟨d,true,[]⟩else if b then⟨d,true,[i]⟩else⟨d,false,[]⟩):=by
 unfold Qa
 rw[h]
 dsimp only
 split
 ·simp_all
 ·split<;>simp_all
@[simp] theorem Qvp(d:D)(ρ:En):dC d ρ=some ⟨d,true,[]⟩:=rfl
theorem QT{g:D->D->Option D}{fa fb:DE}{ρ:En}{ra rb:R}{d:D}(ha:fa ρ=some ra)(hb:fb ρ=some rb)(h:g ra.d rb.d=some d):dOp g fa fb ρ=some ⟨d,true,[]⟩:=by simp[dOp,ha,hb,h]
theorem Qw{fa:DE}{fs:DA}{ρ:En}{r:R}{rs:RA}(ha:fa ρ=some r)(hs:fs ρ=some rs):Qb fa fs ρ=some ⟨r.d::rs.ds,r.fr && rs.fr,r.M++rs.M⟩:=by simp[Qb,ha,hs]
@[simp] theorem Q0(ρ:En):Qg ρ=some ⟨[],true,[]⟩:=rfl
noncomputable def vf(d:D)(b:Bool)(i:Nat):R:=if d.flat then⟨d,true,[]⟩else if b then⟨d,true,[i]⟩else⟨d,false,[]⟩
@[simp] theorem QxJ(d:D)(b:Bool)(i:Nat):(vf d b i).d=d:=by unfold vf;split;rfl;split<;>rfl
@[simp] theorem Qhs(i j:Int)(h:0<=j):Qeq i j=i % j:=by unfold Qeq;rw[if_pos h]
@[simp] theorem Qhe(i j:Int)(h:0<=j):Qeh i j=i / j:=by unfold Qeh;rw[if_pos h]
theorem Qea{i j:Int}(h:i.natAbs<2^64):QdV i j=true:=by unfold QdV;simp[h]
theorem Qfd{i j:Int}(h:j.natAbs<2^64):QdV i j=true:=by unfold QdV;simp[h]
theorem QeA:(sizeLine:Nat)=16777216:=sizeLine_eq
noncomputable def Qc(m:Nat)(f:Nat->Int):D:= .lst ((List.range m).map λi=> .int (f i))
noncomputable def Qai(m n:Nat)(f:Nat->Nat->Int):D:= .lst ((List.range m).map λi=>Qc n (f i))
@[simp] theorem Qxt(m:Nat)(f:Nat->Int):(Qc m f).flat=false:=rfl
@[simp] theorem Qxh(m n:Nat)(f:Nat->Nat->Int):(Qai m n f).flat=false:=rfl
@[simp] theorem Qo6(m:Nat)(f:Nat->Int):QG ((List.range m).map λi=>D.int (f i))=true:=QbT (f:=λi=>D.int (f i)) (λ_=>rfl) _
noncomputable def up(f:Nat->Int)(i:Nat)(v:Int):Nat->Int:=λj=>if j=i then v else f j
noncomputable def up2(f:Nat->Nat->Int)(i j:Nat)(v:Int):Nat->Nat->Int:=λk=>if k=i then up (f k) j v else f k
theorem Qd4{n:Nat}{i:Int}(h0:0<=i)(h:i<n):ixN n i=some i.toNat:=by
 unfold ixN;rw[if_pos (by omega),if_pos (by omega)]
theorem Qe0{α:Type}{xs:List α}{i:Int}(h0:0<=i)(h:i<xs.length):atI xs i=xs[i.toNat]? :=by
 unfold atI;rw[Qd4 h0 h];rfl
theorem QdP{α:Type}{m:Nat}{f:Nat->α}{i:Nat}{v:α}:((List.range m).map f).set i v=(List.range m).map λj=>if j=i then v else f j:=by
 apply Zaz
 intro k
 rw[List.getElem?_set]
 simp only[Zd,ZE,Zm]
 by_cases hk:k<m
 ·rw[ZT hk]
  by_cases e:i=k
  ·subst e;simp[hk]
  ·simp[e,Ne.symm e]
 ·rw[Zv (by simp;omega)]
  by_cases e:i=k
  ·subst e;simp[hk]
  ·simp[e]
theorem Qil{m:Nat}{f:Nat->Int}{i:Nat}{v:Int}:((List.range m).map λj=>D.int (f j)).set i (.int v)=(List.range m).map λj=>D.int (up f i v j):=by
 rw[QdP]
 congr 1;funext j;unfold up;split<;>rfl
theorem Qmo{m:Nat}{f:Nat->Int}{i:Int}(h0:0<=i)(h:i<m):atI ((List.range m).map λj=>D.int (f j)) i=some (.int (f i.toNat)):=by
 rw[Qe0 h0 (by simpa using h),Zm,ZT (by omega)];rfl
theorem QmQ{m n:Nat}{f:Nat->Nat->Int}{i:Int}(h0:0<=i)(h:i<m):atI ((List.range m).map λj=>Qc n (f j)) i=some (Qc n (f i.toNat)):=by
 rw[Qe0 h0 (by simpa using h),Zm,ZT (by omega)];rfl
theorem Qhm{x m:Nat}{f:Nat->Int}{fi fa:DE}{ρ:En}{i:Int}{v:Int}{ri ra:R}{Q:Out->Prop}(hx:ρ[x]? =some (some (Qc m f,true)))(hi:fi ρ=some ri)(ei:ri.d= .int i)(ha:fa ρ=some ra)(ea:ra.d= .int v)(h0:0<=i)(h:i<m)
  (q:Q (.nx (ρ.set x (some (Qc m (up f i.toNat v),true))))):Run (QdL x QU fi fa) ρ Q:=by
 refine⟨_,?_,q⟩
 have hn:ra.norm=⟨.int v,true,[]⟩:=by unfold R.norm;rw[ea];rfl
 unfold QdL
 rw[ha,Za,hx]
 simp only[QU,Za,hi,ei,Qbx,Qc,Zd,ZE,Qd4 h0 h,hn,ea,QaO,Qil]
 simp[kill]
theorem Qrh{g:D->D->Option D}{x m:Nat}{f:Nat->Int}{fi fa:DE}{ρ:En}{i w:Int}{ri ra:R}{Q:Out->Prop}(hx:ρ[x]? =some (some (Qc m f,true)))(hi:fi ρ=some ri)(ei:ri.d= .int i)(ha:fa ρ=some ra)(h0:0<=i)(h:i<m)
  (hg:g (.int (f i.toNat)) ra.d=some (.int w)) (q:Q (.nx (ρ.set x (some (Qc m (up f i.toNat w),true))))):Run (Qde g x QU fi fa) ρ Q:=by
 refine⟨_,?_,q⟩
 have hj:((List.range m).map λj=>D.int (f j))[i.toNat]? =some (.int (f i.toNat)):=by rw[Zm,ZT (by omega)];rfl
 unfold Qde
 rw[hx]
 simp only[QU,Za,hi,ei,Qbx,Qc,Zd,ZE,Qd4 h0 h,hj,ha,hg,QaO,Qil,ZO]
theorem Qk7{g:D->D->Option D}{x m n:Nat}{f:Nat->Nat->Int}{fp fi fa:DE}{ρ:En}{i j w:Int}{rp ri ra:R}{Q:Out->Prop}(hx:ρ[x]? =some (some (Qai m n f,true)))(hp:fp ρ=some rp)(ep:rp.d= .int i)(hi:fi ρ=some ri)(ei:ri.d= .int j)(ha:fa ρ=some ra)
  (h0:0<=i) (h:i<m) (k0:0<=j) (k:j<n) (hg:g (.int (f i.toNat j.toNat)) ra.d=some (.int w)) (q:Q (.nx (ρ.set x (some (Qai m n (up2 f i.toNat j.toNat w),true))))):Run (Qde g x (QgK QU fp) fi fa) ρ Q:=by
 refine⟨_,?_,q⟩
 have hj:((List.range n).map λk=>D.int (f i.toNat k))[j.toNat]? =some (.int (f i.toNat j.toNat)):=by rw[Zm,ZT (by omega)];rfl
 have hd:Qbx (Qai m n f) [i]=some (Qc n (f i.toNat)):=by
  simp only[Qbx,Qai,D.items,Za,QmQ h0 h]
 have hu:QaO [i] (Qai m n f) (.lst (((List.range n).map λk=>D.int (f i.toNat k)).set j.toNat (.int w)))=Qai m n (up2 f i.toNat j.toNat w):=by
  simp only[QaO,Qai,Zd,ZE,Qd4 h0 h,Qil]
  rw[QdP]
  congr 2;funext k
  unfold up2
  split
  ·rename_i e;subst e;rfl
  ·rfl
 unfold Qde
 rw[hx]
 simp only[QgK,QU,Za,hp,ep,ZbB,hi,ei,hd,Qc,Zd,ZE,Qd4 k0 k,hj,ha,hg,ZO]
 rw[hu]
theorem Qbv{n:Nat}(h:fa ρ=some r)(e:r.d= .int n)(hn:n<=16777216):QaT fa ρ=some ⟨(List.range n).map λ(k:Nat)=> .int (k:Int),[]⟩:=by
 unfold QaT
 rw[h,Za,e]
 dsimp only
 rw[if_pos ⟨by omega,by omega⟩]
 simp[Qgn]
theorem Qik{α:Type}(x:α):∀n:Nat,(List.replicate n [x]).flatten=(List.range n).map λ_=>x
 | 0=>rfl
 | n+1=>by
  rw[Zak,Zar,Qik x n,Zch,Zx,ZP];rfl
theorem QhB{n:Nat}(h:fb ρ=some r)(e:r.d= .int n)(hn:n<=16777216):Qau (Q1 (Qb (dC (.int z)) Qg)) fb ρ=some ⟨Qc n (λ_=>z),true,[]⟩:=by
 have h1:Q1 (Qb (dC (.int z)) Qg) ρ=some ⟨.lst [.int z],true,[]⟩:=rfl
 unfold Qau
 rw[h1,Za,h,Za,e]
 dsimp only
 rw[if_pos ⟨by simp[QeA];omega,by omega,by omega,rfl⟩]
 simp only[Zw,Qik]
 rfl
noncomputable def Qiz:DS:=(Qe (Qy 2 (Qaf (Q7 (Qa 0)) (.tp [1,2]) [none,none,none] Qb3 (Qbu (Qb (Qa 1) (Qb (Qa 2) Qg))))) (Qe (Qy 3 (Qaf (Q7 (Qa 0)) (.tp [1,2]) [none,none,none] Qb3 (Qbu (Qb (Qa 2) (Qb (Qa 1) Qg))))) (Qe (QZ (QQ (QQ (Qa 2) (Qa 3)) (dList (Qb (Qa 1) Qg)))) Qp)))
theorem QmF(ha:fa ρ=some ra)(ea:ra.d=Qk A)(hb:fb ρ=some rb)(eb:rb.d=Qk B)(hl:A.length+B.length<=16777216):QQ fa fb ρ=some ⟨Qk (A++B),true,[]⟩:=by
 unfold QQ
 rw[ha,Za,hb,Za,ea,eb]
 simp only[Qk,Zd,QeA,if_pos hl,Qaq]
 simp
theorem Qq3(h:fs ρ=some rs)(e:rs.ds=[Qk A])(_:True=True):dList fs ρ=some ⟨Qk A,true,[]⟩:=by
 unfold dList
 rw[h,Za,e]
 simp[Qk,Qaq]
theorem QL(h:fa ρ=some r)(q:Q r.d (r.norm.fr && decide r.norm.M.Nodup)):Run (Qe (QZ fa) g) ρ (Rt Q):=Qay (QsQ h q)
theorem QjK{R L:List (Int×Int)}(hl:R.length+R.length+L.length<=16777216):Qs 4 Qiz [Qk R,Qk L]=some (Qk (R++R.map Prod.swap++L),true):=by
 refine QaR ?_
 refine run_seq (Qo (Qa3 R rfl rfl λx _=>⟨[none,some (.int x.1,true),some (.int x.2,true)],rfl,⟨pairD x,true,[]⟩,rfl,rfl,rfl⟩) ?_)
 refine run_seq (Qo (Qa3 R rfl rfl λx _=>⟨[none,some (.int x.1,true),some (.int x.2,true)],rfl,⟨pairD x.swap,true,[]⟩,rfl,rfl,rfl⟩) ?_)
 have e1:(R.map λx=>pairD x.swap)=(R.map Prod.swap).map pairD:=by simp[ZP,Function.comp_def]
 rw[e1]
 exact QL (QmF (QmF rfl rfl rfl rfl (by simpa using(by omega:R.length+R.length<=16777216))) rfl (Qq3 rfl rfl rfl) rfl (by simpa using hl)) ⟨rfl,rfl⟩
theorem Qx(h:fs ρ=some r)(hd:den (r.ds++dfl)=some (d,true))(hl:r.ds.length+dfl.length=n):QB n den dfl fs ρ=some ⟨d,true,[]⟩:=by
 unfold QB
 rw[h,Za,if_pos hl,hd]
 simp
theorem QaZ(h:fa ρ=some r)(e:r.d= .lst xs):Q7 fa ρ=some ⟨xs,r.M⟩:=by
 unfold Q7
 rw[h,Za,e]
noncomputable def stepT(m:Nat)(f:Nat->Nat->Int)(s:Int×Int):Nat->Nat->Int:=
 let f1:=if s.1<m then up2 f s.1.toNat s.1.toNat (f s.1.toNat s.1.toNat-1)else f
 if s.1<m/\s.2<m then up2 f1 s.1.toNat s.2.toNat (f1 s.1.toNat s.2.toNat+1)else f1
noncomputable def Qv(m:Nat)(S:List (Int×Int)):Nat->Nat->Int:=S.foldl (stepT m) λ_ _=>0
noncomputable def Qed(QbP:Den):DS:=(Qe (Qy 1 (Qcw (Qi (Qa 0) (dC (.int 0))))) (Qe (Qy 2 (Qaf (QaT (Qa 1)) (.nm 1) [none,none,some 1] Qb3 (Qau (Q1 (Qb (dC (.int 0)) Qg)) (Qa 2)))) (Qe (QaH (Q7 (QB 2 QbP [] (Qb (Qi (Qa 0) (dC (.int 1))) (Qb (Qi (Qa 0) (dC (.int 2))) Qg)))) (.tp [3,4]) (Qe (sIf (QA (dOp gLt (Qa 3) (Qa 1))) (Qe (Qde Qb2 2 (QgK QU (Qa 3)) (Qa 3) (dC (.int 1))) Qp) Qp) (Qe (sIf (QfJ (QA (dOp gLt (Qa 3) (Qa 1))) (QA (dOp gLt (Qa 4) (Qa 1)))) (Qe (Qde (gI λi j=>some (.int (i+j))) 2 (QgK QU (Qa 3)) (Qa 4) (dC (.int 1))) Qp) Qp) Qp))) (Qe (QZ (Qa 2)) Qp))))
theorem Qqj{QbP:Den}{m:Nat}{R L S:List (Int×Int)}(hm:m<=16777216)(hs:QbP [Qk R,Qk L]=some (Qk S,true))(hS:∀s∈S,0<=s.1/\0<=s.2):Qs 5 (Qed QbP) [Qj m R L]=some (Qai m m (Qv m S),true):=by
 refine QaR ?_
 refine run_seq (Qo rfl ?_)
 refine run_seq (Qo (Qa3 (List.range m) (Qbv rfl rfl hm) rfl λx _=>⟨[none,some (.int x,true),some (.int m,true)],rfl,_,QhB rfl rfl hm,rfl,rfl⟩) ?_)
 refine run_seq (QX S (λi ρ=>∃j1 j2,ρ=[some (Qj m R L,false),some (.int m,true),some (Qai m m (Qv m (S.take i)),true),j1,j2]) (ir:=⟨S.map pairD,[]⟩) ?_ rfl ⟨none,none,rfl⟩ ?_ ?_)
 ·exact QaZ (Qx (r:=⟨[Qk R,Qk L],false,[]⟩) rfl hs rfl) rfl
 ·rintro i s ρ hi ⟨j1,j2,rfl⟩
  refine⟨_,rfl,?_⟩
  obtain⟨s1,s2⟩:=hS s (Zy hi)
  refine run_seq (Run.mono (Q:=Nx λρ=>ρ=[some (Qj m R L,false),some (.int m,true),some (Qai m m (if s.1<m then up2 (Qv m (S.take i)) s.1.toNat s.1.toNat (Qv m (S.take i) s.1.toNat s.1.toNat-1)else Qv m (S.take i)),true),some (.int s.1,true),some (.int s.2,true)]) ?_ ?_)
  ·refine QW rfl (λh=>?_) (λh=>?_)
   ·have h:=of_decide_eq_true h
    rw[if_pos h]
    exact run_seq (Qk7 rfl rfl rfl rfl rfl rfl s1 h s1 h rfl (Qn rfl))
   ·have h:=of_decide_eq_false h
    rw[if_neg h]
    exact Qn rfl
  ·intro o ho
   cases o with
   | nx ρ=>
    subst ho
    have fin:Qv m (S.take (i+1))=stepT m (Qv m (S.take i)) s:=by
     unfold Qv
     rw[List.take_add_one,hi,ZbR];rfl
    refine run_seq (Run.mono (Q:=Nx λρ=>ρ=[some (Qj m R L,false),some (.int m,true),some (Qai m m (stepT m (Qv m (S.take i)) s),true),some (.int s.1,true),some (.int s.2,true)]) ?_ ?_)
    ·refine QW (b:=decide (s.1<m/\s.2<m)) ?_ (λh=>?_) (λh=>?_)
     ·by_cases h:s.1<(m:Int)
      ·simp[QfJ,QA,dOp,Qa,gLt,gI,D.tru,h]
      ·simp[QfJ,QA,dOp,Qa,gLt,gI,D.tru,h]
     ·have h:=of_decide_eq_true h
      refine run_seq (Qk7 rfl rfl rfl rfl rfl rfl s1 h.1 s2 h.2 rfl (Qn ?_))
      unfold stepT
      rw[if_pos h];rfl
     ·have h:=of_decide_eq_false h
      refine Qn ?_
      unfold stepT
      rw[if_neg h];rfl
    ·intro o ho
     cases o with
     | nx ρ=>
      subst ho
      exact Qn ⟨_,_,by rw[fin]⟩
     | _=>exact False.elim ho
   | _=>exact False.elim ho
 ·rintro ρ ⟨j1,j2,rfl⟩
  rw[Zbv]
  exact QL rfl ⟨rfl,rfl⟩
noncomputable def hit(i j:Nat)(s:Int×Int):Int:=(if s.1=i/\s.2=j then 1 else 0)-(if s.1=i/\i=j then 1 else 0)
theorem Qmu:up2 f a b v i j=if i=a/\j=b then v else f i j:=by
 unfold up2 up
 by_cases h1:i=a
 ·by_cases h2:j=b
  ·simp[h1,h2]
  ·simp[h1,h2]
 ·simp[h1]
theorem Qph(hi:i<m)(hj:j<m)(h1:0<=s.1)(h2:0<=s.2):stepT m f s i j=f i j+hit i j s:=by
 unfold stepT hit
 have e1:(s.1=(i:Int))↔(i=s.1.toNat):=by omega
 have e2:(s.2=(j:Int))↔(j=s.2.toNat):=by omega
 simp only[e1,e2]
 by_cases c1:s.1<(m:Int)
 ·by_cases c2:s.2<(m:Int)
  ·simp only[c1,c2,and_self,if_true,Qmu]
   generalize s.1.toNat=a
   generalize s.2.toNat=b
   by_cases d1:i=a
   ·subst d1
    by_cases d2:j=b
    ·subst d2
     by_cases d3:i=j
     ·subst d3;simp
     ·have d4:¬j=i:=λz=>d3 z.symm
      simp[d3,d4]
    ·by_cases d3:i=j
     ·subst d3;simp[d2];omega
     ·have d4:¬j=i:=λz=>d3 z.symm
      simp[d2,d3,d4]
   ·simp[d1]
  ·have d2:¬(j=s.2.toNat):=by omega
   simp only[c1,c2,and_false,if_false,if_true,Qmu,d2]
   generalize s.1.toNat=a
   by_cases d1:i=a
   ·subst d1
    by_cases d3:i=j
    ·subst d3;simp;omega
    ·have d4:¬j=i:=λz=>d3 z.symm
     simp[d3,d4]
   ·simp[d1]
 ·have d1:¬(i=s.1.toNat):=by omega
  simp[c1,d1]
theorem QjA(hi:i<m)(hj:j<m):∀(S:List (Int×Int)) (f:Nat->Nat->Int),(∀s∈S,0<=s.1/\0<=s.2)->S.foldl (stepT m) f i j=f i j+(S.map (hit i j)).sum
 | [],f,_=>by simp
 | s::S,f,h=>by
  obtain⟨h1,h2⟩:=h s Zh
  rw[ZbA,QjA hi hj S _ (λt ht=>h t (Zc _ ht)),Qph hi hj h1 h2,Zx,ZR]
  omega
theorem Qcu(hi:i<m)(hj:j<m)(h:∀s∈S,0<=s.1/\0<=s.2):Qv m S i j=(S.map (hit i j)).sum:=by
 unfold Qv
 rw[QjA hi hj S _ h];simp
noncomputable def isI(i:Nat)(a:Int):Int:=if a=i then 1 else 0
noncomputable def Qag(R L:List (Int×Int))(i:Nat):Int:=(R.map λr=>isI i r.1+isI i r.2).sum+(L.map λl=>isI i l.1).sum
theorem sum_neg(S:List (Int×Int))(i:Nat)(h:∀s∈S,s.1≠s.2):(S.map (hit i i)).sum= -(S.map λs=>isI i s.1).sum:=by
 induction S with
 | nil=>rfl
 | cons s S ih=>
  rw[Zx,ZR,ih λt ht=>h t (Zc _ ht),Zx,ZR]
  have hn:=h s Zh
  unfold hit isI
  by_cases e:s.1=(i:Int)
  ·have:¬(s.2=(i:Int)):=λz=>hn (e.trans z.symm)
   simp[e,this];omega
  ·simp[e]
noncomputable def Qh(R L:List (Int×Int)):List (Int×Int):=R++R.map Prod.swap++L
theorem Qje(R L:List (Int×Int))(i:Nat):((Qh R L).map λs=>isI i s.1).sum=Qag R L i:=by
 unfold Qh Qag
 rw[ZY,ZY,ZbF,ZbF]
 have:(R.map λr=>isI i r.1+isI i r.2).sum=(R.map λs=>isI i s.1).sum+((R.map Prod.swap).map λs=>isI i s.1).sum:=by
  induction R with
  | nil=>rfl
  | cons r R ih=>simp only[Zx,ZR,ih,ZbU];omega
 omega
def Good(m:Nat)(s:Int×Int):Prop:=0<=s.1/\0<=s.2/\s.1<=m/\s.2<=m/\s.1≠s.2
theorem QaK{m:Nat}{R L:List (Int×Int)}(hR:∀s∈R,Good m s)(hL:∀s∈L,Good m s):∀s∈Qh R L,Good m s:=λs hs=>by
 unfold Qh at hs
 rcases ZK.mp hs with hs | hs
 ·rcases ZK.mp hs with hs | hs
  ·exact hR s hs
  ·obtain⟨t,ht,rfl⟩:=ZA.mp hs
   obtain⟨h1,h2,h3,h4,h5⟩:=hR t ht
   exact⟨h2,h1,h4,h3,λz=>h5 z.symm⟩
 ·exact hL s hs
def QeX(d:Den):Prop:=∀(m:Nat) (R L:List (Int×Int)),m<=1000->R.length+R.length+L.length<=1000000->(∀s∈R,Good m s)->(∀s∈L,Good m s)->d [Qj m R L]=some (Qai m m (Qv m (Qh R L)),true)
theorem QtR:QeX (Qs 5 (Qed (Qs 4 Qiz))):=λm R L hm hl hR hL=>by
 refine Qqj (by omega) (QjK (by omega)) λs hs=>?_
 obtain⟨h1,h2,_⟩:=QaK hR hL s hs
 exact⟨h1,h2⟩
noncomputable def QeQ(Q4:Den):DS:=(Qe (QZ (Qaf (QbH (QB 1 Q4 [] (Qb (Qa 0) Qg))) (.tp [1,2]) [none,none,none] Qb3 (dOp Qb2 (dC (.int 0)) (Qi (Qa 2) (Qa 1))))) Qp)
theorem QfC{α:Type}(m:Nat)(f:Nat->D):Qcs ((List.range m).map f)=(List.range m).map λi=> .tup [.int i,f i]:=by
 apply Zaz
 intro k
 unfold Qcs
 simp only[Zm,Zbx,Zcg]
 by_cases hk:k<m
 ·rw[ZT hk];rfl
 ·rw[Zv (by simp;omega)];rfl
theorem Qqc{d:Den}(hd:QeX d){m:Nat}{R L:List (Int×Int)}(hm:m<=1000)(hl:R.length+R.length+L.length<=1000000)(hR:∀s∈R,Good m s)(hL:∀s∈L,Good m s):Qs 1 (QeQ d) [Qj m R L]=some (Qc m (Qag R L),true):=by
 refine QaR ?_
 refine QL (Qa3 (toD:=λ(i:Nat)=> .tup [.int i,Qc m (Qv m (Qh R L) i)]) (out:=λ(i:Nat)=> .int (Qag R L i)) (ir:=⟨Qcs ((List.range m).map λi=>Qc m (Qv m (Qh R L) i)),[]⟩) (List.range m) ?_ ?_ λi hi=>?_) ⟨rfl,rfl⟩
 ·unfold QbH
  rw[Qx (n:=1) (fs:=Qb (Qa 0) Qg) (ρ:=Qam 1 [Qj m R L]) (dfl:=[]) (r:=⟨[Qj m R L],false,[]⟩) rfl (hd m R L hm hl hR hL) rfl];rfl
 ·exact QfC (α:=Nat) m _
 ·have hi:=Zf.mp hi
  refine⟨[none,some (.int i,true),some (Qc m (Qv m (Qh R L) i),false)],rfl,⟨.int (0-Qv m (Qh R L) i i),true,[]⟩,?_,?_,rfl⟩
  ·have e:Qi (Qa 2) (Qa 1) [none,some (.int (i:Int),true),some (Qc m (Qv m (Qh R L) i),false)]=some ⟨.int (Qv m (Qh R L) i i),true,[]⟩:=by
    show((D.items (Qc m (Qv m (Qh R L) i))).bind λxs=>(atI xs (i:Int)).map λd=>(HS.R.norm ⟨d,false,[]⟩))=_
    unfold Qc
    rw[show D.items (.lst ((List.range m).map λj=>D.int (Qv m (Qh R L) i j)))=some ((List.range m).map λj=>D.int (Qv m (Qh R L) i j))from rfl,Za,Qmo (by omega) (by omega)]
    rfl
   exact QT (rfl) e rfl
  ·have g:=QaK hR hL
   rw[Qcu hi hi λs hs=>⟨(g s hs).1,(g s hs).2.1⟩,sum_neg _ i λs hs=>(g s hs).2.2.2.2,Qje]
   show D.int (0- -(Qag R L i))=_
   rw[show(0:Int)- -(Qag R L i)=Qag R L i by omega]
theorem Qdn(a b:Int):deq (.int a) (.int b)=decide (a=b):=by
 show PyData.eqv (.int a) (.int b)=_
 unfold PyData.eqv
 exact Bool.beq_eq_decide_eq a b
theorem QuG(ha:fa ρ=some ra)(ea:ra.d= .int a)(hb:fb ρ=some rb)(eb:rb.d= .int b):dOp gEq fa fb ρ=some ⟨.bl (decide (a=b)),true,[]⟩:=by
 refine QT ha hb ?_
 rw[ea,eb]
 show some (D.bl (deq (.int a) (.int b)))=_
 rw[Qdn]
theorem Qgf(ha:fa ρ=some ra)(ea:ra.d= .int a)(hb:fb ρ=some rb)(eb:rb.d= .int b):dOp gNe fa fb ρ=some ⟨.bl (!decide (a=b)),true,[]⟩:=by
 refine QT ha hb ?_
 rw[ea,eb]
 show some (D.bl (!deq (.int a) (.int b)))=_
 rw[Qdn]
theorem Qvr(ha:fa ρ=some ⟨.bl a,true,[]⟩)(hb:fb ρ=some ⟨.bl b,true,[]⟩):QiC fa fb ρ=some ⟨.bl (a && b),true,[]⟩:=by
 unfold QiC
 rw[ha]
 cases a<;>simp[D.tru,hb]
theorem QF(ha:fa ρ=some r)(e:r.d= .bl b):QA fa ρ=some b:=by
 unfold QA
 rw[ha,Za,e];rfl
theorem Qdd(h:g ρ=some b):Qdg g ρ=some (!b):=by unfold Qdg;rw[h];rfl
theorem Qdb(ha:g1 ρ=some a)(hb:g2 ρ=some b):bOr g1 g2 ρ=some (a || b):=by
 unfold bOr;rw[ha];cases a<;>simp[hb]
theorem Qsw(ha:g1 ρ=some a)(hb:g2 ρ=some b):QfJ g1 g2 ρ=some (a && b):=by
 unfold QfJ;rw[ha];cases a<;>simp[hb]
theorem Qct(ha:fa ρ=some ra)(ea:ra.d= .int a)(hb:fb ρ=some rb)(eb:rb.d= .int b)(h:QdV a b=true):Qau fa fb ρ=some ⟨.int (a*b),true,[]⟩:=by
 unfold Qau
 rw[ha,Za,hb,Za,ea,eb]
 simp[h]
theorem Qad(ha:fa ρ=some ra)(ea:ra.d= .int a)(hb:fb ρ=some rb)(eb:rb.d= .int b):QQ fa fb ρ=some ⟨.int (a+b),true,[]⟩:=by
 unfold QQ
 rw[ha,Za,hb,Za,ea,eb]
theorem Qbj(ha:fa ρ=some ra)(ea:ra.d= .int a)(hb:fb ρ=some rb)(eb:rb.d= .int b)(h:0<b):dOp Qbz fa fb ρ=some ⟨.int (a % b),true,[]⟩:=by
 refine QT ha hb ?_
 rw[ea,eb]
 show(if b≠0 then some (D.int (Qeq a b))else none)=_
 rw[if_pos (by omega),Qhs _ _ (by omega)]
theorem Qhq(h:fa ρ=some r):Qcw fa ρ=some ⟨r.d,false,r.M⟩:=by unfold Qcw;rw[h];rfl
theorem QmN{fa fb:DE}{ρ:En}{ra rb:R}{m:Nat}{f:Nat->Int}{i:Int}(ha:fa ρ=some ra)(ea:ra.d=Qc m f)(hb:fb ρ=some rb)(eb:rb.d= .int i)(h0:0<=i)(h:i<m):Qi fa fb ρ=some ⟨.int (f i.toNat),true,[]⟩:=by
 unfold Qi
 rw[ha,Za,hb,Za,ea,eb]
 simp only[Qc,D.items,Za,Qmo h0 h,ZO]
 rfl
theorem QcE{fa fb:DE}{ρ:En}{ra rb:R}{ns:List Int}{i:Int}{v:Int}(ha:fa ρ=some ra)(ea:ra.d= .lst (ns.map .int))(hb:fb ρ=some rb)(eb:rb.d= .int i)(h0:0<=i)(h:ns[i.toNat]? =some v):Qi fa fb ρ=some ⟨.int v,true,[]⟩:=by
 have hl:i<ns.length:=by have:=(Zb.mp h).1;omega
 unfold Qi
 rw[ha,Za,hb,Za,ea,eb]
 simp only[D.items,Za]
 rw[Qe0 h0 (by simpa using hl),Zm,h]
 rfl
noncomputable def Qf8:DS:=(Qe (QZ (QiC (Qip "int" (Qa 0)) (QpS (Qip "bool" (Qa 0))))) Qp)
def QiS(d:Den):Prop:=∀i:Int,d [.int i]=some (.bl true,true)
theorem Qqg:QiS (Qs 1 Qf8):=λi=>rfl
noncomputable def Qro(t k:Int):Int:=(t+17)*(k*k+7*k+11)*69621 % 2147483647
noncomputable def Qxz(m t k:Int):Int:=if Qro t k % (k+1)<k then(Qro t k % (k+1)+t) % m else m
noncomputable def QxC(m t kind:Int)(k:Int):Int×Int×Bool:=((k+t) % m,Qxz m t k,decide (kind=2) || (decide (kind=3) && decide (Qro t k / 64 % 2=1)))
noncomputable def Qwm(m:Nat)(t kind:Int):List (Int×Int×Bool):=(List.range m).map λ(k:Nat)=>QxC m t kind k
def GoodW(m:Nat)(w:Int×Int×Bool):Prop:=Good m (w.1,w.2.1)/\(w.2.2=true->w.1<m)
noncomputable def Qwv(W:List (Int×Int×Bool)):D:= .lst (W.map Qqb)
@[simp] theorem QwR(W:List (Int×Int×Bool)):(Qwv W).flat=false:=rfl
theorem Qut{a x n:Int}(h1:0<x)(h2:x<n):(a+x) % n≠a % n:=λh=>by
 have h3:(a+x-a) % n=0:=Int.emod_eq_emod_iff_emod_sub_eq_zero.mp h
 rw[show a+x-a=x by omega,Int.emod_eq_of_lt (by omega) h2]at h3
 omega
theorem Qij(hx:ρ[x]? =some (some (.lst xs,true)))(ha:fa ρ=some r)(hf:r.d.flat=true)(hl:xs.length<16777216)(q:Q (.nx (ρ.set x (some (.lst (xs++[r.d]),true))))):Run (QcM x QU fa) ρ Q:=by
 refine⟨_,?_,q⟩
 have hn:r.norm=⟨r.d,true,[]⟩:=by unfold HS.R.norm;rw[if_pos hf]
 unfold QcM
 rw[hx]
 simp only[QU,Za,ha,Qbx,Qkc,hn,QaO,kill,QeA]
 simp[hl]
theorem Run.nx(h:Run f ρ (Nx Q))(m:∀ρ,Q ρ->Q' ρ):Run f ρ (Nx Q'):=h.mono λo ho=>by
 cases o with
 | nx ρ=>exact m ρ ho
 | _=>exact ho.elim
theorem Qaj(h:Run f ρ (Nx P))(k:∀ρ',P ρ'->Run g ρ' Q):Run (Qe f g) ρ Q:=run_seq (h.nx k)
noncomputable def Qb8(w:Int×Int×Bool):Int×Int:=(if w.2.1<w.1 then w.2.1 else w.1,if w.2.1>w.1 then w.2.1 else w.1)
noncomputable def Qbq(w:Int×Int×Bool):Int×Int:=(w.1,w.2.1)
noncomputable def Qc1(W:List (Int×Int×Bool)):List (Int×Int):=(W.filter λw=> !w.2.2).map Qb8
noncomputable def Qdv(W:List (Int×Int×Bool)):List (Int×Int):=(W.filter λw=>w.2.2).map Qbq
theorem Qfq{m:Nat}{W:List (Int×Int×Bool)}(h:∀w∈W,GoodW m w):∀s∈Qc1 W,Good m s/\s.1<s.2:=λs hs=>by
 obtain⟨w,hw,rfl⟩:=ZA.mp hs
 obtain⟨⟨h1,h2,h3,h4,h5⟩,_⟩:=h w (ZG.mp hw).1
 simp only at h1 h2 h3 h4 h5
 unfold Qb8 Good
 simp only
 split<;>split<;>omega
theorem Qfx{m:Nat}{W:List (Int×Int×Bool)}(h:∀w∈W,GoodW m w):∀s∈Qdv W,Good m s/\s.1<m:=λs hs=>by
 obtain⟨w,hw,rfl⟩:=ZA.mp hs
 obtain⟨h1,h2⟩:=h w (ZG.mp hw).1
 exact⟨h1,h2 (by simpa using(ZG.mp hw).2)⟩
theorem Qjd(W:List (Int×Int×Bool)):(Qc1 W).length<=W.length:=by unfold Qc1;rw[Zd];exact ZaL _ _
theorem QjG(W:List (Int×Int×Bool)):(Qdv W).length<=W.length:=by unfold Qdv;rw[Zd];exact ZaL _ _
structure QuH (m:Nat) (t kind:Int) (R L:List (Int×Int)):Prop where
 ex:∃W,(∀w∈Qwm m t kind,w∈W)/\(∀w∈W,GoodW m w)/\W.length<=100/\R=Qc1 W/\L=Qdv W
theorem QuH.good{m:Nat}{t kind:Int}{R L:List (Int×Int)}(h:QuH m t kind R L):(∀s∈R,Good m s)/\(∀s∈L,Good m s)/\R.length<=100/\L.length<=100:=by
 obtain⟨W,_,h2,h3,rfl,rfl⟩:=h.ex
 exact⟨λs hs=>(Qfq h2 s hs).1,λs hs=>(Qfx h2 s hs).1,ZM (Qjd W) h3,ZM (QjG W) h3⟩
theorem Qe3:up f i v k=if k=i then v else f k:=rfl
theorem Qbf{fa:DE}{ρ:En}{r:R}{m:Int}{R L:List (Int×Int)}(h:fa ρ=some r)(e:r.d=Qj m R L):
  Qi fa (dC (.int 0)) ρ=some ⟨.int m,true,[]⟩/\Qi fa (dC (.int 1)) ρ=some ⟨Qk R,r.fr,r.M⟩/\Qi fa (dC (.int 2)) ρ=some ⟨Qk L,r.fr,r.M⟩:=by
 unfold Qi
 rw[h]
 simp only[Za,e,Qvp]
 exact⟨rfl,rfl,rfl⟩
theorem Qcb(h:fa ρ=some r)(e:r.d= .lst xs):dBf QaS (Qb fa Qg) ρ=some ⟨.int xs.length,true,[]⟩:=by
 unfold dBf
 rw[Qw h (Q0 _),Za]
 simp[e,QaS]
theorem Qk1(ha:fa ρ=some ra)(ea:ra.d=d)(hb:fb ρ=some rb)(eb:rb.d=d)(hs:d.sim 8=true):dOp gNe fa fb ρ=some ⟨.bl false,true,[]⟩:=by
 refine QT ha hb ?_
 rw[ea,eb]
 unfold gNe
 rw[hs,QpP hs];rfl
theorem QkD(ha:fa ρ=some ra)(hb:fb ρ=some rb)(h1:ra.d.sim 8=true)(h2:rb.d.sim 8=true):dOp gEq fa fb ρ=some ⟨.bl (deq ra.d rb.d),true,[]⟩:=by
 refine QT ha hb ?_
 unfold gEq
 rw[h1,h2];rfl
def Qlk(d:Den):Prop:=∀(m:Nat) (R L:List (Int×Int)),m<=1000->R.length+R.length+L.length<=1000000->(∀s∈R,Good m s)->(∀s∈L,Good m s)->d [Qj m R L]=some (Qc m (Qag R L),true)
theorem Qsg(h:QeX d):Qlk (Qs 1 (QeQ d)):=λm R L h1 h2 h3 h4=>Qqc h h1 h2 h3 h4
theorem Qf0(h:0<b)(h2:b<2^200):Qdx b=true:=by
 unfold Qdx
 have h3:b.natAbs<2^8000:=ZI (by omega:b.natAbs<2^200) (Zbz (by decide) (by decide))
 simp only[Zk,decide_eq_true_eq]
 exact⟨by omega,h3⟩
theorem Qgh(ha:fa ρ=some ra)(ea:ra.d= .int a)(hb:fb ρ=some rb)(eb:rb.d= .int b)(h:0<b)(h2:b<2^200)
  (q:Q (.nx ((ρ.set i (some (.int (a / b),true))).set j (some (.int (a % b),true))))):Run (QcT (.tp [i,j]) (dDm (Qb fa (Qb fb Qg)))) ρ Q:=by
 have e:dDm (Qb fa (Qb fb Qg)) ρ=some ⟨.tup [.int (a / b),.int (a % b)],true,[]⟩:=by
  unfold dDm
  rw[Qw ha (Qw hb (Q0 _)),Za]
  simp only[ea,eb]
  rw[if_pos (Qf0 h h2),Qhe _ _ (by omega),Qhs _ _ (by omega)]
 refine⟨_,?_,q⟩
 unfold QcT
 rw[e]
 rfl
theorem QwW(xs:List D):deq (.lst xs) (.lst [])=xs.isEmpty:=by cases xs<;>rfl
theorem Qxp(n:Nat)(ns:List Int):(Qm ns).sim (n+1)=true:=by
 unfold Qm
 simp only[D.sim,ZbH,Zaa]
 intro p _
 cases n<;>rfl
theorem QlL{fa:DE}{ρ:En}{r:R}{ns:List Int}(ha:fa ρ=some r)(e:r.d= .lst (ns.map .int)):QA (dOp gNe fa (Q1 Qg)) ρ=some (!ns.isEmpty):=by
 refine QF (QT ha rfl ?_) rfl
 rw[e]
 unfold gNe
 have:(D.lst (ns.map .int)).sim 8=true:=Qxp 7 ns
 rw[this]
 show some (D.bl (!deq (.lst (ns.map .int)) (.lst [])))=_
 rw[QwW];simp
theorem QpO(ha:fa ρ=some ra)(ea:ra.d= .int a)(hb:fb ρ=some rb)(eb:rb.d= .int b)(h:0<=b/\b<=1000/\a.natAbs<2^200):dOp Qi0 fa fb ρ=some ⟨.int (a^b.toNat),true,[]⟩:=by
 refine QT ha hb ?_
 rw[ea,eb]
 show(if 0<=b/\b<=1000/\a.natAbs<2^200 then some (D.int (a^b.toNat))else none)=_
 rw[if_pos h]
theorem Qlr(hx:ρ[x]? =some (some (Qm A,true)))(ha:fa ρ=some r)(hf:r.d= .int n)(hl:A.length<16777216)(q:Q (.nx (ρ.set x (some (Qm (A++[n]),true))))):Run (QcM x QU fa) ρ Q:=by
 refine Qij hx ha (by rw[hf];rfl) (by simpa using hl) ?_
 rw[hf]
 unfold Qm at q
 rw[ZY]at q
 exact q
noncomputable abbrev B40:Int:=10000000000000000000000000000000000000000
noncomputable def Qen:DS:=(Qe (Qy 2 (dOp Qi0 (dC (.int 10)) (dC (.int 40)))) (Qe (Qy 3 (dC (.int 0))) (Qe (sIf (QA (dOp gNe (Qa 0) (Q1 Qg))) (Qe (Qy 3 (Qcw (Qi (Qa 0) (dC (.int 0))))) Qp) Qp) (Qe (Qy 4 (Q1 Qg)) (Qe (QaH (QaT (Qa 1)) (.nm 5) (Qe (QcT (.tp [3,6]) (dDm (Qb (Qa 3) (Qb (Qa 2) Qg)))) (Qe (QcM 4 QU (Qa 6)) Qp))) (Qe (sIf (QA (dOp gGt (Qa 3) (dC (.int 0)))) (Qe (QZ (Qa 4)) Qp) Qp) (Qe (Qy 7 (Q1 Qg)) (Qe (QaH (QaT (Qa 1)) (.nm 5) (Qe (Qy 8 (dC (.int 7919))) (Qe (sIf (QA (dOp gNe (Qa 0) (Q1 Qg))) (Qe (Qy 8 (Qcw (Qi (Qa 0) (dOp Qbz (Qa 5) (dBf QaS (Qb (Qa 0) Qg)))))) Qp) Qp) (Qe (Qy 8 (dOp Qbz (Qau (QQ (QQ (QQ (Qa 8) (Qau (Qau (Qa 5) (Qa 5)) (dC (.int 7919)))) (Qau (Qa 5) (dC (.int 104729)))) (dC (.int 31))) (dC (.int 48271))) (dC (.int 2147483647)))) (Qe (Qy 8 (dOp Qbz (Qau (dOp Qbz (Qau (Qa 8) (Qa 8)) (dC (.int 2147483629))) (QQ (Qau (dC (.int 2)) (Qa 5)) (dC (.int 69621)))) (dC (.int 2147483587)))) (Qe (QcM 7 QU (dOp Qbz (Qau (Qa 8) (dOp Qi0 (dC (.int 618970019642690137449562111)) (dC (.int 2)))) (Qa 2))) Qp)))))) (Qe (QZ (Qa 7)) Qp)))))))))
def CellsOk(d:Den):Prop:=∀(ns:List Int) (n:Nat),ns.length<=63->n<=200->∃cs:List Int,d [.lst (ns.map .int),.int n]=some (Qm cs,true)/\cs.length=n/\∀c∈cs,0<=c/\c<B40
theorem Qrk:CellsOk (Qs 9 Qen):=λns n hl hn=>by
 have key:Run Qen (Qam 9 [.lst (ns.map .int),.int n]) (Rt λd fr=>∃cs:List Int,d=Qm cs/\fr=true/\cs.length=n/\∀c∈cs,0<=c/\c<B40):=by
  refine run_seq (Qo (r:=⟨.int B40,true,[]⟩) ?_ ?_)
  ·exact QpO (a:=10) (b:=40) rfl rfl rfl rfl (by decide)
  rw[Qq]
  refine run_seq (Qo (r:=⟨.int 0,true,[]⟩) rfl ?_)
  rw[Qq]
  refine Qaj (P:=λρ=>∃z:Int,ρ=[some (.lst (ns.map .int),false),some (.int n,true),some (.int B40,true),some (.int z,true),none,none,none,none,none]) ?_ ?_
  ·refine QW (QlL (ns:=ns) (r:=⟨.lst (ns.map .int),false,[]⟩) rfl rfl) (λh=>?_) (λ_=>Qn ⟨0,rfl⟩)
   cases ns with
   | nil=>cases h
   | cons a r=>exact run_seq (Qo (Qhq (QcE rfl rfl rfl rfl (by decide) rfl)) (Qn ⟨a,by rw[QfO rfl];rfl⟩))
  rintro ρ ⟨z,rfl⟩
  refine run_seq (Qo rfl ?_)
  rw[Qq]
  refine Qaj (P:=λρ=>∃(z:Int) (cs:List Int) (j5 j6:Option (D×Bool)),cs.length=n/\(∀c∈cs,0<=c/\c<B40)/\ρ=[some (.lst (ns.map .int),false),some (.int n,true),some (.int B40,true),some (.int z,true),some (Qm cs,true),j5,j6,none,none]) ?_ ?_
  ·refine QX (List.range n) (λi ρ=>∃(z:Int) (cs:List Int) (j5 j6:Option (D×Bool)),cs.length=i/\(∀c∈cs,0<=c/\c<B40)/\ρ=[some (.lst (ns.map .int),false),some (.int n,true),some (.int B40,true),some (.int z,true),some (Qm cs,true),j5,j6,none,none]) (Qbv rfl rfl (by omega)) rfl ⟨z,[],none,none,rfl,by simp,rfl⟩ ?_ ?_
   ·rintro i k ρ hi ⟨z,cs,j5,j6,h1,h2,rfl⟩
    have hin:i<n:=by have:=(Zb.mp hi).1;simpa using this
    refine⟨_,rfl,?_⟩
    refine run_seq (Qgh rfl rfl rfl rfl (by decide) (by decide) ?_)
    refine run_seq (Qlr rfl rfl rfl (by omega) (Qn ⟨z / B40,cs++[z % B40],_,_,by simp[h1],λc hc=>?_,rfl⟩))
    rcases ZK.mp hc with hc | hc
    ·exact h2 c hc
    ·rw[ZF.mp hc];exact⟨ZN _ (by decide),ZL _ (by decide)⟩
   ·rintro ρ ⟨z,cs,j5,j6,h1,h2,rfl⟩
    exact⟨z,cs,j5,j6,by simpa using h1,h2,rfl⟩
  rintro ρ ⟨z,cs,j5,j6,h1,h2,rfl⟩
  refine Qay (QW (QF rfl rfl) (λ_=>QL (Q:=λd fr=>∃cs:List Int,d=Qm cs/\fr=true/\cs.length=n/\∀c∈cs,0<=c/\c<B40) rfl ⟨cs,rfl,rfl,h1,h2⟩ |> λh=>h.mono λo ho=>by cases o<;>first | exact ho | exact ho.elim) (λ_=>Qn ?_))
  refine run_seq (Qo rfl ?_)
  rw[Qq]
  refine Qaj (P:=λρ=>∃(cs':List Int) (j5 j8:Option (D×Bool)),cs'.length=n/\(∀c∈cs',0<=c/\c<B40)/\ρ=[some (.lst (ns.map .int),false),some (.int n,true),some (.int B40,true),some (.int z,true),some (Qm cs,true),j5,j6,some (Qm cs',true),j8]) ?_ ?_
  ·refine QX (List.range n) (λi ρ=>∃(cs':List Int) (j5 j8:Option (D×Bool)),cs'.length=i/\(∀c∈cs',0<=c/\c<B40)/\ρ=[some (.lst (ns.map .int),false),some (.int n,true),some (.int B40,true),some (.int z,true),some (Qm cs,true),j5,j6,some (Qm cs',true),j8]) (Qbv rfl rfl (by omega)) rfl ⟨[],_,none,rfl,by simp,rfl⟩ ?_ ?_
   ·rintro i k ρ hi ⟨cs',j5,j8,h3,h4,rfl⟩
    have hin:i<n:=by have:=(Zb.mp hi).1;simpa using this
    have hk:k<n:=by have:=Zy hi;simpa using this
    refine⟨_,rfl,?_⟩
    refine run_seq (Qo rfl ?_)
    rw[Qq]
    refine Qaj (P:=λρ=>∃y:Int,ρ=[some (.lst (ns.map .int),false),some (.int n,true),some (.int B40,true),some (.int z,true),some (Qm cs,true),some (.int k,true),j6,some (Qm cs',true),some (.int y,true)]) ?_ ?_
    ·refine QW (QlL rfl rfl) (λh=>?_) (λ_=>Qn ⟨7919,rfl⟩)
     have hne:0<ns.length:=by cases ns with
      | nil=>cases h
      | cons a r=>simp
     have m1:=ZN (k:Int) (by omega:(ns.length:Int)≠0)
     have m2:=ZL (k:Int) (by omega:(0:Int)<ns.length)
     have hg:ns[((k:Int) % ns.length).toNat]? =some (ns[((k:Int) % ns.length).toNat]'(by omega)):=Zp _
     have elen:dBf QaS (Qb (Qa 0) Qg) [some (.lst (ns.map .int),false),some (.int n,true),some (.int B40,true),some (.int z,true),some (Qm cs,true),some (.int k,true),j6,some (Qm cs',true),some (.int 7919,true)]=some ⟨.int ns.length,true,[]⟩:=by
      rw[Qcb rfl rfl,Zd]
     exact run_seq (Qo (Qhq (QcE rfl rfl (Qbj rfl rfl elen rfl (by omega)) rfl m1 hg)) (Qn ⟨_,by rw[QfO rfl];rfl⟩))
    rintro ρ ⟨y,rfl⟩
    refine run_seq (Qo (Qbj (Qct (Qad (Qad (Qad rfl rfl (Qct (Qct rfl rfl rfl rfl (Qea (by omega))) rfl rfl rfl (Qfd (by decide))) rfl) rfl (Qct rfl rfl rfl rfl (Qfd (by decide))) rfl) rfl rfl rfl) rfl rfl rfl (Qfd (by decide))) rfl rfl rfl (by decide)) ?_)
    rw[Qq]
    generalize ew:(y+(k:Int)*k*7919+(k:Int)*104729+31)*48271 % 2147483647=w
    have w1:0<=w:=by rw[← ew];exact ZN _ (by decide)
    have w2:w<2147483647:=by rw[← ew];exact ZL _ (by decide)
    refine run_seq (Qo (Qbj (Qct (Qbj (Qct rfl rfl rfl rfl (Qea (by omega))) rfl rfl rfl (by decide)) rfl (Qad (Qct rfl rfl rfl rfl (Qea (by decide))) rfl rfl rfl) rfl (Qfd (by omega))) rfl rfl rfl (by decide)) ?_)
    rw[Qq]
    generalize eu:w*w % 2147483629*(2*(k:Int)+69621) % 2147483587=u
    have u1:0<=u:=by rw[← eu];exact ZN _ (by decide)
    have u2:u<2147483587:=by rw[← eu];exact ZL _ (by decide)
    have epow:dOp Qi0 (dC (.int 618970019642690137449562111)) (dC (.int 2)) [some (.lst (ns.map .int),false),some (.int n,true),some (.int B40,true),some (.int z,true),some (Qm cs,true),some (.int k,true),j6,some (Qm cs',true),some (.int u,true)]=some ⟨.int (618970019642690137449562111^2),true,[]⟩:=QpO (b:=2) rfl rfl rfl rfl (by decide)
    refine run_seq (Qlr rfl (Qbj (Qct rfl rfl epow rfl (Qea (by omega))) rfl rfl rfl (by decide)) rfl (by omega) (Qn ⟨_,_,_,?_,λc hc=>?_,rfl⟩))
    ·simp[h3]
    ·rcases ZK.mp hc with hc | hc
     ·exact h4 c hc
     ·rw[ZF.mp hc];exact⟨ZN _ (by decide),ZL _ (by decide)⟩
   ·rintro ρ ⟨cs',j5,j8,h3,h4,rfl⟩
    exact⟨cs',j5,j8,by simpa using h3,h4,rfl⟩
  rintro ρ ⟨cs',j5,j8,h3,h4,rfl⟩
  exact QL rfl ⟨cs',rfl,rfl,h3,h4⟩
 obtain⟨o,h1,h2⟩:=key
 cases o with
 | rt d fr=>
  obtain⟨cs,rfl,rfl,h3,h4⟩:=h2
  exact⟨cs,by unfold Qs;rw[h1];rfl,h3,h4⟩
 | _=>exact h2.elim
theorem Qmq{α β:Type}(f:α->β)(xs:List α)(k:Nat)(y:α):(Qab xs k y).map f=Qab (xs.map f) k (f y):=by
 unfold Qab;simp[ZbV,Zcs]
theorem QeY{α:Type}{xs:List α}{k:Nat}{y z:α}:z∈Qab xs k y↔z=y∨z∈xs:=by
 unfold Qab
 rw[ZK,Zn]
 constructor
 ·rintro(h | h | h)
  ·exact .inr (List.mem_of_mem_take h)
  ·exact .inl h
  ·exact .inr (List.mem_of_mem_drop h)
 ·rintro(h | h)
  ·exact .inr (.inl h)
  ·rw[← ZaK k xs,ZK]at h
   rcases h with h | h
   ·exact .inl h
   ·exact .inr (.inr h)
theorem QmL{α:Type}(xs:List α)(k:Nat)(y:α):(Qab xs k y).length=xs.length+1:=by
 unfold Qab;rw[Zt,Zo,Zah,Zan];omega
theorem Qi7{α β:Type}(f:α->β):∀(l:List α) (k:Nat),(l.map f).eraseIdx k=(l.eraseIdx k).map f
 | [],_=>rfl
 | _::_,0=>rfl
 | a::l,k+1=>by simp only[Zx,ZaS,Qi7 f l k]
theorem QhE{α:Type}:∀(l:List α) (k:Nat) (b:α),l[k]? =some b->(b::l.eraseIdx k).Perm l
 | [],_,_,h=>by simp at h
 | a::l,0,b,h=>by simp at h;subst h;exact .refl _
 | a::l,k+1,b,h=>by
  have:=QhE l k b (by simpa using h)
  simp only[ZaS]
  exact(List.Perm.swap a b _).trans (this.cons a)
theorem Qnd{x y:Nat}{fi:DE}{ρ:En}{ri:R}{A B:List Int}{i b:Int}{Q:Out->Prop}(hx:ρ[x]? =some (some (Qm A,true)))(hy:ρ[y]? =some (some (Qm B,true)))(hi:fi ρ=some ri)(ei:ri.d= .int i)(hxy:x≠y)(h0:0<=i)(h1:i<2^62)(hb:B[i.toNat]? =some b)(hl:A.length<16777216)
  (q:Q (.nx ((ρ.set y (some (Qm (B.eraseIdx i.toNat),true))).set x (some (Qm (A++[b]),true))))):Run (Qd7 x y fi) ρ Q:=by
 refine⟨_,?_,q⟩
 unfold Qd7
 rw[hx,hy]
 simp only[Qm,Za,hi,ei,Zd,QeA]
 rw[if_pos ⟨hxy,Qid B,h0,h1,hl⟩,Zm,hb]
 simp only[ZO,ZY]
 rw[Qi7]
 rfl
def Esc(m:Nat)(W:List (Int×Int×Bool)):Prop:=∀A:Nat->Prop,(∃p,p<m/\A p)->∃w∈W,w.1<m/\A w.1.toNat/\(w.2.1=m∨¬A w.2.1.toNat)
theorem Esc.mono{m:Nat}{W W':List (Int×Int×Bool)}(h:Esc m W)(s:∀w∈W,w∈W'):Esc m W':=λA hA=>let ⟨w,hw,r⟩:=h A hA;⟨w,s w hw,r⟩
def Qgp(m:Nat)(O:List Int)(w:Int×Int×Bool)(j:Nat):Prop:=O[j]? =some w.1/\(w.2.1=m∨∃i,i<j/\O[i]? =some w.2.1)
theorem Qgp.app{m:Nat}{O O':List Int}{w:Int×Int×Bool}{j:Nat}(h:Qgp m O w j):Qgp m (O++O') w j:=by
 obtain⟨h1,h2⟩:=h
 have hj:j<O.length:=(Zb.mp h1).1
 refine⟨by rw[ZV hj];exact h1,?_⟩
 rcases h2 with h2 | ⟨i,hi,h2⟩
 ·exact .inl h2
 ·exact .inr ⟨i,hi,by rw[ZV (by omega)];exact h2⟩
theorem QuT{m:Nat}{O:List Int}{W:List (Int×Int×Bool)}(hp:O.Perm ((List.range m).map λ(k:Nat)=>(k:Int)))(hW:∀j,j<m->∃w∈W,Qgp m O w j):Esc m W:=λA hpt=>by
 obtain⟨p,hp1,hp2⟩:=hpt
 have hl:O.length=m:=by rw[hp.length_eq];simp
 have nd:O.Nodup:=hp.nodup_iff.mpr (by
  rw[ZaY,Zay]
  exact List.Pairwise.imp (λh z=>h (by omega)) Zao)
 have mem:∀x∈O,0<=x/\x<m:=λx hx=>by
  obtain⟨k,hk,rfl⟩:=ZA.mp (hp.mem_iff.mp hx)
  have:=Zf.mp hk
  omega
 have ex:∃(j:Nat) (x:Int),O[j]? =some x/\A x.toNat:=by
  have:(p:Int)∈O:=hp.mem_iff.mpr (ZA.mpr ⟨p,Zf.mpr hp1,rfl⟩)
  obtain⟨j,hj⟩:=Zam this
  exact⟨j,_,hj,by simpa using hp2⟩
 have least:∃(j:Nat),(∃x:Int,O[j]? =some x/\A x.toNat)/\∀i:Nat,i<j->¬ ∃x:Int,O[i]? =some x/\A x.toNat:=by
  obtain⟨j,hj⟩:=ex
  induction j using Nat.strongRecOn with
  | _ j ih=>
   by_cases h:∃i:Nat,i<j/\∃x:Int,O[i]? =some x/\A x.toNat
   ·obtain⟨i,hi,h⟩:=h;exact ih i hi h
   ·exact⟨j,hj,λi hi hx=>h ⟨i,hi,hx⟩⟩
 obtain⟨j,⟨x,hx,hA⟩,hmin⟩:=least
 have hj:j<m:=by rw[← hl];exact(Zb.mp hx).1
 obtain⟨w,hw,h1,h2⟩:=hW j hj
 rw[hx]at h1
 cases h1
 refine⟨w,hw,(mem _ (Zy hx)).2,hA,?_⟩
 rcases h2 with h2 | ⟨i,hi,h2⟩
 ·exact .inl h2
 ·exact .inr λhA'=>hmin i hi ⟨_,h2,hA'⟩
theorem QpE{m:Nat}{O:List Int}{w:Int×Int×Bool}{j:Nat}(nd:O.Nodup)(mem:∀x∈O,0<=x/\x<m)(h:Qgp m O w j):GoodW m w:=by
 obtain⟨h1,h2⟩:=h
 have a:=mem _ (Zy h1)
 refine⟨⟨a.1,?_,by dsimp only;omega,?_,?_⟩,λ_=>a.2⟩
 ·rcases h2 with h2 | ⟨i,hi,h2⟩
  ·dsimp only;omega
  ·exact(mem _ (Zy h2)).1
 ·rcases h2 with h2 | ⟨i,hi,h2⟩
  ·dsimp only;omega
  ·have:=mem _ (Zy h2);dsimp only;omega
 ·rcases h2 with h2 | ⟨i,hi,h2⟩
  ·dsimp only;omega
  ·dsimp only
   intro z
   rw[z,← h2]at h1
   have hil:i<O.length:=(Zb.mp h2).1
   have hjl:j<O.length:=by
    by_cases q:j<O.length
    ·exact q
    ·rw[Zv (by omega),h2]at h1;cases h1
   have:=(List.getElem?_inj hjl nd).mp h1
   omega
theorem QpU{m:Nat}{a s:Int}{ln:Bool}(h0:0<=a)(h1:a<=m)(hs:0<=s)(hs2:s<m)(hl:ln=true->a<m):GoodW m (a,(a+1+s) % (m+1),ln):=by
 have h5:=ZN (a+1+s) (by omega:(m:Int)+1≠0)
 have h6:=ZL (a+1+s) (by omega:(0:Int)<m+1)
 have h7:=Qut (a:=a) (x:=1+s) (n:=(m:Int)+1) (by omega) (by omega)
 rw[← Int.add_assoc,show a % ((m:Int)+1)=a from Int.emod_eq_of_lt h0 (by omega)]at h7
 exact⟨⟨h0,h5,h1,by dsimp only;omega,λz=>h7 z.symm⟩,hl⟩
noncomputable def Q9(m:Nat)(g:Nat->Int):Int:=((List.range m).map g).sum
theorem Qbh(m:Nat)(g:Nat->Int):Q9 (m+1) g=Q9 m g+g m:=by
 unfold Q9;rw[ZaE,ZY,ZbF];simp
theorem Qaw(h:∀i,i<m->f i=g i):Q9 m f=Q9 m g:=by
 unfold Q9;rw[ZD λi hi=>h i (Zf.mp hi)]
theorem Qcv(m:Nat)(f g:Nat->Int):Q9 m (λi=>f i+g i)=Q9 m f+Q9 m g:=by
 induction m with
 | zero=>rfl
 | succ m ih=>rw[Qbh,Qbh,Qbh,ih];omega
theorem QaQ(m:Nat):Q9 m (λ_=>0)=0:=by
 induction m with
 | zero=>rfl
 | succ m ih=>rw[Qbh,ih];rfl
theorem Qlb(m:Nat)(c:Int)(f:Nat->Int):Q9 m (λi=>c*f i)=c*Q9 m f:=by
 induction m with
 | zero=>simp[Q9]
 | succ m ih=>rw[Qbh,Qbh,ih,Int.mul_add]
theorem QcP(hp:p<m)(v:Int)(f:Nat->Int):Q9 m (λi=>(if i=p then v else 0)*f i)=v*f p:=by
 induction m with
 | zero=>omega
 | succ m ih=>
  rw[Qbh]
  by_cases h:p=m
  ·subst h
   rw[if_pos rfl,Qaw (g:=λ_=>0) λi hi=>by rw[if_neg (by omega)];simp,QaQ];simp
  ·rw[ih (by omega),if_neg (λz=>h z.symm)];simp
noncomputable def Qr(m:Nat)(T:Nat->Nat->Int)(f c:Nat->Int):Nat->Int:=λj=>f j+Q9 m λi=>c i*T i j
theorem Qd9(h:∀i,i<m->f i=g i):Qc m f=Qc m g:=by
 unfold Qc
 congr 1
 refine ZD λi hi=>?_
 rw[h i (Zf.mp hi)]
noncomputable def QeW:DS:=(Qe (QaH (Q7 (Qa 1)) (.nm 2) (Qe (sIf (QA (dOp gNe (dBf QaS (Qb (Qa 2) Qg)) (Qi (Qa 0) (dC (.int 0))))) (Qe QH Qp) Qp) Qp)) Qp)
def Qlf(d:Den):Prop:=∀(m:Nat) (R L:List (Int×Int)) (fs:List (Nat->Int)),d [Qj m R L,.lst (fs.map λf=>Qc m f)]=some (.non,true)
theorem Qt1:Qlf (Qs 3 QeW):=λm R L fs=>by
 have key:Run QeW (Qam 3 [Qj m R L,.lst (fs.map λf=>Qc m f)]) (Nx λ_=>True):=by
  refine run_seq (QX fs (λ_ ρ=>∃j2,ρ=[some (Qj m R L,false),some (.lst (fs.map λf=>Qc m f),false),j2]) rfl rfl ⟨none,rfl⟩ ?_ ?_)
  ·rintro i f ρ _ ⟨j2,rfl⟩
   refine⟨_,rfl,?_⟩
   refine run_seq (QW (b:=false) (QF (Qgf (Qcb rfl rfl) rfl (Qbf rfl rfl).1 rfl) (by simp)) (λh=>by cases h) (λ_=>Qn (Qn ⟨_,rfl⟩)))
  ·rintro ρ ⟨j2,rfl⟩
   exact Qn trivial
 obtain⟨o,h1,h2⟩:=key
 unfold Qs
 rw[h1]
 cases o with
 | nx ρ=>rfl
 | _=>exact h2.elim
theorem Qdm(h:fa ρ=some r)(q:Q (.nx ρ)):Run (Qdc fa) ρ Q:=⟨_,by simp[Qdc,h],q⟩
theorem Qne(f g:Nat->D):Qef ((List.range m).map f) ((List.range m).map g)=(List.range m).map λi=> .tup [f i,g i]:=by
 generalize List.range m=l
 induction l with
 | nil=>rfl
 | cons n ns ih=>unfold Qef at ih ⊢;simp only[Zx,List.zip_cons_cons,ih]
theorem Qkp(h:fs ρ=some rs)(e:rs.ds=[Qc m f]):dList fs ρ=some ⟨Qc m f,true,[]⟩:=by
 unfold dList
 rw[h,Za,e]
 simp[Qc,Qaq]
theorem QiL(ha:fa ρ=some ra)(ea:ra.d= .lst ((List.range m).map f))(hb:fb ρ=some rb)(eb:rb.d= .lst ((List.range m).map g)):QcF fa fb ρ=some ⟨(List.range m).map λi=> .tup [f i,g i],ra.M++rb.M⟩:=by
 unfold QcF
 rw[ha,Za,hb,Za,ea,eb]
 simp only[Qne]
theorem Qtj(i j:Nat)(s:Int×Int):(hit i j s).natAbs<=1:=by unfold hit;split<;>split<;>decide
theorem QgP(i j:Nat):∀S:List (Int×Int),((S.map (hit i j)).sum).natAbs<=S.length
 | []=>by simp
 | s::S=>by
  have:=QgP i j S
  have:=Qtj i j s
  rw[Zx,ZR,Zo]
  omega
theorem Qiq{a b:Nat}(ha:fa ρ=some ra)(ea:ra.d=Qm cs)(hl:fl ρ=some rl)(el:rl.d= .int a)(hh:fh ρ=some rh)(eh:rh.d= .int b):Qc7 fa (Qa6 fl) (Qa6 fh) ρ=some ⟨Qm ((cs.drop (min a cs.length)).take (min b cs.length-min a cs.length)),true,[]⟩:=by
 unfold Qc7 Qa6
 simp only[ha,hl,hh,Za,ea,el,eh,Qm,cutD,Zd,HT.QiU,← Zcs,← ZbV,Qaq,Qid,if_true]
theorem QmJ{cs:List Int}{a b:Nat}{c:Int}(h:c∈(cs.drop a).take b):c∈cs:=List.mem_of_mem_drop (List.mem_of_mem_take h)
structure QcY (m:Nat) (R L:List (Int×Int)):Prop where
 ex:∃W,Esc m W/\(∀w∈W,GoodW m w)/\W.length<=200/\R=Qc1 W/\L=Qdv W
theorem QcY.good{m:Nat}{R L:List (Int×Int)}(h:QcY m R L):(∀s∈R,Good m s)/\(∀s∈L,Good m s)/\R.length<=200/\L.length<=200/\(∀s∈R,s.1<s.2)/\∀s∈L,s.1<m:=by
 obtain⟨W,_,h2,h3,rfl,rfl⟩:=h.ex
 exact⟨λs hs=>(Qfq h2 s hs).1,λs hs=>(Qfx h2 s hs).1,ZM (Qjd W) h3,ZM (QjG W) h3,λs hs=>(Qfq h2 s hs).2,λs hs=>(Qfx h2 s hs).2⟩
theorem Qjb{α:Type}(m:Nat)(g:Nat->α->Int):∀S:List α,Q9 m (λj=>(S.map (g j)).sum)=(S.map λs=>Q9 m λj=>g j s).sum
 | []=>by simp[QaQ]
 | s::S=>by
  simp only[Zx,ZR]
  rw[Qcv,Qjb m g S]
theorem QmC{α:Type}(c:Int)(f:α->Int):∀S:List α,c*(S.map f).sum=(S.map λs=>c*f s).sum
 | []=>by simp
 | s::S=>by simp only[Zx,ZR,Int.mul_add,QmC c f S]
theorem QqI:Qc m (Qr m T f λ_=>0)=Qc m f:=Qd9 λj _=>by
 unfold Qr
 rw[Qaw (g:=λ_=>0) λi _=>by simp,QaQ];omega
structure TP (m:Nat) (T:Nat->Nat->Int):Prop where
 neg:∀p,p<m->T p p<0
 pos:∀i j,i<m->j<m->i≠j->0<=T i j
 bnd:∀i j,i<m->j<m->(T i j).natAbs<2^64
 wt:∃w:Nat->Int,(∀j,0<=w j)/\∀i,i<m->Q9 m (λj=>T i j*w j)<= -1
inductive Leg (m:Nat) (T:Nat->Nat->Int) (f:Nat->Int):(Nat->Int)->Prop where
 | nil:Leg m T f λ_=>0
 | step {c:Nat->Int}{p:Nat}{t:Int}:Leg m T f c->p<m->0<=t->t*(0-T p p)<=Qr m T f c p->Leg m T f (up c p (c p+t))
def Stb(m:Nat)(T:Nat->Nat->Int)(g:Nat->Int):Prop:=∀p,p<m->g p<0-T p p
theorem Qgu(hp:p<m)(j:Nat):Qr m T f (up c p (c p+v)) j=Qr m T f c j+v*T p j:=by
 unfold Qr
 have e2:(λi=>up c p (c p+v) i*T i j)=λi=>c i*T i j+(if i=p then v else 0)*T i j:=by
  funext i
  unfold up
  by_cases h:i=p
  ·subst h;simp only[if_true];rw[ZaR]
  ·simp[h]
 rw[e2,Qcv,QcP hp]
 omega
theorem Leg.nonneg(h:Leg m T f c):∀i,0<=c i:=by
 induction h with
 | nil=>intro i;exact Zau _
 | step _ _ ht _ ih=>
  intro i
  unfold up
  split
  ·have:=ih ‹Nat›;rename_i p _ _ _ _ _;have:=ih p;omega
  ·exact ih i
theorem Qgx(h:∀i,i<m->f i<=g i):Q9 m f<=Q9 m g:=by
 induction m with
 | zero=>exact Zau _
 | succ m ih=>
  rw[Qbh,Qbh]
  have:=ih λi hi=>h i (by omega)
  have:=h m (by omega)
  omega
theorem Leg.least(tp:TP m T)(h:Leg m T f c)(h0:∀i,i<m->0<=c' i)(hs:Stb m T (Qr m T f c')):∀i,i<m->c i<=c' i:=by
 induction h with
 | nil=>exact h0
 | @step c p t _ hp ht hle ih=>
  intro i hi
  unfold up
  split
  ·rename_i e
   subst e
   have key:Qr m T f c i+(c' i-c i)*T i i<=Qr m T f c' i:=by
    unfold Qr
    have e1:Q9 m (λk=>c k*T k i)+(c' i-c i)*T i i=Q9 m (λk=>c k*T k i+(if k=i then c' i-c i else 0)*T k i):=by rw[Qcv,QcP hi]
    have e2:Q9 m (λk=>c k*T k i+(if k=i then c' i-c i else 0)*T k i)<=Q9 m (λk=>c' k*T k i):=by
     refine Qgx λk hk=>?_
     by_cases hki:k=i
     ·subst hki;rw[if_pos rfl,← ZaR];rw[show c k+(c' k-c k)=c' k by omega];exact Zau _
     ·rw[if_neg hki,Zbn,Int.add_zero]
      exact ZaT (ih k hk) (tp.pos k i hk hi hki)
    omega
   have h1:=hs i hi
   have h2:=tp.neg i hi
   by_cases hlt:c i+t<=c' i
   ·exact hlt
   ·exfalso
    have h3:(c' i-c i+1)<=t:=by omega
    have h4:(c' i-c i+1)*(0-T i i)<=t*(0-T i i):=ZaT h3 (by omega)
    have h5:(c' i-c i+1)*(0-T i i)=(0-T i i)-(c' i-c i)*T i i:=by rw[ZaR,Zcq,Int.mul_sub,Int.mul_zero];omega
    omega
  ·exact ih i hi
theorem Leg.unique(tp:TP m T)(hc:Leg m T f c)(hd:Leg m T f d)(sc:Stb m T (Qr m T f c))(sd:Stb m T (Qr m T f d)):∀i,i<m->c i=d i:=λi hi=>by
 have h1:=hc.least tp (λi _=>hd.nonneg i) sd i hi
 have h2:=hd.least tp (λi _=>hc.nonneg i) sc i hi
 omega
theorem Qm8{m:Nat}{T:Nat->Nat->Int}{f c b:Nat->Int}(j:Nat):Qr m T (λi=>2*f i+b i) (λi=>2*c i) j=2*Qr m T f c j+b j:=by
 unfold Qr
 have e:(λi=>2*c i*T i j)=λi=>2*(c i*T i j):=by funext i;rw[Zct]
 rw[e,Qlb];show 2*f j+b j+2*_=2*(f j+_)+b j;omega
theorem Qc3(j:Nat)(h1:f j=g j)(h2:∀i,i<m->c i=d i):Qr m T f c j=Qr m T g d j:=by
 unfold Qr
 rw[h1,Qaw λi hi=>by rw[h2 i hi]]
theorem Leg.QvI(h:Leg m T f c)(b:Nat->Int)(hb:∀i,0<=b i):∃d,Leg m T (λi=>2*f i+b i) d/\∀i,d i=2*c i:=by
 induction h with
 | nil=>exact⟨_,.nil,λi=>by simp⟩
 | @step c p t _ hp ht hle ih=>
  obtain⟨d,hd,e⟩:=ih
  have ed:d=λi=>2*c i:=funext e
  subst ed
  refine⟨_,.step (t:=2*t) hd hp (by omega) ?_,λi=>?_⟩
  ·rw[Qm8]
   have:=hb p
   have e2:2*t*(0-T p p)=2*(t*(0-T p p)):=by rw[Zct]
   omega
  ·show up (λi=>2*c i) p (2*c p+2*t) i=2*up c p (c p+t) i
   unfold up
   split
   ·omega
   ·rfl
theorem Leg.cast(h:Leg m T f c)(e:∀i,c i=d i):Leg m T f d:=by
 have:c=d:=funext e
 rw[← this];exact h
theorem Leg.Qnh(h:Leg m T f c)(e:∀i,i<m->f i=g i):Leg m T g c:=by
 induction h with
 | nil=>exact .nil
 | @step c p t _ hp ht hle ih=>exact .step ih hp ht (by rw[← Qc3 p (e p hp) (λ_ _=>rfl)];exact hle)
noncomputable def wtF(m:Nat)(w g:Nat->Int):Int:=Q9 m λj=>g j*w j
theorem Qwl(hw:∀i,i<m->Q9 m (λj=>T i j*w j)<= -1)(hp:p<m)(ht:0<=t):wtF m w (Qr m T f (up c p (c p+t)))<=wtF m w (Qr m T f c)-t:=by
 unfold wtF
 have e:(λj=>Qr m T f (up c p (c p+t)) j*w j)=λj=>Qr m T f c j*w j+t*(T p j*w j):=by
  funext j;rw[Qgu hp,ZaR,Zct]
 rw[e,Qcv,Qlb]
 have h1:t*Q9 m (λj=>T p j*w j)<=t*(-1):=Int.mul_le_mul_of_nonneg_left (hw p hp) ht
 omega
theorem Qpe(hw:∀j,0<=w j)(hg:∀j,j<m->0<=g j):0<=wtF m w g:=by
 have:=Qgx λi hi=>Zbo (hg i hi) (hw i)
 rw[QaQ]at this
 exact this
theorem Qoa(I:Nat->En->Prop)(step:∀n ρ,I n ρ->∃b,g ρ=some b/\(b=false->Q (.nx ρ))/\(b=true->Run fb ρ λo=>match o with | .nx ρ2=>∃n',n'<n/\I n' ρ2 | .ct ρ2=>∃n',n'<n/\I n' ρ2 | .bk ρ2=>Q (.nx ρ2) | .rt d fr=>Q (.rt d fr))):
  ∀(n:Nat) (ρ:En),I n ρ->Run (QcN g fb) ρ Q:=by
 intro n
 induction n using Nat.strongRecOn with
 | _ n ih=>
  intro ρ h
  obtain⟨b,hb,hf,ht⟩:=step n ρ h
  unfold Run
  rw[Qoz,hb,Za]
  cases b with
  | false=>exact⟨_,by simp,hf rfl⟩
  | true=>
   obtain⟨o,ho,hq⟩:=ht rfl
   rw[if_pos rfl,ho,Za]
   cases o with
   | nx ρ2=>obtain⟨n',hn,hI⟩:=hq;exact ih n' hn ρ2 hI
   | ct ρ2=>obtain⟨n',hn,hI⟩:=hq;exact ih n' hn ρ2 hI
   | bk ρ2=>exact⟨_,rfl,hq⟩
   | rt d fr=>exact⟨_,rfl,hq⟩
theorem Qr7(ha:fa ρ=some ra)(ea:ra.d= .int a)(hb:fb ρ=some rb)(eb:rb.d= .int b)(h:0<b)(h2:b<2^200):dOp QnO fa fb ρ=some ⟨.int (a / b),true,[]⟩:=by
 refine QT ha hb ?_
 rw[ea,eb]
 show(if Qdx b=true then some (D.int (Qeh a b))else none)=_
 rw[if_pos (Qf0 h h2),Qhe _ _ (by omega)]
theorem Qbw{i:Nat}(ha:fa ρ=some ra)(ea:ra.d=Qc m f)(hb:fb ρ=some rb)(eb:rb.d= .int i)(h:i<m):Qi fa fb ρ=some ⟨.int (f i),true,[]⟩:=by
 have:=QmN ha ea hb eb (by omega) (by omega)
 rw[Zw]at this
 exact this
noncomputable def Qge:DS:=(Qe (Qy 3 (dList (Qb (Qa 1) Qg))) (Qe (Qy 4 (dList (Qb (Qa 2) Qg))) (Qe (Qy 5 (dC (.bl true))) (Qe (QcN (QA (Qa 5)) (Qe (Qy 5 (dC (.bl false))) (Qe (QaH (QbH (Qa 0)) (.tp [6,7]) (Qe (Qy 8 (dOp QnO (Qi (Qa 3) (Qa 6)) (dOp Qb2 (dC (.int 0)) (Qi (Qa 7) (Qa 6))))) (Qe (sIf (QA (dOp gGt (Qa 8) (dC (.int 0)))) (Qe (Qy 5 (dC (.bl true))) (Qe (Qde (gI λi j=>some (.int (i+j))) 4 QU (Qa 6) (Qa 8)) (Qe (Qy 3 (Qaf (QcF (Qa 3) (Qa 7)) (.tp [1,2]) [none,none,none,some 8] Qb3 (QQ (Qa 1) (Qau (Qa 3) (Qa 2))))) Qp))) Qp) Qp))) Qp))) (Qe (QZ (Qbu (Qb (Qa 3) (Qb (Qa 4) Qg)))) Qp)))))
def Qf4(d:Den):Prop:=∀(m:Nat) (T:Nat->Nat->Int) (f k:Nat->Int),m<=1000->TP m T->Leg m T f k->(∀j,j<m->0<=Qr m T f k j)->∃k',d [Qai m m T,Qc m (Qr m T f k),Qc m k]=some (.tup [Qc m (Qr m T f k'),Qc m k'],true)/\Leg m T f k'/\(∀j,j<m->0<=Qr m T f k' j)/\Stb m T (Qr m T f k')
theorem Qnz{h s:Int}(hs:0<s)(ht:¬0<h / s)(h0:0<=h):h<s:=by
 have:=ZaX h0 (by omega:0<=s)
 have e:h / s=0:=by omega
 have:=ZL h hs
 have:=Int.emod_add_mul_ediv h s
 rw[e]at this;omega
theorem Qnv{h s:Int}(hs:0<s):h / s*s<=h:=Int.ediv_mul_le h (by omega)
theorem Qnl:Qf4 (Qs 9 Qge):=λm T f k hm tp hk hpos=>by
 obtain⟨w,hw0,hw⟩:=tp.wt
 have key:Run Qge (Qam 9 [Qai m m T,Qc m (Qr m T f k),Qc m k]) (Rt λd fr=>∃k',d= .tup [Qc m (Qr m T f k'),Qc m k']/\fr=true/\Leg m T f k'/\(∀j,j<m->0<=Qr m T f k' j)/\Stb m T (Qr m T f k')):=by
  refine run_seq (Qo (Qkp rfl rfl) ?_)
  rw[Qq]
  refine run_seq (Qo (Qkp rfl rfl) ?_)
  rw[Qq]
  refine run_seq (Qo rfl ?_)
  rw[Qq]
  refine run_seq (Run.mono (Q:=Nx λρ=>∃k' j5 j6 j7 j8,Leg m T f k'/\(∀j,j<m->0<=Qr m T f k' j)/\Stb m T (Qr m T f k')/\ρ=[some (Qai m m T,false),some (Qc m (Qr m T f k),false),some (Qc m k,false),some (Qc m (Qr m T f k'),true),some (Qc m k',true),j5,j6,j7,j8]) ?_ ?_)
  ·refine Qoa (λn ρ=>∃k' bz j6 j7 j8,Leg m T f k'/\(∀j,j<m->0<=Qr m T f k' j)/\(bz=false->Stb m T (Qr m T f k'))/\n=(wtF m w (Qr m T f k')).toNat+(if bz=true then 1 else 0)/\ρ=[some (Qai m m T,false),some (Qc m (Qr m T f k),false),some (Qc m k,false),some (Qc m (Qr m T f k'),true),some (Qc m k',true),some (.bl bz,true),j6,j7,j8]) ?_ _ _ ⟨k,true,none,none,none,hk,hpos,λh=>by(cases h),rfl,rfl⟩
   rintro n ρ ⟨k',bz,j6,j7,j8,hL,hP,hS,rfl,rfl⟩
   refine⟨bz,QF rfl rfl,λh=>⟨k',_,_,_,_,hL,hP,hS h,rfl⟩,λhb=>?_⟩
   subst hb
   refine run_seq (Qo rfl ?_)
   rw[Qq]
   refine Qay (Run.mono (Q:=Nx λρ=>∃k2 b2 j6 j7 j8,Leg m T f k2/\(∀j,j<m->0<=Qr m T f k2 j)/\(b2=false->Stb m T (Qr m T f k2))/\(wtF m w (Qr m T f k2)+(if b2=true then 1 else 0)<=wtF m w (Qr m T f k'))/\ρ=[some (Qai m m T,false),some (Qc m (Qr m T f k),false),some (Qc m k,false),some (Qc m (Qr m T f k2),true),some (Qc m k2,true),some (.bl b2,true),j6,j7,j8]) ?_ ?_)
   ·refine QX (List.range m) (λi ρ=>∃k2 b2 j6 j7 j8,Leg m T f k2/\(∀j,j<m->0<=Qr m T f k2 j)/\(b2=false->∀p,p<i->Qr m T f k2 p<0-T p p)/\(wtF m w (Qr m T f k2)+(if b2=true then 1 else 0)<=wtF m w (Qr m T f k'))/\ρ=[some (Qai m m T,false),some (Qc m (Qr m T f k),false),some (Qc m k,false),some (Qc m (Qr m T f k2),true),some (Qc m k2,true),some (.bl b2,true),j6,j7,j8]) rfl (QfC (α:=Nat) m _) ⟨k',false,_,_,_,hL,hP,λ_ p hp=>absurd hp (by omega),by simp,rfl⟩ ?_ ?_
    ·rintro i p ρ hi ⟨k2,b2,j6,j7,j8,hL2,hP2,hS2,hW2,rfl⟩
     have hp':i<m/\i=p:=by
      obtain⟨h1,h2⟩:=Zb.mp hi
      simp at h1 h2;exact⟨h1,h2⟩
     obtain⟨him,rfl⟩:=hp'
     have hneg:=tp.neg i him
     have hb:=tp.bnd i i him him
     have h0:=hP2 i him
     refine⟨_,rfl,?_⟩
     refine run_seq (Qo (Qr7 (Qbw rfl rfl rfl rfl him) rfl (QT rfl (Qbw rfl rfl rfl rfl him) rfl) rfl (by omega) (by omega)) ?_)
     rw[Qq]
     generalize et:Qr m T f k2 i / (0-T i i)=t
     have t0:0<=t:=by rw[← et];exact ZaX h0 (by omega)
     refine Qay (QW (QF rfl rfl) (λh=>?_) (λh=>?_))
     ·have h:=of_decide_eq_true h
      have hle:t*(0-T i i)<=Qr m T f k2 i:=by rw[← et];exact Qnv (by omega)
      refine run_seq (Qo rfl ?_)
      rw[Qq]
      refine run_seq (Qrh rfl rfl rfl rfl (by omega) (by omega) rfl ?_)
      rw[Zw]
      refine run_seq (Qo (r:=⟨Qc m (Qr m T f (up k2 i (k2 i+t))),true,[]⟩) ?_ (Qn (Qn ?_)))
      ·have e:=Qa3 (fi:=QcF (Qa 3) (Qa 7)) (t:= .tp [1,2]) (cap:=[none,none,none,some 8]) (fe:=QQ (Qa 1) (Qau (Qa 3) (Qa 2))) (ρ:=[some (Qai m m T,false),some (Qc m (Qr m T f k),false),some (Qc m k,false),some (Qc m (Qr m T f k2),true),some (Qc m (up k2 i (k2 i+t)),true),some (.bl true,true),some (.int i,true),some (Qc m (T i),false),some (.int t,true)])
        (List.range m) (QiL rfl rfl rfl rfl) rfl λj hj=>by
         have hj:=Zf.mp hj
         exact⟨[none,some (.int (Qr m T f k2 j),true),some (.int (T i j),true),some (.int t,true)],rfl,_,Qad rfl rfl (Qct rfl rfl rfl rfl (Qfd (tp.bnd i j him hj))) rfl,rfl,rfl⟩
       refine e.trans ?_
       congr 2
       show D.lst _=D.lst _
       congr 1
       refine ZD λj _=>?_
       rw[Qgu him]
      ·rw[Qq]
       have hup:=Qwl hw (f:=f) (c:=k2) him t0
       refine⟨up k2 i (k2 i+t),true,_,_,_,.step hL2 him t0 hle,λj hj=>?_,λz=>(by cases z),?_,rfl⟩
       ·rw[Qgu him]
        by_cases hji:j=i
        ·subst hji
         have:t*T j j= -(t*(0-T j j)):=by rw[Int.zero_sub,Int.mul_neg,Int.neg_neg]
         omega
        ·have:=hP2 j hj
         have:=Zbo t0 (tp.pos i j him hj (λz=>hji z.symm))
         omega
       ·rw[if_pos rfl]
        have:(0:Int)<=if b2=true then 1 else 0:=by split<;>omega
        omega
     ·have h:=of_decide_eq_false h
      refine Qn (Qn ⟨k2,b2,_,_,_,hL2,hP2,λhb2 p hp=>?_,hW2,rfl⟩)
      by_cases hpi:p=i
      ·subst hpi;exact Qnz (by omega) (by rw[et];exact h) h0
      ·exact hS2 hb2 p (by omega)
    ·rintro ρ ⟨k2,b2,j6,j7,j8,hL2,hP2,hS2,hW2,rfl⟩
     rw[ZE]at hS2
     exact⟨k2,b2,_,_,_,hL2,hP2,hS2,hW2,rfl⟩
   ·intro o ho
    cases o with
    | nx ρ=>
     obtain⟨k2,b2,j6,j7,j8,hL2,hP2,hS2,hW2,rfl⟩:=ho
     refine Qn ⟨_,?_,k2,b2,_,_,_,hL2,hP2,hS2,rfl,rfl⟩
     have n1:=Qpe hw0 hP2
     rw[if_pos rfl]
     cases b2<;>simp at hW2 ⊢ <;>omega
    | _=>exact ho.elim
  ·intro o ho
   cases o with
   | nx ρ=>
    obtain⟨k',j5,j6,j7,j8,hL,hP,hS,rfl⟩:=ho
    exact QL rfl ⟨k',rfl,rfl,hL,hP,hS⟩
   | _=>exact ho.elim
 obtain⟨o,h1,h2⟩:=key
 cases o with
 | rt d fr=>
  obtain⟨k',rfl,rfl,h3,h4,h5⟩:=h2
  exact⟨k',by unfold Qs;rw[h1];rfl,h3,h4,h5⟩
 | _=>exact h2.elim
def Qlm(m:Nat)(S:List (Int×Int)):Prop:=∀A:Nat->Prop,(∃p,p<m/\A p)->∃s∈S,s.1<m/\A s.1.toNat/\(s.2=m∨¬A s.2.toNat)
theorem Qjt(h:Esc m W):Qlm m (Qh (Qc1 W) (Qdv W)):=λA hA=>by
 obtain⟨w,hw,h1,h2,h3⟩:=h A hA
 refine⟨(w.1,w.2.1),?_,h1,h2,h3⟩
 unfold Qh
 cases e:w.2.2 with
 | true=>exact Zl _ (ZA.mpr ⟨w,ZG.mpr ⟨hw,e⟩,rfl⟩)
 | false=>
  have hr:Qb8 w∈Qc1 W:=ZA.mpr ⟨w,ZG.mpr ⟨hw,by simp[e]⟩,rfl⟩
  by_cases hlt:w.2.1<w.1
  ·refine Zi _ (Zl _ (ZA.mpr ⟨Qb8 w,hr,?_⟩))
   unfold Qb8
   rw[if_pos hlt,if_neg (by omega)];rfl
  ·refine Zi _ (Zi _ ?_)
   have:Qb8 w=(w.1,w.2.1):=by
    unfold Qb8
    rw[if_neg hlt]
    by_cases hgt:w.2.1>w.1
    ·rw[if_pos hgt]
    ·rw[if_neg hgt];rw[show w.2.1=w.1 by omega]
   rw[← this];exact hr
inductive Rk (m:Nat) (S:List (Int×Int)):Nat->Nat->Prop where
 | pit {s:Int×Int}{n:Nat}:s∈S->s.2=m->Rk m S (n+1) s.1.toNat
 | step {s:Int×Int}{k n:Nat}:s∈S->s.2≠m->Rk m S k s.2.toNat->k<n->Rk m S n s.1.toNat
theorem Qrv{P:Nat->Prop}(h:∃n,P n):∃n,P n/\∀k,k<n->¬P k:=by
 obtain⟨n,hn⟩:=h
 induction n using Nat.strongRecOn with
 | _ n ih=>
  by_cases h:∃k,k<n/\P k
  ·obtain⟨k,hk,h⟩:=h;exact ih k hk h
  ·exact⟨n,hn,λk hk hx=>h ⟨k,hk,hx⟩⟩
theorem QwG(he:Qlm m S):∀p,p<m->∃n,Rk m S n p:=λp hp=>by
 by_cases h:∃n,Rk m S n p
 ·exact h
 ·exfalso
  obtain⟨s,hs,h1,h2,h3⟩:=he (λp=>¬ ∃n,Rk m S n p) ⟨p,hp,h⟩
  by_cases e:s.2=m
  ·exact h2 ⟨1,.pit hs e⟩
  ·rcases h3 with h3 | h3
   ·exact e h3
   ·have:∃n,Rk m S n s.2.toNat:=Zaq λz=>h3 z
    obtain⟨k,hk⟩:=this
    exact h2 ⟨k+1,.step hs e hk (by omega)⟩
theorem Qte{m:Nat}{S:List (Int×Int)}(hg:∀s∈S,Good m s)(he:Qlm m S):∃r:Nat->Nat,r m=0/\∀p,p<m->∃s∈S,s.1=p/\r s.2.toNat<r p:=by
 have h:∀p,∃n,(p<m->Rk m S n p/\∀k,k<n->¬Rk m S k p)/\(p=m->n=0):=λp=>by
  by_cases hp:p<m
  ·obtain⟨n,hn⟩:=Qrv (QwG he p hp)
   exact⟨n,λ_=>hn,λz=>by omega⟩
  ·exact⟨0,λz=>absurd z hp,λ_=>rfl⟩
 obtain⟨r,hr⟩:=Zcb h
 refine⟨r,(hr m).2 rfl,λp hp=>?_⟩
 have h1:=((hr p).1 hp).1
 generalize r p=n at h1
 cases h1 with
 | @pit s n hs e=>
  obtain⟨g1,g2,g3,g4,g5⟩:=hg s hs
  exact⟨s,hs,by omega,by rw[e,Zw,(hr m).2 rfl];omega⟩
 | @step s k n hs e hk hkn=>
  obtain⟨g1,g2,g3,g4,g5⟩:=hg s hs
  refine⟨s,hs,by omega,?_⟩
  have hl:s.2.toNat<m:=by omega
  have:=((hr s.2.toNat).1 hl).2 k
  have:¬k<r s.2.toNat:=λz=>this z hk
  omega
theorem Qlx(r:Nat->Nat):∀m:Nat,∃N,∀p,p<=m->r p<=N
 | 0=>⟨r 0,λp hp=>by rw[show p=0 by omega];exact Zq _⟩
 | m+1=>by
  obtain⟨N,hN⟩:=Qlx r m
  refine⟨N+r (m+1),λp hp=>?_⟩
  by_cases e:p=m+1
  ·subst e;omega
  ·have:=hN p (by omega);omega
theorem QoV(hi:i<m)(g:Good m s)(w:Nat->Int)(hw:w m=0):Q9 m (λj=>hit i j s*w j)=if s.1=i then w s.2.toNat-w i else 0:=by
 obtain⟨g1,g2,g3,g4,g5⟩:=g
 by_cases h:s.1=i
 ·rw[if_pos h]
  have e:Q9 m (λj=>hit i j s*w j)=Q9 m (λj=>(if j=s.2.toNat then 1 else 0)*w j+(if j=i then-1 else 0)*w j):=Qaw λj _=>by
   have:hit i j s=(if j=s.2.toNat then 1 else 0)+(if j=i then-1 else 0):=by
    unfold hit
    by_cases a:s.2=j
    ·by_cases b:i=j
     ·rw[if_pos ⟨h,a⟩,if_pos ⟨h,b⟩,if_pos (by omega),if_pos b.symm];omega
     ·rw[if_pos ⟨h,a⟩,if_neg (λz=>b z.2),if_pos (by omega),if_neg (λz=>b z.symm)];omega
    ·by_cases b:i=j
     ·rw[if_neg (λz=>a z.2),if_pos ⟨h,b⟩,if_neg (by omega),if_pos b.symm];omega
     ·rw[if_neg (λz=>a z.2),if_neg (λz=>b z.2),if_neg (by omega),if_neg (λz=>b z.symm)];omega
   rw[this,ZaR]
  rw[e,Qcv,QcP hi]
  by_cases hm:s.2.toNat<m
  ·rw[QcP hm];omega
  ·have e2:Q9 m (λj=>(if j=s.2.toNat then 1 else 0)*w j)=0:=by
    rw[Qaw λj hj=>by rw[if_neg (by omega),Zbn],QaQ]
   rw[e2,show s.2.toNat=m by omega,hw];omega
 ·rw[if_neg h]
  rw[Qaw (g:=λ_=>0) λj hj=>by
   unfold hit
   rw[if_neg (λz=>h z.1),if_neg (λz=>h z.1)];rw[Int.sub_self,Zbn],QaQ]
theorem QdQ{α:Type}{g:α->Int}{X:Int}:∀S:List α,(∀s∈S,g s<=X)->(S.map g).sum<=S.length*X
 | [],_=>by simp
 | a::S,h=>by
  have h1:=h a (by simp)
  have h2:=QdQ S λs hs=>h s (by simp[hs])
  simp only[Zx,ZR,Zo,Int.natCast_add,ZaR]
  rw[show((1:Nat):Int)*X=X by simp]
  omega
theorem QhJ{α:Type}{g:α->Int}{X Y:Int}:∀(S:List α),(∀s∈S,g s<=X)->(∃s∈S,g s<=Y)->(S.map g).sum<=S.length*X-X+Y
 | [],_,h=>by obtain⟨s,hs,_⟩:=h;exact absurd hs (by simp)
 | a::S,h,h2=>by
  obtain⟨s,hs,hy⟩:=h2
  have hb:∀s∈S,g s<=X:=λs hs=>h s (by simp[hs])
  simp only[Zx,ZR,Zo,Int.natCast_add,ZaR]
  rw[show((1:Nat):Int)*X=X by simp]
  rcases Zn.mp hs with e | hs
  ·subst e
   have:=QdQ S hb
   omega
  ·have:=QhJ S hb ⟨s,hs,hy⟩
   have:=h a (by simp)
   omega
theorem QdS{α:Type}{g:α->Int}:∀S:List α,(∀s∈S,0<=g s)->0<=(S.map g).sum
 | [],_=>by simp
 | a::S,h=>by
  have h1:=h a (by simp)
  have h2:=QdS S λs hs=>h s (by simp[hs])
  simp only[Zx,ZR]
  omega
theorem Qqp{m:Nat}{S:List (Int×Int)}(hg:∀s∈S,Good m s)(he:Qlm m S)(hl:S.length<2^60):TP m (Qv m S):=by
 have hn:∀s∈S,0<=s.1/\0<=s.2:=λs hs=>⟨(hg s hs).1,(hg s hs).2.1⟩
 have pos:∀i j,i<m->j<m->i≠j->0<=Qv m S i j:=λi j hi hj hij=>by
  rw[Qcu hi hj hn]
  refine QdS S λs _=>?_
  unfold hit
  rw[if_neg (λz=>hij z.2) (c:=s.1=i/\i=j)]
  split<;>omega
 obtain⟨r,r0,hr⟩:=Qte hg he
 obtain⟨N,hN⟩:=Qlx r m
 have M1:1<=S.length+1:=by omega
 have wt:∃w:Nat->Int,(∀j,0<=w j)/\∀i,i<m->Q9 m (λj=>Qv m S i j*w j)<= -1:=by
  refine⟨λv=>(((S.length+1)^N:Nat):Int)-(((S.length+1)^(N-r v):Nat):Int),λj=>?_,λi hi=>?_⟩
  ·have:=Zbz M1 (Nat.sub_le N (r j))
   show(0:Int)<=(((S.length+1)^N:Nat):Int)-(((S.length+1)^(N-r j):Nat):Int)
   omega
  ·generalize hw:(λv=>(((S.length+1)^N:Nat):Int)-(((S.length+1)^(N-r v):Nat):Int))=w
   have hw':∀v,w v=(((S.length+1)^N:Nat):Int)-(((S.length+1)^(N-r v):Nat):Int):=λv=>by rw[← hw]
   have wm:w m=0:=by rw[hw',r0,Nat.sub_zero];omega
   have e:Q9 m (λj=>Qv m S i j*w j)=(S.map λs=>if s.1=(i:Int)then w s.2.toNat-w i else 0).sum:=by
    rw[Qaw (g:=λj=>(S.map λs=>hit i j s*w j).sum) λj hj=>by
     rw[Qcu hi hj hn,Int.mul_comm,QmC]
     congr 1
     exact ZD λs _=>Int.mul_comm _ _]
    rw[Qjb m (λj s=>hit i j s*w j) S]
    congr 1
    exact ZD λs hs=>QoV hi (hg s hs) w wm
   rw[e]
   obtain⟨s0,hs0,e0,hlt⟩:=hr i hi
   generalize hX:(((S.length+1)^(N-r i):Nat):Int)=X
   have X1:1<=X:=by
    have:0<(S.length+1)^(N-r i):=Nat.pow_pos (by omega)
    omega
   have key:=QhJ (Y:=X-(S.length+1)*X) S (λs _=>by
    show(if s.1=i then w s.2.toNat-w i else 0)<=X
    split
    ·rw[hw',hw' i,hX]
     have:0<=(((S.length+1)^(N-r s.2.toNat):Nat):Int):=ZbI _
     omega
    ·omega) ⟨s0,hs0,by
    show(if s0.1=i then w s0.2.toNat-w i else 0)<=_
    rw[if_pos e0,hw',hw' i,hX]
    have hb:=hN i (by omega)
    have h1:(S.length+1)^(N-r i+1)<=(S.length+1)^(N-r s0.2.toNat):=Zbz M1 (by omega)
    rw[Nat.pow_succ]at h1
    have h2:((((S.length+1)^(N-r i)*(S.length+1):Nat)):Int)<=(((S.length+1)^(N-r s0.2.toNat):Nat):Int):=by exact_mod_cast h1
    rw[Int.natCast_mul,hX,Int.mul_comm]at h2
    rw[show((S.length+1:Nat):Int)=(S.length:Int)+1 by omega]at h2
    omega⟩
   have:((S.length:Int)+1)*X=S.length*X+X:=by rw[ZaR,Zcq]
   omega
 refine⟨λp hp=>?_,pos,λi j hi hj=>?_,wt⟩
 ·obtain⟨w,w0,hw⟩:=wt
  have h1:=hw p hp
  by_cases hneg:Qv m S p p<0
  ·exact hneg
  ·exfalso
   have:0<=Q9 m (λj=>Qv m S p j*w j):=by
    have:=Qgx (f:=λ_=>0) (g:=λj=>Qv m S p j*w j) λj hj=>by
     by_cases e:p=j
     ·subst e;exact Zbo (by omega) (w0 _)
     ·exact Zbo (pos p j hp hj e) (w0 _)
    rw[QaQ]at this
    exact this
   omega
 ·rw[Qcu hi hj hn]
  have:=QgP i j S
  omega
theorem QcY.tp{m:Nat}{R L:List (Int×Int)}(h:QcY m R L):TP m (Qv m (Qh R L)):=by
 have hg:=h.good
 refine Qqp (QaK hg.1 hg.2.1) ?_ ?_
 ·obtain⟨W,h1,_,_,rfl,rfl⟩:=h.ex
  exact Qjt h1
 ·unfold Qh
  simp only[Zt,Zd]
  omega
theorem QcY.neg{m:Nat}{R L:List (Int×Int)}(h:QcY m R L){i:Nat}(hi:i<m):0-Qv m (Qh R L) i i=Qag R L i:=by
 have hg:=h.good
 have hs:=QaK hg.1 hg.2.1
 rw[Qcu hi hi (λs z=>⟨(hs s z).1,(hs s z).2.1⟩),sum_neg _ _ (λs z=>(hs s z).2.2.2.2),Qje]
 omega
theorem QeC(m:Nat)(f:Nat->Int):Qc m f= .lst (((List.range m).map f).map D.int):=by
 unfold Qc;rw[ZP];rfl
theorem QmD:∀{ns:List Int},ns≠[]->∃m,Qhc ns=some m
 | [],h=>absurd rfl h
 | [n],_=>⟨n,rfl⟩
 | n::k::r,_=>by
  obtain⟨m,hm⟩:=QmD (ns:=k::r) (by simp)
  exact⟨if m<n then m else n,by simp only[Qhc,hm,ZO]⟩
theorem Qmv:∀{ns:List Int},ns≠[]->∃m,Qg9 ns=some m
 | [],h=>absurd rfl h
 | [n],_=>⟨n,rfl⟩
 | n::k::r,_=>by
  obtain⟨m,hm⟩:=Qmv (ns:=k::r) (by simp)
  exact⟨if n<m then m else n,by simp only[Qg9,hm,ZO]⟩
theorem QpC(h:0<m)(f:Nat->Int):(List.range m).map f≠[]:=by
 intro z
 have:=congrArg List.length z
 simp at this
 omega
theorem QsD(m0:0<m)(f:Nat->Int):∃v,(∃i,i<m/\v=f i)/\(∀i,i<m->v<=f i)/\∀{fa:DE}{ρ:En}{r:R},fa ρ=some r->r.d=Qc m f->dBf Qdy (Qb fa Qg) ρ=some ⟨.int v,true,[]⟩:=by
 obtain⟨v,hv⟩:=QmD (QpC m0 f)
 obtain⟨h1,h2⟩:=QgD hv
 refine⟨v,?_,λi hi=>h2 _ (ZA.mpr ⟨i,Zf.mpr hi,rfl⟩),λ{fa ρ r} h e=>?_⟩
 ·obtain⟨i,hi,e⟩:=ZA.mp h1
  exact⟨i,Zf.mp hi,e.symm⟩
 ·unfold dBf
  rw[Qw h (Q0 _),Za]
  simp only[e,QeC,Qdy,QcW,Za,hv,ZO]
theorem Qmt(m0:0<m)(f:Nat->Int):∃v,(∃i,i<m/\v=f i)/\(∀i,i<m->f i<=v)/\∀{fa:DE}{ρ:En}{r:R},fa ρ=some r->r.d=Qc m f->dBf Qda (Qb fa Qg) ρ=some ⟨.int v,true,[]⟩:=by
 obtain⟨v,hv⟩:=Qmv (QpC m0 f)
 obtain⟨h1,h2⟩:=QgG hv
 refine⟨v,?_,λi hi=>h2 _ (ZA.mpr ⟨i,Zf.mpr hi,rfl⟩),λ{fa ρ r} h e=>?_⟩
 ·obtain⟨i,hi,e⟩:=ZA.mp h1
  exact⟨i,Zf.mp hi,e.symm⟩
 ·unfold dBf
  rw[Qw h (Q0 _),Za]
  simp only[e,QeC,Qda,QcW,Za,hv,ZO]
noncomputable def Qee(Qcj:Den):DS:=(Qe (Qdc (QB 2 Qcj [] (Qb (Qa 0) (Qb (Qa 1) Qg)))) (Qe (QaH (Q7 (Qa 1)) (.nm 2) (Qe (sIf (QA (dOp gLt (dBf Qdy (Qb (Qa 2) Qg)) (dC (.int 0)))) (Qe QH Qp) Qp) Qp)) Qp))
def QgJ(d:Den):Prop:=∀(m:Nat) (R L:List (Int×Int)) (fs:List (Nat->Int)),0<m->(∀f∈fs,∀j,j<m->0<=f j)->d [Qj m R L,.lst (fs.map λf=>Qc m f)]=some (.non,true)
theorem QqG(hn:Qlf dn):QgJ (Qs 3 (Qee dn)):=λm R L fs m0 hf=>by
 have key:Run (Qee dn) (Qam 3 [Qj m R L,.lst (fs.map λf=>Qc m f)]) (Nx λ_=>True):=by
  refine run_seq (Qdm (Qx rfl (hn m R L fs) rfl) ?_)
  refine run_seq (QX fs (λ_ ρ=>∃j2,ρ=[some (Qj m R L,false),some (.lst (fs.map λf=>Qc m f),false),j2]) rfl rfl ⟨none,rfl⟩ ?_ ?_)
  ·rintro i f ρ hi ⟨j2,rfl⟩
   refine⟨_,rfl,?_⟩
   obtain⟨v,⟨q,hq,e⟩,_,hv⟩:=QsD m0 f
   have h0:=hf f (Zy hi) q hq
   refine run_seq (QW (b:=false) (QF (QT (hv rfl rfl) rfl rfl) ?_) (λh=>by cases h) (λ_=>Qn (Qn ⟨_,rfl⟩)))
   show D.bl _=_
   rw[decide_eq_false (by omega)]
  ·rintro ρ ⟨j2,rfl⟩
   exact Qn trivial
 obtain⟨o,h1,h2⟩:=key
 unfold Qs
 rw[h1]
 cases o with
 | nx ρ=>rfl
 | _=>exact h2.elim
noncomputable def QiM(Qaz:Den)(Q4:Den)(Qc2:Den):DS:=(Qe (Qdc (QB 2 Qaz [] (Qb (Qa 0) (Qb (Q1 (Qb (Qa 1) Qg)) Qg)))) (Qe (Qy 2 (QB 1 Q4 [] (Qb (Qa 0) Qg))) (Qe (Qy 3 (Qau (Q1 (Qb (dC (.int 0)) Qg)) (Qi (Qa 0) (dC (.int 0))))) (Qe (Qy 4 (Qau (Q1 (Qb (dC (.int 0)) Qg)) (Qi (Qa 0) (dC (.int 0))))) (Qe (Qy 5 (Qbu (Qb (Qa 3) (Qb (Qa 4) Qg)))) (Qe (Qy 6 (dBf Qda (Qb (Qa 1) Qg))) (Qe (QaH (Qe9 (dOp Qb2 (Qkg (Qa 6)) (dC (.int 1))) (Qhr (dC (.int 1))) (Qhr (dC (.int 1)))) (.nm 7) (Qe (Qy 3 (Qaf (QcF (Qi (Qa 5) (dC (.int 0))) (Qa 1)) (.tp [1,2]) [none,none,none,some 7] Qb3 (QQ (Qau (dC (.int 2)) (Qa 1)) (dOp Qbz (dOp Qkj (Qa 2) (Qa 3)) (dC (.int 2)))))) (Qe (Qy 4 (Qaf (Q7 (Qi (Qa 5) (dC (.int 1)))) (.nm 1) [none,none] Qb3 (Qau (dC (.int 2)) (Qa 1)))) (Qe (Qy 5 (QB 3 Qc2 [] (Qb (Qa 2) (Qb (Qa 3) (Qb (Qa 4) Qg))))) Qp)))) (Qe (QZ (Qa 5)) Qp))))))))
noncomputable def Qdi(m:Nat)(T:Nat->Nat->Int)(f c:Nat->Int):D:= .tup [Qc m (Qr m T f c),Qc m c]
structure Told (m:Nat) (T:Nat->Nat->Int) (f c:Nat->Int):Prop where
 leg:Leg m T f c
 pos:∀j,j<m->0<=Qr m T f c j
 stb:Stb m T (Qr m T f c)
def QiD(d:Den):Prop:=∀(m:Nat) (R L:List (Int×Int)) (f:Nat->Int),0<m->m<=1000->QcY m R L->(∀j,j<m->0<=f j/\f j<2^200)->∃c,d [Qj m R L,Qc m f]=some (Qdi m (Qv m (Qh R L)) f c,true)/\Told m (Qv m (Qh R L)) f c
theorem Qps(ha:fa ρ=some ra)(ea:ra.d= .int ((n:Int)-1))(hb:fb ρ=some rb)(eb:rb.d= .int (-1))(hc:fc ρ=some rc)(ec:rc.d= .int (-1))(hn:n<=16777216):Qe9 fa fb fc ρ=some ⟨(List.range n).map λ(k:Nat)=> .int ((n:Int)-1-k),[]⟩:=by
 unfold Qe9
 rw[ha,Za,hb,Za,hc,Za,ea,eb,ec]
 show(if(n:Int)-1- -1<=16777216/\_ then _ else _)=_
 rw[if_pos ⟨by omega,by omega,by omega,by omega,by omega⟩]
 rw[show((n:Int)-1- -1).toNat=n by omega]
 rfl
theorem Quj{fa fb:DE}{ρ:En}{ra rb:R}{a:Int}{k:Nat}(ha:fa ρ=some ra)(ea:ra.d= .int a)(hb:fb ρ=some rb)(eb:rb.d= .int k):dOp Qkj fa fb ρ=some ⟨.int (a / 2^k),true,[]⟩:=by
 refine QT ha hb ?_
 rw[ea,eb]
 show(if(0:Int)<=k then some (D.int (a / 2^(k:Int).toNat))else none)=_
 rw[if_pos (by omega),Zw]
theorem Qq6(x:Int)(s:Nat):x / 2^s=2*(x / 2^(s+1))+x / 2^s % 2:=by
 have e:x / 2^(s+1)=x / 2^s / 2:=by rw[Int.pow_succ,Int.ediv_ediv_of_nonneg (Int.pow_nonneg (by decide))]
 rw[e]
 omega
theorem QhP(e:∀j,j<m->f j=g j)(h:Told m T f c):Told m T g c where
 leg:=h.leg.Qnh e
 pos:=λj hj=>by rw[← Qc3 j (e j hj) (λ_ _=>rfl)];exact h.pos j hj
 stb:=λj hj=>by rw[← Qc3 j (e j hj) (λ_ _=>rfl)];exact h.stb j hj
theorem QgZ(e:∀j,j<m->f j=g j):Qdi m T f c=Qdi m T g c:=by
 unfold Qdi
 rw[Qd9 λj hj=>Qc3 j (e j hj) λ_ _=>rfl]
theorem Qqi(hn:QgJ dn)(ht:QeX dt)(hs:Qf4 ds):QiD (Qs 8 (QiM dn dt ds)):=λm R L f m0 hm hw hf=>by
 have hg:=hw.good
 have tp:=hw.tp
 have htoll:=ht m R L hm (by omega) hg.1 hg.2.1
 generalize hT:Qv m (Qh R L)=T at tp htoll ⊢
 obtain⟨top,⟨q,hq,etop⟩,hmax,evmax⟩:=Qmt m0 f
 have htop0:0<=top:=by rw[etop];exact(hf q hq).1
 have hB:Builtin.Int.intBits top<=200:=by
  rw[intBits_le_iff]
  have:top<2^200:=by rw[etop];exact(hf q hq).2
  have e2:((2^200:Nat):Int)=(2:Int)^200:=by rw[Int.natCast_pow];rfl
  generalize (2:Int)^200=z at this e2
  generalize (2:Nat)^200=z' at e2 ⊢
  omega
 have hlt:∀j,j<m->f j / 2^Builtin.Int.intBits top=0:=λj hj=>by
  have h1:=(intBits_le_iff (m:=Builtin.Int.intBits top)).mp (Zq _)
  refine Int.ediv_eq_zero_of_lt (hf j hj).1 ?_
  have h2:=hmax j hj
  have e2:((2^Builtin.Int.intBits top:Nat):Int)=(2:Int)^Builtin.Int.intBits top:=by rw[Int.natCast_pow];rfl
  rw[← e2]
  omega
 generalize hBe:Builtin.Int.intBits top=B at hB hlt
 have key:Run (QiM dn dt ds) (Qam 8 [Qj m R L,Qc m f]) (Rt λd fr=>∃c,d=Qdi m T f c/\fr=true/\Told m T f c):=by
  have hneed:=hn m R L [f] m0 (λg hg' j hj=>by rw[ZF.mp hg'];exact(hf j hj).1)
  refine run_seq (Qdm (Qx rfl hneed rfl) ?_)
  refine run_seq (Qo (Qx rfl htoll rfl) ?_)
  rw[Qq]
  refine run_seq (Qo (QhB rfl rfl (by omega)) ?_)
  rw[Qq]
  refine run_seq (Qo (QhB rfl rfl (by omega)) ?_)
  rw[Qq]
  refine run_seq (Qo rfl ?_)
  refine run_seq (Qo (evmax rfl rfl) ?_)
  rw[Qq]
  refine Qaj (P:=λρ=>∃c j3 j4 j7,Told m T f c/\ρ=[some (Qj m R L,false),some (Qc m f,false),some (Qai m m T,true),j3,j4,some (Qdi m T f c,true),some (.int top,true),j7]) ?_ ?_
  ·refine QX (List.range B) (λi ρ=>∃c j3 j4 j7,Told m T (λj=>f j / 2^(B-i)) c/\ρ=[some (Qj m R L,false),some (Qc m f,false),some (Qai m m T,true),j3,j4,some (Qdi m T (λj=>f j / 2^(B-i)) c,true),some (.int top,true),j7])
    (Qps (QT (ra:=⟨.int B,true,[]⟩) (by rw[← hBe];rfl) rfl rfl) rfl rfl rfl rfl rfl (by omega)) rfl ⟨λ_=>0,none,none,none,?_,?_⟩ ?_ ?_
   ·refine QhP (λj hj=>(hlt j hj).symm) ⟨.nil,λj hj=>?_,λj hj=>?_⟩
    ·unfold Qr
     rw[Qaw λi _=>by rw[Zbn],QaQ]
     exact Zau _
    ·unfold Qr
     rw[Qaw λi _=>by rw[Zbn],QaQ]
     have:=tp.neg j hj
     show(0:Int)+0<_
     omega
   ·show _=[some (Qj m R L,false),some (Qc m f,false),some (Qai m m T,true),none,none,some (Qdi m T (λj=>f j / 2^B) λ_=>0,true),some (.int top,true),none]
    rw[← QgZ λj hj=>(hlt j hj).symm]
    unfold Qdi
    rw[QqI]
    rfl
   ·rintro i i' ρ hi ⟨c,j3,j4,j7,hc,rfl⟩
    have hi':i<B/\i=i':=by
     obtain⟨h1,h2⟩:=Zb.mp hi
     simp at h1 h2;exact⟨h1,h2⟩
    obtain⟨hiB,rfl⟩:=hi'
    obtain⟨s,hsB⟩:∃s:Nat,B-i=s+1:=⟨B-i-1,by omega⟩
    have es:(B:Int)-1-i=(s:Int):=by omega
    have es2:B-(i+1)=s:=by omega
    rw[hsB]at hc
    rw[hsB,es2,es]
    generalize hF:(λj=>f j / 2^(s+1))=F at hc
    have hF':∀j,F j=f j / 2^(s+1):=λj=>by rw[← hF]
    refine⟨_,rfl,?_⟩
    have e2:∀j,2*F j+f j / 2^s % 2=f j / 2^s:=λj=>by rw[hF',← Qq6]
    have erow:∀j,2*Qr m T F c j+f j / 2^s % 2=Qr m T (λj=>f j / 2^s) (λi=>2*c i) j:=λj=>by
     have:=Qm8 (m:=m) (T:=T) (f:=F) (c:=c) (b:=λj=>f j / 2^s % 2) j
     rw[← this]
     exact(Qc3 j (e2 j).symm λ_ _=>rfl).symm
    refine run_seq (Qo (r:=⟨Qc m (Qr m T (λj=>f j / 2^s) (λi=>2*c i)),true,[]⟩) ?_ ?_)
    ·have e:=Qa3 (fi:=QcF (Qi (Qa 5) (dC (.int 0))) (Qa 1)) (t:= .tp [1,2]) (cap:=[none,none,none,some 7]) (fe:=QQ (Qau (dC (.int 2)) (Qa 1)) (dOp Qbz (dOp Qkj (Qa 2) (Qa 3)) (dC (.int 2)))) (ρ:=[some (Qj m R L,false),some (Qc m f,false),some (Qai m m T,true),j3,j4,some (Qdi m T F c,true),some (.int top,true),some (.int s,true)])
      (List.range m) (QiL rfl rfl rfl rfl) rfl λj hj=>
       ⟨[none,some (.int (Qr m T F c j),true),some (.int (f j),true),some (.int s,true)],rfl,_,Qad (Qct rfl rfl rfl rfl (Qea (by decide))) rfl (Qbj (Quj rfl rfl rfl rfl) rfl rfl rfl (by decide)) rfl,rfl,rfl⟩
     refine e.trans ?_
     congr 2
     show D.lst _=D.lst _
     congr 1
     refine ZD λj _=>?_
     rw[erow]
    ·rw[Qq]
     refine run_seq (Qo (r:=⟨Qc m (λi=>2*c i),true,[]⟩) ?_ ?_)
     ·exact Qa3 (List.range m) (QaZ rfl rfl) rfl λj hj=>⟨[none,some (.int (c j),true)],rfl,_,Qct rfl rfl rfl rfl (Qea (by decide)),rfl,rfl⟩
     ·rw[Qq]
      obtain⟨d2,hd2,ed2⟩:=hc.leg.QvI (λj=>f j / 2^s % 2) (λj=>ZN _ (by decide))
      have hleg:Leg m T (λj=>f j / 2^s) (λi=>2*c i):=(hd2.cast ed2).Qnh λj _=>e2 j
      have hpos:∀j,j<m->0<=Qr m T (λj=>f j / 2^s) (λi=>2*c i) j:=λj hj=>by
       rw[← erow]
       have:=hc.pos j hj
       have:=ZN (f j / 2^s) (by decide:(2:Int)≠0)
       omega
      obtain⟨k',h1,h2,h3,h4⟩:=hs m T _ _ hm tp hleg hpos
      refine run_seq (Qo (Qx rfl h1 rfl) (Qn ?_))
      rw[Qq]
      exact⟨k',_,_,_,⟨h2,h3,h4⟩,rfl⟩
   ·rintro ρ ⟨c,j3,j4,j7,hc,rfl⟩
    rw[ZE,Nat.sub_self]at *
    have e:∀j,j<m->f j / 2^0=f j:=λj _=>by rw[Int.pow_zero,Int.ediv_one]
    exact⟨c,_,_,_,QhP e hc,by rw[QgZ e]⟩
  ·rintro ρ ⟨c,j3,j4,j7,hc,rfl⟩
   exact QL rfl ⟨c,rfl,rfl,hc⟩
 obtain⟨o,h1,h2⟩:=key
 cases o with
 | rt d fr=>
  obtain⟨c,rfl,rfl,h3⟩:=h2
  exact⟨c,by unfold Qs;rw[h1];rfl,h3⟩
 | _=>exact h2.elim
noncomputable def Qft(m:Nat)(f:Nat->Int):Nat->Int:=λi=>if i<m then f i else 0
theorem Qgl(ha:fa ρ=some ra)(ea:ra.d=Qc m f)(hm:m<=1000):QQ fa (Q1 (Qb (dC (.int 0)) Qg)) ρ=some ⟨Qc (m+1) (Qft m f),true,[]⟩:=by
 have e:Qc (m+1) (Qft m f)= .lst (((List.range m).map λi=>D.int (f i))++[.int 0]):=by
  unfold Qc
  rw[ZaE,ZY]
  congr 2
  ·refine ZD λi hi=>?_
   unfold Qft
   rw[if_pos (Zf.mp hi)]
  ·show [D.int (Qft m f m)]=_
   unfold Qft
   rw[if_neg (by omega)]
 rw[e]
 unfold QQ
 rw[ha,Za]
 show(Option.bind (some (⟨.lst [.int 0],true,[]⟩:HS.R)) _)=_
 rw[Za,ea]
 simp only[Qc,Zd,ZE,QeA]
 rw[if_pos (by simp;omega)]
 simp[Qaq]
theorem QdX(i:Nat)(a:Int):0<=isI i a/\isI i a<=1:=by unfold isI;split<;>omega
theorem QqQ(R L:List (Int×Int))(k:Nat):0<=Qag R L k/\Qag R L k<=2*R.length+L.length:=by
 unfold Qag
 have h1:=QdS (g:=λr:Int×Int=>isI k r.1+isI k r.2) R λs _=>by
  have:=QdX k s.1;have:=QdX k s.2
  show 0<=isI k s.1+isI k s.2
  omega
 have h2:=QdS (g:=λr:Int×Int=>isI k r.1) L λs _=>(QdX k s.1).1
 have h3:=QdQ (g:=λr:Int×Int=>isI k r.1+isI k r.2) (X:=2) R λs _=>by
  have:=QdX k s.1;have:=QdX k s.2
  show isI k s.1+isI k s.2<=2
  omega
 have h4:=QdQ (g:=λr:Int×Int=>isI k r.1) (X:=1) L λs _=>(QdX k s.1).2
 omega
theorem Qrz:((List.range i).map λk=>D.int (g k))++[.int v]=(List.range (i+1)).map λk=>D.int (up g i v k):=by
 rw[ZaE,ZY]
 congr 1
 ·refine ZD λk hk=>?_
  have:=Zf.mp hk
  unfold up
  rw[if_neg (by omega)]
 ·show _=[D.int (up g i v i)]
  unfold up
  rw[if_pos rfl]
theorem Qq4(hx:ρ[x]? =some (some (Qc i g,true)))(ha:fa ρ=some r)(e:r.d= .int v)(hl:i<16777216)(q:Q (.nx (ρ.set x (some (Qc (i+1) (up g i v),true))))):Run (QcM x QU fa) ρ Q:=by
 refine Qij (xs:=(List.range i).map λk=>D.int (g k)) hx ha (by rw[e];rfl) (by simpa using hl) ?_
 rw[e,Qrz]
 exact q
theorem QsS{m:Nat}(h:fa ρ=some r)(e:r.d=Qc m f):dBf QaS (Qb fa Qg) ρ=some ⟨.int m,true,[]⟩:=by
 rw[Qcb h e];simp
theorem Quo(h:fs ρ=some rs)(hl:rs.ds.length<=64):Q1 fs ρ=some ⟨.lst rs.ds,rs.fr,rs.M⟩:=by
 unfold Q1
 rw[h,Za,if_pos hl]
theorem QiW(n m:Nat)(f:Nat->Int):(Qc m f).sim (n+1)=true:=by
 unfold Qc
 simp only[D.sim,ZbH,Zaa]
 intro p _
 cases n<;>rfl
theorem Qt2{fa fb:DE}{ρ:En}{ra rb:R}{m n:Nat}{f:Nat->Nat->Int}{i:Int}(ha:fa ρ=some ra)(ea:ra.d=Qai m n f)(hb:fb ρ=some rb)(eb:rb.d= .int i)(h0:0<=i)(h:i<m):Qi fa fb ρ=some ⟨Qc n (f i.toNat),ra.fr,ra.M⟩:=by
 unfold Qi
 rw[ha,Za,hb,Za,ea,eb]
 simp only[Qai,D.items,Za,QmQ h0 h,ZO]
 rfl
noncomputable def Qhz:DS:=(Qe (QZ (dOp gEq (dBf QaS (Qb (Qi (Qa 0) (dC (.int 2))) Qg)) (dC (.int 0)))) Qp)
def Qir(d:Den):Prop:=∀(m:Int) (R L:List (Int×Int)),d [Qj m R L]=some (.bl (decide ((L.length:Int)=0)),true)
theorem QqJ:Qir (Qs 1 Qhz):=λm R L=>by
 refine QaR ?_
 refine QL (QuG (Qcb (Qbf (r:=⟨Qj m R L,false,[]⟩) rfl rfl).2.2 rfl) rfl rfl rfl) ⟨?_,rfl⟩
 simp
noncomputable def Qd(l:List Nat):D:= .lst (l.map λ(p:Nat)=> .int (p:Int))
theorem Qit:∀{l:List Nat},l.Nodup->(∀o∈l,o<m)->(l.map g).sum=Q9 m λo=>if o∈l then g o else 0
 | [],_,_=>by
  rw[Qaw (g:=λ_=>0) λi _=>by rw[if_neg (by simp)],QaQ];rfl
 | a::l,nd,h=>by
  have nd':=Zac.mp nd
  rw[Zx,ZR,Qit nd'.2 λo ho=>h o (by simp[ho])]
  have e:=QcP (m:=m) (p:=a) (h a (by simp)) 1 g
  rw[show g a=1*g a by rw[Zcq],← e,← Qcv]
  refine Qaw λo _=>?_
  by_cases ho:o=a
  ·subst ho
   rw[if_pos rfl,if_neg nd'.1,if_pos (by simp)];omega
  ·rw[if_neg ho]
   by_cases hl:o∈l
   ·rw[if_pos hl,if_pos (by simp[hl])];omega
   ·rw[if_neg hl,if_neg (by simp[ho,hl])];omega
theorem QsM{m:Nat}{g:Nat->Int}{l k:List Nat}(hl:l.Nodup)(hk:k.Nodup)(sub:∀o∈l,o∈k)(hm:∀o∈k,o<m)(pos:∀o∈k,0<=g o):(l.map g).sum<=(k.map g).sum:=by
 rw[Qit hl λo ho=>hm o (sub o ho),Qit hk hm]
 refine Qgx λo _=>?_
 by_cases h:o∈l
 ·rw[if_pos h,if_pos (sub o h)];exact Zau _
 ·rw[if_neg h]
  by_cases h2:o∈k
  ·rw[if_pos h2];exact pos o h2
  ·rw[if_neg h2];exact Zau _
theorem Qru{m:Nat}{R:List (Int×Int)}(hR:∀s∈R,Good m s){i j:Nat}(hi:i<m)(hj:j<m)(hij:i≠j):Qv m (Qh R []) i j=Qv m (Qh R []) j i:=by
 have gS:=QaK (L:=[]) hR (λs hs=>absurd hs (by simp))
 have hn:∀s∈Qh R [],0<=s.1/\0<=s.2:=λs hs=>⟨(gS s hs).1,(gS s hs).2.1⟩
 rw[Qcu hi hj hn,Qcu hj hi hn]
 unfold Qh
 rw[Zag,ZY,ZY,Zcn,Zcn,ZP,ZP]
 have e:∀i j:Nat,i≠j->∀s:Int×Int,(hit i j ∘ Prod.swap) s=hit j i s:=λi j h s=>by
  unfold hit
  simp only[Function.comp,ZbU,Zcu]
  rw[if_neg (λz=>h z.2) (c:=s.2=i/\i=j),if_neg (λz=>h z.2.symm) (c:=s.1=j/\j=i)]
  congr 1
  by_cases a:s.2=i
  ·by_cases b:s.1=j
   ·rw[if_pos ⟨a,b⟩,if_pos ⟨b,a⟩]
   ·rw[if_neg (λz=>b z.2),if_neg (λz=>b z.1)]
  ·rw[if_neg (λz=>a z.1),if_neg (λz=>a z.2)]
 rw[ZD λs _=>e i j hij s,ZD λs _=>e j i (λz=>hij z.symm) s]
 omega
noncomputable def Q2(T:Nat->Nat->Int)(p:Nat)(l:List Nat):Int:=((l.filter λo=>decide (o≠p)).map (T p)).sum
noncomputable def Qae(T:Nat->Nat->Int)(a:Nat->Int)(l:List Nat):List Nat:=l.filter λp=>decide (Q2 T p l<=a p)
noncomputable def QbZ(T:Nat->Nat->Int)(a:Nat->Int)(l:List Nat):List Nat:=l.filter λp=> !(Qae T a l).contains p
theorem QnZ(l:List Nat):QG (l.map λ(p:Nat)=>D.int (p:Int))=true:=QbT (λ_=>rfl) l
theorem Qew(l:List Nat):Qd l= .lst ((l.map λ(p:Nat)=>(p:Int)).map D.int):=by unfold Qd;rw[ZP];rfl
theorem QtC{fa:DE}{ρ:En}{r:R}{ns:List Int}(h:fa ρ=some r)(e:r.d= .lst (ns.map D.int)):dBf QdA (Qb fa Qg) ρ=some ⟨.int ns.sum,true,[]⟩:=by
 unfold dBf
 rw[Qw h (Q0 _),Za]
 simp only[e,QdA,QcW,ZO]
noncomputable def QfY:DS:=(Qe (QZ (dBf QdA (Qb (Qaf (Q7 (Qa 2)) (.nm 1) [none,none,some 1,some 0] (QA (dOp gNe (Qa 1) (Qa 2))) (Qi (Qa 3) (Qa 1))) Qg))) Qp)
def Qii(d:Den):Prop:=∀(m:Nat) (t:Nat->Int) (p:Nat) (l:List Nat),(∀o∈l,o<m)->d [Qc m t,.int p,Qd l]=some (.int (((l.filter λo=>decide (o≠p)).map t).sum),true)
theorem QqT:Qii (Qs 3 QfY):=λm t p l hl=>by
 refine QaR ?_
 have e:=Qdo (fi:=Q7 (Qa 2)) (t:= .nm 1) (cap:=[none,none,some 1,some 0]) (ft:=QA (dOp gNe (Qa 1) (Qa 2))) (fe:=Qi (Qa 3) (Qa 1)) (ρ:=[some (Qc m t,false),some (.int p,true),some (Qd l,false)])
  (toD:=λ(o:Nat)=> .int (o:Int)) (keep:=λo=>decide (o≠p)) (out:=λ(o:Nat)=> .int (t o)) l (QaZ (r:=⟨Qd l,false,[]⟩) rfl rfl) rfl λo ho=>by
   refine⟨[none,some (.int o,true),some (.int p,true),some (Qc m t,false)],rfl,?_,λ_=>⟨_,Qbw (m:=m) (f:=t) (i:=o) (ra:=⟨Qc m t,false,[]⟩) rfl rfl rfl rfl (hl o ho),rfl,rfl⟩⟩
   refine(QF (Qgf (a:=o) (b:=p) rfl rfl rfl rfl) rfl).trans ?_
   congr 1
   by_cases h:o=p
   ·subst h;simp
   ·simp[h]
    omega
 refine QL (QtC (ns:=(l.filter λo=>decide (o≠p)).map t) e ?_) ⟨rfl,rfl⟩
 show D.lst _=D.lst _
 rw[ZP];rfl
noncomputable def Qes(QcL:Den):DS:=(Qe (sIf (Qdg (QA (QB 1 QcL [] (Qb (Qa 0) Qg)))) (Qe QH Qp) Qp) Qp)
def QgF(d:Den):Prop:=∀(m:Nat) (R:List (Int×Int)),d [Qj m R []]=some (.non,true)
theorem QqS(hp:Qir dp):QgF (Qs 1 (Qes dp)):=λm R=>by
 have key:Run (Qes dp) (Qam 1 [Qj m R []]) (Nx λ_=>True):=by
  refine run_seq (QW (b:=false) (Qdd (b:=true) (QF (b:=true) (Qx (r:=⟨[Qj m R []],false,[]⟩) rfl (hp m R []) rfl) rfl)) (λh=>by cases h) (λ_=>Qn (Qn trivial)))
 obtain⟨o,h1,h2⟩:=key
 unfold Qs
 rw[h1]
 cases o with
 | nx ρ=>rfl
 | _=>exact h2.elim
theorem Qtz{o:Nat}{l:List Nat}:(l.map λ(p:Nat)=>D.int (p:Int)).any (λy=>deq y (.int o))=l.contains o:=by
 induction l with
 | nil=>rfl
 | cons a l ih=>
  rw[Zx,Zcv,ih,Qdn,List.contains_cons]
  congr 1
  by_cases h:a=o
  ·subst h;simp
  ·rw[decide_eq_false (by omega)]
   exact(beq_eq_false_iff_ne.mpr (λz=>h z.symm)).symm
theorem Qev(n:Nat)(l:List Nat):(Qd l).sim (n+1)=true:=by
 unfold Qd
 simp only[D.sim,ZbH,Zaa]
 intro p _
 cases n<;>rfl
theorem Qf9{o:Nat}(ha:fa ρ=some ra)(ea:ra.d= .int o)(hb:fb ρ=some rb)(eb:rb.d=Qd l):dOp (gIn neg) fa fb ρ=some ⟨.bl (if neg then !l.contains o else l.contains o),true,[]⟩:=by
 refine QT ha hb ?_
 rw[ea,eb]
 have:(D.int (o:Int)).sim 8=true:=rfl
 show(if(D.int (o:Int)).sim 8 && (Qd l).sim 8 then some (D.bl (if neg then !((l.map λ(p:Nat)=>D.int (p:Int)).any λy=>deq y (.int o))else(l.map λ(p:Nat)=>D.int (p:Int)).any λy=>deq y (.int o)))else none)=_
 rw[this,Qev 7 l,Qtz]
 rfl
theorem Qm3[Decidable A](hx:0<=x):∀{l:List Nat},l.Nodup->(l.map λ(o:Nat)=>if A/\x=(o:Int)then(1:Int)else 0).sum=if A/\x.toNat∈l then 1 else 0
 | [],_=>by simp
 | a::l,nd=>by
  have nd':=Zac.mp nd
  rw[Zx,ZR,Qm3 hx nd'.2]
  by_cases hA:A
  ·by_cases h:x=a
   ·have:x.toNat=a:=by omega
    rw[if_pos ⟨hA,h⟩,if_neg (λz=>nd'.1 (this▸z.2)),if_pos ⟨hA,by simp[this]⟩];rfl
   ·have:¬x.toNat=a:=by omega
    rw[if_neg (λz=>h z.2)]
    by_cases h2:x.toNat∈l
    ·rw[if_pos ⟨hA,h2⟩,if_pos ⟨hA,by simp[h2]⟩];rfl
    ·rw[if_neg (λz=>h2 z.2),if_neg (λz=>by rcases Zn.mp z.2 with e | e;exact this e;exact h2 e)];rfl
  ·rw[if_neg (λz=>hA z.1),if_neg (λz=>hA z.1),if_neg (λz=>hA z.1)];rfl
theorem Qjs{β:Type}:∀S:List β,(S.map λ_=>(0:Int)).sum=0
 | []=>rfl
 | _::S=>by rw[Zx,ZR,Qjs S];rfl
theorem Qf5{α β:Type}(g:α->β->Int):∀(l:List α) (S:List β),(l.map λo=>(S.map (g o)).sum).sum=(S.map λs=>(l.map λo=>g o s).sum).sum
 | [],S=>(Qjs S).symm
 | a::l,S=>by
  rw[Zx,ZR,Qf5 g l S]
  clear Qf5
  induction S with
  | nil=>rfl
  | cons s S ih=>simp only[Zx,ZR]at ih ⊢;omega
noncomputable def QaA(p:Nat)(l:List Nat)(s:Int×Int):Int:=if(s.1=p/\s.2.toNat∈l)∨(s.2=p/\s.1.toNat∈l)then 1 else 0
theorem Qn7{m:Nat}{R:List (Int×Int)}(hR:∀s∈R,Good m s){p:Nat}(hp:p<m){l:List Nat}(nd:l.Nodup)(hl:∀o∈l,o<m)(hpl:p∉l):(l.map (Qv m (Qh R []) p)).sum=(R.map (QaA p l)).sum:=by
 have gS:=QaK (L:=[]) hR (λs hs=>absurd hs (by simp))
 have hn:∀s∈Qh R [],0<=s.1/\0<=s.2:=λs hs=>⟨(gS s hs).1,(gS s hs).2.1⟩
 have e1:l.map (Qv m (Qh R []) p)=l.map λo=>((Qh R []).map (hit p o)).sum:=ZD λo ho=>Qcu hp (hl o ho) hn
 rw[e1,Qf5 (λo s=>hit p o s) l (Qh R [])]
 have e2:(Qh R []).map (λs=>(l.map λo=>hit p o s).sum)=(Qh R []).map λs=>if s.1=(p:Int)/\s.2.toNat∈l then(1:Int)else 0:=ZD λs hs=>by
  rw[← Qm3 (hn s hs).2 nd]
  congr 1
  refine ZD λo ho=>?_
  unfold hit
  rw[if_neg (λz=>hpl (z.2▸ho)) (c:=s.1=p/\p=o)];omega
 rw[e2]
 unfold Qh
 rw[Zag,ZY,Zcn,ZP]
 clear e1 e2 hn gS
 induction R with
 | nil=>rfl
 | cons s R ih=>
  have hs:=hR s (by simp)
  obtain⟨h1,h2,h3,h4,h5⟩:=hs
  have ih:=ih λs hs=>hR s (by simp[hs])
  simp only[Zx,ZR,Function.comp,ZbU,Zcu]at ih ⊢
  have:(if s.1=p/\s.2.toNat∈l then(1:Int)else 0)+(if s.2=p/\s.1.toNat∈l then 1 else 0)=QaA p l s:=by
   unfold QaA
   by_cases a:s.1=p/\s.2.toNat∈l
   ·rw[if_pos a,if_neg (λz=>h5 (a.1.trans z.1.symm)) (c:=s.2=p/\s.1.toNat∈l),if_pos (Or.inl a)];rfl
   ·by_cases b:s.2=p/\s.1.toNat∈l
    ·rw[if_neg a,if_pos b,if_pos (Or.inr b)];rfl
    ·rw[if_neg a,if_neg b,if_neg (λz=>z.elim a b)];rfl
  omega
theorem QrC{l:List Nat}{n:Nat}:cutD (l.map λ(p:Nat)=>D.int (p:Int)) (some (n:Int)) none=(l.drop n).map λ(p:Nat)=>D.int (p:Int):=by
 unfold cutD
 simp only[Zd,HT.QlD,HT.QiU,Nat.sub_zero]
 rw[← Zcs,← ZbV]
 congr 1
 by_cases h:n<=l.length
 ·rw[Zco h,ZaV (by simp)]
 ·rw[Nat.min_eq_right (by omega),Zcj (by omega),Zcj (by omega)];simp
theorem QsH{fa fb:DE}{ρ:En}{ra rb:R}{l:List Nat}{n:Nat}(ha:fa ρ=some ra)(ea:ra.d=Qd l)(hb:fb ρ=some rb)(eb:rb.d= .int n):Qc7 fa (Qa6 fb) QdU ρ=some ⟨Qd (l.drop n),true,[]⟩:=by
 unfold Qc7 QdU Qa6
 simp only[ha,hb,Za,ea,eb,Qd,QrC,Qaq,QnZ,if_true]
theorem QvQ(ha:fa ρ=some ra)(ea:ra.d= .int x)(hb:fb ρ=some rb)(eb:rb.d=pairD s):dOp (gIn false) fa fb ρ=some ⟨.bl (decide (s.1=x) || decide (s.2=x)),true,[]⟩:=by
 refine QT ha hb ?_
 rw[ea,eb]
 show some (D.bl ([D.int s.1,D.int s.2].any λy=>deq y (.int x)))=_
 rw[Zcv,Zcv,List.any_nil,Qdn,Qdn,Bool.or_false]
theorem Qpc{m:Nat}{R:List (Int×Int)}(hR:∀s∈R,Good m s)(p:Nat):((R.filter λs=>decide (s.1=(p:Int)) || decide (s.2=(p:Int))).length:Int)=Qag R [] p:=by
 unfold Qag
 rw[show(([]:List (Int×Int)).map λl=>isI p l.1).sum=0 from rfl,Int.add_zero]
 induction R with
 | nil=>rfl
 | cons s R ih=>
  obtain⟨h1,h2,h3,h4,h5⟩:=hR s (by simp)
  have ih:=ih λs hs=>hR s (by simp[hs])
  rw[Zx,ZR,← ih]
  unfold isI
  by_cases a:s.1=p
  ·have b:¬s.2=p:=λz=>h5 (a.trans z.symm)
   rw[Zcc (by simp[a]),Zo,if_pos a,if_neg b];omega
  ·by_cases b:s.2=p
   ·rw[Zcc (by simp[b]),Zo,if_neg a,if_pos b];omega
   ·rw[List.filter_cons_of_neg (by simp[a,b]),if_neg a,if_neg b];omega
noncomputable def Qk2(w:Int×Int×Bool):Int×Int×Bool:=(w.1,w.2.1,false)
theorem Qob(he:Esc m W)(hg:∀w∈W,GoodW m w)(hl:W.length<=200):QcY m (W.map Qb8) []:=by
 refine⟨W.map Qk2,λA hA=>?_,λw hw=>?_,by rw[Zd];exact hl,?_,?_⟩
 ·obtain⟨w,h1,h2⟩:=he A hA
  exact⟨Qk2 w,ZA.mpr ⟨w,h1,rfl⟩,h2⟩
 ·obtain⟨w',h1,rfl⟩:=ZA.mp hw
  exact⟨(hg w' h1).1,λz=>by cases z⟩
 ·unfold Qc1
  rw[ZbE.mpr λw hw=>by obtain⟨w',_,rfl⟩:=ZA.mp hw;rfl,ZP]
  rfl
 ·unfold Qdv
  rw[Zck.mpr λw hw=>by obtain⟨w',_,rfl⟩:=ZA.mp hw;simp[Qk2]]
  rfl
theorem QsE(ha:fa ρ=some ra)(ea:ra.d= .int a)(hb:fb ρ=some rb)(eb:rb.d= .int b):dBf QeB (Qb fa (Qb fb Qg)) ρ=some ⟨.int (if b<a then b else a),true,[]⟩:=by
 unfold dBf
 rw[Qw ha (Qw hb (Q0 _)),Za]
 simp only[ea,eb,QeB,ZO]
noncomputable def QbJ:Option Int->D
 | none=> .non
 | some i=> .int i
@[simp] theorem Qk0(o:Option Int):(QbJ o).flat=true:=by cases o<;>rfl
noncomputable def QM(m:Nat)(F:Nat->Option Int):D:= .lst ((List.range m).map λi=>QbJ (F i))
@[simp] theorem Qw8(m:Nat)(F:Nat->Option Int):(QM m F).flat=false:=rfl
@[simp] theorem Qol(m:Nat)(F:Nat->Option Int):QG ((List.range m).map λi=>QbJ (F i))=true:=QbT (f:=λi=>QbJ (F i)) (λ_=>Qk0 _) _
noncomputable def upO(F:Nat->Option Int)(i:Nat)(v:Option Int):Nat->Option Int:=λj=>if j=i then v else F j
theorem Qsx{m:Nat}{F:Nat->Option Int}{i:Int}(h0:0<=i)(h:i<m):atI ((List.range m).map λj=>QbJ (F j)) i=some (QbJ (F i.toNat)):=by
 rw[Qe0 h0 (by simpa using h),Zm,ZT (by omega)];rfl
theorem Qpz(h:d.flat=true):HS.R.norm ⟨d,fr,M⟩=⟨d,true,[]⟩:=by unfold HS.R.norm;rw[if_pos h]
theorem QmR{fa fb:DE}{ρ:En}{ra rb:R}{m:Nat}{F:Nat->Option Int}{i:Int}(ha:fa ρ=some ra)(ea:ra.d=QM m F)(hb:fb ρ=some rb)(eb:rb.d= .int i)(h0:0<=i)(h:i<m):Qi fa fb ρ=some ⟨QbJ (F i.toNat),true,[]⟩:=by
 unfold Qi
 rw[ha,Za,hb,Za,ea,eb]
 simp only[QM,D.items,Za,Qsx h0 h,ZO,Qpz (Qk0 _)]
theorem Qlw{x m:Nat}{F:Nat->Option Int}{fi fa:DE}{ρ:En}{i v:Int}{ri ra:R}{Q:Out->Prop}(hx:ρ[x]? =some (some (QM m F,true)))(hi:fi ρ=some ri)(ei:ri.d= .int i)(ha:fa ρ=some ra)(ea:ra.d= .int v)(h0:0<=i)(h:i<m)
  (q:Q (.nx (ρ.set x (some (QM m (upO F i.toNat (some v)),true))))):Run (QdL x QU fi fa) ρ Q:=by
 refine⟨_,?_,q⟩
 have hn:ra.norm=⟨.int v,true,[]⟩:=by unfold HS.R.norm;rw[ea];rfl
 have hs:((List.range m).map λj=>QbJ (F j)).set i.toNat (.int v)=(List.range m).map λj=>QbJ (upO F i.toNat (some v) j):=by
  rw[QdP]
  congr 1;funext j;unfold upO;split<;>rfl
 unfold QdL
 rw[ha,Za,hx]
 simp only[QU,Za,hi,ei,Qbx,QM,Zd,ZE,Qd4 h0 h,hn,ea,QaO,hs]
 simp[kill]
theorem Qop{m n:Nat}{F:Nat->Option Int}(h:n<=m):cutD ((List.range m).map λi=>QbJ (F i)) none (some (n:Int))=(List.range n).map λi=>QbJ (F i):=by
 unfold cutD
 simp only[Zd,ZE,HT.QlD,HT.QiU,List.drop_zero,Nat.sub_zero,Zco h]
 rw[← ZbV,List.take_range,Zco h]
theorem Qtw{fa fb:DE}{ρ:En}{ra rb:R}{m n:Nat}{F:Nat->Option Int}(ha:fa ρ=some ra)(ea:ra.d=QM m F)(hb:fb ρ=some rb)(eb:rb.d= .int n)(h:n<=m):Qc7 fa QdU (Qa6 fb) ρ=some ⟨QM n F,true,[]⟩:=by
 unfold Qc7 QdU Qa6
 rw[ha,Za,hb,ea]
 simp only[Za,eb,QM,Qop h,Qaq,Qol,if_true]
theorem Qm1{n:Nat}(h:fb ρ=some r)(e:r.d= .int n)(hn:n<=16777216):Qau (Q1 (Qb (dC .non) Qg)) fb ρ=some ⟨QM n (λ_=>none),true,[]⟩:=by
 have h1:Q1 (Qb (dC .non) Qg) ρ=some ⟨.lst [.non],true,[]⟩:=rfl
 unfold Qau
 rw[h1,Za,h,Za,e]
 dsimp only
 rw[if_pos ⟨by simp[QeA];omega,by omega,by omega,rfl⟩]
 simp only[Zw,Qik]
 rfl
theorem Qty(o:Option Int)(t:Int):deq (QbJ o) (.int t)=decide (o=some t):=by
 cases o with
 | none=>rfl
 | some a=>
  show deq (.int a) (.int t)=_
  rw[Qdn]
  by_cases h:a=t<;>simp[h]
theorem QrZ(n:Nat)(o:Option Int):(QbJ o).sim n=true:=by cases o<;>cases n<;>rfl
noncomputable def Qbs(t:Int)(F:Nat->Option Int)(s:Int×Int):Nat->Option Int:=if F s.1.toNat=none/\F s.2.toNat=some t then upO F s.1.toNat (some (t+1))else F
noncomputable def QR(S:List (Int×Int))(F:Nat->Option Int):Nat->Nat->Option Int
 | 0=>F
 | t+1=>S.foldl (Qbs t) (QR S F t)
noncomputable def Qms(QbP:Den):DS:=(Qe (Qy 3 (QQ (Qau (Q1 (Qb (dC .non) Qg)) (Qa 0)) (Q1 (Qb (dC (.int 0)) Qg)))) (Qe (Qy 4 (QB 2 QbP [] (Qb (Qa 1) (Qb (Qa 2) Qg)))) (Qe (QaH (QaT (Qa 0)) (.nm 5) (Qe (QaH (Q7 (Qa 4)) (.tp [6,7]) (Qe (sIf (QfJ (QA (dOp (Qet false) (Qi (Qa 3) (Qa 6)) (dC .non))) (QA (dOp gEq (Qi (Qa 3) (Qa 7)) (Qa 5)))) (Qe (QdL 3 QU (Qa 6) (QQ (Qa 5) (dC (.int 1)))) Qp) Qp) Qp)) Qp)) (Qe (QZ (Qc7 (Qa 3) QdU (Qa6 (Qa 0)))) Qp))))
noncomputable def Q3(m:Nat):Nat->Option Int:=λi=>if i=m then some 0 else none
theorem QsK:D.lst (((List.range m).map λ_=>D.non)++[.int 0])=QM (m+1) (Q3 m):=by
 unfold QM
 rw[ZaE,ZY]
 congr 2
 ·refine ZD λi hi=>?_
  have:=Zf.mp hi
  unfold Q3
  rw[if_neg (by omega)];rfl
 ·simp[Q3,QbJ]
def Qiv(d:Den):Prop:=∀(m:Nat) (R L:List (Int×Int)),0<m->m<=1000->R.length+R.length+L.length<=1000000->(∀s∈R,Good m s)->(∀s∈L,Good m s)->d [.int m,Qk R,Qk L]=some (QM m (QR (Qh R L) (Q3 m) m),true)
theorem Qrn{ds:Den}(hs:∀R L:List (Int×Int),R.length+R.length+L.length<=1000000->ds [Qk R,Qk L]=some (Qk (Qh R L),true)):Qiv (Qs 8 (Qms ds)):=λm R L m0 hm hl hR hL=>by
 have gS:=QaK hR hL
 refine QaR ?_
 refine run_seq (Qo (r:=⟨QM (m+1) (Q3 m),true,[]⟩) ?_ ?_)
 ·unfold QQ
  rw[Qm1 (n:=m) (r:=⟨.int m,true,[]⟩) rfl rfl (by omega)]
  show(if((List.range m).map λi=>D.non).length+[D.int 0].length<=sizeLine then some (Qaq (((List.range m).map λi=>D.non)++[D.int 0]) [])else none)=_
  rw[if_pos (by simp[QeA];omega)]
  unfold Qaq
  rw[if_pos (by rw[Qpq];simp[QbT (f:=λ_:Nat=>D.non) (λ_=>rfl)]),QsK]
 rw[Qq]
 refine run_seq (Qo (Qx (r:=⟨[Qk R,Qk L],false,[]⟩) rfl (hs R L hl) rfl) ?_)
 rw[Qq]
 refine Qaj (P:=λρ=>∃j5 j6 j7 b,ρ=[some (.int m,true),some (Qk R,false),some (Qk L,false),some (QM (m+1) (QR (Qh R L) (Q3 m) m),true),some (Qk (Qh R L),b),j5,j6,j7]) ?_ ?_
 ·refine QX (List.range m) (λi ρ=>∃j5 j6 j7 b,ρ=[some (.int m,true),some (Qk R,false),some (Qk L,false),some (QM (m+1) (QR (Qh R L) (Q3 m) i),true),some (Qk (Qh R L),b),j5,j6,j7]) (Qbv (n:=m) (r:=⟨.int m,true,[]⟩) rfl rfl (by omega)) rfl ⟨none,none,none,true,rfl⟩ ?_ ?_
  ·rintro i k ρ hi ⟨j5,j6,j7,b,rfl⟩
   have hk:i<m/\i=k:=by
    obtain⟨h1,h2⟩:=Zb.mp hi
    simp at h1 h2;exact⟨h1,h2⟩
   obtain⟨hk,rfl⟩:=hk
   refine⟨_,rfl,?_⟩
   refine run_seq (g:=Qp) (Run.mono (Q:=Nx λρ=>∃j6 j7,ρ=[some (.int m,true),some (Qk R,false),some (Qk L,false),some (QM (m+1) (QR (Qh R L) (Q3 m) (i+1)),true),some (Qk (Qh R L),false),some (.int i,true),j6,j7]) ?_ ?_)
   ·refine QX (toD:=pairD) (Qh R L) (λj ρ=>∃j6 j7,ρ=[some (.int m,true),some (Qk R,false),some (Qk L,false),some (QM (m+1) (((Qh R L).take j).foldl (Qbs i) (QR (Qh R L) (Q3 m) i)),true),some (Qk (Qh R L),false),some (.int i,true),j6,j7]) (ir:=⟨(Qh R L).map pairD,if b=true then [4]else []⟩) ?_ rfl ⟨j6,j7,?_⟩ ?_ ?_
    ·have:=QaZ (QbK (i:=4) (d:=Qk (Qh R L)) (b:=b) (ρ:=[some (.int m,true),some (Qk R,false),some (Qk L,false),some (QM (m+1) (QR (Qh R L) (Q3 m) i),true),some (Qk (Qh R L),b),some (.int i,true),j6,j7]) rfl) (xs:=(Qh R L).map pairD) (by cases b<;>rfl)
     cases b<;>exact this
    ·cases b<;>rfl
    ·rintro j s ρ hj ⟨j6,j7,rfl⟩
     obtain⟨s1,s2,s3,s4,s5⟩:=gS s (Zy hj)
     have c1:s.1<((m+1:Nat):Int):=by omega
     have c2:s.2<((m+1:Nat):Int):=by omega
     refine⟨_,rfl,?_⟩
     generalize eF:((Qh R L).take j).foldl (Qbs i) (QR (Qh R L) (Q3 m) i)=F
     have step:((Qh R L).take (j+1)).foldl (Qbs i) (QR (Qh R L) (Q3 m) i)=Qbs i F s:=by
      rw[List.take_add_one,hj,ZbR,eF];rfl
     have e6:=QmR (fa:=Qa 3) (fb:=Qa 6) (F:=F) (m:=m+1) (i:=s.1) (ra:=⟨QM (m+1) F,true,[3]⟩) (ρ:=[some (.int m,true),some (Qk R,false),some (Qk L,false),some (QM (m+1) F,true),some (Qk (Qh R L),false),some (.int i,true),some (.int s.1,true),some (.int s.2,true)]) rfl rfl rfl rfl s1 c1
     have e7:=QmR (fa:=Qa 3) (fb:=Qa 7) (F:=F) (m:=m+1) (i:=s.2) (ra:=⟨QM (m+1) F,true,[3]⟩) (ρ:=[some (.int m,true),some (Qk R,false),some (Qk L,false),some (QM (m+1) F,true),some (Qk (Qh R L),false),some (.int i,true),some (.int s.1,true),some (.int s.2,true)]) rfl rfl rfl rfl s2 c2
     have t1:QA (dOp (Qet false) (Qi (Qa 3) (Qa 6)) (dC .non)) [some (.int m,true),some (Qk R,false),some (Qk L,false),some (QM (m+1) F,true),some (Qk (Qh R L),false),some (.int i,true),some (.int s.1,true),some (.int s.2,true)]=some (decide (F s.1.toNat=none)):=by
      refine QF (QT e6 (rb:=⟨.non,true,[]⟩) rfl (d:= .bl (decide (F s.1.toNat=none))) ?_) rfl
      cases F s.1.toNat<;>rfl
     have t2:QA (dOp gEq (Qi (Qa 3) (Qa 7)) (Qa 5)) [some (.int m,true),some (Qk R,false),some (Qk L,false),some (QM (m+1) F,true),some (Qk (Qh R L),false),some (.int i,true),some (.int s.1,true),some (.int s.2,true)]=some (decide (F s.2.toNat=some (i:Int))):=by
      have:=QkD e7 (fb:=Qa 5) (rb:=⟨.int i,true,[]⟩) rfl (QrZ 8 _) rfl
      refine QF this ?_
      show D.bl (deq (QbJ (F s.2.toNat)) (.int i))=_
      rw[Qty]
     refine run_seq (QW (b:=decide (F s.1.toNat=none/\F s.2.toNat=some (i:Int))) ?_ (λh=>?_) (λh=>?_))
     ·exact(Qsw t1 t2).trans (by rw[Bool.decide_and])
     ·have h:=of_decide_eq_true h
      refine run_seq (Qlw (i:=s.1) (v:=i+1) (F:=F) (m:=m+1) rfl rfl rfl (Qad (a:=(i:Int)) (b:=1) rfl rfl rfl rfl) rfl s1 c1 (Qn (Qn ⟨some (.int s.1,true),some (.int s.2,true),?_⟩)))
      rw[step]
      unfold Qbs
      rw[if_pos h];rfl
     ·have h:=of_decide_eq_false h
      refine Qn (Qn ⟨some (.int s.1,true),some (.int s.2,true),?_⟩)
      rw[step]
      unfold Qbs
      rw[if_neg h];rfl
    ·rintro ρ ⟨j6,j7,rfl⟩
     rw[Zbv]
     exact⟨j6,j7,rfl⟩
   ·intro o ho
    cases o with
    | nx ρ=>
     obtain⟨j6,j7,rfl⟩:=ho
     exact Qn ⟨_,_,_,false,rfl⟩
    | _=>exact ho.elim
  ·rintro ρ ⟨j5,j6,j7,b,rfl⟩
   rw[ZE]
   exact⟨j5,j6,j7,b,rfl⟩
 rintro ρ ⟨j5,j6,j7,b,rfl⟩
 exact QL (Qtw (m:=m+1) (n:=m) (QbK (d:=QM (m+1) (QR (Qh R L) (Q3 m) m)) (b:=true) rfl) rfl rfl rfl (by omega)) ⟨rfl,rfl⟩
theorem Qjv{t:Int}{v:Nat}:∀(S:List (Int×Int)) (F:Nat->Option Int),S.foldl (Qbs t) F v=if F v=none/\∃s∈S,s.1.toNat=v/\F s.2.toNat=some t then some (t+1)else F v
 | [],F=>by simp
 | s::S,F=>by
  rw[ZbA,Qjv S]
  have key:∀w,(Qbs t F s w=some t↔F w=some t):=λw=>by
   unfold Qbs
   split
   ·rename_i h
    unfold upO
    split
    ·rename_i e;subst e;rw[h.1];simp;omega
    ·exact Iff.rfl
   ·exact Iff.rfl
  by_cases c:F s.1.toNat=none/\F s.2.toNat=some t
  ·by_cases hv:v=s.1.toNat
   ·have e1:Qbs t F s v=some (t+1):=by unfold Qbs upO;rw[if_pos c,if_pos hv]
    rw[if_neg (by rw[e1];simp),e1,if_pos ⟨by rw[hv];exact c.1,s,Zh,hv.symm,c.2⟩]
   ·have e1:Qbs t F s v=F v:=by unfold Qbs upO;rw[if_pos c,if_neg hv]
    rw[e1]
    simp only[key]
    by_cases h:F v=none/\∃s'∈S,s'.1.toNat=v/\F s'.2.toNat=some t
    ·obtain⟨h1,s',h2,h3⟩:=h
     rw[if_pos ⟨h1,s',h2,h3⟩,if_pos ⟨h1,s',Zc _ h2,h3⟩]
    ·rw[if_neg h,if_neg]
     rintro⟨h1,s',h2,h3,h4⟩
     rcases Zn.mp h2 with rfl | h2
     ·exact hv h3.symm
     ·exact h ⟨h1,s',h2,h3,h4⟩
  ·have e1:Qbs t F s=F:=by unfold Qbs;rw[if_neg c]
   rw[e1]
   by_cases h:F v=none/\∃s'∈S,s'.1.toNat=v/\F s'.2.toNat=some t
   ·obtain⟨h1,s',h2,h3⟩:=h
    rw[if_pos ⟨h1,s',h2,h3⟩,if_pos ⟨h1,s',Zc _ h2,h3⟩]
   ·rw[if_neg h,if_neg]
    rintro⟨h1,s',h2,h3,h4⟩
    rcases Zn.mp h2 with rfl | h2
    ·exact c ⟨h3▸h1,h4⟩
    ·exact h ⟨h1,s',h2,h3,h4⟩
structure Qw9 (m:Nat) (S:List (Int×Int)) (t:Nat) (F:Nat->Option Int):Prop where
 pit:F m=some 0
 val:∀v d,F v=some d->0<=d/\d<=t/\v<=m/\(v≠m->1<=d)
 pred:∀v d,v≠m->F v=some d->∃s∈S,s.1.toNat=v/\F s.2.toNat=some (d-1)
 low:∀v d,v≠m->F v=some d->∀s∈S,s.1.toNat=v->∀e,F s.2.toNat=some e->d-1<=e
 non:∀v,F v=none->∀s∈S,s.1.toNat=v->∀e,F s.2.toNat=some e->e=t
theorem QkW{m:Nat}{S:List (Int×Int)}(hS:∀s∈S,Good m s):∀t,Qw9 m S t (QR S (Q3 m) t)
 | 0=>by
  have z:∀v d,Q3 m v=some d->v=m/\d=0:=λv d h=>by
   unfold Q3 at h
   split at h
   ·cases h;exact⟨by assumption,rfl⟩
   ·cases h
  refine⟨by simp[QR,Q3],λv d h=>?_,λv d hv h=>?_,λv d hv h=>?_,λv h s hs e1 e h2=>?_⟩
  ·obtain⟨rfl,rfl⟩:=z v d h;exact⟨by omega,by omega,by omega,λh=>absurd rfl h⟩
  ·exact absurd (z v d h).1 hv
  ·exact absurd (z v d h).1 hv
  ·obtain⟨_,rfl⟩:=z _ _ h2;rfl
 | t+1=>by
  have I:=QkW hS t
  generalize hF:QR S (Q3 m) t=F at I
  have nx:∀v,QR S (Q3 m) (t+1) v=if F v=none/\∃s∈S,s.1.toNat=v/\F s.2.toNat=some (t:Int)then some ((t:Int)+1)else F v:=λv=>by
   show S.foldl (Qbs t) (QR S (Q3 m) t) v=_
   rw[Qjv,hF]
  generalize QR S (Q3 m) (t+1)=F' at nx
  have old:∀v d,F v=some d->F' v=some d:=λv d h=>by rw[nx,if_neg (by rw[h];simp)];exact h
  have new:∀v d,F' v=some d->F v=some d∨(F v=none/\d=t+1/\∃s∈S,s.1.toNat=v/\F s.2.toNat=some (t:Int)):=λv d h=>by
   rw[nx]at h
   split at h
   ·rename_i c;cases h;exact .inr ⟨c.1,rfl,c.2⟩
   ·exact .inl h
  refine⟨old _ _ I.pit,λv d h=>?_,λv d hv h=>?_,λv d hv h s hs e1 e h2=>?_,λv h s hs e1 e h2=>?_⟩
  ·rcases new v d h with h | ⟨h,rfl,s,hs,e1,_⟩
   ·obtain⟨a,b,c,d⟩:=I.val v d h;exact⟨a,by omega,c,d⟩
   ·have g:=hS s hs
    exact⟨by omega,by omega,by have:=g.2.2.1;have:=g.1;omega,λ_=>by omega⟩
  ·rcases new v d h with h | ⟨h,rfl,s,hs,e1,e2⟩
   ·obtain⟨s,hs,e1,e2⟩:=I.pred v d hv h
    exact⟨s,hs,e1,old _ _ e2⟩
   ·exact⟨s,hs,e1,by rw[old _ _ e2];congr 1;omega⟩
  ·rcases new v d h with h | ⟨hq,rfl,_⟩
   ·rcases new _ e h2 with h2 | ⟨_,rfl,_⟩
    ·exact I.low v d hv h s hs e1 e h2
    ·have:=(I.val v d h).2.1;omega
   ·rcases new _ e h2 with h2 | ⟨_,rfl,_⟩
    ·have:=I.non v hq s hs e1 e h2;omega
    ·omega
  ·rw[nx]at h
   split at h
   ·cases h
   ·rename_i c
    rcases new _ e h2 with h2 | ⟨_,rfl,_⟩
    ·exact absurd ⟨h,s,hs,e1,by rw[h2,I.non v h s hs e1 e h2]⟩ c
    ·omega
theorem Qg5:∀(m:Nat) (l:List Nat),l.Nodup->(∀x∈l,x<m)->l.length<=m
 | 0,l,_,h=>by cases l with
  | nil=>simp
  | cons x l=>exact absurd (h x Zh) (by omega)
 | m+1,l,nd,h=>by
  by_cases hm:m∈l
  ·have:=Qg5 m (l.erase m) (nd.erase m) λx hx=>by
    have h1:=h x (List.mem_of_mem_erase hx)
    have h2:x≠m:=λz=>by subst z;exact(List.Nodup.not_mem_erase nd) hx
    omega
   rw[Zbe hm]at this
   omega
  ·have:=Qg5 m l nd λx hx=>by
    have h1:=h x hx
    have h2:x≠m:=λz=>hm (z▸hx)
    omega
   omega
theorem Qg8{m:Nat}{S:List (Int×Int)}(m0:0<m)(hS:∀s∈S,Good m s){v:Nat}(hv:v<m)(hn:QR S (Q3 m) m v=none):∀s∈S,s.1.toNat=v->QR S (Q3 m) m s.2.toNat=none:=λs hs e1=>by
 have I:=QkW hS m
 generalize QR S (Q3 m) m=F at I hn
 cases h:F s.2.toNat with
 | none=>rfl
 | some e=>
  exfalso
  have he:=I.non v hn s hs e1 e h
  have chain:∀k:Nat,k<=m->∃w,F w=some ((m:Int)-k):=λk=>by
   induction k with
   | zero=>intro _;exact⟨_,by rw[h,he];simp⟩
   | succ k ih=>
    intro hk
    obtain⟨w,hw⟩:=ih (by omega)
    have hwm:w≠m:=λz=>by rw[z,I.pit]at hw;have:=Option.some.inj hw;omega
    obtain⟨s',_,_,h2⟩:=I.pred w _ hwm hw
    exact⟨_,by rw[h2];congr 1;omega⟩
  have pick:∀k:Nat,∃w,k<m->F w=some ((k:Int)+1):=λk=>by
   by_cases hk:k<m
   ·obtain⟨w,hw⟩:=chain (m-(k+1)) (by omega)
    exact⟨w,λ_=>by rw[hw];congr 1;omega⟩
   ·exact⟨0,λz=>absurd z hk⟩
  obtain⟨f,this⟩:=Zcb pick
  have hl:=Qg5 m (v::(List.range m).map f) ?_ ?_
  ·simp at hl;omega
  ·refine Zac.mpr ⟨λhm=>?_,?_⟩
   ·obtain⟨k,hk,ek⟩:=ZA.mp hm
    have:=this k (Zf.mp hk)
    rw[ek,hn]at this;cases this
   ·rw[ZaY,Zay]
    refine Zbf ?_ Zao
    intro a b ha hb hab e
    have h1:=this a (Zf.mp ha)
    have h2:=this b (Zf.mp hb)
    rw[e,h2]at h1
    have:=Option.some.inj h1
    omega
  ·intro x hx
   rcases Zn.mp hx with rfl | hx
   ·exact hv
   ·obtain⟨k,hk,rfl⟩:=ZA.mp hx
    have h1:=this k (Zf.mp hk)
    have h2:=I.val _ _ h1
    have h3:f k≠m:=λz=>by rw[z,I.pit]at h1;have:=Option.some.inj h1;omega
    omega
noncomputable def Qz(T:Nat->Nat->Int)(h:Nat->Int)(m:Nat):Nat->List Nat
 | 0=>List.range m
 | k+1=>QbZ T h (Qz T h m k)
noncomputable def QP(T:Nat->Nat->Int)(h:Nat->Int)(m:Nat):Nat->Nat->Option Int
 | 0,_=>none
 | k+1,p=>if p∈Qae T h (Qz T h m k)then some ((k:Int)+1)else QP T h m k p
theorem QbY:∀k,(Qz T h m k).Nodup
 | 0=>Zao
 | k+1=>(QbY k).filter _
theorem QbV:p∈QbZ T h l↔p∈l/\p∉Qae T h l:=by
 unfold QbZ
 rw[ZG]
 simp
theorem Qbo:p∈Qae T h l↔p∈l/\Q2 T p l<=h p:=by
 unfold Qae
 rw[ZG]
 simp
theorem Qdp(hkj:k<=j)(hp:p∈Qz T h m j):p∈Qz T h m k:=by
 induction j with
 | zero=>rw[show k=0 by omega];exact hp
 | succ j ih=>
  by_cases e:k=j+1
  ·rw[e];exact hp
  ·exact ih (by omega) (QbV.mp hp).1
theorem QaX(hp:p∈Qz T h m k):p<m:=Zf.mp (Qdp (ZZ k) hp)
theorem QdF:∀k p,p<m->(QP T h m k p=none↔p∈Qz T h m k)
 | 0,p,hp=>⟨λ_=>Zf.mpr hp,λ_=>rfl⟩
 | k+1,p,hp=>by
  show(if p∈Qae T h (Qz T h m k)then some ((k:Int)+1)else QP T h m k p)=none↔p∈QbZ T h (Qz T h m k)
  rw[QbV]
  by_cases hr:p∈Qae T h (Qz T h m k)
  ·rw[if_pos hr]
   exact⟨λz=>(by cases z),λz=>absurd hr z.2⟩
  ·rw[if_neg hr,QdF k p hp]
   exact⟨λz=>⟨z,hr⟩,λz=>z.1⟩
theorem QdG:∀k p t,QP T h m k p=some t->∃j:Nat,j<k/\t=(j:Int)+1/\p∈Qz T h m j/\p∉Qz T h m (j+1)/\Q2 T p (Qz T h m j)<=h p
 | 0,_,_,e=>by cases e
 | k+1,p,t,e=>by
  unfold QP at e
  by_cases hr:p∈Qae T h (Qz T h m k)
  ·rw[if_pos hr]at e
   cases e
   exact⟨k,by omega,rfl,(Qbo.mp hr).1,λz=>(QbV.mp z).2 hr,(Qbo.mp hr).2⟩
  ·rw[if_neg hr]at e
   obtain⟨j,h1,h2⟩:=QdG k p t e
   exact⟨j,by omega,h2⟩
theorem QhI(pos:∀i j,i<m->j<m->i≠j->0<=T i j)(hp:p<m)(hl:l.Nodup)(hk:k.Nodup)(hm:∀o∈k,o<m)(sub:∀o∈l,o∈k):Q2 T p l<=Q2 T p k:=by
 unfold Q2
 refine QsM (m:=m) (hl.filter _) (hk.filter _) (λo ho=>?_) (λo ho=>hm o (ZG.mp ho).1) (λo ho=>pos p o hp (hm o (ZG.mp ho).1) λe=>?_)
 ·obtain⟨h1,h2⟩:=ZG.mp ho
  exact ZG.mpr ⟨sub o h1,h2⟩
 ·have:=(ZG.mp ho).2
  simp at this
  exact this e.symm
theorem Qez(pos:∀i j,i<m->j<m->i≠j->0<=T i j)(hg:∀j,j<m->h j<=g j):∀k p,p∈Qz T g m k->p∈Qz T h m k
 | 0,p,hp=>hp
 | k+1,p,hp=>by
  obtain⟨h1,h2⟩:=QbV.mp hp
  have h3:=Qez pos hg k p h1
  refine QbV.mpr ⟨h3,λz=>h2 (Qbo.mpr ⟨h1,?_⟩)⟩
  have h4:=(Qbo.mp z).2
  have h5:=hg p (QaX h1)
  have h6:=QhI pos (QaX h1) (QbY (T:=T) (h:=g) (m:=m) k) (QbY (T:=T) (h:=h) (m:=m) k) (λo ho=>QaX ho) (λo ho=>Qez pos hg k o ho)
  omega
noncomputable def Qo1(Qav:Den)(Qaz:Den)(Q4:Den)(Qbe:Den):DS:=(Qe (Qdc (QB 1 Qav [] (Qb (Qa 0) Qg))) (Qe (Qdc (QB 2 Qaz [] (Qb (Qa 0) (Qb (Q1 (Qb (Qa 1) Qg)) Qg)))) (Qe (Qy 2 (QB 1 Q4 [] (Qb (Qa 0) Qg))) (Qe (Qy 3 (Qau (Q1 (Qb (dC .non) Qg)) (Qi (Qa 0) (dC (.int 0))))) (Qe (Qy 4 (QfG (Qi (Qa 0) (dC (.int 0))))) (Qe (QaH (Qe6 (dC (.int 1)) (QQ (Qi (Qa 0) (dC (.int 0))) (dC (.int 1)))) (.nm 5) (Qe (Qy 7 (Qaf (Q7 (Qa 4)) (.nm 1) [none,none,some 4,some 1,some 2] (QA (dOp gGe (Qi (Qa 3) (Qa 1)) (QB 3 Qbe [] (Qb (Qi (Qa 4) (Qa 1)) (Qb (Qa 1) (Qb (Qa 2) Qg)))))) (Qa 1))) (Qe (QaH (Q7 (Qa 7)) (.nm 6) (Qe (QdL 3 QU (Qa 6) (Qa 5)) Qp)) (Qe (Qy 4 (Qaf (Q7 (Qa 4)) (.nm 1) [none,none,some 7] (QA (dOp (gIn true) (Qa 1) (Qa 2))) (Qa 1))) Qp)))) (Qe (QZ (Qa 3)) Qp)))))))
theorem Qpf{fa fb:DE}{ρ:En}{ra rb:R}{i j:Int}{n:Nat}(ha:fa ρ=some ra)(ea:ra.d= .int i)(hb:fb ρ=some rb)(eb:rb.d= .int j)(hn:(n:Int)=j-i)(hl:n<=16777216)(h1: -(2^62)<=i)(h2:i<2^61):Qe6 fa fb ρ=some ⟨(List.range n).map λ(k:Nat)=> .int (i+k),[]⟩:=by
 unfold Qe6
 rw[ha,Za,hb,Za,ea,eb]
 show(if j-i<=16777216/\_ then _ else _)=_
 rw[if_pos ⟨by omega,by omega,by omega,by omega,by omega⟩]
 rw[show(j-i).toNat=n by omega]
 rfl
def Qic(d:Den):Prop:=∀(m:Nat) (R:List (Int×Int)) (h:Nat->Int),0<m->m<=1000->R.length<=1000->(∀s∈R,Good m s)->(∀j,j<m->0<=h j)->d [Qj m R [],Qc m h]=some (QM m (QP (Qv m (Qh R [])) h m m),true)
theorem Qtn{n:Nat}(h:fa ρ=some r)(e:r.d= .int n)(hn:n<=1000000):QfG fa ρ=some ⟨Qd (List.range n),true,[]⟩:=by
 unfold QfG
 rw[h,Za,e]
 show(if 0<=(n:Int)/\(n:Int)<=1000000 then some (HS.R.mk (.lst ((List.range (n:Int).toNat).map λ(k:Nat)=> .int (k:Int))) true [])else none)=_
 rw[if_pos ⟨by omega,by omega⟩,Zw]
 rfl
theorem Qs4(h:∀i,i<m->F i=G i):QM m F=QM m G:=by
 unfold QM
 congr 1
 exact ZD λi hi=>by rw[h i (Zf.mp hi)]
theorem Qtk(hp:QgF dp)(hh:QgJ dh)(ht:QeX dt)(ha:Qii da):Qic (Qs 8 (Qo1 dp dh dt da)):=λm R h m0 hm hRl hR hpos=>by
 have htoll:=ht m R [] hm (by simp;omega) hR (λs hs=>absurd hs (by simp))
 have hneed:=hh m R [] [h] m0 (λg hg' j hj=>by rw[ZF.mp hg'];exact hpos j hj)
 generalize Qv m (Qh R [])=T at *
 refine QaR ?_
 refine run_seq (Qdm (Qx (r:=⟨[Qj m R []],false,[]⟩) rfl (hp m R) rfl) ?_)
 refine run_seq (Qdm (Qx (r:=⟨[Qj m R [],.lst [Qc m h]],false,[]⟩) rfl hneed rfl) ?_)
 refine run_seq (Qo (Qx (r:=⟨[Qj m R []],false,[]⟩) rfl htoll rfl) ?_)
 rw[Qq]
 refine run_seq (Qo (Qm1 (n:=m) (r:=⟨.int m,true,[]⟩) rfl rfl (by omega)) ?_)
 rw[Qq]
 refine run_seq (Qo (Qtn (n:=m) (r:=⟨.int m,true,[]⟩) rfl rfl (by omega)) ?_)
 rw[Qq]
 refine Qaj (P:=λρ=>∃j4 j5 j6 j7,ρ=[some (Qj m R [],false),some (Qc m h,false),some (Qai m m T,true),some (QM m (QP T h m m),true),j4,j5,j6,j7]) ?_ ?_
 ·refine QX (toD:=λ(k:Nat)=> .int (1+(k:Int))) (List.range m) (λk ρ=>∃j5 j6 j7,ρ=[some (Qj m R [],false),some (Qc m h,false),some (Qai m m T,true),some (QM m (QP T h m k),true),some (Qd (Qz T h m k),true),j5,j6,j7]) (Qpf (n:=m) (i:=1) (j:=(m:Int)+1) rfl rfl (Qad (a:=m) (b:=1) rfl rfl rfl rfl) rfl (by omega) (by omega) (by decide) (by decide)) rfl ⟨none,none,none,rfl⟩ ?_ ?_
  ·rintro k k' ρ hk ⟨j5,j6,j7,rfl⟩
   have hk':k<m/\k=k':=by
    obtain⟨h1,h2⟩:=Zb.mp hk
    simp at h1 h2;exact⟨h1,h2⟩
   obtain⟨hkm,rfl⟩:=hk'
   refine⟨_,rfl,?_⟩
   generalize el:Qz T h m k=l
   have hl:∀p∈l,p<m:=λp hp=>by rw[← el]at hp;exact QaX hp
   have enext:Qz T h m (k+1)=QbZ T h l:=by rw[← el];rfl
   have efire:∀p,QP T h m (k+1) p=if p∈Qae T h l then some ((k:Int)+1)else QP T h m k p:=λp=>by rw[← el];rfl
   rw[enext]
   refine run_seq (Qo (r:=⟨Qd (Qae T h l),true,[]⟩) ?_ ?_)
   ·refine Qdo (fi:=Q7 (Qa 4)) (t:= .nm 1) (cap:=[none,none,some 4,some 1,some 2]) (ft:=QA (dOp gGe (Qi (Qa 3) (Qa 1)) (QB 3 da [] (Qb (Qi (Qa 4) (Qa 1)) (Qb (Qa 1) (Qb (Qa 2) Qg)))))) (fe:=Qa 1) (ρ:=[some (Qj m R [],false),some (Qc m h,false),some (Qai m m T,true),some (QM m (QP T h m k),true),some (Qd l,true),some (.int (1+(k:Int)),true),j6,j7])
     (toD:=λ(p:Nat)=> .int (p:Int)) (keep:=λp=>decide (Q2 T p l<=h p)) (out:=λ(p:Nat)=> .int (p:Int)) l (QaZ (r:=⟨Qd l,true,[4]⟩) rfl rfl) rfl λp hp=>⟨[none,some (.int p,true),some (Qd l,false),some (Qc m h,false),some (Qai m m T,false)],rfl,?_,λ_=>⟨_,rfl,rfl,rfl⟩⟩
    have hpm:=hl p hp
    refine QF (QT (d:= .bl (decide (Q2 T p l<=h p))) (Qbw (m:=m) (f:=h) (i:=p) (ra:=⟨Qc m h,false,[]⟩) rfl rfl rfl rfl hpm) (Qx (Qw (Qt2 (m:=m) (n:=m) (f:=T) (i:=p) (ra:=⟨Qai m m T,false,[]⟩) rfl rfl rfl rfl (by omega) (by omega)) (rs:=⟨[.int p,Qd l],false,[]⟩) rfl) (ha m (T (p:Int).toNat) p l λo ho=>hl o ho) rfl) ?_) rfl
    show some (D.bl (decide (((l.filter λo=>decide (o≠p)).map (T (p:Int).toNat)).sum<=h p)))=_
    rw[Zw]
    rfl
   rw[Qq]
   refine Qaj (P:=λρ=>∃j6 b7,ρ=[some (Qj m R [],false),some (Qc m h,false),some (Qai m m T,true),some (QM m (QP T h m (k+1)),true),some (Qd l,true),some (.int (1+(k:Int)),true),j6,some (Qd (Qae T h l),b7)]) ?_ ?_
   ·refine QX (toD:=λ(p:Nat)=> .int (p:Int)) (Qae T h l) (λi ρ=>∃F j6,(∀p,F p=if p∈(Qae T h l).take i then some ((k:Int)+1)else QP T h m k p)/\ρ=[some (Qj m R [],false),some (Qc m h,false),some (Qai m m T,true),some (QM m F,true),some (Qd l,true),some (.int (1+(k:Int)),true),j6,some (Qd (Qae T h l),false)]) (QaZ (r:=⟨Qd (Qae T h l),true,[7]⟩) rfl rfl) rfl ⟨QP T h m k,j6,λp=>by simp,rfl⟩ ?_ ?_
    ·rintro i p ρ hi ⟨F,j6,hF,rfl⟩
     have hpm:=hl p (Qbo.mp (Zy hi)).1
     refine⟨_,rfl,run_seq (Qlw (m:=m) (F:=F) (i:=p) (v:=1+(k:Int)) rfl rfl rfl rfl rfl (by omega) (by omega) (Qn ⟨_,_,λq=>?_,rfl⟩))⟩
     have etake:(Qae T h l).take (i+1)=(Qae T h l).take i++[p]:=by
      rw[Zcr,hi];rfl
     rw[etake]
     unfold upO
     rw[Zw]
     by_cases hq:q=p
     ·subst hq
      rw[if_pos rfl,if_pos (by simp)]
      congr 1;omega
     ·rw[if_neg hq,hF q]
      by_cases h2:q∈(Qae T h l).take i
      ·rw[if_pos h2,if_pos (Zi _ h2)]
      ·rw[if_neg h2,if_neg (λz=>by
        rcases ZK.mp z with z | z
        ·exact h2 z
        ·exact hq (ZF.mp z))]
    ·rintro ρ ⟨F,j6,hF,rfl⟩
     rw[Zbv]at hF
     refine⟨j6,false,?_⟩
     rw[Qs4 (F:=F) (G:=QP T h m (k+1)) λp _=>by rw[hF p,efire p]]
   rintro ρ ⟨j6,b7,rfl⟩
   refine run_seq (Qo (r:=⟨Qd (QbZ T h l),true,[]⟩) ?_ (Qn ?_))
   ·refine Qdo (fi:=Q7 (Qa 4)) (t:= .nm 1) (cap:=[none,none,some 7]) (ft:=QA (dOp (gIn true) (Qa 1) (Qa 2))) (fe:=Qa 1)
     (toD:=λ(p:Nat)=> .int (p:Int)) (keep:=λp=> !(Qae T h l).contains p) (out:=λ(p:Nat)=> .int (p:Int)) l (QaZ (r:=⟨Qd l,true,[4]⟩) rfl rfl) rfl λp hp=>⟨[none,some (.int p,true),some (Qd (Qae T h l),false)],by cases b7<;>rfl,QF (Qf9 (neg:=true) (o:=p) (l:=Qae T h l) rfl rfl (rb:=⟨Qd (Qae T h l),false,[]⟩) rfl rfl) rfl,λ_=>⟨_,rfl,rfl,rfl⟩⟩
   rw[Qq]
   exact⟨_,_,_,rfl⟩
  ·rintro ρ ⟨j5,j6,j7,rfl⟩
   rw[ZE]
   exact⟨_,_,_,_,rfl⟩
 rintro ρ ⟨j4,j5,j6,j7,rfl⟩
 exact QL (r:=⟨QM m (QP T h m m),true,[3]⟩) rfl ⟨rfl,rfl⟩
noncomputable def prs(W:List (Int×Int×Bool)):List (Int×Int):=W.map Qbq
theorem Qqo{fa:DE}{ρ:En}{r:R}{s:Int×Int}(h:fa ρ=some r)(e:r.d=pairD s):dBf Qdy (Qb fa Qg) ρ=some ⟨.int (if s.2<s.1 then s.2 else s.1),true,[]⟩:=by
 unfold dBf
 rw[Qw h (Q0 _),Za]
 simp only[e,pairD,Qdy]
 rfl
theorem QrA{fa:DE}{ρ:En}{r:R}{s:Int×Int}(h:fa ρ=some r)(e:r.d=pairD s):dBf Qda (Qb fa Qg) ρ=some ⟨.int (if s.1<s.2 then s.2 else s.1),true,[]⟩:=by
 unfold dBf
 rw[Qw h (Q0 _),Za]
 simp only[e,pairD,Qda]
 rfl
theorem QqC{T:Nat->Nat->Int}{h:Nat->Int}{m:Nat}{k p:Nat}(hp:p<m){j:Nat}(hj:j<=k):p∈Qz T h m j↔(QP T h m k p=none∨∃t,QP T h m k p=some t/\(j:Int)+1<=t):=by
 cases e:QP T h m k p with
 | none=>exact⟨λ_=> .inl rfl,λ_=>Qdp hj ((QdF k p hp).mp e)⟩
 | some t=>
  obtain⟨i,h1,h2,h3,h4,_⟩:=QdG k p t e
  constructor
  ·intro z
   refine .inr ⟨t,rfl,?_⟩
   by_cases hh:j<=i
   ·omega
   ·exact absurd (Qdp (show i+1<=j by omega) z) h4
  ·rintro(z | ⟨t',z,hz⟩)
   ·cases z
   ·cases z
    exact Qdp (show j<=i by omega) h3
theorem Qkq{T:Nat->Nat->Int}{h:Nat->Int}{l:List Nat}:QbZ T h l=l∨(QbZ T h l).length<l.length:=by
 by_cases e:(QbZ T h l).length<l.length
 ·exact .inr e
 ·left
  unfold QbZ at e ⊢
  have h1:=ZaL (λp=> !(Qae T h l).contains p) l
  rw[ZbE]
  intro a ha
  have h2:=List.length_filter_eq_length_iff.mp (Nat.le_antisymm (ZaL _ l) (Nat.le_of_not_lt e))
  exact h2 a ha
theorem QkN{T:Nat->Nat->Int}{h:Nat->Int}{m:Nat}:∀k,Qz T h m (k+1)=Qz T h m k∨(Qz T h m (k+1)).length+(k+1)<=m
 | 0=>by
  rcases Qkq (T:=T) (h:=h) (l:=Qz T h m 0)with e | e
  ·exact .inl e
  ·right
   have:(Qz T h m 0).length=m:=ZE
   show(QbZ T h (Qz T h m 0)).length+1<=m
   omega
 | k+1=>by
  rcases QkN (T:=T) (h:=h) (m:=m) k with e | e
  ·left
   show QbZ T h (Qz T h m (k+1))=Qz T h m (k+1)
   rw[e]
   exact e
  ·rcases Qkq (T:=T) (h:=h) (l:=Qz T h m (k+1))with e2 | e2
   ·exact .inl e2
   ·right
    show(QbZ T h (Qz T h m (k+1))).length+(k+1+1)<=m
    omega
theorem Qrt{T:Nat->Nat->Int}{h:Nat->Int}{m p:Nat}(hp:p∈Qz T h m m):h p<Q2 T p (Qz T h m m):=by
 have hm:0<m:=ZbL (ZZ _) (QaX hp)
 have key:Qz T h m (m+1)=Qz T h m m:=by
  rcases QkN (T:=T) (h:=h) (m:=m) m with e | e
  ·exact e
  ·omega
 have h1:p∈QbZ T h (Qz T h m m):=by
  show p∈Qz T h m (m+1)
  rw[key];exact hp
 have h2:=(QbV.mp h1).2
 by_cases h3:Q2 T p (Qz T h m m)<=h p
 ·exact absurd (Qbo.mpr ⟨hp,h3⟩) h2
 ·omega
theorem QnV{m:Nat}{s:Int×Int}(g:Good m s){p:Nat}{l:List Nat}:QaA p (l.filter λo=>decide (o≠p)) s=QaA p l s:=by
 obtain⟨g1,g2,g3,g4,g5⟩:=g
 unfold QaA
 have e1:(s.1=p/\s.2.toNat∈l.filter λo=>decide (o≠p))↔(s.1=p/\s.2.toNat∈l):=by
  rw[ZG]
  constructor
  ·rintro⟨a,b,_⟩;exact⟨a,b⟩
  ·rintro⟨a,b⟩;exact⟨a,b,decide_eq_true (by omega)⟩
 have e2:(s.2=p/\s.1.toNat∈l.filter λo=>decide (o≠p))↔(s.2=p/\s.1.toNat∈l):=by
  rw[ZG]
  constructor
  ·rintro⟨a,b,_⟩;exact⟨a,b⟩
  ·rintro⟨a,b⟩;exact⟨a,b,decide_eq_true (by omega)⟩
 simp only[e1,e2]
theorem QgN{m:Nat}{R:List (Int×Int)}(hR:∀s∈R,Good m s){p:Nat}(hp:p<m){l:List Nat}(nd:l.Nodup)(hl:∀o∈l,o<m):Q2 (Qv m (Qh R [])) p l=(R.map (QaA p l)).sum:=by
 unfold Q2
 rw[Qn7 hR hp (nd.filter _) (λo ho=>hl o (ZG.mp ho).1) (λz=>by have:=(ZG.mp z).2;simp at this)]
 rw[ZD λs hs=>QnV (hR s hs)]
theorem Qi3:∀bs:List Bool,Qhk (bs.map D.bl)=some bs
 | []=>rfl
 | b::bs=>by
  show Option.bind (some b) (λi=>(Qhk (bs.map D.bl)).map λr=>i::r)=_
  rw[Qi3 bs];rfl
theorem Qtx{fa:DE}{ρ:En}{r:R}{m:Nat}{g:Nat->Bool}(h:fa ρ=some r)(e:r.d= .lst ((List.range m).map λi=> .bl (g i))):dBf QgC (Qb fa Qg) ρ=some ⟨.bl ((List.range m).all g),true,[]⟩:=by
 unfold dBf
 rw[Qw h (Q0 _),Za]
 have:((List.range m).map λi=>D.bl (g i))=(((List.range m).map g).map D.bl):=by rw[ZP];rfl
 simp only[e,QgC,this,Qi3,ZO]
 rw[ZbH];rfl
theorem QtB(n m:Nat)(F:Nat->Option Int):(QM m F).sim (n+1)=true:=by
 unfold QM
 simp only[D.sim,ZbH,Zaa]
 intro p _
 show(QbJ (F p)).sim n=true
 cases F p<;>cases n<;>rfl
theorem QtQ{m:Nat}{F:Nat->Option Int}:((List.range m).map λi=>QbJ (F i)).any (λy=>deq y .non)=(List.range m).any λi=>(F i).isNone:=by
 rw[List.any_map]
 congr 1
 funext i
 show deq (QbJ (F i)) .non=(F i).isNone
 cases F i<;>rfl
theorem Qjn{neg:Bool}{fb:DE}{ρ:En}{rb:R}{m:Nat}{F:Nat->Option Int}(hb:fb ρ=some rb)(eb:rb.d=QM m F):dOp (gIn neg) (dC .non) fb ρ=some ⟨.bl (if neg then !((List.range m).any λi=>(F i).isNone)else(List.range m).any λi=>(F i).isNone),true,[]⟩:=by
 refine QT (ra:=⟨.non,true,[]⟩) rfl hb ?_
 rw[eb]
 show(if D.non.sim 8 && (QM m F).sim 8 then some (D.bl (if neg then !(((List.range m).map λi=>QbJ (F i)).any λy=>deq y .non)else((List.range m).map λi=>QbJ (F i)).any λy=>deq y .non))else none)=_
 rw[QtB 7 m F,QtQ]
 rfl
noncomputable def QfS(Qdh:Den)(Qce:Den):DS:=(Qe (Qy 2 (QB 2 Qdh [] (Qb (Qa 0) (Qb (Qa 1) Qg)))) (Qe (Qy 3 (dBf QgC (Qb (Qaf (QcF (Qa 1) (QB 1 Qce [] (Qb (Qa 0) Qg))) (.tp [1,2]) [none,none,none] Qb3 (dOp gLt (Qa 1) (Qa 2))) Qg))) (Qe (QZ (QiC (Qa 3) (dOp (gIn true) (dC .non) (Qa 2)))) Qp)))
noncomputable def Qb9(R:List (Int×Int))(m:Nat)(h:Nat->Int)(F:Nat->Option Int):Bool:=(List.range m).all (λj=>decide (h j<Qag R [] j)) && !((List.range m).any λi=>(F i).isNone)
def QgE(d:Den):Prop:=∀(m:Nat) (R:List (Int×Int)) (h:Nat->Int),0<m->m<=1000->R.length<=1000->(∀s∈R,Good m s)->(∀j,j<m->0<=h j)->d [Qj m R [],Qc m h]=some (.bl (Qb9 R m h (QP (Qv m (Qh R [])) h m m)),true)
theorem Qqm{df ds:Den}(hf:Qic df)(hs:Qlk ds):QgE (Qs 4 (QfS df ds)):=λm R h m0 hm hRl hR hpos=>by
 have ef:=hf m R h m0 hm hRl hR hpos
 have es:=hs m R [] hm (by simp;omega) hR (λs hs=>absurd hs (by simp))
 generalize QP (Qv m (Qh R [])) h m m=F at *
 refine QaR ?_
 refine run_seq (Qo (Qx (r:=⟨[Qj m R [],Qc m h],false,[]⟩) rfl ef rfl) ?_)
 rw[Qq]
 have ec:=Qa3 (fi:=QcF (Qa 1) (QB 1 ds [] (Qb (Qa 0) Qg))) (t:= .tp [1,2]) (cap:=[none,none,none]) (fe:=dOp gLt (Qa 1) (Qa 2)) (ρ:=[some (Qj m R [],false),some (Qc m h,false),some (QM m F,true),none])
  (toD:=λ(i:Nat)=> .tup [.int (h i),.int (Qag R [] i)]) (out:=λ(i:Nat)=> .bl (decide (h i<Qag R [] i))) (List.range m) (QiL (ra:=⟨Qc m h,false,[]⟩) rfl rfl (Qx (r:=⟨[Qj m R []],false,[]⟩) rfl es rfl) rfl) rfl λi _=>⟨[none,some (.int (h i),true),some (.int (Qag R [] i),true)],rfl,⟨.bl (decide (h i<Qag R [] i)),true,[]⟩,rfl,rfl,rfl⟩
 refine run_seq (Qo (Qtx (m:=m) (g:=λi=>decide (h i<Qag R [] i)) ec rfl) ?_)
 rw[Qq]
 exact QL (Qvr (a:=(List.range m).all λj=>decide (h j<Qag R [] j)) (b:= !((List.range m).any λi=>(F i).isNone)) rfl (Qjn (neg:=true) (m:=m) (F:=F) (rb:=⟨QM m F,true,[2]⟩) rfl rfl)) ⟨rfl,rfl⟩
noncomputable def QwL(F:Nat->Option Int)(t:Int)(o:Nat):Bool:=match F o with
 | none=>true
 | some u=>decide (t<=u)
noncomputable def QvY(m:Nat)(F:Nat->Option Int)(t:Int):List Nat:=(List.range m).filter (QwL F t)
noncomputable def QqK(R:List (Int×Int))(m:Nat)(F:Nat->Option Int)(p:Nat)(t:Int):Int:=(R.map (QaA p (QvY m F t))).sum
structure QxI (R:List (Int×Int)) (m:Nat) (h:Nat->Int) (F:Nat->Option Int):Prop where
 rg:∀p t,p<m->F p=some t->1<=t/\t<=m
 no:∀p,p<m->F p=none->h p<QqK R m F p ((m:Int)+1)
 en:∀p t,p<m->F p=some t->QqK R m F p t<=h p
 la:∀p t,p<m->F p=some t->1<t->h p<QqK R m F p (t-1)
theorem QhC{R:List (Int×Int)}{m:Nat}{h:Nat->Int}{F:Nat->Option Int}(h1:∀i,i<m->F i≠none/\h i<Qag R [] i):Qb9 R m h F=true:=by
 unfold Qb9
 rw[Zk,Zaa,Zas,Zav]
 refine⟨λi hi=>decide_eq_true (h1 i (Zf.mp hi)).2,λi hi=>?_⟩
 have:=(h1 i (Zf.mp hi)).1
 cases e:F i with
 | none=>exact absurd e this
 | some t=>simp
theorem Qeb{fa fb:DE}{ρ:En}{ra rb:R}{l:List Nat}{i:Int}{v:Nat}(ha:fa ρ=some ra)(ea:ra.d=Qd l)(hb:fb ρ=some rb)(eb:rb.d= .int i)(h0:0<=i)(h:l[i.toNat]? =some v):Qi fa fb ρ=some ⟨.int v,true,[]⟩:=by
 refine QcE (ns:=l.map λ(p:Nat)=>(p:Int)) ha (by rw[ea,Qew]) hb eb h0 ?_
 rw[Zm,h];rfl
theorem QgL{fa:DE}{ρ:En}{r:R}{l:List Nat}(h:fa ρ=some r)(e:r.d=Qd l):dBf QaS (Qb fa Qg) ρ=some ⟨.int l.length,true,[]⟩:=by
 rw[Qcb h e,Zd]
theorem Qfl{x:Nat}{fa:DE}{ρ:En}{r:R}{l:List Nat}{v:Nat}{Q:Out->Prop}(hx:ρ[x]? =some (some (Qd l,true)))(ha:fa ρ=some r)(e:r.d= .int v)(hl:l.length<16777216)(q:Q (.nx (ρ.set x (some (Qd (l++[v]),true))))):Run (QcM x QU fa) ρ Q:=by
 refine Qij (xs:=l.map λ(p:Nat)=>D.int (p:Int)) hx ha (by rw[e];rfl) (by simpa using hl) ?_
 have:D.lst ((l.map λ(p:Nat)=>D.int (p:Int))++[r.d])=Qd (l++[v]):=by unfold Qd;rw[e,ZY];rfl
 rw[this];exact q
theorem QoN{m:Nat}{R:List (Int×Int)}(hw:QcY m R []):Qlm m (Qh R []):=by
 obtain⟨W,h1,h2,h3,h4,h5⟩:=hw.ex
 have:=Qjt h1
 rw[← h4,← h5]at this
 exact this
theorem Qs0{m:Nat}{R:List (Int×Int)}(hw:QcY m R [])(A:Nat->Prop)(hA:∃p,p<m/\A p):∃p,p<m/\A p/\∃s∈R,(s.1=p/\(s.2=m∨¬A s.2.toNat))∨(s.2=p/\(s.1=m∨¬A s.1.toNat)):=by
 obtain⟨s,h1,h2,h3,h4⟩:=QoN hw A hA
 unfold Qh at h1
 rw[Zag]at h1
 have hg:=hw.good.1
 rcases ZK.mp h1 with h | h
 ·obtain⟨g1,_⟩:=hg s h
  exact⟨s.1.toNat,by omega,h3,s,h,.inl ⟨by omega,h4⟩⟩
 ·obtain⟨r,hr,rfl⟩:=ZA.mp h
  obtain⟨g1,g2,_⟩:=hg r hr
  simp only[ZbU,Zcu]at h2 h3 h4
  exact⟨r.2.toNat,by omega,h3,r,hr,.inr ⟨by omega,h4⟩⟩
noncomputable def rd(R:List (Int×Int))(k:Nat):Int×Int:=R.getD k (0,0)
theorem QhR{R:List (Int×Int)}{k:Nat}(h:k<R.length):R[k]? =some (rd R k):=by
 unfold rd
 rw[ZX,Zp h];rfl
theorem QS{R:List (Int×Int)}{k:Nat}(h:k<R.length):rd R k∈R:=Zy (QhR h)
theorem Qib{β:Type}(R:List (Int×Int))(f:Int×Int->β):R.map f=(List.range R.length).map λk=>f (rd R k):=by
 refine Zaz λk=>?_
 rw[Zm,Zm]
 by_cases h:k<R.length
 ·rw[QhR h,ZT h];rfl
 ·rw[Zv (by omega),Zv (by simp;omega)];rfl
theorem Qq9(R:List (Int×Int)):Qk R= .lst ((List.range R.length).map λk=>pairD (rd R k)):=by
 unfold Qk;rw[Qib R pairD]
noncomputable def Q8(p:Nat)(s:Int×Int):Bool:=decide (s.1=(p:Int)) || decide (s.2=(p:Int))
noncomputable def oe(p:Nat)(s:Int×Int):Nat:=(s.1+s.2-p).toNat
theorem Qal{m:Nat}{s:Int×Int}(g:Good m s){p:Nat}(hi:Q8 p s=true):((s.1+s.2-p:Int)=oe p s)/\oe p s<=m/\oe p s≠p/\((s.1=p/\s.2=oe p s)∨(s.2=p/\s.1=oe p s)):=by
 obtain⟨g1,g2,g3,g4,g5⟩:=g
 unfold Q8 at hi
 unfold oe
 simp only[ZaN,decide_eq_true_eq]at hi
 rcases hi with h | h
 ·refine⟨by omega,by omega,by omega,.inl ⟨h,by omega⟩⟩
 ·refine⟨by omega,by omega,by omega,.inr ⟨h,by omega⟩⟩
noncomputable def Qaa(R:List (Int×Int))(p:Nat):List Nat:=(List.range R.length).filter λk=>Q8 p (rd R k)
theorem QbE{R:List (Int×Int)}{p k:Nat}:k∈Qaa R p↔k<R.length/\Q8 p (rd R k)=true:=by
 unfold Qaa;rw[ZG,Zf]
noncomputable def QC(R:List (Int×Int))(dep:Nat->Int)(p:Nat):List Nat:=(Qaa R p).filter λk=>decide (dep (oe p (rd R k))=dep p-1)
noncomputable def QaD(R:List (Int×Int))(dep:Nat->Int)(p:Nat):List Nat:=(Qaa R p).filter λk=>decide (dep (oe p (rd R k))<dep p-1)
noncomputable def Qac(t:List Nat):List Nat->Nat
 | []=>0
 | k::r=>if k∈t then 0 else Qac t r+1
theorem QkL{t:List Nat}:∀{l:List Nat},(∃k∈l,k∈t)->Qac t l<l.length
 | [],⟨_,h,_⟩=>by simp at h
 | a::r,⟨k,h1,h2⟩=>by
  unfold Qac
  by_cases e:a∈t
  ·rw[if_pos e];simp
  ·rw[if_neg e]
   have:k∈r:=by
    rcases Zn.mp h1 with z | z
    ·rw[z]at h2;exact absurd h2 e
    ·exact z
   have:=QkL ⟨k,this,h2⟩
   simp;omega
noncomputable def QO(R:List (Int×Int))(dep:Nat->Int)(t:List Nat)(p:Nat):Int:=(Qaa R p).length-1-(QaD R dep p).length-Qac t (QC R dep p)
structure Qcp (R:List (Int×Int)) (m:Nat) (t:List Nat) (dep:Nat->Int):Prop where
 tl:∀k∈t,k<R.length
 pit:dep m=0
 val:∀v,v<m->1<=dep v/\dep v<=m
 pred:∀v,v<m->∃k∈t,Q8 v (rd R k)=true/\dep (oe v (rd R k))=dep v-1
 low:∀v,v<m->∀k∈t,Q8 v (rd R k)=true->dep v-1<=dep (oe v (rd R k))
theorem len_sub{α:Type}[DecidableEq α]:∀{l K:List α},l.Nodup->(∀x∈l,x∈K)->l.length<=K.length
 | [],_,_,_=>ZZ _
 | a::l,K,nd,h=>by
  have h1:=Zac.mp nd
  have ha:=h a (by simp)
  have:=len_sub (K:=K.erase a) h1.2 λx hx=>(Zby (λe:x=a=>h1.1 (by rw[← e];exact hx))).mpr (h x (by simp[hx]))
  rw[Zbe ha]at this
  have:0<K.length:=Zcl ha
  simp;omega
theorem Qky{m:Nat}{R:List (Int×Int)}(hR:∀s∈R,Good m s)(p:Nat):((Qaa R p).length:Int)=Qag R [] p:=by
 rw[← Qpc hR p]
 congr 1
 have:R.filter (λs=>decide (s.1=(p:Int)) || decide (s.2=(p:Int)))=(Qaa R p).map (rd R):=by
  have e:=Qib R id
  rw[List.map_id]at e
  conv=>lhs;rw[e]
  rw[List.filter_map]
  rfl
 rw[this,Zd]
theorem Qfu{R:List (Int×Int)}{m:Nat}{t:List Nat}{dep:Nat->Int}(D:Qcp R m t dep){p:Nat}(hp:p<m):Qac t (QC R dep p)<(QC R dep p).length:=by
 obtain⟨k,h1,h2,h3⟩:=D.pred p hp
 exact QkL ⟨k,ZG.mpr ⟨QbE.mpr ⟨D.tl k h1,h2⟩,decide_eq_true h3⟩,h1⟩
noncomputable def QaU(R:List (Int×Int))(dep:Nat->Int)(p:Nat):List Nat:=(Qaa R p).filter λk=>decide (dep p<=dep (oe p (rd R k)))
theorem QbU{R:List (Int×Int)}{dep:Nat->Int}{p:Nat}:(Qaa R p).length=(QC R dep p).length+(QaD R dep p).length+(QaU R dep p).length:=by
 unfold QC QaD QaU
 induction Qaa R p with
 | nil=>rfl
 | cons k r ih=>
  simp only[Zai,Zo]
  by_cases a:dep (oe p (rd R k))=dep p-1
  ·have b:¬dep (oe p (rd R k))<dep p-1:=by omega
   have c:¬dep p<=dep (oe p (rd R k)):=by omega
   simp only[decide_eq_true a,decide_eq_false b,decide_eq_false c,if_true,if_false,Zo,ZaI]
   omega
  ·by_cases b:dep (oe p (rd R k))<dep p-1
   ·have c:¬dep p<=dep (oe p (rd R k)):=by omega
    simp only[decide_eq_false a,decide_eq_true b,decide_eq_false c,if_true,if_false,Zo,ZaI]
    omega
   ·have c:dep p<=dep (oe p (rd R k)):=by omega
    simp only[decide_eq_false a,decide_eq_false b,decide_eq_true c,if_true,if_false,Zo,ZaI]
    omega
theorem Qel{R:List (Int×Int)}{m:Nat}{t:List Nat}{dep:Nat->Int}(hR:∀s∈R,Good m s)(D:Qcp R m t dep){p:Nat}(hp:p<m):((QaU R dep p).length:Int)<=QO R dep t p/\QO R dep t p<Qag R [] p:=by
 have h1:=Qfu D hp
 have h2:=QbU (R:=R) (dep:=dep) (p:=p)
 have h3:=Qky hR p
 unfold QO
 omega
theorem QoY{m:Nat}{R:List (Int×Int)}(hR:∀s∈R,Good m s){p:Nat}{l:List Nat}{K:List Nat}(hK:∀k,k<R.length->Q8 p (rd R k)=true->oe p (rd R k)∈l->k∈K):(R.map (QaA p l)).sum<=K.length:=by
 rw[Qib R (QaA p l)]
 have e:(List.range R.length).map (λk=>QaA p l (rd R k))=(List.range R.length).map λk=>if Q8 p (rd R k)=true/\oe p (rd R k)∈l then(1:Int)else 0:=ZD λk hk=>by
  have hk:=Zf.mp hk
  obtain⟨g1,g2,g3,g4,g5⟩:=hR _ (QS hk)
  unfold QaA
  by_cases hi:Q8 p (rd R k)=true
  ·obtain⟨o1,o2,o3,o4⟩:=Qal (hR _ (QS hk)) hi
   rcases o4 with⟨a,b⟩ | ⟨a,b⟩
   ·have c:¬(rd R k).2=p:=by omega
    have d:(rd R k).2.toNat=oe p (rd R k):=by omega
    simp only[a,c,d,hi,true_and,false_and,or_false]
   ·have c:¬(rd R k).1=p:=by omega
    have d:(rd R k).1.toNat=oe p (rd R k):=by omega
    simp only[a,c,d,hi,true_and,false_and,false_or]
  ·rw[if_neg (c:=Q8 p (rd R k)=true/\oe p (rd R k)∈l) (λz=>hi z.1),if_neg]
   unfold Q8 at hi
   simp only[ZaN,decide_eq_true_eq,not_or]at hi
   intro z
   rcases z with z | z
   ·exact hi.1 z.1
   ·exact hi.2 z.1
 rw[e]
 have cnt:∀L:List Nat,L.Nodup->(∀k∈L,k<R.length)->(L.map λk=>if Q8 p (rd R k)=true/\oe p (rd R k)∈l then(1:Int)else 0).sum=((L.filter λk=>decide (Q8 p (rd R k)=true/\oe p (rd R k)∈l)).length:Int):=by
  intro L
  induction L with
  | nil=>intros;rfl
  | cons k r ih=>
   intro nd hl
   rw[Zx,ZR,ih (Zac.mp nd).2 λk hk=>hl k (by simp[hk]),Zai]
   by_cases c:Q8 p (rd R k)=true/\oe p (rd R k)∈l
   ·rw[if_pos c,if_pos (decide_eq_true c),Zo];omega
   ·rw[if_neg c,if_neg (by rw[decide_eq_false c];simp)];omega
 rw[cnt _ Zao λk hk=>Zf.mp hk]
 have sub:∀k∈(List.range R.length).filter (λk=>decide (Q8 p (rd R k)=true/\oe p (rd R k)∈l)),k∈K:=λk hk=>by
  obtain⟨h1,h2⟩:=ZG.mp hk
  have h2:=of_decide_eq_true h2
  exact hK k (Zf.mp h1) h2.1 h2.2
 have nd:((List.range R.length).filter (λk=>decide (Q8 p (rd R k)=true/\oe p (rd R k)∈l))).Nodup:=Zao.filter _
 exact Int.ofNat_le.mpr (len_sub nd sub)
theorem Qnn{m:Nat}{R:List (Int×Int)}{t:List Nat}{dep:Nat->Int}(hR:∀s∈R,Good m s)(D:Qcp R m t dep){h:Nat->Int}(hh:∀p,p<m->h p=QO R dep t p):∀(d:Nat) (p:Nat),p<m->dep p=d->p∉Qz (Qv m (Qh R [])) h m d:=by
 intro d
 induction d using Nat.strongRecOn with
 | _ d ih=>
  intro p hp hd z
  cases d with
  | zero=>have:=(D.val p hp).1;omega
  | succ d=>
   obtain⟨z1,z2⟩:=QbV.mp z
   apply z2
   refine Qbo.mpr ⟨z1,?_⟩
   rw[QgN hR hp (QbY _) (λo ho=>QaX ho),hh p hp]
   refine Zbl (QoY hR (K:=QaU R dep p) λk hk hi ho=>?_) (Qel hR D hp).1
   refine ZG.mpr ⟨QbE.mpr ⟨hk,hi⟩,decide_eq_true ?_⟩
   have hom:=QaX ho
   refine Zaq λq=>?_
   have hv:=D.val _ hom
   obtain⟨e,he⟩:∃e:Nat,dep (oe p (rd R k))=e:=⟨(dep (oe p (rd R k))).toNat,by omega⟩
   exact ih e (by omega) _ hom he (Qdp (by omega) ho)
theorem QnX{m:Nat}{R:List (Int×Int)}{t:List Nat}{dep:Nat->Int}(hR:∀s∈R,Good m s)(D:Qcp R m t dep):Qb9 R m (QO R dep t) (QP (Qv m (Qh R [])) (QO R dep t) m m)=true:=QhC λi hi=>by
 refine⟨λz=>?_,(Qel hR D hi).2⟩
 have hv:=D.val i hi
 obtain⟨e,he⟩:∃e:Nat,dep i=e:=⟨(dep i).toNat,by omega⟩
 exact Qnn hR D (λ_ _=>rfl) e i hi he (Qdp (by omega) ((QdF m i hi).mp z))
noncomputable def QY(R:List (Int×Int))(t:List Nat):List (Int×Int):=t.map (rd R)
theorem QoA{m:Nat}{R:List (Int×Int)}{t:List Nat}(hR:∀s∈R,Good m s)(ht:∀k∈t,k<R.length)(hF:∀v,v<m->QR (Qh (QY R t) []) (Q3 m) m v≠none):∃dep,Qcp R m t dep/\∀v,v<m->QR (Qh (QY R t) []) (Q3 m) m v=some (dep v):=by
 have hT:∀s∈QY R t,Good m s:=λs hs=>by
  obtain⟨k,hk,rfl⟩:=ZA.mp hs
  exact hR _ (QS (ht k hk))
 have gS:=QaK (L:=[]) hT (λs hs=>absurd hs (by simp))
 have I:=QkW gS m
 generalize QR (Qh (QY R t) []) (Q3 m) m=F at *
 have sm:∀s,s∈Qh (QY R t) []↔s∈QY R t∨s.swap∈QY R t:=λs=>by
  unfold Qh
  rw[Zag,ZK,ZA]
  constructor
  ·rintro(h | ⟨r,h,rfl⟩)
   ·exact .inl h
   ·exact .inr (by simpa using h)
  ·rintro(h | h)
   ·exact .inl h
   ·exact .inr ⟨s.swap,h,by simp⟩
 have hv:∀v,v<m->F v=some ((F v).getD 0):=λv hv=>by
  cases e:F v with
  | none=>exact absurd e (hF v hv)
  | some d=>rfl
 have hm:F m=some ((F m).getD 0):=by rw[I.pit];rfl
 have hle:∀v,v<=m->F v=some ((F v).getD 0):=λv h=>by
  by_cases e:v=m
  ·rw[e];exact hm
  ·exact hv v (by omega)
 refine⟨λv=>(F v).getD 0,⟨ht,by simp[I.pit],λv h=>?_,λv h=>?_,λv h k hk hi=>?_⟩,hv⟩
 ·have:=I.val v _ (hv v h)
  exact⟨this.2.2.2 (by omega),this.2.1⟩
 ·obtain⟨s,h1,h2,h3⟩:=I.pred v _ (by omega) (hv v h)
  have e1:∃k∈t,Q8 v (rd R k)=true/\oe v (rd R k)=s.2.toNat:=by
   have gs:=gS s h1
   obtain⟨g1,g2,g3,g4,g5⟩:=gs
   rcases(sm s).mp h1 with h | h
   ·obtain⟨k,hk,rfl⟩:=ZA.mp h
    refine⟨k,hk,?_,?_⟩
    ·unfold Q8;simp;omega
    ·unfold oe;omega
   ·obtain⟨k,hk,e⟩:=ZA.mp h
    have e1:(rd R k).1=s.2:=by rw[e];rfl
    have e2:(rd R k).2=s.1:=by rw[e];rfl
    refine⟨k,hk,?_,?_⟩
    ·unfold Q8;simp;omega
    ·unfold oe;omega
  obtain⟨k,hk,i1,i2⟩:=e1
  refine⟨k,hk,i1,?_⟩
  rw[i2,h3];rfl
 ·have hg:=hR _ (QS (ht k hk))
  obtain⟨o1,o2,o3,o4⟩:=Qal hg hi
  obtain⟨g1,g2,g3,g4,g5⟩:=hg
  have mem:rd R k∈QY R t:=ZA.mpr ⟨k,hk,rfl⟩
  rcases o4 with⟨a,b⟩ | ⟨a,b⟩
  ·refine I.low v _ (by omega) (hv v h) (rd R k) ((sm _).mpr (.inl mem)) (by omega) _ ?_
   rw[show(rd R k).2.toNat=oe v (rd R k) by omega]
   exact hle _ o2
  ·refine I.low v _ (by omega) (hv v h) (rd R k).swap ((sm _).mpr (.inr (by simpa using mem))) (by simp;omega) _ ?_
   rw[show(rd R k).swap.2.toNat=oe v (rd R k) by simp;omega]
   exact hle _ o2
noncomputable def QbW(R:List (Int×Int))(g:Nat->Int)(k:Nat):Nat->Int:=
 let a:=(rd R k).1.toNat
 let b:=(rd R k).2.toNat
 let g1:=up g a (if g b+1<g a then g b+1 else g a)
 up g1 b (if g1 a+1<g1 b then g1 a+1 else g1 b)
theorem QkF{m:Nat}{R:List (Int×Int)}(g:Nat->Int){k:Nat}(hg:Good m (rd R k))(v:Nat):QbW R g k v<=g v:=by
 obtain⟨g1,g2,g3,g4,g5⟩:=hg
 have n:¬(rd R k).2.toNat=(rd R k).1.toNat:=by omega
 have n':¬(rd R k).1.toNat=(rd R k).2.toNat:=by omega
 unfold QbW
 simp only[Qe3]
 by_cases a:v=(rd R k).2.toNat
 ·subst a
  simp only[if_true,n,n',if_false]
  repeat' split
  all_goals omega
 ·by_cases b:v=(rd R k).1.toNat
  ·subst b
   simp only[if_true,n,n',if_false]
   split<;>omega
  ·simp only[a,b,if_false]
   exact Zau _
theorem Qqz{m:Nat}{R:List (Int×Int)}{dep g:Nat->Int}{k:Nat}(hg:Good m (rd R k))(h1:dep (rd R k).1.toNat<=dep (rd R k).2.toNat+1)(h2:dep (rd R k).2.toNat<=dep (rd R k).1.toNat+1)(hb:∀v,v<=m->dep v<=g v)(v:Nat)(hv:v<=m):dep v<=QbW R g k v:=by
 obtain⟨g1,g2,g3,g4,g5⟩:=hg
 have n:¬(rd R k).2.toNat=(rd R k).1.toNat:=by omega
 have n':¬(rd R k).1.toNat=(rd R k).2.toNat:=by omega
 have b1:=hb (rd R k).1.toNat (by omega)
 have b2:=hb (rd R k).2.toNat (by omega)
 have b3:=hb v hv
 unfold QbW
 simp only[Qe3]
 by_cases a:v=(rd R k).2.toNat
 ·subst a
  simp only[if_true,n,n',if_false]
  repeat' split
  all_goals omega
 ·by_cases b:v=(rd R k).1.toNat
  ·subst b
   simp only[if_true,n,n',if_false]
   split<;>omega
  ·simp only[a,b,if_false]
   exact b3
theorem Qo4{m:Nat}{R:List (Int×Int)}(g:Nat->Int){k:Nat}(hg:Good m (rd R k)){v:Nat}(hi:Q8 v (rd R k)=true):QbW R g k v<=g (oe v (rd R k))+1:=by
 obtain⟨o1,o2,o3,o4⟩:=Qal hg hi
 obtain⟨g1,g2,g3,g4,g5⟩:=hg
 have n:¬(rd R k).2.toNat=(rd R k).1.toNat:=by omega
 have n':¬(rd R k).1.toNat=(rd R k).2.toNat:=by omega
 unfold QbW
 simp only[Qe3]
 rcases o4 with⟨a,b⟩ | ⟨a,b⟩
 ·have e1:v=(rd R k).1.toNat:=by omega
  have e2:oe v (rd R k)=(rd R k).2.toNat:=by omega
  rw[e2,e1]
  simp only[if_true,n,n',if_false]
  split<;>omega
 ·have e1:v=(rd R k).2.toNat:=by omega
  have e2:oe v (rd R k)=(rd R k).1.toNat:=by omega
  rw[e2,e1]
  simp only[if_true,n,n',if_false]
  repeat' split
  all_goals omega
noncomputable def roundF(R:List (Int×Int))(t:List Nat)(g:Nat->Int):Nat->Int:=t.foldl (QbW R) g
noncomputable def Qb6(R:List (Int×Int))(m:Nat)(t:List Nat):Nat->Nat->Int
 | 0=>λv=>if v<m then(m:Int)+1 else 0
 | k+1=>roundF R t (Qb6 R m t k)
theorem Qg1{m:Nat}{R:List (Int×Int)}{dep:Nat->Int}(hR:∀s∈R,Good m s)(he:∀k,k<R.length->True):∀(t:List Nat) (g:Nat->Int),(∀k∈t,k<R.length/\dep (rd R k).1.toNat<=dep (rd R k).2.toNat+1/\dep (rd R k).2.toNat<=dep (rd R k).1.toNat+1)->(∀v,v<=m->dep v<=g v)→
  (∀v,v<=m->dep v<=roundF R t g v)/\(∀v,roundF R t g v<=g v)/\∀k∈t,∀v,Q8 v (rd R k)=true->roundF R t g v<=g (oe v (rd R k))+1
 | [],g,_,hb=>⟨hb,λv=>Zau _,λk hk=>absurd hk (by simp)⟩
 | k::t,g,ht,hb=>by
  obtain⟨k1,k2,k3⟩:=ht k (by simp)
  have hg:=hR _ (QS k1)
  obtain⟨i1,i2,i3⟩:=Qg1 hR he t (QbW R g k) (λk hk=>ht k (by simp[hk])) (Qqz hg k2 k3 hb)
  refine⟨i1,λv=>Zbl (i2 v) (QkF g hg v),λk' hk' v hi=>?_⟩
  rcases Zn.mp hk' with e | e
  ·subst e
   exact Zbl (i2 v) (Qo4 g hg hi)
  ·refine Zbl (i3 k' e v hi) ?_
   have:=QkF g hg (oe v (rd R k'))
   omega
theorem Qff{m:Nat}{R:List (Int×Int)}{t:List Nat}{dep:Nat->Int}(hR:∀s∈R,Good m s)(D:Qcp R m t dep):∀v,v<=m->Qb6 R m t m v=dep v:=by
 have near1:∀v,v<=m->∀k∈t,Q8 v (rd R k)=true->dep v<=dep (oe v (rd R k))+1:=λv hv k hk hi=>by
  by_cases e:v=m
  ·have ho:=(Qal (hR _ (QS (D.tl k hk))) hi)
   have:=D.val (oe v (rd R k)) (by omega)
   rw[e,D.pit];rw[e]at this;omega
  ·have:=D.low v (by omega) k hk hi
   omega
 have cond:∀k∈t,k<R.length/\dep (rd R k).1.toNat<=dep (rd R k).2.toNat+1/\dep (rd R k).2.toNat<=dep (rd R k).1.toNat+1:=λk hk=>by
  have hg:=hR _ (QS (D.tl k hk))
  obtain⟨g1,g2,g3,g4,g5⟩:=hg
  refine⟨D.tl k hk,?_,?_⟩
  ·have:=near1 (rd R k).1.toNat (by omega) k hk (by unfold Q8;simp;omega)
   rw[show oe (rd R k).1.toNat (rd R k)=(rd R k).2.toNat by unfold oe;omega]at this
   exact this
  ·have:=near1 (rd R k).2.toNat (by omega) k hk (by unfold Q8;simp;omega)
   rw[show oe (rd R k).2.toNat (rd R k)=(rd R k).1.toNat by unfold oe;omega]at this
   exact this
 have main:∀i:Nat,(∀v,v<=m->dep v<=Qb6 R m t i v)/\∀v,v<=m->dep v<=i->Qb6 R m t i v<=dep v:=by
  intro i
  induction i with
  | zero=>
   refine⟨λv hv=>?_,λv hv h=>?_⟩
   ·show dep v<=if v<m then(m:Int)+1 else 0
    by_cases e:v<m
    ·rw[if_pos e];have:=(D.val v e).2;omega
    ·rw[if_neg e,show v=m by omega,D.pit];exact Zau _
   ·show(if v<m then(m:Int)+1 else 0)<=dep v
    by_cases e:v<m
    ·have:=(D.val v e).1;omega
    ·rw[if_neg e,show v=m by omega,D.pit];exact Zau _
  | succ i ih=>
   obtain⟨f1,f2,f3⟩:=Qg1 hR (λ_ _=>trivial) t (Qb6 R m t i) cond ih.1
   refine⟨f1,λv hv h=>?_⟩
   by_cases e:dep v<=i
   ·exact Zbl (f2 v) (ih.2 v hv e)
   ·have hvm:v<m:=by
     by_cases q:v=m
     ·rw[q,D.pit]at e;omega
     ·omega
    obtain⟨k,k1,k2,k3⟩:=D.pred v hvm
    have ho:=Qal (hR _ (QS (D.tl k k1))) k2
    have:=f3 k k1 v k2
    have:=ih.2 _ ho.2.1 (by omega)
    show roundF R t (Qb6 R m t i) v<=dep v
    omega
 intro v hv
 have h1:=(main m).1 v hv
 have h2:dep v<=m:=by
  by_cases e:v=m
  ·rw[e,D.pit];omega
  ·exact(D.val v (by omega)).2
 have:=(main m).2 v hv h2
 omega
theorem Qtc{fa fb:DE}{ρ:En}{ra rb:R}{A:List (Int×Int)}{i:Int}{s:Int×Int}(ha:fa ρ=some ra)(ea:ra.d=Qk A)(hb:fb ρ=some rb)(eb:rb.d= .int i)(h0:0<=i)(h:A[i.toNat]? =some s):Qi fa fb ρ=some ⟨pairD s,true,[]⟩:=by
 have hl:i<A.length:=by have:=(Zb.mp h).1;omega
 unfold Qi
 rw[ha,Za,hb,Za,ea,eb]
 simp only[Qk,D.items,Za]
 rw[Qe0 h0 (by simpa using hl),Zm,h]
 rfl
theorem QfA{fa fb:DE}{ρ:En}{ra rb:R}{R:List (Int×Int)}{k:Nat}(ha:fa ρ=some ra)(ea:ra.d=Qk R)(hb:fb ρ=some rb)(eb:rb.d= .int k)(h:k<R.length):Qi fa fb ρ=some ⟨pairD (rd R k),true,[]⟩:=Qtc ha ea hb eb (by omega) (by rw[Zw];exact QhR h)
structure Qhy (R:List (Int×Int)) (m:Nat) (t:List Nat):Prop where
 len:t.length=m
 inc:t.Pairwise (· < ·)
 lt:∀k∈t,k<R.length
 con:∀v,v<m->QR (Qh (QY R t) []) (Q3 m) m v≠none
noncomputable def QfX(Qd3:Den):DS:=(Qe (QZ (QB 3 Qd3 [] (Qb (Qi (Qa 0) (dC (.int 0))) (Qb (Qaf (Q7 (Qa 1)) (.nm 1) [none,none,some 0] Qb3 (Qi (Qi (Qa 2) (dC (.int 1))) (Qa 1))) (Qb (Q1 Qg) Qg))))) Qp)
def QhH(d:Den):Prop:=∀(m:Nat) (R:List (Int×Int)) (t:List Nat),0<m->m<=8->t.length<=64->(∀s∈R,Good m s)->(∀k∈t,k<R.length)->d [Qj m R [],Qd t]=some (QM m (QR (Qh (QY R t) []) (Q3 m) m),true)
theorem QsT{dl:Den}(hl:Qiv dl):QhH (Qs 2 (QfX dl)):=λm R t m0 m8 ht hR hlt=>by
 have hT:∀s∈QY R t,Good m s:=λs hs=>by
  obtain⟨k,hk,rfl⟩:=ZA.mp hs
  exact hR _ (QS (hlt k hk))
 have el:=hl m (QY R t) [] m0 (by omega) (by simp[QY];omega) hT (λs hs=>absurd hs (by simp))
 have ec:=Qa3 (fi:=Q7 (Qa 1)) (t:= .nm 1) (cap:=[none,none,some 0]) (fe:=Qi (Qi (Qa 2) (dC (.int 1))) (Qa 1)) (ρ:=[some (Qj m R [],false),some (Qd t,false)])
  (toD:=λ(k:Nat)=> .int (k:Int)) (out:=λ(k:Nat)=>pairD (rd R k)) t (QaZ (r:=⟨Qd t,false,[]⟩) rfl rfl) rfl λk hk=>⟨[none,some (.int k,true),some (Qj m R [],false)],rfl,⟨pairD (rd R k),true,[]⟩,QfA (R:=R) (k:=k) (Qbf (m:=m) (R:=R) (L:=[]) (QbK (d:=Qj m R []) (b:=false) rfl) rfl).2.1 rfl (rb:=⟨.int k,true,[]⟩) rfl rfl (hlt k hk),rfl,rfl⟩
 have e:D.lst (t.map λk=>pairD (rd R k))=Qk (QY R t):=by unfold Qk QY;rw[ZP];rfl
 rw[e]at ec
 refine QaR (QL (Qx (Qw (r:=⟨.int m,true,[]⟩) rfl (Qw ec (Qw (r:=⟨Qk [],true,[]⟩) rfl (Q0 _)))) el rfl) ⟨rfl,rfl⟩)
noncomputable def QeN(Qan:Den):DS:=(Qe (sIf (QA (dOp gNe (dBf QaS (Qb (Qa 1) Qg)) (Qi (Qa 0) (dC (.int 0))))) (Qe QH Qp) Qp) (Qe (sIf (QA (dBf QgH (Qb (Qaf (QcF (Qa 1) (Qc7 (Qa 1) (Qa6 (dC (.int 1))) QdU)) (.tp [1,2]) [none,none,none] Qb3 (dOp gGe (Qa 1) (Qa 2))) Qg))) (Qe QH Qp) Qp) (Qe (sIf (bOr (QA (dOp gLt (Qi (Qa 1) (dC (.int 0))) (dC (.int 0)))) (QA (dOp gGe (Qi (Qa 1) (Qhr (dC (.int 1)))) (dBf QaS (Qb (Qi (Qa 0) (dC (.int 1))) Qg))))) (Qe QH Qp) Qp) (Qe (sIf (QA (dOp (gIn false) (dC .non) (QB 2 Qan [] (Qb (Qa 0) (Qb (Qa 1) Qg))))) (Qe QH Qp) Qp) Qp))))
theorem QmW{t:List Nat}(h:t.Pairwise (· < ·)){i j a b:Nat}(hi:t[i]? =some a)(hj:t[j]? =some b)(hij:i<j):a<b:=by
 obtain⟨i1,i2⟩:=Zb.mp hi
 obtain⟨j1,j2⟩:=Zb.mp hj
 rw[← i2,← j2]
 exact ZbO.mp h i j i1 j1 hij
theorem Qtm{fa:DE}{ρ:En}{r:R}{bs:List Bool}(h:fa ρ=some r)(e:r.d= .lst (bs.map .bl)):dBf QgH (Qb fa Qg) ρ=some ⟨.bl (bs.any id),true,[]⟩:=by
 unfold dBf
 rw[Qw h (Q0 _),Za]
 simp only[e,QgH,Qi3,ZO]
theorem QpT(t:List Nat):Qef (t.map λ(p:Nat)=>D.int (p:Int)) ((t.drop 1).map λ(p:Nat)=>D.int (p:Int))=(t.zip (t.drop 1)).map λq=> .tup [.int (q.1:Int),.int (q.2:Int)]:=by
 unfold Qef
 rw[List.zip_map,ZP]
 rfl
theorem Qoh{α:Type}{xs:List α}(h:0<xs.length):atI xs (-1)=xs[xs.length-1]? :=by
 unfold atI ixN
 rw[if_neg (by decide),if_pos (by omega)]
 show xs[((-1:Int)+xs.length).toNat]? =_
 congr 1
 omega
def Qi6(d:Den):Prop:=∀(m:Nat) (R:List (Int×Int)) (t:List Nat),0<m->m<=8->(∀s∈R,Good m s)->Qhy R m t->d [Qj m R [],Qd t]=some (.non,true)
theorem Qqe{dd:Den}(hd:QhH dd):Qi6 (Qs 2 (QeN dd)):=λm R t m0 m8 hR T=>by
 have ed:=hd m R t m0 m8 (by rw[T.len];omega) hR T.lt
 have hne:0<t.length:=by rw[T.len];exact m0
 obtain⟨a0,ha0⟩:∃a,t[0]? =some a:=⟨_,Zp hne⟩
 obtain⟨az,haz⟩:∃a,t[t.length-1]? =some a:=⟨_,Zp (by omega)⟩
 have hz:=T.lt az (Zy haz)
 have key:Run (QeN dd) (Qam 2 [Qj m R [],Qd t]) (Nx λ_=>True):=by
  refine run_seq (QW (b:=false) (QF (b:=false) (r:=⟨.bl false,true,[]⟩) ((Qgf (a:=m) (b:=m) ((QgL (l:=t) (r:=⟨Qd t,false,[]⟩) rfl rfl).trans (by rw[T.len])) rfl (rb:=⟨.int m,true,[]⟩) rfl rfl).trans (by simp)) rfl) (λh=>by cases h) (λ_=>Qn ?_))
  have ec:=Qa3 (fi:=QcF (Qa 1) (Qc7 (Qa 1) (Qa6 (dC (.int 1))) QdU)) (t:= .tp [1,2]) (cap:=[none,none,none]) (fe:=dOp gGe (Qa 1) (Qa 2)) (ρ:=[some (Qj m R [],false),some (Qd t,false)])
   (toD:=λ(q:Nat×Nat)=> .tup [.int (q.1:Int),.int (q.2:Int)]) (out:=λ(q:Nat×Nat)=> .bl (decide ((q.2:Int)<=q.1))) (t.zip (t.drop 1)) (ir:=⟨Qef (t.map λ(p:Nat)=>D.int (p:Int)) ((t.drop 1).map λ(p:Nat)=>D.int (p:Int)),[]⟩) (by
    unfold QcF
    rw[QsH (l:=t) (n:=1) (ra:=⟨Qd t,false,[]⟩) (rb:=⟨.int 1,true,[]⟩) rfl rfl rfl rfl]
    rfl) (QpT t) λq _=>⟨[none,some (.int q.1,true),some (.int q.2,true)],rfl,⟨.bl (decide ((q.2:Int)<=q.1)),true,[]⟩,rfl,rfl,rfl⟩
  have ea:=Qtm (bs:=(t.zip (t.drop 1)).map λq=>decide ((q.2:Int)<=q.1)) ec (by rw[ZP];rfl)
  have hany:((t.zip (t.drop 1)).map λq=>decide ((q.2:Int)<=q.1)).any id=false:=by
   rw[Zav]
   intro b hb
   obtain⟨q,hq,rfl⟩:=ZA.mp hb
   obtain⟨i,hi⟩:=Zam hq
   rw[ZbN,List.getElem?_drop]at hi
   have:=QmW T.inc hi.1 hi.2 (by omega)
   simp;omega
  rw[hany]at ea
  refine run_seq (QW (b:=false) (QF (b:=false) ea rfl) (λh=>by cases h) (λ_=>Qn ?_))
  refine run_seq (QW (b:=false) ((Qdb (a:=false) (b:=false) (QF (b:=false) (QT (d:= .bl false) (rb:=⟨.int 0,true,[]⟩) (Qeb (l:=t) (i:=0) (v:=a0) (ra:=⟨Qd t,false,[]⟩) (rb:=⟨.int 0,true,[]⟩) rfl rfl rfl rfl (by decide) ha0) rfl ?_) rfl) (QF (b:=false) (QT (d:= .bl false) (ra:=⟨.int az,true,[]⟩) (rb:=⟨.int R.length,true,[]⟩) ?_ ?_ ?_) rfl)).trans rfl) (λh=>by cases h) (λ_=>Qn ?_))
  ·show some (D.bl (decide ((a0:Int)<0)))=_
   rw[decide_eq_false (by omega)]
  ·unfold Qi
   show((D.items (Qd t)).bind λxs=>(atI xs (-1)).map λd=>(HS.R.mk d false []).norm)=_
   unfold Qd
   simp only[D.items,Za]
   rw[Qoh (by rw[Zd];exact hne),Zd,Zm,haz]
   rfl
  ·rw[Qcb (xs:=R.map pairD) (Qbf (m:=m) (R:=R) (L:=[]) (QbK (d:=Qj m R []) (b:=false) rfl) rfl).2.1 rfl,Zd]
  ·show some (D.bl (decide ((R.length:Int)<=(az:Int))))=_
   rw[decide_eq_false (by omega)]
  refine run_seq (QW (b:=false) (QF (b:=false) (r:=⟨.bl false,true,[]⟩) ((Qjn (neg:=false) (m:=m) (F:=QR (Qh (QY R t) []) (Q3 m) m) (Qx (r:=⟨[Qj m R [],Qd t],false,[]⟩) rfl ed rfl) rfl).trans ?_) rfl) (λh=>by cases h) (λ_=>Qn (Qn trivial)))
  have:((List.range m).any λi=>(QR (Qh (QY R t) []) (Q3 m) m i).isNone)=false:=by
   rw[Zav]
   intro i hi
   have:=T.con i (Zf.mp hi)
   cases e:QR (Qh (QY R t) []) (Q3 m) m i with
   | none=>exact absurd e this
   | some d=>simp
  rw[this];rfl
 obtain⟨o,h1,h2⟩:=key
 unfold Qs
 rw[h1]
 cases o with
 | nx ρ=>rfl
 | _=>exact h2.elim
noncomputable def QgS:DS:=(Qe (QZ (Qaf (QbH (Qi (Qa 0) (dC (.int 1)))) (.tp [1,2]) [none,none,none,some 1] (QA (dOp (gIn false) (Qa 3) (Qa 2))) (Qbu (Qb (Qa 1) (Qb (dOp Qb2 (dBf QdA (Qb (Qa 2) Qg)) (Qa 3)) Qg))))) Qp)
noncomputable def Qkb(R:List (Int×Int))(p:Nat):D:= .lst ((Qaa R p).map λ(k:Nat)=> .tup [.int (k:Int),.int (oe p (rd R k):Int)])
def QiE(d:Den):Prop:=∀(m:Nat) (R:List (Int×Int)) (p:Nat),(∀s∈R,Good m s)->d [Qj m R [],.int p]=some (Qkb R p,true)
theorem QsX{fa:DE}{ρ:En}{r:R}{s:Int×Int}(h:fa ρ=some r)(e:r.d=pairD s):dBf QdA (Qb fa Qg) ρ=some ⟨.int (s.1+s.2),true,[]⟩:=by
 unfold dBf
 rw[Qw h (Q0 _),Za]
 have:Qbk [D.int s.1,D.int s.2]=some [s.1,s.2]:=rfl
 simp only[e,pairD,QdA,this,ZO]
 simp
theorem QqL:QiE (Qs 2 QgS):=λm R p hR=>by
 have ec:=Qdo (fi:=QbH (Qi (Qa 0) (dC (.int 1)))) (t:= .tp [1,2]) (cap:=[none,none,none,some 1]) (ft:=QA (dOp (gIn false) (Qa 3) (Qa 2))) (fe:=Qbu (Qb (Qa 1) (Qb (dOp Qb2 (dBf QdA (Qb (Qa 2) Qg)) (Qa 3)) Qg))) (ρ:=[some (Qj m R [],false),some (.int p,true)])
  (toD:=λ(k:Nat)=> .tup [.int (k:Int),pairD (rd R k)]) (keep:=λk=>Q8 p (rd R k)) (out:=λ(k:Nat)=> .tup [.int (k:Int),.int (oe p (rd R k):Int)]) (List.range R.length) (ir:=⟨Qcs ((List.range R.length).map λk=>pairD (rd R k)),[]⟩) (by
   unfold QbH
   rw[(Qbf (m:=m) (R:=R) (L:=[]) (QbK (d:=Qj m R []) (b:=false) rfl) rfl).2.1,Za,Qq9 R];rfl) (QfC (α:=Nat) _ _) λk hk=>⟨[none,some (.int k,true),some (pairD (rd R k),true),some (.int p,true)],rfl,QF (QvQ (x:=p) (s:=rd R k) (ra:=⟨.int p,true,[]⟩) (rb:=⟨pairD (rd R k),true,[]⟩) rfl rfl rfl rfl) rfl,λhi=>⟨⟨.tup [.int (k:Int),.int (oe p (rd R k):Int)],true,[]⟩,?_,rfl,rfl⟩⟩
 ·exact QaR (QL ec ⟨rfl,rfl⟩)
 ·have ho:=(Qal (hR _ (QS (Zf.mp hk))) hi).1
  unfold Qbu
  refine(congrArg (λz=>Option.bind z _) (Qw (r:=⟨.int k,true,[]⟩) rfl (Qw (QT (d:= .int (oe p (rd R k):Int)) (rb:=⟨.int p,true,[]⟩) (QsX (s:=rd R k) (r:=⟨pairD (rd R k),true,[]⟩) rfl rfl) rfl ?_) (Q0 _)))).trans ?_
  ·show some (D.int ((rd R k).1+(rd R k).2-(p:Int)))=_
   rw[ho]
  ·rfl
noncomputable def QfW(Qcn:Den):DS:=(Qe (Qy 3 (QB 2 Qcn [] (Qb (Qa 0) (Qb (Qa 1) Qg)))) (Qe (Qy 4 (dOp Qb2 (Qi (Qa 2) (Qa 1)) (dC (.int 1)))) (Qe (Qy 5 (Qaf (Q7 (Qa 3)) (.tp [1,2]) [none,none,none,some 4,some 2] (QA (dOp gEq (Qi (Qa 4) (Qa 2)) (Qa 3))) (Qa 1))) (Qe (Qy 6 (Qaf (Q7 (Qa 3)) (.tp [1,2]) [none,none,none,some 4,some 2] (QA (dOp gLt (Qi (Qa 4) (Qa 2)) (Qa 3))) (Qa 1))) (Qe (QZ (Qbu (Qb (Qa 5) (Qb (dOp Qb2 (dOp Qb2 (dBf QaS (Qb (Qa 3) Qg)) (dC (.int 1))) (dBf QaS (Qb (Qa 6) Qg))) Qg)))) Qp)))))
def Qj6(d:Den):Prop:=∀(m:Nat) (R:List (Int×Int)) (p:Nat) (dep:Nat->Int),p<m->(∀s∈R,Good m s)->d [Qj m R [],.int p,Qc (m+1) dep]=some (.tup [Qd (QC R dep p),.int ((Qaa R p).length-1-(QaD R dep p).length)],true)
theorem QuN{de:Den}(he:QiE de):Qj6 (Qs 7 (QfW de)):=λm R p dep hp hR=>by
 have ee:=he m R p hR
 refine QaR ?_
 refine run_seq (Qo (Qx (r:=⟨[Qj m R [],.int p],false,[]⟩) rfl ee rfl) ?_)
 rw[Qq]
 refine run_seq (Qo (QT (d:= .int (dep p-1)) (rb:=⟨.int 1,true,[]⟩) (Qbw (m:=m+1) (f:=dep) (i:=p) (ra:=⟨Qc (m+1) dep,false,[]⟩) (rb:=⟨.int p,true,[]⟩) rfl rfl rfl rfl (by omega)) rfl rfl) ?_)
 rw[Qq]
 have sel:∀(g:D->D->Option D) (C:Int->Int->Bool) (x5:Option (D×Bool)),(∀a b:Int,g (.int a) (.int b)=some (.bl (C a b)))->Qaf (Q7 (Qa 3)) (.tp [1,2]) [none,none,none,some 4,some 2] (QA (dOp g (Qi (Qa 4) (Qa 2)) (Qa 3))) (Qa 1) [some (Qj m R [],false),some (.int p,true),some (Qc (m+1) dep,false),some (Qkb R p,true),some (.int (dep p-1),true),x5,none]=some ⟨Qd ((Qaa R p).filter λk=>C (dep (oe p (rd R k))) (dep p-1)),true,[]⟩:=λg C x5 hg=>
  Qdo (toD:=λ(k:Nat)=> .tup [.int (k:Int),.int (oe p (rd R k):Int)]) (keep:=λk=>C (dep (oe p (rd R k))) (dep p-1)) (out:=λ(k:Nat)=> .int (k:Int)) (Qaa R p) (QaZ (r:=⟨Qkb R p,true,[3]⟩) rfl rfl) rfl λk hk=>by
   obtain⟨k1,k2⟩:=QbE.mp hk
   have ho:=(Qal (hR _ (QS k1)) k2).2.1
   refine⟨[none,some (.int k,true),some (.int (oe p (rd R k):Int),true),some (.int (dep p-1),true),some (Qc (m+1) dep,false)],rfl,QF (QT (d:= .bl (C (dep (oe p (rd R k))) (dep p-1))) (rb:=⟨.int (dep p-1),true,[]⟩) (Qbw (m:=m+1) (f:=dep) (i:=oe p (rd R k)) (ra:=⟨Qc (m+1) dep,false,[]⟩) (rb:=⟨.int (oe p (rd R k):Int),true,[]⟩) rfl rfl rfl rfl (by omega)) rfl (hg _ _)) rfl,λ_=>⟨⟨.int k,true,[]⟩,rfl,rfl,rfl⟩⟩
 refine run_seq (Qo (sel gEq (λa b=>decide (a=b)) none λa b=>by
  show(if(D.int a).sim 8 && (D.int b).sim 8 then some (D.bl (deq (.int a) (.int b)))else none)=_
  rw[Qdn];rfl) ?_)
 rw[Qq]
 refine run_seq (Qo (sel gLt (λa b=>decide (a<b)) _ λa b=>rfl) ?_)
 rw[Qq]
 refine QL (r:=⟨.tup [Qd (QC R dep p),.int ((Qaa R p).length-1-(QaD R dep p).length)],true,[5]⟩) ?_ ⟨rfl,rfl⟩
 unfold Qbu
 have el:∀ρ:En,ρ[3]? =some (some (Qkb R p,true))->dBf QaS (Qb (Qa 3) Qg) ρ=some ⟨.int (Qaa R p).length,true,[]⟩:=λρ h=>by
  rw[Qcb (xs:=(Qaa R p).map λ(k:Nat)=> .tup [.int (k:Int),.int (oe p (rd R k):Int)]) (QbK h) rfl,Zd]
 refine(congrArg (λz=>Option.bind z _) (Qw (r:=⟨Qd (QC R dep p),true,[5]⟩) rfl (Qw (QT (d:= .int ((Qaa R p).length-1-(QaD R dep p).length)) (QT (d:= .int ((Qaa R p).length-1)) (rb:=⟨.int 1,true,[]⟩) (el _ rfl) rfl rfl) (QgL (l:=QaD R dep p) (r:=⟨Qd (QaD R dep p),true,[6]⟩) rfl rfl) rfl) (Q0 _)))).trans ?_
 rfl
noncomputable def Qjp(Qav:Den)(Qch:Den)(Qan:Den)(Qao:Den):DS:=(Qe (Qdc (QB 1 Qav [] (Qb (Qa 0) Qg))) (Qe (Qdc (QB 2 Qch [] (Qb (Qa 0) (Qb (Qa 1) Qg)))) (Qe (Qy 2 (QQ (QB 2 Qan [] (Qb (Qa 0) (Qb (Qa 1) Qg))) (Q1 (Qb (dC (.int 0)) Qg)))) (Qe (Qy 3 (Q1 Qg)) (Qe (QaH (QaT (Qi (Qa 0) (dC (.int 0)))) (.nm 4) (Qe (Qy 5 (QB 3 Qao [] (Qb (Qa 0) (Qb (Qa 4) (Qb (Qa 2) Qg))))) (Qe (Qy 6 (Qaf (QbH (Qi (Qa 5) (dC (.int 0)))) (.tp [1,2]) [none,none,none,some 1] (QA (dOp (gIn false) (Qa 2) (Qa 3))) (Qa 1))) (Qe (QcM 3 QU (dOp Qb2 (Qi (Qa 5) (dC (.int 1))) (Qi (Qa 6) (dC (.int 0))))) Qp)))) (Qe (QZ (Qa 3)) Qp))))))
theorem Qh1{t:List Nat}:∀(l:List Nat) (b:Nat),(∃k∈l,k∈t)->∃r,((l.zipIdx b).filter λq=>t.contains q.1).map (·.2)=(b+Qac t l)::r
 | [],_,⟨_,h,_⟩=>by simp at h
 | a::l,b,⟨k,h1,h2⟩=>by
  rw[List.zipIdx_cons,Zai]
  by_cases e:a∈t
  ·rw[if_pos (by simpa using e),Zx]
   unfold Qac
   rw[if_pos e]
   exact⟨_,rfl⟩
  ·rw[if_neg (by simpa using e)]
   have hk:k∈l:=by
    rcases Zn.mp h1 with z | z
    ·rw[z]at h2;exact absurd h2 e
    ·exact z
   obtain⟨r,hr⟩:=Qh1 l (b+1) ⟨k,hk,h2⟩
   unfold Qac
   rw[if_neg e]
   exact⟨r,by rw[hr];congr 1;omega⟩
def Qhp(d:Den):Prop:=∀(m:Nat) (R:List (Int×Int)) (t:List Nat) (dep:Nat->Int),0<m->m<=8->R.length<=200->(∀s∈R,Good m s)->Qhy R m t->Qcp R m t dep->(∀v,v<m->QR (Qh (QY R t) []) (Q3 m) m v=some (dep v))->d [Qj m R [],Qd t]=some (Qc m (QO R dep t),true)
theorem Qod{dp dn dd dw:Den}(hp:QgF dp)(hn:Qi6 dn)(hd:QhH dd)(hw:Qj6 dw):Qhp (Qs 7 (Qjp dp dn dd dw)):=λm R t dep m0 m8 hRl hR T Dp hF=>by
 have ed:=hd m R t m0 m8 (by rw[T.len];omega) hR T.lt
 have efar:QM m (QR (Qh (QY R t) []) (Q3 m) m)=Qc m dep:=by
  unfold QM Qc
  congr 1
  exact ZD λv hv=>by rw[hF v (Zf.mp hv)];rfl
 rw[efar]at ed
 refine QaR ?_
 refine run_seq (Qdm (Qx (r:=⟨[Qj m R []],false,[]⟩) rfl (hp m R) rfl) ?_)
 refine run_seq (Qdm (Qx (r:=⟨[Qj m R [],Qd t],false,[]⟩) rfl (hn m R t m0 m8 hR T) rfl) ?_)
 refine run_seq (Qo (Qgl (m:=m) (f:=dep) (Qx (r:=⟨[Qj m R [],Qd t],false,[]⟩) rfl ed rfl) rfl (by omega)) ?_)
 rw[Qq]
 have edep:Qc (m+1) (Qft m dep)=Qc (m+1) dep:=Qd9 λj hj=>by
  unfold Qft
  by_cases e:j<m
  ·rw[if_pos e]
  ·rw[if_neg e,show j=m by omega,Dp.pit]
 rw[edep]
 refine run_seq (Qo (r:=⟨Qc 0 (QO R dep t),true,[]⟩) rfl ?_)
 rw[Qq]
 refine Qaj (P:=λρ=>∃j4 j5 j6,ρ=[some (Qj m R [],false),some (Qd t,false),some (Qc (m+1) dep,true),some (Qc m (QO R dep t),true),j4,j5,j6]) ?_ ?_
 ·refine QX (toD:=λ(k:Nat)=> .int (k:Int)) (List.range m) (λi ρ=>∃j4 j5 j6,ρ=[some (Qj m R [],false),some (Qd t,false),some (Qc (m+1) dep,true),some (Qc i (QO R dep t),true),j4,j5,j6]) (Qbv (n:=m) (r:=⟨.int m,true,[]⟩) rfl rfl (by omega)) rfl ⟨none,none,none,rfl⟩ ?_ ?_
  ·rintro i i' ρ hi ⟨j4,j5,j6,rfl⟩
   have hi':i<m/\i=i':=by
    obtain⟨h1,h2⟩:=Zb.mp hi
    simp at h1 h2;exact⟨h1,h2⟩
   obtain⟨him,rfl⟩:=hi'
   refine⟨[some (Qj m R [],false),some (Qd t,false),some (Qc (m+1) dep,true),some (Qc i (QO R dep t),true),some (.int i,true),j5,j6],rfl,?_⟩
   refine run_seq (Qo (Qx (r:=⟨[Qj m R [],.int i,Qc (m+1) dep],false,[2]⟩) rfl (hw m R i dep him hR) rfl) ?_)
   rw[Qq]
   obtain⟨k0,hk1,hk2,hk3⟩:=Dp.pred i him
   obtain⟨r,hr⟩:=Qh1 (t:=t) (QC R dep i) 0 ⟨k0,ZG.mpr ⟨QbE.mpr ⟨Dp.tl k0 hk1,hk2⟩,decide_eq_true hk3⟩,hk1⟩
   have ec:=Qdo (fi:=QbH (Qi (Qa 5) (dC (.int 0)))) (t:= .tp [1,2]) (cap:=[none,none,none,some 1]) (ft:=QA (dOp (gIn false) (Qa 2) (Qa 3))) (fe:=Qa 1) (ρ:=[some (Qj m R [],false),some (Qd t,false),some (Qc (m+1) dep,true),some (Qc i (QO R dep t),true),some (.int i,true),some (.tup [Qd (QC R dep i),.int ((Qaa R i).length-1-(QaD R dep i).length)],true),j6])
    (toD:=λ(q:Nat×Nat)=> .tup [.int (q.2:Int),.int (q.1:Int)]) (keep:=λq=>t.contains q.1) (out:=λ(q:Nat×Nat)=> .int (q.2:Int)) ((QC R dep i).zipIdx 0) (ir:=⟨Qcs ((QC R dep i).map λ(p:Nat)=>D.int (p:Int)),[5]⟩) rfl (by
     unfold Qcs
     rw[List.zipIdx_map,ZP]
     rfl) λq _=>⟨[none,some (.int q.2,true),some (.int q.1,true),some (Qd t,false)],rfl,QF (Qf9 (neg:=false) (o:=q.1) (l:=t) (ra:=⟨.int q.1,true,[]⟩) (rb:=⟨Qd t,false,[]⟩) rfl rfl rfl rfl) rfl,λ_=>⟨⟨.int q.2,true,[]⟩,rfl,rfl,rfl⟩⟩
   have eo:D.lst ((((QC R dep i).zipIdx 0).filter λq=>t.contains q.1).map λq=> .int (q.2:Int))=Qd (Qac t (QC R dep i)::r):=by
    have:(((QC R dep i).zipIdx 0).filter λq=>t.contains q.1).map (λq=>D.int (q.2:Int))=((((QC R dep i).zipIdx 0).filter λq=>t.contains q.1).map (·.2)).map λ(p:Nat)=>D.int (p:Int):=by rw[ZP];rfl
    rw[this,hr,Zcg];rfl
   rw[eo]at ec
   refine run_seq (Qo ec ?_)
   rw[Qq]
   refine run_seq (Qq4 (i:=i) (g:=QO R dep t) (v:=QO R dep t i) rfl (QT (d:= .int (QO R dep t i)) (ra:=⟨.int ((Qaa R i).length-1-(QaD R dep i).length),true,[]⟩) rfl (Qeb (l:=Qac t (QC R dep i)::r) (i:=0) (v:=Qac t (QC R dep i)) (ra:=⟨Qd (Qac t (QC R dep i)::r),true,[6]⟩) (rb:=⟨.int 0,true,[]⟩) rfl rfl rfl rfl (by decide) rfl) rfl) rfl (by omega) (Qn ⟨some (.int i,true),some (.tup [Qd (QC R dep i),.int ((Qaa R i).length-1-(QaD R dep i).length)],true),some (Qd (Qac t (QC R dep i)::r),true),?_⟩))
   have:Qc (i+1) (up (QO R dep t) i (QO R dep t i))=Qc (i+1) (QO R dep t):=Qd9 λj _=>by
    rw[Qe3];split
    ·rename_i e;rw[e]
    ·rfl
   rw[this];rfl
  ·rintro ρ ⟨j4,j5,j6,rfl⟩
   rw[ZE]
   exact⟨_,_,_,rfl⟩
 rintro ρ ⟨j4,j5,j6,rfl⟩
 exact QL (r:=⟨Qc m (QO R dep t),true,[3]⟩) rfl ⟨rfl,rfl⟩
noncomputable def Qem(QbB:Den):DS:=(Qe (sIf (bOr (Qdg (QA (Qip "list" (Qa 0)))) (QA (dOp gNe (dBf QaS (Qb (Qa 0) Qg)) (Qa 1)))) (Qe (QZ (dC (.bl false))) Qp) Qp) (Qe (QaH (Q7 (Qa 0)) (.nm 2) (Qe (sIf (Qdg (QA (QB 1 QbB [] (Qb (Qa 2) Qg)))) (Qe (QZ (dC (.bl false))) Qp) Qp) Qp)) (Qe (QZ (dC (.bl true))) Qp)))
def QhV(d:Den):Prop:=∀(n:Nat) (a:Nat->Int),d [Qc n a,.int n]=some (.bl true,true)
theorem QtJ{dw:Den}(hw:QiS dw):QhV (Qs 3 (Qem dw)):=λn a=>by
 refine QaR ?_
 refine Qay (QW (b:=false) (Qdb (a:=false) (b:=false) (Qdd (b:=true) (QF (b:=true) rfl rfl)) (QF (b:=false) (r:=⟨.bl false,true,[]⟩) ((Qgf (a:=n) (b:=n) (QsS (m:=n) (f:=a) (r:=⟨Qc n a,false,[]⟩) rfl rfl) rfl (rb:=⟨.int n,true,[]⟩) rfl rfl).trans (by simp)) rfl)) (λh=>by cases h) (λ_=>Qn ?_))
 refine Qay (QX (toD:=λ(i:Nat)=> .int (a i)) (List.range n) (λ_ ρ=>∃j2,ρ=[some (Qc n a,false),some (.int n,true),j2]) (ir:=⟨(List.range n).map λi=> .int (a i),[]⟩) rfl rfl ⟨none,rfl⟩ ?_ ?_)
 ·rintro i i' ρ hi ⟨j2,rfl⟩
  refine⟨[some (Qc n a,false),some (.int n,true),some (.int (a i'),true)],rfl,?_⟩
  exact Qay (QW (b:=false) (Qdd (b:=true) (QF (b:=true) (Qx (r:=⟨[.int (a i')],true,[]⟩) rfl (hw (a i')) rfl) rfl)) (λh=>by cases h) (λ_=>Qn (Qn ⟨_,rfl⟩)))
 ·rintro ρ ⟨j2,rfl⟩
  exact QL (r:=⟨.bl true,true,[]⟩) rfl ⟨rfl,rfl⟩
noncomputable def QfR:DS:=(Qe (Qy 2 (QQ (Qau (Q1 (Qb (QQ (Qi (Qa 0) (dC (.int 0))) (dC (.int 1))) Qg)) (Qi (Qa 0) (dC (.int 0)))) (Q1 (Qb (dC (.int 0)) Qg)))) (Qe (QaH (QaT (Qi (Qa 0) (dC (.int 0)))) (.nm 3) (Qe (QaH (Q7 (Qa 1)) (.nm 4) (Qe (QcT (.tp [5,6]) (Qi (Qi (Qa 0) (dC (.int 1))) (Qa 4))) (Qe (QdL 2 QU (Qa 5) (dBf QeB (Qb (Qi (Qa 2) (Qa 5)) (Qb (QQ (Qi (Qa 2) (Qa 6)) (dC (.int 1))) Qg)))) (Qe (QdL 2 QU (Qa 6) (dBf QeB (Qb (Qi (Qa 2) (Qa 6)) (Qb (QQ (Qi (Qa 2) (Qa 5)) (dC (.int 1))) Qg)))) Qp)))) Qp)) (Qe (QZ (Qa 2)) Qp)))
def QlF(d:Den):Prop:=∀(m:Nat) (R:List (Int×Int)) (t:List Nat),m<=8->(∀s∈R,Good m s)->(∀k∈t,k<R.length)->d [Qj m R [],Qd t]=some (Qc (m+1) (Qb6 R m t m),true)
theorem QkJ{fa fb:DE}{ρ:En}{ra rb:R}{a b:Int}(ha:fa ρ=some ra)(ea:ra.d= .int a)(hb:fb ρ=some rb)(eb:rb.d= .int b):dBf QeB (Qb fa (Qb fb Qg)) ρ=some ⟨.int (if b<a then b else a),true,[]⟩:=QsE ha ea hb eb
theorem Qr3:QlF (Qs 7 QfR):=λm R t m8 hR ht=>by
 have it:∀{ρ:En},ρ[0]? =some (some (Qj m R [],false))->Qa 0 ρ=some ⟨Qj m R [],false,[]⟩:=λh=>QbK h
 refine QaR ?_
 refine run_seq (Qo (r:=⟨Qc (m+1) (Qb6 R m t 0),true,[]⟩) ?_ ?_)
 ·refine(Qgl (m:=m) (f:=λ_=>(m:Int)+1) (ra:=⟨Qc m (λ_=>(m:Int)+1),true,[]⟩) ?_ rfl (by omega)).trans ?_
  ·unfold Qau
   rw[(Quo (rs:=⟨[.int ((m:Int)+1)],true,[]⟩) (Qw (Qad (a:=m) (b:=1) (Qbf (it rfl) rfl).1 rfl rfl rfl) (Q0 _)) (by simp)),Za,(Qbf (it rfl) rfl).1,Za]
   show _=_
   have hr:=QhB (n:=m) (z:=(m:Int)+1) (fb:=dC (.int m)) (ρ:=Qam 7 [Qj m R [],Qd t]) (r:=⟨.int m,true,[]⟩) rfl rfl (by omega)
   unfold Qau at hr
   exact hr
  ·congr 2
 rw[Qq]
 refine Qaj (P:=λρ=>∃j3 j4 j5 j6,ρ=[some (Qj m R [],false),some (Qd t,false),some (Qc (m+1) (Qb6 R m t m),true),j3,j4,j5,j6]) ?_ ?_
 ·refine QX (toD:=λ(k:Nat)=> .int (k:Int)) (List.range m) (λi ρ=>∃j3 j4 j5 j6,ρ=[some (Qj m R [],false),some (Qd t,false),some (Qc (m+1) (Qb6 R m t i),true),j3,j4,j5,j6]) (Qbv (n:=m) (r:=⟨.int m,true,[]⟩) rfl rfl (by omega)) rfl ⟨none,none,none,none,rfl⟩ ?_ ?_
  ·rintro i i' ρ hi ⟨j3,j4,j5,j6,rfl⟩
   have hi':i<m/\i=i':=by
    obtain⟨h1,h2⟩:=Zb.mp hi
    simp at h1 h2;exact⟨h1,h2⟩
   obtain⟨him,rfl⟩:=hi'
   refine⟨[some (Qj m R [],false),some (Qd t,false),some (Qc (m+1) (Qb6 R m t i),true),some (.int i,true),j4,j5,j6],rfl,?_⟩
   refine Qaj (P:=λρ=>∃j4 j5 j6,ρ=[some (Qj m R [],false),some (Qd t,false),some (Qc (m+1) (Qb6 R m t (i+1)),true),some (.int i,true),j4,j5,j6]) ?_ ?_
   ·refine QX (toD:=λ(k:Nat)=> .int (k:Int)) t (λa ρ=>∃j4 j5 j6,ρ=[some (Qj m R [],false),some (Qd t,false),some (Qc (m+1) ((t.take a).foldl (QbW R) (Qb6 R m t i)),true),some (.int i,true),j4,j5,j6]) (QaZ (r:=⟨Qd t,false,[]⟩) rfl rfl) rfl ⟨j4,j5,j6,rfl⟩ ?_ ?_
    ·rintro a k ρ hk ⟨j4,j5,j6,rfl⟩
     have hkR:=ht k (Zy hk)
     obtain⟨g1,g2,g3,g4,g5⟩:=hR _ (QS hkR)
     have etake:(t.take (a+1)).foldl (QbW R) (Qb6 R m t i)=QbW R ((t.take a).foldl (QbW R) (Qb6 R m t i)) k:=by
      rw[Zcr,hk]
      simp
     generalize (t.take a).foldl (QbW R) (Qb6 R m t i)=g at *
     refine⟨[some (Qj m R [],false),some (Qd t,false),some (Qc (m+1) g,true),some (.int i,true),some (.int k,true),j5,j6],rfl,?_⟩
     refine run_seq (Q:=_) ⟨Out.nx [some (Qj m R [],false),some (Qd t,false),some (Qc (m+1) g,true),some (.int i,true),some (.int k,true),some (.int (rd R k).1,true),some (.int (rd R k).2,true)],?_,?_⟩
     ·unfold QcT
      rw[QfA (R:=R) (k:=k) (Qbf (m:=m) (R:=R) (L:=[]) (it rfl) rfl).2.1 rfl (rb:=⟨.int k,true,[]⟩) rfl rfl hkR]
      rfl
     obtain⟨a1,ea⟩:∃a1:Nat,(rd R k).1=a1:=⟨(rd R k).1.toNat,by omega⟩
     obtain⟨b1,eb⟩:∃b1:Nat,(rd R k).2=b1:=⟨(rd R k).2.toNat,by omega⟩
     have e2:QbW R g k=up (up g a1 (if g b1+1<g a1 then g b1+1 else g a1)) b1 (if up g a1 (if g b1+1<g a1 then g b1+1 else g a1) a1+1<up g a1 (if g b1+1<g a1 then g b1+1 else g a1) b1 then up g a1 (if g b1+1<g a1 then g b1+1 else g a1) a1+1 else up g a1 (if g b1+1<g a1 then g b1+1 else g a1) b1):=by
      unfold QbW
      rw[ea,eb];rfl
     rw[etake,e2,ea,eb]
     refine run_seq (Qhm (m:=m+1) (f:=g) (i:=a1) (v:=if g b1+1<g a1 then g b1+1 else g a1) (ri:=⟨.int a1,true,[]⟩) rfl rfl rfl (QkJ (a:=g a1) (b:=g b1+1) (Qbw (m:=m+1) (f:=g) (i:=a1) (ra:=⟨Qc (m+1) g,true,[2]⟩) (rb:=⟨.int a1,true,[]⟩) rfl rfl rfl rfl (by omega)) rfl (Qad (a:=g b1) (b:=1) (Qbw (m:=m+1) (f:=g) (i:=b1) (ra:=⟨Qc (m+1) g,true,[2]⟩) (rb:=⟨.int b1,true,[]⟩) rfl rfl rfl rfl (by omega)) rfl rfl rfl) rfl) rfl (by omega) (by omega) ?_)
     rw[Zw]
     generalize up g a1 (if g b1+1<g a1 then g b1+1 else g a1)=q
     refine run_seq (Qhm (m:=m+1) (f:=q) (i:=b1) (v:=if q a1+1<q b1 then q a1+1 else q b1) (ri:=⟨.int b1,true,[]⟩) rfl rfl rfl (QkJ (a:=q b1) (b:=q a1+1) (Qbw (m:=m+1) (f:=q) (i:=b1) (ra:=⟨Qc (m+1) q,true,[2]⟩) (rb:=⟨.int b1,true,[]⟩) rfl rfl rfl rfl (by omega)) rfl (Qad (a:=q a1) (b:=1) (Qbw (m:=m+1) (f:=q) (i:=a1) (ra:=⟨Qc (m+1) q,true,[2]⟩) (rb:=⟨.int a1,true,[]⟩) rfl rfl rfl rfl (by omega)) rfl rfl rfl) rfl) rfl (by omega) (by omega) (Qn ⟨some (.int k,true),some (.int a1,true),some (.int b1,true),?_⟩))
     rw[Zw];rfl
    ·rintro ρ ⟨j4,j5,j6,rfl⟩
     rw[Zbv]
     exact⟨_,_,_,rfl⟩
   rintro ρ ⟨j4,j5,j6,rfl⟩
   exact Qn ⟨_,_,_,_,rfl⟩
  ·rintro ρ ⟨j3,j4,j5,j6,rfl⟩
   rw[ZE]
   exact⟨_,_,_,_,rfl⟩
 rintro ρ ⟨j3,j4,j5,j6,rfl⟩
 exact QL (r:=⟨Qc (m+1) (Qb6 R m t m),true,[2]⟩) rfl ⟨rfl,rfl⟩
structure Qdz (R:List (Int×Int)) (m:Nat) (dn tr:List Nat):Prop where
 nd:dn.Nodup
 le:∀x∈dn,x<=m
 hd:dn[0]? =some m
 tnd:tr.Nodup
 tin:∀k∈tr,k<R.length/\(rd R k).1.toNat∈dn/\(rd R k).2.toNat∈dn
 way:∀i q,0<i->dn[i]? =some q->∃k∈tr,Q8 q (rd R k)=true/\∃j,j<i/\dn[j]? =some (oe q (rd R k))
theorem Qdz.mem{R:List (Int×Int)}{m:Nat}{dn tr:List Nat}(G:Qdz R m dn tr):m∈dn:=Zy G.hd
theorem QsI{m:Nat}{R:List (Int×Int)}(hw:QcY m R []){dn tr:List Nat}(G:Qdz R m dn tr)(hl:dn.length<=m):∃k,k<R.length/\(((rd R k).1.toNat∈dn/\(rd R k).2.toNat∉dn)∨((rd R k).1.toNat∉dn/\(rd R k).2.toNat∈dn)):=by
 obtain⟨p,hp1,hp2⟩:∃p,p<m/\p∉dn:=by
  refine Zaq λq=>?_
  have all:∀p∈List.range (m+1),p∈dn:=λp hp=>by
   have:=Zf.mp hp
   by_cases e:p=m
   ·rw[e];exact G.mem
   ·exact Zaq λz=>q ⟨p,by omega,z⟩
  have:=len_sub Zao all
  rw[ZE]at this
  omega
 obtain⟨v,h1,h2,s,h3,h4⟩:=Qs0 hw (· ∉dn) ⟨p,hp1,hp2⟩
 obtain⟨g1,g2,g3,g4,g5⟩:=hw.good.1 s h3
 obtain⟨k,hk⟩:=Zam h3
 have hkl:k<R.length:=(Zb.mp hk).1
 have es:rd R k=s:=by have:=QhR hkl;rw[hk]at this;exact(Option.some.inj this).symm
 refine⟨k,hkl,?_⟩
 rw[es]
 have inn:∀x:Int,0<=x->(x=m∨¬x.toNat∉dn)->x.toNat∈dn:=λx x0 h=>by
  rcases h with h | h
  ·rw[h,Zw];exact G.mem
  ·exact Zaq h
 rcases h4 with⟨a,b⟩ | ⟨a,b⟩
 ·exact .inr ⟨by rw[a,Zw];exact h2,inn _ g2 b⟩
 ·exact .inl ⟨inn _ g1 b,by rw[a,Zw];exact h2⟩
theorem Qdz.step{m:Nat}{R:List (Int×Int)}(hR:∀s∈R,Good m s){dn tr:List Nat}(G:Qdz R m dn tr){k q:Nat}(hk:k<R.length)(hq:q∉dn)(hi:Q8 q (rd R k)=true)(ho:oe q (rd R k)∈dn):Qdz R m (dn++[q]) (tr++[k]):=by
 obtain⟨o1,o2,o3,o4⟩:=Qal (hR _ (QS hk)) hi
 obtain⟨g1,g2,g3,g4,g5⟩:=hR _ (QS hk)
 have ends:(rd R k).1.toNat∈dn++[q]/\(rd R k).2.toNat∈dn++[q]:=by
  rcases o4 with⟨a,b⟩ | ⟨a,b⟩
  ·exact⟨Zl _ (by simp;omega),Zi _ (by rw[show(rd R k).2.toNat=oe q (rd R k) by omega];exact ho)⟩
  ·exact⟨Zi _ (by rw[show(rd R k).1.toNat=oe q (rd R k) by omega];exact ho),Zl _ (by simp;omega)⟩
 have knew:k∉tr:=λz=>by
  obtain⟨_,t1,t2⟩:=G.tin k z
  rcases o4 with⟨a,b⟩ | ⟨a,b⟩
  ·exact hq (by rw[show q=(rd R k).1.toNat by omega];exact t1)
  ·exact hq (by rw[show q=(rd R k).2.toNat by omega];exact t2)
 refine⟨Zax.mpr ⟨G.nd,by simp,λx hx y hy e=>?_⟩,λx hx=>?_,?_,Zax.mpr ⟨G.tnd,by simp,λx hx y hy e=>?_⟩,λx hx=>?_,λi v h0 hv=>?_⟩
 ·simp at hy;subst hy;subst e;exact hq hx
 ·rcases ZK.mp hx with h | h
  ·exact G.le x h
  ·simp at h;subst h
   rcases o4 with⟨a,b⟩ | ⟨a,b⟩<;>omega
 ·have:=(Zb.mp G.hd).1
  rw[ZV this];exact G.hd
 ·simp at hy;subst hy;subst e;exact knew hx
 ·rcases ZK.mp hx with h | h
  ·obtain⟨t0,t1,t2⟩:=G.tin x h
   exact⟨t0,Zi _ t1,Zi _ t2⟩
  ·simp at h;subst h
   exact⟨hk,ends.1,ends.2⟩
 ·by_cases hl:i<dn.length
  ·rw[ZV hl]at hv
   obtain⟨k',h1,h2,j,h3,h4⟩:=G.way i v h0 hv
   exact⟨k',Zi _ h1,h2,j,h3,by rw[ZV (by omega)];exact h4⟩
  ·rw[ZaG (by omega)]at hv
   have hi0:i-dn.length=0:=by
    have:=(Zb.mp hv).1
    simpa using this
   rw[hi0]at hv
   simp at hv
   subst hv
   obtain⟨j,hj⟩:=Zam ho
   have hjl:=(Zb.mp hj).1
   exact⟨k,by simp,hi,j,by omega,by rw[ZV hjl];exact hj⟩
theorem Qdz.tree{m:Nat}{R:List (Int×Int)}(m0:0<m)(hR:∀s∈R,Good m s){dn tr:List Nat}(G:Qdz R m dn tr)(hl:dn.length=m+1)(htl:tr.length=m){t:List Nat}(hp:t.Perm tr)(hs:t.Pairwise (· < ·)):Qhy R m t:=by
 have htlt:∀k∈t,k<R.length:=λk hk=>(G.tin k (hp.mem_iff.mp hk)).1
 refine⟨by rw[hp.length_eq,htl],hs,htlt,λv hv hn=>?_⟩
 have hT:∀s∈QY R t,Good m s:=λs hs=>by
  obtain⟨k,hk,rfl⟩:=ZA.mp hs
  exact hR _ (QS (htlt k hk))
 have gS:=QaK (L:=[]) hT (λs hs=>absurd hs (by simp))
 have I:=QkW gS m
 have lend:=λ{v:Nat} hv hn=>Qg8 (v:=v) m0 gS hv hn
 generalize QR (Qh (QY R t) []) (Q3 m) m=F at *
 have hall:∀v,v<m->v∈dn:=λv hv=>Zaq λz=>by
  have:=len_sub (K:=(List.range (m+1)).erase v) G.nd λx hx=>(Zby (λe:x=v=>z (by rw[← e];exact hx))).mpr (Zf.mpr (by have:=G.le x hx;omega))
  rw[Zbe (Zf.mpr (by omega)),ZE]at this
  omega
 have key:∀(i q:Nat),dn[i]? =some q->F q≠none:=by
  intro i
  induction i using Nat.strongRecOn with
  | _ i ih=>
   intro q hq z
   by_cases i0:i=0
   ·subst i0
    rw[G.hd]at hq
    cases hq
    rw[I.pit]at z;cases z
   ·obtain⟨k,h1,h2,j,h3,h4⟩:=G.way i q (by omega) hq
    have hkt:k∈t:=hp.mem_iff.mpr h1
    have hg:=hR _ (QS (htlt k hkt))
    obtain⟨o1,o2,o3,o4⟩:=Qal hg h2
    obtain⟨g1,g2,g3,g4,g5⟩:=hg
    have hqm:q<m:=by
     have:=G.le q (Zy hq)
     by_cases e:q=m
     ·rw[e,I.pit]at z;cases z
     ·omega
    have mem:rd R k∈QY R t:=ZA.mpr ⟨k,hkt,rfl⟩
    have sm:∀s,s∈QY R t∨s.swap∈QY R t->s∈Qh (QY R t) []:=λs h=>by
     unfold Qh
     rw[Zag,ZK,ZA]
     rcases h with h | h
     ·exact .inl h
     ·exact .inr ⟨s.swap,h,by simp⟩
    rcases o4 with⟨a,b⟩ | ⟨a,b⟩
    ·have:=lend hqm z (rd R k) (sm _ (.inl mem)) (by omega)
     rw[show(rd R k).2.toNat=oe q (rd R k) by omega]at this
     exact ih j h3 _ h4 this
    ·have:=lend hqm z (rd R k).swap (sm _ (.inr (by simpa using mem))) (by simp;omega)
     rw[show(rd R k).swap.2.toNat=oe q (rd R k) by simp;omega]at this
     exact ih j h3 _ h4 this
 obtain⟨i,hi⟩:=Zam (hall v hv)
 exact key i v hi hn
theorem Qjo(tr:List Nat):∃t:List Nat,t.Perm tr/\(Qb5 (tr.map λ(p:Nat)=>(p:Int))).map D.int=t.map (λ(p:Nat)=>D.int (p:Int))/\(tr.Nodup->t.Pairwise (· < ·)):=by
 have hp:=Qbp (tr.map λ(p:Nat)=>(p:Int))
 have hs:=QcR (tr.map λ(p:Nat)=>(p:Int))
 generalize Qb5 (tr.map λ(p:Nat)=>(p:Int))=S at hp hs
 have h0:∀x∈S,0<=x:=λx hx=>by
  obtain⟨n,_,rfl⟩:=ZA.mp (hp.mem_iff.mp hx)
  omega
 have ht:(S.map Int.toNat).Perm tr:=by
  have:=hp.map Int.toNat
  rw[ZP]at this
  have e:(Int.toNat ∘ λ(p:Nat)=>(p:Int))=id:=by funext p;simp
  rw[e,List.map_id]at this
  exact this
 refine⟨S.map Int.toNat,ht,?_,λnd=>?_⟩
 ·rw[ZP]
  exact ZD λx hx=>by
   have:=h0 x hx
   show D.int x=D.int (x.toNat:Int)
   rw[ZbG this]
 ·have nd':(S.map Int.toNat).Nodup:=ht.nodup_iff.mpr nd
  have hle:(S.map Int.toNat).Pairwise (· <= ·):=by
   rw[Zay]
   exact hs.imp λh=>by omega
  have hne:(S.map Int.toNat).Pairwise (· ≠ ·):=nd'
  exact(hle.and hne).imp λ⟨a,b⟩=>by omega
theorem Qn9{fa fb:DE}{ρ:En}{a b:Bool}(ha:fa ρ=some ⟨.bl a,true,[]⟩)(hb:fb ρ=some ⟨.bl b,true,[]⟩):dOp gNe fa fb ρ=some ⟨.bl (a != b),true,[]⟩:=by
 refine QT ha hb ?_
 cases a<;>cases b<;>rfl
noncomputable def QbF(R:List (Int×Int))(dn:List Nat)(k:Nat):Bool:=dn.contains (rd R k).1.toNat != dn.contains (rd R k).2.toNat
theorem QuS{m:Nat}{s:Int×Int}(g:Good m s){p:Nat}{l:List Nat}:QaA p l s=if(Q8 p s && decide (oe p s∈l))=true then 1 else 0:=by
 unfold QaA
 by_cases hi:Q8 p s=true
 ·obtain⟨_,_,ne,alt⟩:=Qal g hi
  rw[hi,ZbT]
  rcases alt with⟨a,b⟩ | ⟨a,b⟩
  ·by_cases z:oe p s∈l
   ·rw[if_pos (.inl ⟨a,by rw[b,Zw];exact z⟩),if_pos (decide_eq_true z)]
   ·rw[if_neg,if_neg (by rw[decide_eq_false z];decide)]
    rintro(⟨_,q⟩ | ⟨q,_⟩)
    ·rw[b,Zw]at q;exact z q
    ·omega
  ·by_cases z:oe p s∈l
   ·rw[if_pos (.inr ⟨a,by rw[b,Zw];exact z⟩),if_pos (decide_eq_true z)]
   ·rw[if_neg,if_neg (by rw[decide_eq_false z];decide)]
    rintro(⟨q,_⟩ | ⟨_,q⟩)
    ·omega
    ·rw[b,Zw]at q;exact z q
 ·have h2:¬s.1=(p:Int)/\¬s.2=(p:Int):=by
   unfold Q8 at hi
   rw[ZaN,decide_eq_true_iff,decide_eq_true_iff]at hi
   exact not_or.mp hi
  rw[if_neg (by rintro(⟨q,_⟩ | ⟨q,_⟩);exact h2.1 q;exact h2.2 q),if_neg (by rw[Bool.not_eq_true]at hi;rw[hi,Bool.false_and];decide)]
theorem Qr6{m:Nat}{R:List (Int×Int)}(hR:∀s∈R,Good m s){p:Nat}{l:List Nat}:(R.map (QaA p l)).sum=(((Qaa R p).filter λk=>decide (oe p (rd R k)∈l)).length:Int):=by
 rw[Qib]
 unfold Qaa
 have key:∀K:List Nat,(∀k∈K,k<R.length)->(K.map λk=>QaA p l (rd R k)).sum=(((K.filter λk=>Q8 p (rd R k)).filter λk=>decide (oe p (rd R k)∈l)).length:Int):=by
  intro K
  induction K with
  | nil=>intro _;rfl
  | cons k r ih=>
   intro hK
   rw[Zx,ZR,ih (λx hx=>hK x (Zc _ hx)),QuS (hR _ (QS (hK k Zh))),Zai]
   cases Q8 p (rd R k)with
   | false=>simp
   | true=>
    simp only[if_true,Zai,ZbT]
    cases decide (oe p (rd R k)∈l)with
    | false=>simp
    | true=>simp;omega
 exact key _ λk hk=>Zf.mp hk
theorem Qm2{R:List (Int×Int)}{dep:Nat->Int}{p:Nat}:((Qaa R p).filter λk=>decide (dep p-1<=dep (oe p (rd R k)))).length=(QC R dep p).length+(QaU R dep p).length:=by
 unfold QC QaU
 induction Qaa R p with
 | nil=>rfl
 | cons k r ih=>
  simp only[Zai]
  by_cases a:dep (oe p (rd R k))=dep p-1
  ·have b:dep p-1<=dep (oe p (rd R k)):=by omega
   have c:¬dep p<=dep (oe p (rd R k)):=by omega
   simp only[decide_eq_true a,decide_eq_true b,decide_eq_false c,if_true,if_false,Zo,ZaI]
   omega
  ·by_cases b:dep p-1<=dep (oe p (rd R k))
   ·have c:dep p<=dep (oe p (rd R k)):=by omega
    simp only[decide_eq_false a,decide_eq_true b,decide_eq_true c,if_true,if_false,Zo,ZaI]
    omega
   ·have c:¬dep p<=dep (oe p (rd R k)):=by omega
    simp only[decide_eq_false a,decide_eq_false b,decide_eq_false c,if_true,if_false,ZaI]
    omega
structure Qbm (R:List (Int×Int)) (m:Nat) (h mk:Nat->Int):Prop where
 pit:mk m=0
 val:∀v,v<m->1<=mk v/\mk v<=m
 lo:∀v,v<m->((QaU R mk v).length:Int)<=h v
 hi:∀v,v<m->h v<(QaU R mk v).length+(QC R mk v).length
theorem Qrm{m:Nat}{R:List (Int×Int)}{h:Nat->Int}(hR:∀s∈R,Good m s)(hc:Qb9 R m h (QP (Qv m (Qh R [])) h m m)=true):∃mk:Nat->Int,Qbm R m h mk/\∀v,v<m->QP (Qv m (Qh R [])) h m m v=some (mk v):=by
 unfold Qb9 at hc
 rw[Zk,Zaa,Zas,Zav]at hc
 obtain⟨hc1,hc2⟩:=hc
 have hs:∀v,v<m->h v<Qag R [] v:=λv hv=>by simpa using hc1 v (Zf.mpr hv)
 obtain⟨mk,hmk⟩:∃mk:Nat->Int,mk=λv=>if v<m then(QP (Qv m (Qh R [])) h m m v).getD 0 else 0:=⟨_,rfl⟩
 have e1:∀v,v<m->QP (Qv m (Qh R [])) h m m v=some (mk v):=λv hv=>by
  rw[hmk]
  show _=some (if v<m then(QP (Qv m (Qh R [])) h m m v).getD 0 else 0)
  rw[if_pos hv]
  cases e:QP (Qv m (Qh R [])) h m m v with
  | none=>have:=hc2 v (Zf.mpr hv);rw[e]at this;exact absurd rfl this
  | some t=>rfl
 have pit:mk m=0:=by rw[hmk];exact if_neg (ZU _)
 generalize hT:Qv m (Qh R [])=T at *
 have cold:∀(j:Nat),j<=m->∀v,v<m->(v∈Qz T h m j↔(j:Int)+1<=mk v):=λj hj v hv=>by
  rw[QqC hv hj,e1 v hv]
  constructor
  ·rintro(z | ⟨t,z,y⟩)
   ·cases z
   ·cases z;exact y
  ·exact λy=> .inr ⟨_,rfl,y⟩
 have val:∀v,v<m->1<=mk v/\mk v<=m:=λv hv=>by
  obtain⟨j,h1,h2,_⟩:=QdG m v (mk v) (e1 v hv)
  omega
 have num:∀(j:Nat),j<=m->∀v,v<m->Q2 T v (Qz T h m j)=(((Qaa R v).filter λk=>decide ((j:Int)+1<=mk (oe v (rd R k)))).length:Int):=λj hj v hv=>by
  rw[← hT,QgN hR hv (QbY j) (λo ho=>QaX ho),Qr6 hR,hT]
  congr 2
  refine Zbp λk hk=>?_
  obtain⟨k1,k2⟩:=QbE.mp hk
  obtain⟨_,om,_,_⟩:=Qal (hR _ (QS k1)) k2
  by_cases z:oe v (rd R k)<m
  ·rw[decide_eq_decide,cold j hj _ z]
  ·have e:oe v (rd R k)=m:=by omega
   rw[e,pit,decide_eq_false (λq=>absurd (QaX q) (ZU _)),decide_eq_false (by omega)]
 refine⟨mk,⟨pit,val,λv hv=>?_,λv hv=>?_⟩,e1⟩
 ·obtain⟨j,h1,h2,_,_,h5⟩:=QdG m v (mk v) (e1 v hv)
  rw[num j (by omega) v hv,← h2]at h5
  exact h5
 ·obtain⟨j,h1,h2,h3,_,_⟩:=QdG m v (mk v) (e1 v hv)
  cases j with
  | zero=>
   have a:=QbU (R:=R) (dep:=mk) (p:=v)
   have b:=Qky hR v
   have c:(QaD R mk v).length=0:=by
    unfold QaD
    rw[List.length_eq_zero_iff,Zck]
    intro k hk
    obtain⟨k1,k2⟩:=QbE.mp hk
    obtain⟨_,om,_,_⟩:=Qal (hR _ (QS k1)) k2
    have:0<=mk (oe v (rd R k)):=by
     by_cases z:oe v (rd R k)<m
     ·have:=val _ z;omega
     ·rw[show oe v (rd R k)=m by omega,pit];exact Zau _
    simp;omega
   have:=hs v hv
   omega
  | succ i=>
   have h6:=QbV.mp (show v∈QbZ T h (Qz T h m i)from h3)
   have h7:h v<Q2 T v (Qz T h m i):=by
    by_cases z:Q2 T v (Qz T h m i)<=h v
    ·exact absurd (Qbo.mpr ⟨h6.1,z⟩) h6.2
    ·omega
   rw[num i (by omega) v hv,show((i:Int)+1)=mk v-1 by omega,Qm2]at h7
   omega
theorem QlO{t:List Nat}:∀{l:List Nat}{i k:Nat},l[i]? =some k->k∈t->(∀j k',j<i->l[j]? =some k'->k'∉t)->Qac t l=i
 | [],i,k,h,_,_=>by simp at h
 | a::r,0,k,h,hk,_=>by
  cases h
  unfold Qac
  rw[if_pos hk]
 | a::r,i+1,k,h,hk,hn=>by
  unfold Qac
  rw[if_neg (hn 0 a (by omega) rfl),QlO (l:=r) (i:=i) (by simpa using h) hk λj k' hj e=>hn (j+1) k' (by omega) (by simpa using e)]
noncomputable def QaG(R:List (Int×Int))(mk h:Nat->Int)(p:Nat):Nat:=(QC R mk p).getD ((QC R mk p).length+(QaU R mk p).length-1-h p).toNat 0
section
variable {R:List (Int×Int)}{m:Nat}{h mk:Nat->Int}
theorem Qbm.own(M:Qbm R m h mk){p:Nat}(hp:p<m):(QC R mk p)[((QC R mk p).length+(QaU R mk p).length-1-h p:Int).toNat]? =some (QaG R mk h p):=by
 have a:=M.lo p hp
 have b:=M.hi p hp
 unfold QaG
 rw[ZX]
 obtain⟨x,hx⟩:∃x,(QC R mk p)[((QC R mk p).length+(QaU R mk p).length-1-h p:Int).toNat]? =some x:=⟨_,Zp (by omega)⟩
 rw[hx];rfl
theorem Qbm.Qdt(M:Qbm R m h mk){p:Nat}(hp:p<m):QaG R mk h p<R.length/\Q8 p (rd R (QaG R mk h p))=true/\mk (oe p (rd R (QaG R mk h p)))=mk p-1:=by
 have:=Zy (M.own hp)
 unfold QC at this
 obtain⟨h1,h2⟩:=ZG.mp this
 obtain⟨h3,h4⟩:=QbE.mp h1
 exact⟨h3,h4,of_decide_eq_true h2⟩
theorem Qbm.Qj7(hR:∀s∈R,Good m s)(M:Qbm R m h mk){p q:Nat}(hp:p<m)(hi:Q8 q (rd R (QaG R mk h p))=true):q=p∨(oe q (rd R (QaG R mk h p))=p/\mk q=mk p-1):=by
 obtain⟨h1,h2,h3⟩:=M.Qdt hp
 have g:=hR _ (QS h1)
 generalize rd R (QaG R mk h p)=s at *
 obtain⟨a1,a2,a3,a4⟩:=Qal g h2
 obtain⟨b1,b2,b3,b4⟩:=Qal g hi
 by_cases z:q=p
 ·exact .inl z
 ·have e1:oe q s=p:=by omega
  have e2:oe p s=q:=by omega
  exact .inr ⟨e1,by rw[← h3,e2]⟩
theorem Qbm.inj(hR:∀s∈R,Good m s)(M:Qbm R m h mk){p q:Nat}(hp:p<m)(hq:q<m)(e:QaG R mk h p=QaG R mk h q):p=q:=by
 rcases M.Qj7 hR hp (q:=q) (by rw[e];exact(M.Qdt hq).2.1)with z | ⟨_,z⟩
 ·exact z.symm
 ·rcases M.Qj7 hR hq (q:=p) (by rw[← e];exact(M.Qdt hp).2.1)with y | ⟨_,y⟩
  ·exact y
  ·omega
theorem Qbm.tree(hR:∀s∈R,Good m s)(M:Qbm R m h mk){t:List Nat}(ht:t.Perm ((List.range m).map (QaG R mk h))):Qcp R m t mk/\∀p,p<m->QO R mk t p=h p:=by
 have mem:∀k,k∈t↔∃p,p<m/\QaG R mk h p=k:=λk=>by
  rw[ht.mem_iff,ZA]
  exact⟨λ⟨p,a,b⟩=>⟨p,Zf.mp a,b⟩,λ⟨p,a,b⟩=>⟨p,Zf.mpr a,b⟩⟩
 refine⟨⟨λk hk=>?_,M.pit,M.val,λv hv=>⟨_,(mem _).mpr ⟨v,hv,rfl⟩,(M.Qdt hv).2⟩,λv hv k hk hi=>?_⟩,λp hp=>?_⟩
 ·obtain⟨p,hp,rfl⟩:=(mem k).mp hk
  exact(M.Qdt hp).1
 ·obtain⟨p,hp,rfl⟩:=(mem k).mp hk
  rcases M.Qj7 hR hp hi with rfl | ⟨e,z⟩
  ·rw[(M.Qdt hp).2.2];exact Zau _
  ·rw[e];omega
 ·have e:Qac t (QC R mk p)=((QC R mk p).length+(QaU R mk p).length-1-h p:Int).toNat:=by
   refine QlO (M.own hp) ((mem _).mpr ⟨p,hp,rfl⟩) λj k' hj hk' hkt=>?_
   obtain⟨q,hq,rfl⟩:=(mem k').mp hkt
   have hm:=Zy hk'
   unfold QC at hm
   obtain⟨h1,h2⟩:=ZG.mp hm
   have h2:=of_decide_eq_true h2
   rcases M.Qj7 hR hq (QbE.mp h1).2 with rfl | ⟨e,z⟩
   ·have pw:(QC R mk p).Pairwise (· < ·):=by unfold QC Qaa;exact(Zbm.filter _).filter _
    exact absurd (QmW pw hk' (M.own hp) hj) (ZU _)
   ·rw[e]at h2;omega
  have a:=M.lo p hp
  have b:=M.hi p hp
  have c:=QbU (R:=R) (dep:=mk) (p:=p)
  unfold QO
  rw[e]
  omega
end
noncomputable def Qji(Qdh:Den)(Qap:Den)(Qao:Den):DS:=(Qe (Qy 2 (QB 2 Qdh [] (Qb (Qa 0) (Qb (Qa 1) Qg)))) (Qe (sIf (Qdg (QA (QB 2 Qap [] (Qb (Qa 0) (Qb (Qa 1) Qg))))) (Qe QH Qp) Qp) (Qe (Qy 3 (Q1 Qg)) (Qe (QaH (QbH (Qa 1)) (.tp [4,5]) (Qe (Qy 6 (QB 3 Qao [] (Qb (Qa 0) (Qb (Qa 4) (Qb (QQ (Qa 2) (Q1 (Qb (dC (.int 0)) Qg))) Qg))))) (Qe (QcM 3 QU (Qi (Qi (Qa 6) (dC (.int 0))) (dOp Qb2 (Qi (Qa 6) (dC (.int 1))) (Qa 5)))) Qp))) (Qe (QZ (Qgw (Qb (Qa 3) Qg))) Qp)))))
def Qha(d:Den):Prop:=∀(m:Nat) (R:List (Int×Int)) (h:Nat->Int),0<m->m<=8->R.length<=200->(∀s∈R,Good m s)->(∀j,j<m->0<=h j)->Qb9 R m h (QP (Qv m (Qh R [])) h m m)=true->∃t mk,d [Qj m R [],Qc m h]=some (Qd t,true)/\t.length=m/\t.Pairwise (· < ·)/\Qcp R m t mk/\∀p,p<m->QO R mk t p=h p
theorem QnG{fa:DE}{ρ:En}{ra:HS.R}{n:Nat}{f:Nat->Int}(ha:fa ρ=some ra)(ea:ra.d=Qc n f):QbH fa ρ=some ⟨(List.range n).map λ(i:Nat)=> .tup [.int i,.int (f i)],ra.M⟩:=by
 unfold QbH
 rw[ha,Za,ea]
 show some (IR.mk (Qcs ((List.range n).map λi=>D.int (f i))) ra.M)=_
 congr 2
 unfold Qcs
 refine Zaz λi=>?_
 rw[Zm,Zm,Zbx,Zm]
 by_cases z:i<n
 ·rw[ZT z];simp
 ·rw[Zv (by simp;omega)];rfl
theorem QoS{df da dw:Den}(hf:Qic df)(ha:QgE da)(hw:Qj6 dw):Qha (Qs 7 (Qji df da dw)):=λm R h m0 m8 hRl hR hpos hc=>by
 obtain⟨mk,M,hF⟩:=Qrm hR hc
 obtain⟨t,tp,te,ts⟩:=Qjo ((List.range m).map (QaG R mk h))
 have nd:((List.range m).map (QaG R mk h)).Nodup:=by
  unfold List.Nodup
  rw[Zay]
  exact Zbf (λ{a b} x y ne e=>ne (M.inj hR (Zf.mp x) (Zf.mp y) e)) Zao
 obtain⟨Dp,hh⟩:=M.tree hR tp
 refine⟨t,mk,?_,by rw[tp.length_eq];simp,ts nd,Dp,hh⟩
 have ef:=hf m R h m0 (by omega) (by omega) hR hpos
 have ec:=ha m R h m0 (by omega) (by omega) hR hpos
 rw[hc]at ec
 have efar:QM m (QP (Qv m (Qh R [])) h m m)=Qc m mk:=by
  unfold QM Qc
  congr 1
  exact ZD λv hv=>by rw[hF v (Zf.mp hv)];rfl
 rw[efar]at ef
 have edep:Qc (m+1) (Qft m mk)=Qc (m+1) mk:=Qd9 λj hj=>by
  unfold Qft
  by_cases e:j<m
  ·rw[if_pos e]
  ·rw[if_neg e,show j=m by omega,M.pit]
 refine QaR ?_
 refine run_seq (Qo (Qx (r:=⟨[Qj m R [],Qc m h],false,[]⟩) rfl ef rfl) ?_)
 rw[Qq]
 refine run_seq (QW (b:=false) (Qdd (b:=true) (QF (Qx (r:=⟨[Qj m R [],Qc m h],false,[]⟩) rfl ec rfl) rfl)) (λh=>by cases h) (λ_=>Qn ?_))
 refine run_seq (Qo (r:=⟨Qd [],true,[]⟩) rfl ?_)
 rw[Qq]
 change Run _ [some (Qj m R [],false),some (Qc m h,false),some (Qc m mk,true),some (Qd [],true),none,none,none] _
 refine run_seq (QX (toD:=λ(i:Nat)=> .tup [.int i,.int (h i)]) (List.range m) (λi ρ=>∃j4 j5 j6,ρ=[some (Qj m R [],false),some (Qc m h,false),some (Qc m mk,true),some (Qd ((List.range i).map (QaG R mk h)),true),j4,j5,j6]) (QnG rfl rfl) rfl ⟨none,none,none,rfl⟩ ?_ ?_)
 ·rintro i i' ρ hi ⟨j4,j5,j6,rfl⟩
  obtain⟨h1,rfl⟩:=Zb.mp hi
  rw[List.getElem_range]
  have him:i<m:=by simpa using h1
  refine⟨[some (Qj m R [],false),some (Qc m h,false),some (Qc m mk,true),some (Qd ((List.range i).map (QaG R mk h)),true),some (.int i,true),some (.int (h i),true),j6],rfl,?_⟩
  refine run_seq (Qo (Qx (Qw (r:=⟨Qj m R [],false,[]⟩) rfl (Qw (r:=⟨.int i,true,[]⟩) rfl (Qw (r:=⟨Qc (m+1) mk,true,[]⟩) ((Qgl (m:=m) (f:=mk) (ra:=⟨Qc m mk,true,[2]⟩) rfl rfl (by omega)).trans (by rw[edep])) (Q0 _)))) (hw m R i mk him hR) rfl) ?_)
  rw[Qq]
  change Run _ [some (Qj m R [],false),some (Qc m h,false),some (Qc m mk,true),some (Qd ((List.range i).map (QaG R mk h)),true),some (.int i,true),some (.int (h i),true),some (.tup [Qd (QC R mk i),.int ((Qaa R i).length-1-(QaD R mk i).length)],true)] _
  have c:=QbU (R:=R) (dep:=mk) (p:=i)
  have b:=M.hi i him
  have own:=M.own him
  rw[show((QC R mk i).length+(QaU R mk i).length-1-h i:Int)=(Qaa R i).length-1-(QaD R mk i).length-h i by omega]at own
  refine run_seq (Qfl (l:=(List.range i).map (QaG R mk h)) (v:=QaG R mk h i) rfl (Qeb (l:=QC R mk i) (ra:=⟨Qd (QC R mk i),true,[6]⟩) rfl rfl (QT (d:= .int ((Qaa R i).length-1-(QaD R mk i).length-h i)) (ra:=⟨.int ((Qaa R i).length-1-(QaD R mk i).length),true,[]⟩) (rb:=⟨.int (h i),true,[]⟩) rfl rfl rfl) rfl (by omega) own) rfl (by simp;omega) (Qn ⟨some (.int i,true),some (.int (h i),true),some (.tup [Qd (QC R mk i),.int ((Qaa R i).length-1-(QaD R mk i).length)],true),?_⟩))
  rw[ZaE,ZY]
  rfl
 ·rintro ρ ⟨j4,j5,j6,rfl⟩
  rw[ZE]
  refine QL (r:=⟨Qd t,true,[]⟩) ?_ ⟨rfl,rfl⟩
  unfold Qgw
  show(Qbk (((List.range m).map (QaG R mk h)).map λ(p:Nat)=>D.int (p:Int))).bind _=_
  have:=QcW (((List.range m).map (QaG R mk h)).map λ(p:Nat)=>(p:Int))
  rw[ZP]at this
  rw[show(((List.range m).map (QaG R mk h)).map λ(p:Nat)=>D.int (p:Int))=((List.range m).map (QaG R mk h)).map (D.int ∘ λ(p:Nat)=>(p:Int))from rfl,this,Za,if_pos (by simp;omega),te]
  rfl
end HS
namespace HS
open PySem L2
theorem Qsj{fa:DE}{ρ:En}{r:HS.R}{t:List Nat}(h:fa ρ=some r)(e:r.d=Qd t)(hp:t.Pairwise (· < ·))(hl:t.length<=18):Qgv fa ρ=some ⟨Qd t,true,[]⟩:=by
 unfold Qgv
 rw[h,Za,e,Qew]
 show(Qbk ((t.map λ(p:Nat)=>(p:Int)).map D.int)).bind _=_
 have hi:(t.map λ(p:Nat)=>(p:Int)).Pairwise (· < ·):=by rw[Zay];exact hp.imp λh=>by omega
 rw[QcW,Za,if_pos (by simpa using hl),Qot (hi.imp λh=>by omega),QnI (hi.imp λh=>by omega)]
theorem Qqn(t:List Nat):Qd t=Qc t.length λi=>((t.getD i 0:Nat):Int):=by
 unfold Qd Qc
 congr 1
 refine Zaz λi=>?_
 rw[Zm,Zm]
 by_cases z:i<t.length
 ·rw[ZT z,Zp z]
  show some (D.int ((t[i]:Nat):Int))=some (D.int ((t.getD i 0:Nat):Int))
  rw[ZX,Zp z];rfl
 ·rw[Zv (by omega),Zv (by simp;omega)];rfl
noncomputable def QdE(Q6:Den)(Qbc:Den):DS:=(Qe (sIf (bOr (Qdg (QA (QB 2 Q6 [] (Qb (Qa 1) (Qb (Qi (Qa 0) (dC (.int 0))) Qg))))) (bOr (QA (dOp gNe (Qa 1) (Qgv (Qa 1)))) (QA (dOp gNe (dBf QaS (Qb (Qa 1) Qg)) (Qi (Qa 0) (dC (.int 0))))))) (Qe (QZ (dC (.bl false))) Qp) Qp) (Qe (sIf (bOr (QA (dOp gLt (Qi (Qa 1) (dC (.int 0))) (dC (.int 0)))) (QA (dOp gGe (Qi (Qa 1) (Qhr (dC (.int 1)))) (dBf QaS (Qb (Qi (Qa 0) (dC (.int 1))) Qg))))) (Qe (QZ (dC (.bl false))) Qp) Qp) (Qe (QZ (dOp gLe (dBf Qda (Qb (QB 2 Qbc [] (Qb (Qa 0) (Qb (Qa 1) Qg))) Qg)) (Qi (Qa 0) (dC (.int 0))))) Qp)))
def Qg6(d:Den):Prop:=∀(m:Nat) (R:List (Int×Int)) (t:List Nat) (dep:Nat->Int),0<m->m<=8->(∀s∈R,Good m s)->t.length=m->t.Pairwise (· < ·)->Qcp R m t dep->d [Qj m R [],Qd t]=some (.bl true,true)
theorem Qmk{du dd:Den}(hu:QhV du)(hd:QlF dd):Qg6 (Qs 2 (QdE du dd)):=λm R t dep m0 m8 hR tl tp Dp=>by
 have eu:=hu t.length λi=>((t.getD i 0:Nat):Int)
 rw[← Qqn,tl]at eu
 have ed:=hd m R t m8 hR Dp.tl
 have efar:=Qff hR Dp
 obtain⟨a,ha⟩:∃a,t[0]? =some a:=⟨_,Zp (by omega)⟩
 obtain⟨b,hb⟩:∃b,t[m-1]? =some b:=⟨_,Zp (by omega)⟩
 have bl:=Dp.tl b (Zy hb)
 obtain⟨v,⟨i,hi,ei⟩,_,hv⟩:=Qmt (by omega:0<m+1) (Qb6 R m t m)
 have vm:v<=m:=by
  rw[ei,efar i (by omega)]
  by_cases z:i<m
  ·exact(Dp.val i z).2
  ·rw[show i=m by omega,Dp.pit];omega
 have last:∀(ρ:En),ρ[1]? =some (some (Qd t,false))->Qi (Qa 1) (Qhr (dC (.int 1))) ρ=some ⟨.int b,true,[]⟩:=λρ h1=>by
  unfold Qi
  rw[QbK h1,Za]
  show(atI (t.map λ(p:Nat)=>D.int (p:Int)) (-1)).map _=_
  rw[Qoh (by simp;omega),Zd,Zm,tl,hb]
  rfl
 refine QaR ?_
 refine Qay (QW (b:=false) (Qdb (a:=false) (b:=false) (Qdd (b:=true) (QF (Qx (r:=⟨[Qd t,.int m],false,[]⟩) rfl eu rfl) rfl)) (Qdb (a:=false) (b:=false) (QF (b:=false) (Qk1 (d:=Qd t) (ra:=⟨Qd t,false,[]⟩) rfl rfl (Qsj (r:=⟨Qd t,false,[]⟩) rfl rfl tp (by omega)) rfl (Qev 7 _)) rfl) (QF (b:=false) (r:=⟨.bl false,true,[]⟩) ((Qgf (a:=(m:Int)) (b:=m) ((QgL (l:=t) (r:=⟨Qd t,false,[]⟩) rfl rfl).trans (by rw[tl])) rfl (rb:=⟨.int m,true,[]⟩) rfl rfl).trans (by simp)) rfl))) (λh=>by cases h) (λ_=>Qn ?_))
 refine Qay (QW (b:=false) (Qdb (a:=false) (b:=false) (QF (b:=false) (QT (d:= .bl (decide ((a:Int)<0))) (Qeb (l:=t) (i:=0) (v:=a) (ra:=⟨Qd t,false,[]⟩) (rb:=⟨.int 0,true,[]⟩) rfl rfl rfl rfl (by decide) ha) (rb:=⟨.int 0,true,[]⟩) rfl rfl) (by rw[decide_eq_false (by omega)])) (QF (b:=false) (QT (d:= .bl (decide ((R.length:Int)<=b))) (last _ rfl) (rb:=⟨.int R.length,true,[]⟩) ((Qcb (xs:=R.map pairD) (r:=⟨Qk R,false,[]⟩) rfl rfl).trans (by rw[Zd])) rfl) (by rw[decide_eq_false (by omega)]))) (λh=>by cases h) (λ_=>Qn ?_))
 exact QL (r:=⟨.bl true,true,[]⟩) ((QT (d:= .bl (decide (v<=(m:Int)))) (hv (r:=⟨Qc (m+1) (Qb6 R m t m),true,[]⟩) (Qx (r:=⟨[Qj m R [],Qd t],false,[]⟩) rfl ed rfl) rfl) (rb:=⟨.int m,true,[]⟩) rfl rfl).trans (by rw[decide_eq_true vm])) ⟨rfl,rfl⟩
theorem Leg.mono(h:Leg m T f c)(e:∀i,i<m->f i<=g i):Leg m T g c:=by
 induction h with
 | nil=>exact .nil
 | @step c p t _ hp ht hle ih=>
  refine .step ih hp ht ?_
  have:=e p hp
  unfold Qr at hle ⊢
  omega
theorem Qlj(j:Nat):Qr m T (Qr m T f c) d j=Qr m T f (λi=>c i+d i) j:=by
 unfold Qr
 have e:(λi=>(c i+d i)*T i j)=λi=>c i*T i j+d i*T i j:=by funext i;rw[ZaR]
 rw[e,Qcv]
 show f j+Q9 m (λi=>c i*T i j)+_=_
 omega
theorem Qsl(j:Nat):Qr m T (λi=>f i+g i) (λi=>c i+d i) j=Qr m T f c j+Qr m T g d j:=by
 unfold Qr
 have e:(λi=>(c i+d i)*T i j)=λi=>c i*T i j+d i*T i j:=by funext i;rw[ZaR]
 rw[e,Qcv]
 show f j+g j+_=_
 omega
theorem Leg.trans(h:Leg m T f c)(h2:Leg m T (Qr m T f c) d):Leg m T f (λi=>c i+d i):=by
 induction h2 with
 | nil=>exact h.cast λi=>by simp
 | @step d p t _ hp ht hle ih=>
  rw[Qlj]at hle
  refine(Leg.step ih hp ht hle).cast λi=>?_
  unfold up
  split
  ·rename_i e;subst e;show c i+d i+t=c i+(d i+t);omega
  ·rfl
theorem Told.both(hf:Told m T f c)(hg:Told m T g d)(g0:∀j,j<m->0<=g j)(he:Told m T (λj=>Qr m T f c j+Qr m T g d j) e):Told m T (λj=>f j+g j) (λi=>c i+d i+e i)/\∀j,j<m->Qr m T (λj=>Qr m T f c j+Qr m T g d j) e j=Qr m T (λj=>f j+g j) (λi=>c i+d i+e i) j:=by
 have l1:Leg m T (λj=>f j+g j) c:=hf.leg.mono λj hj=>by have:=g0 j hj;show f j<=f j+g j;omega
 have a1:∀j,Qr m T (λj=>f j+g j) c j=Qr m T f c j+g j:=λj=>by unfold Qr;show f j+g j+_=_;omega
 have l2:Leg m T (Qr m T (λj=>f j+g j) c) d:=hg.leg.mono λj hj=>by rw[a1];have:=hf.pos j hj;omega
 have l3:Leg m T (λj=>f j+g j) (λi=>c i+d i):=l1.trans l2
 have a3:∀j,j<m->Qr m T f c j+Qr m T g d j=Qr m T (λj=>f j+g j) (λi=>c i+d i) j:=λj _=>(Qsl j).symm
 have e2:∀j,j<m->Qr m T (λj=>Qr m T f c j+Qr m T g d j) e j=Qr m T (λj=>f j+g j) (λi=>c i+d i+e i) j:=λj hj=>by
  rw[← Qlj (c:=λi=>c i+d i) (d:=e)]
  exact Qc3 j (a3 j hj) λ_ _=>rfl
 exact⟨⟨l3.trans (he.leg.Qnh a3),λj hj=>by rw[← e2 j hj];exact he.pos j hj,λj hj=>by rw[← e2 j hj];exact he.stb j hj⟩,e2⟩
theorem Told.one(tp:TP m T)(h:Told m T f c)(g:Told m T f d):∀i,i<m->c i=d i:=h.leg.unique tp g.leg h.stb g.stb
theorem Qtr{m:Nat}{R:List (Int×Int)}(hR:∀s∈R,Good m s):∀i j,i<m->j<m->i≠j->Qv m (Qh R []) i j=Qv m (Qh R []) j i:=λi j hi hj hij=>Qru hR hi hj hij
section
variable {R:List (Int×Int)}{m:Nat}{h a b:Nat->Int}
theorem Qf7{t:List Nat}{dep:Nat->Int}(D:Qcp R m t dep)(hh:∀p,p<m->QO R dep t p=h p):Qbm R m h dep:=by
 have key:∀v,v<m->h v=(QC R dep v).length+(QaU R dep v).length-1-Qac t (QC R dep v)/\Qac t (QC R dep v)<(QC R dep v).length:=λv hv=>by
  have e:=hh v hv
  unfold QO at e
  have:=QbU (R:=R) (dep:=dep) (p:=v)
  have:=Qfu D hv
  exact⟨by omega,by omega⟩
 exact⟨D.pit,D.val,λv hv=>by have:=key v hv;omega,λv hv=>by have:=key v hv;omega⟩
theorem QhG(hR:∀s∈R,Good m s)(M1:Qbm R m h a)(M2:Qbm R m h b)(d:Int)(ih:∀v,v<=m->(a v<d↔b v<d)){v:Nat}(hv:v<m)(e:a v=d):b v=d:=by
 have h0:=ih v (by omega)
 by_cases z:b v=d
 ·exact z
 ·have l1:=M1.lo v hv
  have l2:=M2.hi v hv
  have e1:QaU R a v=(Qaa R v).filter λk=>decide (d<=b (oe v (rd R k))):=by
   unfold QaU
   refine Zbp λk hk=>?_
   obtain⟨k1,k2⟩:=QbE.mp hk
   obtain⟨_,om,_,_⟩:=Qal (hR _ (QS k1)) k2
   have:=ih _ om
   rw[decide_eq_decide]
   omega
  have e2:=Qm2 (R:=R) (dep:=b) (p:=v)
  have e3:((Qaa R v).filter λk=>decide (b v-1<=b (oe v (rd R k)))).length<=((Qaa R v).filter λk=>decide (d<=b (oe v (rd R k)))).length:=by
   rw[← List.countP_eq_length_filter,← List.countP_eq_length_filter]
   refine List.countP_mono_left λk _ hk=>?_
   have:=of_decide_eq_true hk
   exact decide_eq_true (by omega)
  rw[e1]at l1
  omega
theorem QpM(hR:∀s∈R,Good m s)(M1:Qbm R m h a)(M2:Qbm R m h b):∀v,v<=m->a v=b v:=by
 have nn:∀{c:Nat->Int},Qbm R m h c->∀v,v<=m->0<=c v:=λM v hv=>by
  by_cases z:v<m
  ·have:=M.val v z;omega
  ·rw[show v=m by omega,M.pit];exact Zau _
 have key:∀(n:Nat) (v:Nat),v<=m->(a v<n↔b v<n):=by
  intro n
  induction n with
  | zero=>intro v hv;have:=nn M1 v hv;have:=nn M2 v hv;constructor<;>(intro z;omega)
  | succ n ih=>
   intro v hv
   by_cases z:v<m
   ·have i1:=ih v hv
    have h1:=QhG hR M1 M2 n ih z
    have h2:=QhG hR M2 M1 n (λv hv=>(ih v hv).symm) z
    constructor
    ·intro y
     by_cases w:a v=n
     ·have:=h1 w;omega
     ·have:=i1.mp (by omega);omega
    ·intro y
     by_cases w:b v=n
     ·have:=h2 w;omega
     ·have:=i1.mpr (by omega);omega
   ·rw[show v=m by omega,M1.pit,M2.pit]
 intro v hv
 have a0:=nn M1 v hv
 have b0:=nn M2 v hv
 have h1:=(key ((a v).toNat+1) v hv).mp (by omega)
 have h2:=(key ((b v).toNat+1) v hv).mpr (by omega)
 omega
theorem Qhv(hR:∀s∈R,Good m s)(e:∀v,v<=m->a v=b v){p:Nat}(hp:p<m):QC R a p=QC R b p/\QaU R a p=QaU R b p:=by
 constructor
 ·unfold QC
  refine Zbp λk hk=>?_
  obtain⟨k1,k2⟩:=QbE.mp hk
  obtain⟨_,om,_,_⟩:=Qal (hR _ (QS k1)) k2
  rw[e _ om,e p (by omega)]
 ·unfold QaU
  refine Zbp λk hk=>?_
  obtain⟨k1,k2⟩:=QbE.mp hk
  obtain⟨_,om,_,_⟩:=Qal (hR _ (QS k1)) k2
  rw[e _ om,e p (by omega)]
theorem QjJ{t:List Nat}:∀{l:List Nat},Qac t l<l.length->∃k,l[Qac t l]? =some k/\k∈t
 | [],z=>by simp at z
 | x::r,z=>by
  unfold Qac at z ⊢
  by_cases y:x∈t
  ·rw[if_pos y];exact⟨x,rfl,y⟩
  ·rw[if_neg y]at z ⊢
   rw[Zo]at z
   obtain⟨k,h1,h2⟩:=QjJ (t:=t) (l:=r) (by omega)
   exact⟨k,by simpa using h1,h2⟩
theorem QkZ(hR:∀s∈R,Good m s){t:List Nat}{dep:Nat->Int}(D:Qcp R m t dep)(hh:∀p,p<m->QO R dep t p=h p)(tl:t.length=m):((List.range m).map (QaG R dep h)).Perm t:=by
 have M:=Qf7 D hh
 refine QeT ?_ (λx hx=>?_) (by simp[tl])
 ·unfold List.Nodup
  rw[Zay]
  exact Zbf (λ{a b} x y ne e=>ne (M.inj hR (Zf.mp x) (Zf.mp y) e)) Zao
 ·obtain⟨p,hp,rfl⟩:=ZA.mp hx
  have hp:=Zf.mp hp
  have e:=hh p hp
  unfold QO at e
  have h3:=QbU (R:=R) (dep:=dep) (p:=p)
  have h4:=Qfu D hp
  obtain⟨k,h5,h6⟩:=QjJ h4
  have h7:=M.own hp
  rw[show((QC R dep p).length+(QaU R dep p).length-1-h p:Int).toNat=Qac t (QC R dep p) by omega,h5]at h7
  cases h7
  exact h6
theorem Qkv(hR:∀s∈R,Good m s){t1 t2:List Nat}(D1:Qcp R m t1 a)(D2:Qcp R m t2 b)(e1:∀p,p<m->QO R a t1 p=h p)(e2:∀p,p<m->QO R b t2 p=h p)(l1:t1.length=m)(l2:t2.length=m)(s1:t1.Pairwise (· < ·))(s2:t2.Pairwise (· < ·)):t1=t2:=by
 have e:=QpM hR (Qf7 D1 e1) (Qf7 D2 e2)
 have eo:(List.range m).map (QaG R a h)=(List.range m).map (QaG R b h):=ZD λp hp=>by
  obtain⟨n1,n2⟩:=Qhv hR e (Zf.mp hp)
  unfold QaG
  rw[n1,n2]
 have p1:=QkZ hR D1 e1 l1
 have p2:=QkZ hR D2 e2 l2
 rw[eo]at p1
 exact(p1.symm.trans p2).eq_of_pairwise (λx y _ _ h1 h2=>absurd (Zcf h1 h2) (ZU _)) s1 s2
theorem Qq0(hR:∀s∈R,Good m s){t:List Nat}(D1:Qcp R m t a)(D2:Qcp R m t b){p:Nat}(hp:p<m):QO R a t p=QO R b t p:=by
 have e:∀v,v<=m->a v=b v:=λv hv=>(Qff hR D1 v hv).symm.trans (Qff hR D2 v hv)
 obtain⟨n1,n2⟩:=Qhv hR e hp
 have h1:=QbU (R:=R) (dep:=a) (p:=p)
 have h2:=QbU (R:=R) (dep:=b) (p:=p)
 unfold QO
 rw[n1]
 rw[n1,n2]at h1
 omega
theorem Qq7(m0:0<m)(hR:∀s∈R,Good m s){t:List Nat}{dep:Nat->Int}(D:Qcp R m t dep):∀v,v<m->QR (Qh (QY R t) []) (Q3 m) m v=some (dep v):=by
 have hT:∀s∈QY R t,Good m s:=λs hs=>by
  obtain⟨k,hk,rfl⟩:=ZA.mp hs
  exact hR _ (QS (D.tl k hk))
 have gS:=QaK (L:=[]) hT (λs hs=>absurd hs (by simp))
 have pit:=(QkW gS m).pit
 have con:∀(n:Nat) (v:Nat),v<m->dep v=n->QR (Qh (QY R t) []) (Q3 m) m v≠none:=by
  intro n
  induction n with
  | zero=>intro v hv e;have:=D.val v hv;omega
  | succ n ih=>
   intro v hv e z
   obtain⟨k,h1,h2,h3⟩:=D.pred v hv
   have g:=hR _ (QS (D.tl k h1))
   obtain⟨o1,o2,o3,o4⟩:=Qal g h2
   have mem:rd R k∈QY R t:=ZA.mpr ⟨k,h1,rfl⟩
   have hu:QR (Qh (QY R t) []) (Q3 m) m (oe v (rd R k))=none:=by
    rcases o4 with⟨x,y⟩ | ⟨x,y⟩
    ·have:=Qg8 m0 gS hv z (rd R k) (by unfold Qh;simp[mem]) (by omega)
     rwa[show(rd R k).2.toNat=oe v (rd R k) by omega]at this
    ·have:=Qg8 m0 gS hv z (rd R k).swap (by unfold Qh;rw[Zag,ZK,ZA];exact .inr ⟨rd R k,mem,rfl⟩) (by simp;omega)
     rwa[show(rd R k).swap.2.toNat=oe v (rd R k) by simp;omega]at this
   by_cases w:oe v (rd R k)=m
   ·rw[w,pit]at hu;cases hu
   ·exact ih _ (by omega) (by omega) hu
 obtain⟨dep',D',e'⟩:=QoA hR D.tl λv hv=>con (dep v).toNat v hv (by have:=D.val v hv;omega)
 intro v hv
 rw[e' v hv,← Qff hR D v (by omega),← Qff hR D' v (by omega)]
end
section
variable {m:Nat}{T:Nat->Nat->Int}
theorem QdB(pos:∀i j,i<m->j<m->i≠j->0<=T i j){g:Nat->Int}{F:List Nat}(nd:F.Nodup)(lt:∀o∈F,o<m)(fb:∀v∈F,g v<Q2 T v F):∀(k v:Nat),v∈F->v∈Qz T g m k
 | 0,v,hv=>Zf.mpr (lt v hv)
 | k+1,v,hv=>by
  refine QbV.mpr ⟨QdB pos nd lt fb k v hv,λz=>?_⟩
  have h1:=(Qbo.mp z).2
  have h2:=QhI pos (lt v hv) nd (QbY (T:=T) (h:=g) (m:=m) k) (λo ho=>QaX ho) (λo ho=>QdB pos nd lt fb k o ho)
  have:=fb v hv
  omega
theorem QhM{u:Nat}{l k:List Nat}(h:l.Perm k):Q2 T u l=Q2 T u k:=by
 unfold Q2
 induction h with
 | nil=>rfl
 | cons x _ ih=>
  simp only[Zai]
  split
  ·rw[Zx,Zx,ZR,ZR,ih]
  ·exact ih
 | swap x y l=>
  simp only[Zai]
  split<;>split<;>simp only[Zx,ZR]<;>omega
 | trans _ _ i1 i2=>exact i1.trans i2
theorem QpH(sym:∀i j,i<m->j<m->i≠j->T i j=T j i)(pos:∀i j,i<m->j<m->i≠j->0<=T i j){g g':Nat->Int}{p:Nat}{t:Int}(hp:p<m)(t0:0<=t)(leg:t*(0-T p p)<=g p)(e:∀j,j<m->g' j=g j+t*T p j)(B:∀v,v∉Qz T g m m):∀v,v∉Qz T g' m m:=by
 intro v hv
 have nd:=QbY (T:=T) (h:=g') (m:=m) m
 have lt:∀o∈Qz T g' m m,o<m:=λo ho=>QaX ho
 have few:∀u∈Qz T g' m m,g' u<Q2 T u (Qz T g' m m):=λu hu=>Qrt hu
 generalize Qz T g' m m=F at *
 by_cases hpF:p∈F
 ·have pe:=List.perm_cons_erase hpF
  have ndE:(F.erase p).Nodup:=nd.erase p
  have sub:∀o∈F.erase p,o∈F/\o≠p:=λo ho=>⟨List.mem_of_mem_erase ho,λz=>by subst z;exact(Zac.mp (pe.nodup nd)).1 ho⟩
  by_cases tz:t=0
  ·refine B v (QdB pos nd lt (λu hu=>?_) m v hv)
   have:=few u hu
   rw[e u (lt u hu),tz,Zbn,Int.add_zero]at this
   exact this
  ·cases hE:F.erase p with
   | nil=>
    have h1:=few p hpF
    rw[QhM pe,hE]at h1
    have h2:Q2 T p [p]=0:=by unfold Q2;simp
    rw[h2,e p hp]at h1
    rw[Int.mul_sub,Int.mul_zero]at leg
    omega
   | cons w r=>
    have hw:w∈F.erase p:=by rw[hE];exact Zh
    refine B w (QdB pos ndE (λo ho=>lt o (sub o ho).1) (λu hu=>?_) m w hw)
    obtain⟨u1,u2⟩:=sub u hu
    have h1:=few u u1
    rw[QhM pe,e u (lt u u1)]at h1
    have h2:Q2 T u (p::F.erase p)=T u p+Q2 T u (F.erase p):=by
     unfold Q2
     rw[Zai,if_pos (decide_eq_true (Ne.symm u2)),Zx,ZR]
    rw[h2,sym u p (lt u u1) hp u2]at h1
    have h3:=pos p u hp (lt u u1) (Ne.symm u2)
    have h4:T p u<=t*T p u:=by
     have:=ZaT (show(1:Int)<=t by omega) h3
     rwa[Zcq]at this
    omega
 ·refine B v (QdB pos nd lt (λu hu=>?_) m v hv)
  have h1:=few u hu
  rw[e u (lt u hu)]at h1
  have h3:=Zbo t0 (pos p u hp (lt u hu) λz=>hpF (z▸hu))
  omega
theorem Qp9(sym:∀i j,i<m->j<m->i≠j->T i j=T j i)(pos:∀i j,i<m->j<m->i≠j->0<=T i j){f c:Nat->Int}(B:∀v,v∉Qz T f m m)(L:Leg m T f c):∀v,v∉Qz T (Qr m T f c) m m:=by
 induction L with
 | nil=>
  intro v hv
  refine B v (Qez pos (λj hj=>?_) m v hv)
  unfold Qr
  simp[QaQ]
 | step _ hp t0 le ih=>exact QpH sym pos hp t0 le (λj _=>Qgu hp j) ih
end
theorem Qni{R:List (Int×Int)}{m:Nat}(hw:QcY m R []){h f c:Nat->Int}(hc:Qb9 R m h (QP (Qv m (Qh R [])) h m m)=true)(hf:∀j,j<m->h j<=f j)(ht:Told m (Qv m (Qh R [])) f c):
  Qb9 R m (Qr m (Qv m (Qh R [])) f c) (QP (Qv m (Qh R [])) (Qr m (Qv m (Qh R [])) f c) m m)=true:=by
 have hR:=hw.good.1
 have tp:=hw.tp
 have B:∀v,v∉Qz (Qv m (Qh R [])) h m m:=λv hv=>by
  unfold Qb9 at hc
  rw[Zk,Zas,Zav]at hc
  have:=hc.2 v (Zf.mpr (QaX hv))
  rw[(QdF m v (QaX hv)).mpr hv]at this
  exact this rfl
 have B2:=Qp9 (Qtr hR) tp.pos (λv hv=>B v (Qez tp.pos hf m v hv)) ht.leg
 refine QhC λi hi=>⟨λz=>B2 i ((QdF m i hi).mp z),?_⟩
 rw[← hw.neg hi]
 exact ht.stb i hi
end HS
namespace HS
open PySem L2
theorem QlP{x:Nat}{fi fa:DE}{ρ:En}{ri r:R}{A:List (Int×Int)}{p:Int×Int}{i:Int}{Q:Out->Prop}(hx:ρ[x]? =some (some (Qk A,true)))(hi:fi ρ=some ri)(ei:ri.d= .int i)(ha:fa ρ=some r)(hf:r.d=pairD p)(h0:0<=i)(h1:i<2^62)(hl:A.length<16777216)
  (q:Q (.nx (ρ.set x (some (Qk (Qab A (min i.toNat A.length) p),true))))):Run (Qgm x QU fi fa) ρ Q:=by
 refine⟨_,?_,q⟩
 unfold Qgm
 rw[hx]
 simp only[QU,Za,hi,ha,Qbx,Qk,ei,hf,Zd,QeA]
 rw[if_pos ⟨rfl,h0,h1,hl⟩]
 simp only[QaO,Qmq]
theorem QmU(W:List (Int×Int×Bool))(k:Nat)(w:Int×Int×Bool):Qab (prs W) (min k (prs W).length) (Qbq w)=prs (Qab W (min k W.length) w):=by
 unfold prs
 rw[Qmq,Zd]
noncomputable def QdO:DS:=(Qe (Qy 2 (QfG (Qa 1))) (Qe (Qy 3 (Q1 Qg)) (Qe (Qy 4 (Q1 Qg)) (Qe (QaH (QaT (Qa 1)) (.nm 5) (Qe (QcT (.tp [6,7]) (dDm (Qb (Qi (Qa 0) (Qa 5)) (Qb (dBf QaS (Qb (Qa 2) Qg)) Qg)))) (Qe (QcT (.tp [6,8]) (dDm (Qb (Qa 6) (Qb (QQ (Qa 5) (dC (.int 1))) Qg)))) (Qe (Qy 9 (Qcw (Qa 1))) (Qe (sIf (QA (dOp gLt (Qa 8) (Qa 5))) (Qe (Qy 9 (Qcw (Qi (Qa 3) (Qa 8)))) Qp) Qp) (Qe (Qd7 3 2 (Qa 7)) (Qe (Qgm 4 QU (dOp Qbz (Qa 6) (QQ (Qa 5) (dC (.int 1)))) (Qbu (Qb (Qi (Qa 3) (Qa 5)) (Qb (Qa 9) Qg)))) Qp))))))) (Qe (QZ (Qa 4)) Qp)))))
def QiJ(d:Den):Prop:=∀(m:Nat) (cs:List Int),0<m->m<=1000->m<=cs.length->(∀c∈cs,0<=c/\c<B40)->∃W,d [Qm cs,.int m]=some (Qk (prs W),true)/\W.length=m/\(∀w∈W,GoodW m w)/\Esc m W
theorem Qp7:QiJ (Qs 10 QdO):=λm cs m0 hm hcl hcs=>by
 have key:Run QdO (Qam 10 [Qm cs,.int m]) (Rt λd fr=>∃W,d=Qk (prs W)/\fr=true/\W.length=m/\(∀w∈W,GoodW m w)/\Esc m W):=by
  refine run_seq (Qo (r:=⟨Qm ((List.range m).map λ(k:Nat)=>(k:Int)),true,[]⟩) ?_ ?_)
  ·show(if 0<=(m:Int)/\(m:Int)<=1000000 then some (HS.R.mk (.lst ((List.range (m:Int).toNat).map λ(k:Nat)=> .int (k:Int))) true [])else none)=_
   rw[if_pos ⟨by omega,by omega⟩]
   unfold Qm
   rw[ZP];rfl
  rw[Qq]
  refine run_seq (Qo (r:=⟨Qm [],true,[]⟩) rfl ?_)
  rw[Qq]
  refine run_seq (Qo (r:=⟨Qk (prs []),true,[]⟩) rfl ?_)
  rw[Qq]
  refine run_seq (QX (List.range m) (λk ρ=>∃(Rs O:List Int) (W:List (Int×Int×Bool)) (j6 j7 j8 j9 j10:Option (D×Bool)),O.length=k/\(O++Rs).Perm ((List.range m).map λ(k:Nat)=>(k:Int))/\W.length=k/\(∀w∈W,∃j,Qgp m O w j)/\(∀j,j<k->∃w∈W,Qgp m O w j)∧
    ρ=[some (Qm cs,false),some (.int m,true),some (Qm Rs,true),some (Qm O,true),some (Qk (prs W),true),j6,j7,j8,j9,j10]) (Qbv (n:=m) (r:=⟨.int m,true,[]⟩) rfl rfl (by omega)) rfl ⟨_,[],[],none,none,none,none,none,rfl,by simp,rfl,by simp,λj hj=>absurd hj (by omega),rfl⟩ ?_ ?_)
  ·rintro k k' ρ hk ⟨Rs,O,W,j6,j7,j8,j9,j10,hO,hP,hWl,hW1,hW2,rfl⟩
   have hk':k<m/\k=k':=by
    obtain⟨h1,h2⟩:=Zb.mp hk
    simp at h1 h2;exact⟨h1,h2⟩
   obtain⟨hkm,rfl⟩:=hk'
   have hRl:Rs.length=m-k:=by have:=hP.length_eq;simp at this;omega
   obtain⟨c,hc⟩:∃c,cs[k]? =some c:=⟨cs[k]'(by omega),Zp (by omega)⟩
   have hc0:=(hcs c (Zy hc))
   refine⟨_,rfl,?_⟩
   have elen:dBf QaS (Qb (Qa 2) Qg) [some (Qm cs,false),some (.int m,true),some (Qm Rs,true),some (Qm O,true),some (Qk (prs W),true),some (.int k,true),j7,j8,j9,j10]=some ⟨.int Rs.length,true,[]⟩:=by
    rw[Qcb (r:=⟨Qm Rs,true,[2]⟩) (xs:=Rs.map D.int) rfl rfl,Zd]
   refine run_seq (Qgh (a:=c) (b:=Rs.length) (QcE (ns:=cs) (i:=k) rfl rfl rfl rfl (by omega) (by simpa using hc)) rfl elen rfl (by omega) (by omega) ?_)
   have a1:=ZN c (by omega:(Rs.length:Int)≠0)
   have a2:=ZL c (by omega:(0:Int)<Rs.length)
   have a3:0<=c / Rs.length:=ZaX hc0.1 (by omega)
   generalize c % (Rs.length:Int)=at' at a1 a2
   generalize c / (Rs.length:Int)=nb at a3
   refine run_seq (Qgh (a:=nb) (b:=(k:Int)+1) rfl rfl (Qad (a:=(k:Int)) (b:=1) rfl rfl rfl rfl) rfl (by omega) (by omega) ?_)
   have b1:=ZN nb (by omega:(k:Int)+1≠0)
   have b2:=ZL nb (by omega:(0:Int)<(k:Int)+1)
   have b3:0<=nb / ((k:Int)+1):=ZaX a3 (by omega)
   generalize nb % ((k:Int)+1)=to at b1 b2
   generalize nb / ((k:Int)+1)=nc at b3
   refine run_seq (Qo (r:=⟨.int m,false,[]⟩) rfl ?_)
   rw[QfO rfl]
   refine Qaj (P:=λρ=>∃e:Int,(e=m∨∃i,i<k/\O[i]? =some e)/\ρ=[some (Qm cs,false),some (.int m,true),some (Qm Rs,true),some (Qm O,true),some (Qk (prs W),true),some (.int k,true),some (.int nc,true),some (.int at',true),some (.int to,true),some (.int e,true)]) ?_ ?_
   ·refine QW (b:=decide (to<k)) (QF (b:=decide (to<k)) rfl rfl) (λh=>?_) (λ_=>Qn ⟨m,.inl rfl,rfl⟩)
    have h:=of_decide_eq_true h
    obtain⟨e,he⟩:∃e,O[to.toNat]? =some e:=⟨O[to.toNat]'(by omega),Zp (by omega)⟩
    exact run_seq (Qo (Qhq (QcE (ns:=O) (i:=to) (ra:=⟨Qm O,true,[3]⟩) rfl rfl rfl rfl b1 he)) (Qn ⟨e,.inr ⟨to.toNat,by omega,he⟩,by rw[QfO rfl];rfl⟩))
   rintro ρ ⟨e,he,rfl⟩
   obtain⟨b,hb⟩:∃b,Rs[at'.toNat]? =some b:=⟨Rs[at'.toNat]'(by omega),Zp (by omega)⟩
   refine run_seq (Qnd (A:=O) (B:=Rs) (i:=at') (b:=b) rfl rfl rfl rfl (by decide) a1 (by omega) hb (by omega) ?_)
   have c1:=ZN (nc) (by omega:(k:Int)+1≠0)
   have c2:=ZL (nc) (by omega:(0:Int)<(k:Int)+1)
   have hOb:(O++[b])[k]? =some b:=by rw[ZaG (by omega)];simp[hO]
   have eidx:=QcE (fa:=Qa 3) (fb:=Qa 5) (ns:=O++[b]) (i:=k) (v:=b) (ra:=⟨Qm (O++[b]),true,[3]⟩) (ρ:=[some (Qm cs,false),some (.int m,true),some (Qm (Rs.eraseIdx at'.toNat),true),some (Qm (O++[b]),true),some (Qk (prs W),true),some (.int k,true),some (.int nc,true),some (.int at',true),some (.int to,true),some (.int e,true)]) rfl rfl rfl rfl (by omega) (by simpa using hOb)
   have ew:Qbu (Qb (Qi (Qa 3) (Qa 5)) (Qb (Qa 9) Qg)) [some (Qm cs,false),some (.int m,true),some (Qm (Rs.eraseIdx at'.toNat),true),some (Qm (O++[b]),true),some (Qk (prs W),true),some (.int k,true),some (.int nc,true),some (.int at',true),some (.int to,true),some (.int e,true)]=some ⟨pairD (Qbq (b,e,false)),true,[]⟩:=by
    unfold Qbu
    rw[Qw eidx (Qw (r:=⟨.int e,true,[]⟩) rfl (Q0 _))]
    rfl
   have fr:Qgp m (O++[b]) (b,e,false) k:=by
    refine⟨hOb,?_⟩
    rcases he with he | ⟨i,hi,he⟩
    ·exact .inl he
    ·exact .inr ⟨i,hi,by rw[ZV (by omega)];exact he⟩
   refine run_seq (QlP (A:=prs W) (p:=Qbq (b,e,false)) rfl (Qbj (a:=nc) (b:=(k:Int)+1) rfl rfl (Qad (a:=(k:Int)) (b:=1) rfl rfl rfl rfl) rfl (by omega)) rfl ew rfl c1 (by omega) (by unfold prs;rw[Zd];omega) (Qn ⟨Rs.eraseIdx at'.toNat,O++[b],Qab W (min (nc % ((k:Int)+1)).toNat W.length) (b,e,false),some (.int k,true),some (.int nc,true),some (.int at',true),some (.int to,true),some (.int e,true),by simp[hO],?_,by rw[QmL,hWl],?_,?_,by rw[QmU];rfl⟩))
   ·refine List.Perm.trans ?_ hP
    rw[ZaQ]
    refine List.Perm.append_left O ?_
    exact QhE Rs _ b hb
   ·intro w hw
    rcases QeY.mp hw with rfl | hw
    ·exact⟨k,fr⟩
    ·obtain⟨j,hj⟩:=hW1 w hw;exact⟨j,hj.app⟩
   ·intro j hj
    by_cases hjk:j=k
    ·subst hjk;exact⟨_,QeY.mpr (.inl rfl),fr⟩
    ·obtain⟨w,hw,hf⟩:=hW2 j (by omega);exact⟨w,QeY.mpr (.inr hw),hf.app⟩
  ·rintro ρ ⟨Rs,O,W,j6,j7,j8,j9,j10,hO,hP,hWl,hW1,hW2,rfl⟩
   rw[ZE]at *
   have hR0:Rs=[]:=by have:=hP.length_eq;simp at this;exact Zae (by omega)
   subst hR0
   rw[Zag]at hP
   have nd:O.Nodup:=hP.nodup_iff.mpr (by
    rw[ZaY,Zay]
    exact List.Pairwise.imp (λh z=>h (by omega)) Zao)
   have mem:∀x∈O,0<=x/\x<m:=λx hx=>by
    obtain⟨k,hk,rfl⟩:=ZA.mp (hP.mem_iff.mp hx)
    have:=Zf.mp hk
    omega
   exact QL (r:=⟨Qk (prs W),true,[4]⟩) rfl ⟨W,rfl,rfl,hWl,λw hw=>let ⟨j,hj⟩:=hW1 w hw;QpE nd mem hj,QuT hP hW2⟩
 obtain⟨o,h1,h2⟩:=key
 cases o with
 | rt d fr=>
  obtain⟨W,rfl,rfl,h3,h4,h5⟩:=h2
  exact⟨W,by unfold Qs;rw[h1];rfl,h3,h4,h5⟩
 | _=>exact h2.elim
theorem QeJ:∀xs ys:List Int,PyData.eqvAll (pys (xs.map D.int)) (pys (ys.map D.int))=decide (xs=ys)
 | [],[]=>rfl
 | [],y::ys=>rfl
 | x::xs,[]=>rfl
 | x::xs,y::ys=>by
  have ih:=QeJ xs ys
  show(PyData.eqv (D.int x).py (D.int y).py && PyData.eqvAll (pys (xs.map D.int)) (pys (ys.map D.int)))=_
  rw[ih]
  show((x == y) && decide (xs=ys))=_
  by_cases a:x=y
  ·subst a
   by_cases b:xs=ys
   ·subst b;simp
   ·simp[b]
  ·simp[a]
theorem Qsd{m:Nat}{f g:Nat->Int}:deq (Qc m f) (Qc m g)=decide (∀j,j<m->f j=g j):=by
 rw[QeC,QeC]
 show PyData.eqvAll (pys (((List.range m).map f).map D.int)) (pys (((List.range m).map g).map D.int))=_
 rw[QeJ]
 congr 1
 rw[eq_iff_iff]
 constructor
 ·intro h j hj
  have:=congrArg (λl:List Int=>l[j]?) h
  simpa[hj]using this
 ·intro h
  exact ZD λj hj=>h j (Zf.mp hj)
theorem Qtd{fa:DE}{ρ:En}{m:Nat}{a c:Nat->Int}(h:fa ρ=some ⟨.tup [Qc m a,Qc m c],true,[]⟩):Qi fa (dC (.int 0)) ρ=some ⟨Qc m a,true,[]⟩:=by
 unfold Qi
 rw[h];rfl
noncomputable def Qdk(Qcf:Den):DS:=(Qe (Qy 1 (QQ (dC (.int 1)) (dOp Qbz (Qi (Qa 0) (dC (.int 0))) (dC (.int 6))))) (Qe (Qy 2 (QB 2 Qcf [] (Qb (Qc7 (Qa 0) (Qa6 (dC (.int 2))) (Qa6 (dC (.int 8)))) (Qb (Qa 1) Qg)))) (Qe (QaH (Q7 (Qc7 (Qa 0) (Qa6 (dC (.int 8))) (Qa6 (QQ (dC (.int 8)) (dOp Qbz (Qi (Qa 0) (dC (.int 1))) (dOp Qb2 (dC (.int 17)) (Qa 1))))))) (.nm 3) (Qe (QcT (.tp [4,5]) (dDm (Qb (Qa 3) (Qb (QQ (Qa 1) (dC (.int 1))) Qg)))) (Qe (QcT (.tp [4,6]) (dDm (Qb (Qa 4) (Qb (Qa 1) Qg)))) (Qe (Qgm 2 QU (dOp Qbz (Qa 4) (QQ (dBf QaS (Qb (Qa 2) Qg)) (dC (.int 1)))) (Qbu (Qb (Qa 5) (Qb (dOp Qbz (QQ (QQ (Qa 5) (dC (.int 1))) (Qa 6)) (QQ (Qa 1) (dC (.int 1)))) Qg)))) Qp)))) (Qe (QZ (Qbu (Qb (Qa 1) (Qb (Qaf (Q7 (Qa 2)) (.nm 1) [none,none] Qb3 (Qbu (Qb (dBf Qdy (Qb (Qa 1) Qg)) (Qb (dBf Qda (Qb (Qa 1) Qg)) Qg)))) (Qb (Q1 Qg) Qg))))) Qp))))
def QiZ(d:Den):Prop:=∀cs:List Int,cs.length=42->(∀c∈cs,0<=c/\c<B40)->∃(m:Nat) (R:List (Int×Int)),d [Qm cs]=some (Qj m R [],true)/\0<m/\m<=8/\QcY m R []
theorem QqM{db:Den}(hb:QiJ db):QiZ (Qs 7 (Qdk db)):=λcs hl hcs=>by
 have cell:∀k:Nat,k<42->∃c,cs[k]? =some c/\0<=c/\c<B40:=λk hk=>⟨cs[k]'(by omega),Zp (by omega),hcs _ (Zca _)⟩
 obtain⟨c0,e0,p0,_⟩:=cell 0 (by decide)
 obtain⟨c2,e2,p2,_⟩:=cell 1 (by decide)
 have b1:=ZN c0 (by decide:(6:Int)≠0)
 have b2:=ZL c0 (by decide:(0:Int)<6)
 obtain⟨m,em1⟩:∃m:Nat,(m:Int)=1+c0 % 6:=⟨(1+c0 % 6).toNat,by omega⟩
 have m0:0<m:=by omega
 have m8:m<=8:=by omega
 have key:Run (Qdk db) (Qam 7 [Qm cs]) (Rt λd fr=>∃(m:Nat) (R:List (Int×Int)),d=Qj m R []/\fr=true/\0<m/\m<=8/\QcY m R []):=by
  have idx:∀{ρ:En}(k:Nat) (c:Int),ρ[0]? =some (some (Qm cs,false))->cs[k]? =some c->Qi (Qa 0) (dC (.int k)) ρ=some ⟨.int c,true,[]⟩:=λ{ρ} k c h0 hc=>QcE (ns:=cs) (i:=k) (QbK h0) rfl (Qvp _ _) rfl (by omega) (by simpa using hc)
  refine run_seq (Qo (Qad (a:=1) rfl rfl (Qbj (b:=6) (idx 0 c0 rfl e0) rfl rfl rfl (by decide)) rfl) ?_)
  rw[Qq,← em1]
  obtain⟨W0,hbase,lW0,gW0,esc0⟩:=hb m ((cs.drop (min 2 cs.length)).take (min 8 cs.length-min 2 cs.length)) (by omega) (by omega) (by rw[Zah,Zan];omega) λc hc=>hcs c (QmJ hc)
  refine run_seq (Qo (Qx (Qw (Qiq (cs:=cs) (a:=2) (b:=8) (ra:=⟨Qm cs,false,[]⟩) rfl rfl rfl rfl rfl rfl) (Qw (r:=⟨.int m,true,[]⟩) rfl (Q0 _))) hbase rfl) ?_)
  rw[Qq]
  have d1:=ZN c2 (by omega:(17:Int)-m≠0)
  have d2:=ZL c2 (by omega:0<(17:Int)-m)
  obtain⟨q,eq⟩:∃q:Nat,(q:Int)=8+c2 % (17-m):=⟨(8+c2 % (17-m)).toNat,by omega⟩
  have eh:QQ (dC (.int 8)) (dOp Qbz (Qi (Qa 0) (dC (.int 1))) (dOp Qb2 (dC (.int 17)) (Qa 1))) [some (Qm cs,false),some (.int m,true),some (Qk (prs W0),true),none,none,none,none]=some ⟨.int q,true,[]⟩:=by
   rw[eq]
   exact Qad (a:=8) rfl rfl (Qbj (a:=c2) (b:=17-m) (idx 1 c2 rfl e2) rfl (rb:=⟨.int (17-m),true,[]⟩) rfl rfl (by omega)) rfl
  have esl:=Qiq (cs:=cs) (a:=8) (b:=q) (fa:=Qa 0) (fl:=dC (.int 8)) (ρ:=[some (Qm cs,false),some (.int m,true),some (Qk (prs W0),true),none,none,none,none]) (ra:=⟨Qm cs,false,[]⟩) rfl rfl rfl rfl eh rfl
  generalize efu:(cs.drop (min 8 cs.length)).take (min q cs.length-min 8 cs.length)=fu at esl
  have hfu:∀c∈fu,0<=c/\c<B40:=λc hc=>hcs c (by rw[← efu]at hc;exact QmJ hc)
  have lfu:fu.length<=63:=by rw[← efu,Zah,Zan];omega
  refine Qaj (P:=λρ=>∃(W:List (Int×Int×Bool)) (j3 j4 j5 j6:Option (D×Bool)),W.length<=100/\(∀w∈W,GoodW m w)/\(∀w∈W0,w∈W)/\ρ=[some (Qm cs,false),some (.int m,true),some (Qk (prs W),true),j3,j4,j5,j6]) ?_ ?_
  ·refine QX (toD:=D.int) fu (λi ρ=>∃(W:List (Int×Int×Bool)) (j3 j4 j5 j6:Option (D×Bool)),W.length<=W0.length+i/\(∀w∈W,GoodW m w)/\(∀w∈W0,w∈W)/\ρ=[some (Qm cs,false),some (.int m,true),some (Qk (prs W),true),j3,j4,j5,j6]) (QaZ esl rfl) rfl ⟨W0,none,none,none,none,by omega,gW0,λw hw=>hw,rfl⟩ ?_ ?_
   ·rintro i c ρ hi ⟨W,j3,j4,j5,j6,hw1,hw2,hw3,rfl⟩
    have hil:i<fu.length:=(Zb.mp hi).1
    have hc:=hfu c (Zy hi)
    refine⟨_,rfl,?_⟩
    refine run_seq (Qgh (a:=c) (b:=(m:Int)+1) rfl rfl (Qad (a:=(m:Int)) (b:=1) rfl rfl rfl rfl) rfl (by omega) (by omega) ?_)
    have a1:=ZN c (by omega:(m:Int)+1≠0)
    have a2:=ZL c (by omega:(0:Int)<(m:Int)+1)
    have a3:0<=c / ((m:Int)+1):=ZaX hc.1 (by omega)
    generalize c % ((m:Int)+1)=st at a1 a2
    generalize c / ((m:Int)+1)=nb at a3
    refine run_seq (Qgh (a:=nb) (b:=m) rfl rfl rfl rfl (by omega) (by omega) ?_)
    have b1:=ZN nb (by omega:(m:Int)≠0)
    have b2:=ZL nb (by omega:(0:Int)<(m:Int))
    have b3:0<=nb / (m:Int):=ZaX a3 (by omega)
    generalize nb % (m:Int)=sp at b1 b2
    generalize nb / (m:Int)=nc at b3
    have gw:=QpU (m:=m) (a:=st) (s:=sp) (ln:=false) a1 (by omega) b1 b2 (λz=>by cases z)
    have elen:∀{ρ:En},ρ[2]? =some (some (Qk (prs W),true))->dBf QaS (Qb (Qa 2) Qg) ρ=some ⟨.int W.length,true,[]⟩:=λ{ρ} h=>by
     rw[Qcb (xs:=(prs W).map pairD) (QbK h) rfl,Zd]
     unfold prs
     rw[Zd]
    have c1:=ZN nc (by omega:(W.length:Int)+1≠0)
    have c2:=ZL nc (by omega:(0:Int)<(W.length:Int)+1)
    refine run_seq (QlP (A:=prs W) (p:=Qbq (st,(st+1+sp) % ((m:Int)+1),false)) (i:=nc % ((W.length:Int)+1)) (r:=⟨pairD (Qbq (st,(st+1+sp) % ((m:Int)+1),false)),true,[]⟩) rfl (Qbj (a:=nc) (b:=(W.length:Int)+1) rfl rfl (Qad (a:=(W.length:Int)) (b:=1) (elen rfl) rfl rfl rfl) rfl (by omega)) rfl ?_ rfl c1 (by omega) (by unfold prs;rw[Zd];omega) (Qn ⟨Qab W (min (nc % ((W.length:Int)+1)).toNat W.length) (st,(st+1+sp) % ((m:Int)+1),false),some (.int c,true),some (.int nc,true),some (.int st,true),some (.int sp,true),by rw[QmL];omega,λw hw=>?_,λw hw=>QeY.mpr (.inr (hw3 w hw)),by rw[QmU];rfl⟩))
    ·unfold Qbu
     refine(congrArg (λz=>Option.bind z _) (Qw (r:=⟨.int st,true,[]⟩) rfl (Qw (Qbj (a:=st+1+sp) (b:=(m:Int)+1) (Qad (Qad (a:=st) (b:=1) rfl rfl rfl rfl) rfl rfl rfl) rfl (Qad (a:=(m:Int)) (b:=1) rfl rfl rfl rfl) rfl (by omega)) (Q0 _)))).trans ?_
     rfl
    ·rcases QeY.mp hw with rfl | h
     ·exact gw
     ·exact hw2 w h
   ·rintro ρ ⟨W,j3,j4,j5,j6,hw1,hw2,hw3,rfl⟩
    exact⟨W,_,_,_,_,by omega,hw2,hw3,rfl⟩
  rintro ρ ⟨W,j3,j4,j5,j6,hw1,hw2,hw3,rfl⟩
  have er:=Qa3 (fi:=Q7 (Qa 2)) (t:= .nm 1) (cap:=[none,none]) (fe:=Qbu (Qb (dBf Qdy (Qb (Qa 1) Qg)) (Qb (dBf Qda (Qb (Qa 1) Qg)) Qg))) (ρ:=[some (Qm cs,false),some (.int m,true),some (Qk (prs W),true),j3,j4,j5,j6])
   (toD:=λw=>pairD (Qbq w)) (out:=λw=>pairD (Qb8 w)) W (QaZ (r:=⟨Qk (prs W),true,[2]⟩) rfl rfl) (by show List.map pairD (W.map Qbq)=_;rw[ZP];rfl) λw _=>⟨[none,some (pairD (Qbq w),true)],rfl,⟨pairD (Qb8 w),true,[]⟩,by
    unfold Qbu
    refine(congrArg (λz=>Option.bind z _) (Qw (Qqo (s:=Qbq w) (r:=⟨pairD (Qbq w),true,[]⟩) rfl rfl) (Qw (QrA (s:=Qbq w) (r:=⟨pairD (Qbq w),true,[]⟩) rfl rfl) (Q0 _)))).trans ?_
    rfl,rfl,rfl⟩
  refine QL (r:=⟨Qj m (W.map Qb8) [],true,[]⟩) ?_ ⟨m,W.map Qb8,rfl,rfl,m0,m8,Qob (esc0.mono hw3) hw2 (by omega)⟩
  unfold Qbu
  refine(congrArg (λz=>Option.bind z _) (Qw (r:=⟨.int m,true,[]⟩) rfl (Qw er (Qw (r:=⟨.lst [],true,[]⟩) rfl (Q0 _))))).trans ?_
  show some _=some _
  congr 2
  unfold Qj Qk
  rw[ZP]
  rfl
 obtain⟨o,h1,h2⟩:=key
 cases o with
 | rt d fr=>
  obtain⟨m,R,rfl,rfl,h3⟩:=h2
  exact⟨m,R,by unfold Qs;rw[h1];rfl,h3⟩
 | _=>exact h2.elim
noncomputable def Qc8:DS:=(Qe (Qy 2 (Q1 (Qb (Qi (Qa 1) (dC (.int 0))) Qg))) (Qe (Qy 3 (Q1 Qg)) (Qe (QaH (QaT (Qi (Qa 1) (dC (.int 0)))) (.nm 4) (Qe (Qy 5 (Q1 Qg)) (Qe (QaH (QaT (dBf QaS (Qb (Qi (Qa 1) (dC (.int 1))) Qg))) (.nm 6) (Qe (sIf (QA (dOp gNe (dOp (gIn false) (Qi (Qi (Qi (Qa 1) (dC (.int 1))) (Qa 6)) (dC (.int 0))) (Qa 2)) (dOp (gIn false) (Qi (Qi (Qi (Qa 1) (dC (.int 1))) (Qa 6)) (dC (.int 1))) (Qa 2)))) (Qe (QcM 5 QU (Qa 6)) Qp) Qp) Qp)) (Qe (QcM 3 QU (Qi (Qa 5) (dOp Qbz (Qi (Qa 0) (QQ (dC (.int 23)) (Qa 4))) (dBf QaS (Qb (Qa 5) Qg))))) (Qe (QaH (Q7 (Qi (Qi (Qa 1) (dC (.int 1))) (Qi (Qa 3) (Qa 4)))) (.nm 7) (Qe (sIf (QA (dOp (gIn true) (Qa 7) (Qa 2))) (Qe (QcM 2 QU (Qa 7)) Qp) Qp) Qp)) Qp))))) (Qe (QZ (Qgw (Qb (Qa 3) Qg))) Qp))))
def Qhf(d:Den):Prop:=∀(cs:List Int) (m:Nat) (R:List (Int×Int)),cs.length=42->0<m->m<=8->QcY m R []->∃t,d [Qm cs,Qj m R []]=some (Qd t,true)/\Qhy R m t
theorem Qpg:Qhf (Qs 8 Qc8):=λcs m R hl m0 m8 hw=>by
 have hR:=hw.good.1
 have hRl:R.length<=200:=hw.good.2.2.1
 have key:Run Qc8 (Qam 8 [Qm cs,Qj m R []]) (Rt λd fr=>∃t,d=Qd t/\fr=true/\Qhy R m t):=by
  have it:∀{ρ:En},ρ[1]? =some (some (Qj m R [],false))->Qa 1 ρ=some ⟨Qj m R [],false,[]⟩:=λh=>QbK h
  refine run_seq (Qo (r:=⟨Qd [m],true,[]⟩) rfl ?_)
  rw[Qq]
  refine run_seq (Qo (r:=⟨Qd [],true,[]⟩) rfl ?_)
  rw[Qq]
  refine Qaj (P:=λρ=>∃dn tr j5 j6 j7 j9,dn.length=m+1/\tr.length=m/\Qdz R m dn tr/\ρ=[some (Qm cs,false),some (Qj m R [],false),some (Qd dn,true),some (Qd tr,true),j5,j6,j7,j9]) ?_ ?_
  ·refine QX (toD:=λ(k:Nat)=> .int (k:Int)) (List.range m) (λi ρ=>∃dn tr j5 j6 j7 j9,dn.length=i+1/\tr.length=i/\Qdz R m dn tr/\ρ=[some (Qm cs,false),some (Qj m R [],false),some (Qd dn,true),some (Qd tr,true),j5,j6,j7,j9]) (Qbv (n:=m) (r:=⟨.int m,true,[]⟩) rfl rfl (by omega)) rfl ⟨[m],[],none,none,none,none,rfl,rfl,⟨by simp,by simp,rfl,by simp,by simp,λi q h0 h=>by
     have:=(Zb.mp h).1
     simp at this;omega⟩,rfl⟩ ?_ ?_
   ·rintro i i' ρ hi ⟨dn,tr,j5,j6,j7,j9,hdl,htl,G,rfl⟩
    have hi':i<m/\i=i':=by
     obtain⟨h1,h2⟩:=Zb.mp hi
     simp at h1 h2;exact⟨h1,h2⟩
    obtain⟨him,rfl⟩:=hi'
    refine⟨[some (Qm cs,false),some (Qj m R [],false),some (Qd dn,true),some (Qd tr,true),some (.int i,true),j6,j7,j9],rfl,?_⟩
    refine run_seq (Qo (r:=⟨Qd [],true,[]⟩) rfl ?_)
    rw[Qq]
    refine Qaj (P:=λρ=>∃j7,ρ=[some (Qm cs,false),some (Qj m R [],false),some (Qd dn,true),some (Qd tr,true),some (.int i,true),some (Qd ((List.range R.length).filter (QbF R dn)),true),j7,j9]) ?_ ?_
    ·refine QX (toD:=λ(k:Nat)=> .int (k:Int)) (List.range R.length) (λn ρ=>∃j7,ρ=[some (Qm cs,false),some (Qj m R [],false),some (Qd dn,true),some (Qd tr,true),some (.int i,true),some (Qd ((List.range n).filter (QbF R dn)),true),j7,j9]) (Qbv (n:=R.length) (by rw[Qcb (xs:=R.map pairD) (Qbf (m:=m) (R:=R) (L:=[]) (it rfl) rfl).2.1 rfl,Zd]) rfl (by omega)) rfl ⟨j7,rfl⟩ ?_ ?_
     ·rintro k k' ρ hk ⟨j7,rfl⟩
      have hk':k<R.length/\k=k':=by
       obtain⟨h1,h2⟩:=Zb.mp hk
       simp at h1 h2;exact⟨h1,h2⟩
      obtain⟨hkR,rfl⟩:=hk'
      obtain⟨g1,g2,g3,g4,g5⟩:=hR _ (QS hkR)
      have hlen:((List.range k).filter (QbF R dn)).length<=k:=by
       have:=ZaL (QbF R dn) (List.range k)
       rw[ZE]at this;exact this
      have er:∀{ρ:En},ρ[1]? =some (some (Qj m R [],false))->ρ[6]? =some (some (.int k,true))->Qi (Qi (Qa 1) (dC (.int 1))) (Qa 6) ρ=some ⟨pairD (rd R k),true,[]⟩:=λ{ρ} h1 h2=>QfA (R:=R) (k:=k) (Qbf (m:=m) (R:=R) (L:=[]) (it h1) rfl).2.1 rfl (QbK h2) rfl hkR
      have e0:∀{ρ:En},ρ[1]? =some (some (Qj m R [],false))->ρ[6]? =some (some (.int k,true))->Qi (Qi (Qi (Qa 1) (dC (.int 1))) (Qa 6)) (dC (.int 0)) ρ=some ⟨.int ((rd R k).1.toNat:Int),true,[]⟩:=λ{ρ} h1 h2=>by
       rw[ZbG g1]
       unfold Qi at *
       rw[er h1 h2];rfl
      have e1:∀{ρ:En},ρ[1]? =some (some (Qj m R [],false))->ρ[6]? =some (some (.int k,true))->Qi (Qi (Qi (Qa 1) (dC (.int 1))) (Qa 6)) (dC (.int 1)) ρ=some ⟨.int ((rd R k).2.toNat:Int),true,[]⟩:=λ{ρ} h1 h2=>by
       rw[ZbG g2]
       unfold Qi at *
       rw[er h1 h2];rfl
      refine⟨[some (Qm cs,false),some (Qj m R [],false),some (Qd dn,true),some (Qd tr,true),some (.int i,true),some (Qd ((List.range k).filter (QbF R dn)),true),some (.int k,true),j9],rfl,?_⟩
      refine run_seq (QW (b:=QbF R dn k) (QF (Qn9 (a:=dn.contains (rd R k).1.toNat) (b:=dn.contains (rd R k).2.toNat) (Qf9 (neg:=false) (o:=(rd R k).1.toNat) (l:=dn) (e0 rfl rfl) rfl (rb:=⟨Qd dn,true,[2]⟩) rfl rfl) (Qf9 (neg:=false) (o:=(rd R k).2.toNat) (l:=dn) (e1 rfl rfl) rfl (rb:=⟨Qd dn,true,[2]⟩) rfl rfl)) rfl) (λhx=>?_) (λhx=>?_))
      ·refine run_seq (Qfl (l:=(List.range k).filter (QbF R dn)) (v:=k) (r:=⟨.int k,true,[]⟩) rfl rfl rfl (by omega) (Qn (Qn ⟨some (.int k,true),?_⟩)))
       rw[ZaE,List.filter_append,Zai,if_pos hx];rfl
      ·refine Qn (Qn ⟨some (.int k,true),?_⟩)
       rw[ZaE,List.filter_append,Zai,if_neg (by rw[hx];simp),List.filter_nil,Zag]
     ·rintro ρ ⟨j7,rfl⟩
      rw[ZE]
      exact⟨_,rfl⟩
    rintro ρ ⟨j7,rfl⟩
    obtain⟨k0,hk0,hcr⟩:=QsI hw G (by omega)
    have hNp:0<((List.range R.length).filter (QbF R dn)).length:=Zcl (ZG.mpr ⟨Zf.mpr hk0,by
     unfold QbF
     rcases hcr with⟨x,y⟩ | ⟨x,y⟩<;>simp[x,y]⟩)
    have hNin:∀k∈(List.range R.length).filter (QbF R dn),k<R.length/\QbF R dn k=true:=λk hk=>⟨Zf.mp (ZG.mp hk).1,(ZG.mp hk).2⟩
    generalize (List.range R.length).filter (QbF R dn)=N at *
    obtain⟨n,hn⟩:∃n,cs[23+i]? =some n:=⟨_,Zp (by omega)⟩
    have x0:=ZN n (by omega:(N.length:Int)≠0)
    have x1:=ZL n (by omega:(0:Int)<N.length)
    obtain⟨k,hkN⟩:∃k,N[(n % (N.length:Int)).toNat]? =some k:=⟨_,Zp (by omega)⟩
    obtain⟨hkR,hkc⟩:=hNin k (Zy hkN)
    obtain⟨g1,g2,g3,g4,g5⟩:=hR _ (QS hkR)
    refine run_seq (Qfl (l:=tr) (v:=k) rfl (Qeb (l:=N) (i:=n % (N.length:Int)) (v:=k) (ra:=⟨Qd N,true,[5]⟩) rfl rfl (Qbj (a:=n) (b:=N.length) (QcE (ns:=cs) (i:=23+i) (ra:=⟨Qm cs,false,[]⟩) rfl rfl (Qad (a:=23) (b:=i) rfl rfl rfl rfl) rfl (by omega) (by rw[show(23+(i:Int)).toNat=23+i by omega];exact hn)) rfl (QgL (l:=N) (r:=⟨Qd N,true,[5]⟩) rfl rfl) rfl (by omega)) rfl x0 hkN) rfl (by omega) ?_)
    obtain⟨a1,ea⟩:∃a1:Nat,(rd R k).1=a1:=⟨(rd R k).1.toNat,by omega⟩
    obtain⟨b1,eb⟩:∃b1:Nat,(rd R k).2=b1:=⟨(rd R k).2.toNat,by omega⟩
    have hx:(a1∈dn/\b1∉dn)∨(a1∉dn/\b1∈dn):=by
     unfold QbF at hkc
     rw[ea,eb,Zw,Zw]at hkc
     by_cases p1:a1∈dn<;>by_cases p2:b1∈dn<;>simp[p1,p2]at hkc ⊢
    have hab:a1≠b1:=by omega
    have enext:∃q,q∉dn/\Q8 q (rd R k)=true/\oe q (rd R k)∈dn/\((if b1∈(if a1∈dn then dn else dn++[a1])then(if a1∈dn then dn else dn++[a1])else(if a1∈dn then dn else dn++[a1])++[b1])=dn++[q]):=by
     rcases hx with⟨x,y⟩ | ⟨x,y⟩
     ·refine⟨b1,y,by unfold Q8;rw[eb];simp,by rw[show oe b1 (rd R k)=a1 by unfold oe;omega];exact x,?_⟩
      rw[if_pos x,if_neg y]
     ·refine⟨a1,x,by unfold Q8;rw[ea];simp,by rw[show oe a1 (rd R k)=b1 by unfold oe;omega];exact y,?_⟩
      rw[if_neg x,if_pos (Zi _ y)]
    obtain⟨q,hq1,hq2,hq3,hq4⟩:=enext
    have eit:Qi (Qi (Qa 1) (dC (.int 1))) (Qi (Qa 3) (Qa 4)) [some (Qm cs,false),some (Qj m R [],false),some (Qd dn,true),some (Qd (tr++[k]),true),some (.int i,true),some (Qd N,true),j7,j9]=some ⟨pairD (rd R k),true,[]⟩:=
     QfA (R:=R) (k:=k) (Qbf (m:=m) (R:=R) (L:=[]) (it rfl) rfl).2.1 rfl (Qeb (l:=tr++[k]) (i:=i) (v:=k) (ra:=⟨Qd (tr++[k]),true,[3]⟩) (rb:=⟨.int i,true,[]⟩) rfl rfl rfl rfl (by omega) (by rw[Zw,← htl];simp)) rfl hkR
    have pd:pairD (rd R k)= .tup [.int (a1:Int),.int (b1:Int)]:=by unfold pairD;rw[ea,eb]
    refine Qaj (P:=λρ=>∃j9,ρ=[some (Qm cs,false),some (Qj m R [],false),some (Qd (dn++[q]),true),some (Qd (tr++[k]),true),some (.int i,true),some (Qd N,true),j7,j9]) ?_ ?_
    ·refine QX (toD:=λ(x:Nat)=> .int (x:Int)) [a1,b1] (λs ρ=>∃j9,ρ=[some (Qm cs,false),some (Qj m R [],false),some (Qd ([a1,b1].take s |>.foldl (λl x=>if x∈l then l else l++[x]) dn),true),some (Qd (tr++[k]),true),some (.int i,true),some (Qd N,true),j7,j9]) (ir:=⟨[.int (a1:Int),.int (b1:Int)],[]⟩) (by
       unfold Q7
       show(Qi (Qi (Qa 1) (dC (.int 1))) (Qi (Qa 3) (Qa 4)) [some (Qm cs,false),some (Qj m R [],false),some (Qd dn,true),some (Qd (tr++[k]),true),some (.int i,true),some (Qd N,true),j7,j9]).bind _=_
       rw[eit,Za,pd];rfl) rfl ⟨j9,rfl⟩ ?_ ?_
     ·rintro s x ρ hs ⟨j9,rfl⟩
      have hfold:([a1,b1].take (s+1)).foldl (λl x=>if x∈l then l else l++[x]) dn=(if x∈([a1,b1].take s).foldl (λl x=>if x∈l then l else l++[x]) dn then([a1,b1].take s).foldl (λl x=>if x∈l then l else l++[x]) dn else([a1,b1].take s).foldl (λl x=>if x∈l then l else l++[x]) dn++[x]):=by
       rw[Zcr,hs,ZbR];rfl
      have hlen:(([a1,b1].take s).foldl (λl x=>if x∈l then l else l++[x]) dn).length<=dn.length+2:=by
       have hs2:s<2:=by simpa using(Zb.mp hs).1
       have hs3:s=0∨s=1:=by omega
       rcases hs3 with rfl | rfl
       ·simp
       ·simp;split<;>simp<;>omega
      rw[hfold]
      generalize ([a1,b1].take s).foldl (λl x=>if x∈l then l else l++[x]) dn=l at *
      refine⟨[some (Qm cs,false),some (Qj m R [],false),some (Qd l,true),some (Qd (tr++[k]),true),some (.int i,true),some (Qd N,true),j7,some (.int x,true)],rfl,?_⟩
      refine run_seq (QW (b:= !l.contains x) (QF (Qf9 (neg:=true) (o:=x) (l:=l) (ra:=⟨.int x,true,[]⟩) (rb:=⟨Qd l,true,[2]⟩) rfl rfl rfl rfl) rfl) (λh=>?_) (λh=>?_))
      ·have h:x∉l:=by simpa using h
       refine run_seq (Qfl (l:=l) (v:=x) (r:=⟨.int x,true,[]⟩) rfl rfl rfl (by omega) (Qn (Qn ⟨some (.int x,true),?_⟩)))
       rw[if_neg h];rfl
      ·have h:x∈l:=by simpa using h
       refine Qn (Qn ⟨some (.int x,true),?_⟩)
       rw[if_pos h]
     ·rintro ρ ⟨j9,rfl⟩
      refine⟨j9,?_⟩
      have:([a1,b1].take [a1,b1].length).foldl (λl x=>if x∈l then l else l++[x]) dn=dn++[q]:=by
       rw[← hq4];rfl
      rw[this]
    rintro ρ ⟨j9,rfl⟩
    exact Qn ⟨dn++[q],tr++[k],_,_,_,_,by simp[hdl],by simp[htl],G.step hR hkR hq1 hq2 hq3,rfl⟩
   ·rintro ρ ⟨dn,tr,j5,j6,j7,j9,hdl,htl,G,rfl⟩
    rw[ZE]at hdl htl
    exact⟨dn,tr,_,_,_,_,hdl,htl,G,rfl⟩
  rintro ρ ⟨dn,tr,j5,j6,j7,j9,hdl,htl,G,rfl⟩
  obtain⟨t,t1,t2,t3⟩:=Qjo tr
  refine QL (r:=⟨Qd t,true,[]⟩) ?_ ⟨t,rfl,rfl,G.tree m0 hR hdl htl t1 (t3 G.tnd)⟩
  unfold Qgw
  show(Qbk (tr.map λ(p:Nat)=>D.int (p:Int))).bind _=_
  have:=QcW (tr.map λ(p:Nat)=>(p:Int))
  rw[ZP]at this
  rw[show(tr.map λ(p:Nat)=>D.int (p:Int))=tr.map (D.int ∘ λ(p:Nat)=>(p:Int))from rfl,this,Za,if_pos (by rw[Zd];omega),t2]
  rfl
 obtain⟨o,h1,h2⟩:=key
 cases o with
 | rt d fr=>
  obtain⟨t,rfl,rfl,h3⟩:=h2
  exact⟨t,by unfold Qs;rw[h1];rfl,h3⟩
 | _=>exact h2.elim
noncomputable def QjI(QbM:Den)(QcC:Den)(Qcl:Den)(Qcx:Den)(Q6:Den)(QbR:Den)(QaI:Den)(Qd2:Den)(Qap:Den):DS:=(Qe (Qy 1 (QB 2 QbM [] (Qb (Qa 0) (Qb (dC (.int 42)) Qg)))) (Qe (Qy 2 (QB 1 QcC [] (Qb (Qa 1) Qg))) (Qe (Qy 3 (QB 2 Qcl [] (Qb (Qa 1) (Qb (Qa 2) Qg)))) (Qe (Qy 4 (QB 2 Qcx [] (Qb (Qa 2) (Qb (Qa 3) Qg)))) (Qe (sIf (bOr (Qdg (QA (QB 2 Q6 [] (Qb (Qa 4) (Qb (Qi (Qa 2) (dC (.int 0))) Qg))))) (bOr (Qdg (QA (QB 2 QaI [] (Qb (Qa 2) (Qb (QB 2 QbR [] (Qb (Qa 2) (Qb (Qa 4) Qg))) Qg))))) (QA (dOp gNe (QB 2 QbR [] (Qb (Qa 2) (Qb (Qa 4) Qg))) (Qa 3))))) (Qe (QZ (dC (.bl false))) Qp) Qp) (Qe (Qfn 5 4 6 (Q1 (Qb (Qa 3) Qg)) (Q7 (Qc7 (Qa 1) (Qa6 (dC (.int 30))) (Qa6 (QQ (dC (.int 30)) (dOp Qbz (Qi (Qa 1) (dC (.int 29))) (dC (.int 13))))))) (.nm 7) (.tp [8,9]) (dDm (Qb (Qa 7) (Qb (Qi (Qa 2) (dC (.int 0))) Qg))) (Qe (QdL 4 QU (Qa 9) (QQ (Qi (Qa 4) (Qa 9)) (dOp Qbz (Qa 8) (dC (.int 51))))) (Qe (Qy 4 (Qi (QB 2 Qd2 [] (Qb (Qa 2) (Qb (Qa 4) Qg))) (dC (.int 0)))) (Qe (Qy 10 (QB 2 QbR [] (Qb (Qa 2) (Qb (Qa 4) Qg)))) (Qe (sIf (bOr (Qdg (QA (QB 2 QaI [] (Qb (Qa 2) (Qb (Qa 10) Qg))))) (QA (dOp (Qet true) (QB 2 Qap [] (Qb (Qa 2) (Qb (Qa 4) Qg))) (dC (.bl true))))) (Qe (QZ (dC (.bl false))) Qp) Qp) (Qe (Qy 11 (QB 2 Qcx [] (Qb (Qa 2) (Qb (Qa 10) Qg)))) (Qe (sIf (bOr (Qdg (QA (QB 2 Q6 [] (Qb (Qa 11) (Qb (Qi (Qa 2) (dC (.int 0))) Qg))))) (QA (dOp gNe (Qa 11) (Qa 4)))) (Qe (QZ (dC (.bl false))) Qp) Qp) (Qe (QaH (QaT (dBf QaS (Qb (Qa 5) Qg))) (.nm 12) (Qe (sIf (QA (dOp gNe (dOp gEq (Qi (Qa 5) (Qa 12)) (Qa 4)) (dOp gEq (Qi (Qa 6) (Qa 12)) (Qa 10)))) (Qe (QZ (dC (.bl false))) Qp) Qp) Qp)) (QiV 5 4 6 10))))))))) (Qe (QZ (dC (.bl true))) Qp)))))))
theorem Qi8{x y:Nat}{t t1:Tg}{f1:DE}{fb:DS}{α:Type}{toD:α->D}{Q:Out->Prop}(I:Nat->En->Prop)(n:Nat)(fin:∀i ρ,I i ρ->Q (.nx ρ))
  (turn:∀i c ρ,i<n->I i ρ->∃dl ρ1 r ρ2,Qa4 x ρ=some dl/\QpW dl=true/\QaC t (toD c) ρ=some ρ1/\f1 ρ1=some r/\QaC t1 r.d (QaE r.norm.M ρ1)=some ρ2/\Run fb (ρ2.set y (some (dl,true))) (Nx (I (i+1)))):∀(xs:List α) (i:Nat) (ρ:En),i+xs.length<=n->I i ρ->Run (Qfz x y t t1 f1 fb (xs.map toD)) ρ Q
 | [],i,ρ,_,h=>⟨_,rfl,fin i ρ h⟩
 | c::xs,i,ρ,hn,h=>by
  rw[Zo]at hn
  obtain⟨dl,ρ1,r,ρ2,h1,h2,h3,h4,h5,o,h6,h7⟩:=turn i c ρ (by omega) h
  cases o with
  | nx ρ3=>
   obtain⟨o,h8,h9⟩:=Qi8 I n fin turn xs (i+1) ρ3 (by omega) h7
   refine⟨o,?_,h9⟩
   rw[Zx]
   unfold Qfz
   rw[h1,Za,if_pos h2,h3,Za,h4,Za,h5,Za,h6,Za]
   exact h8
  | _=>exact h7.elim
theorem Qqk{x y z:Nat}{fz f1:DE}{fi:DI}{t t1:Tg}{fb:DS}{ρ:En}{dy:D}{rz:HS.R}{ir:IR}{α:Type}{toD:α->D}{Q:Out->Prop}(xs:List α)(I:Nat->En->Prop)(hne:x≠y/\z≠y/\x≠z/\y∉t.slots/\y∉t1.slots)(hy:ρ[y]? =some (some (dy,true)))(hf:dy.flat=false)
  (ez:fz (asg x ⟨.lst [dy],true,[y]⟩ ρ)=some rz) (ei:fi (asg z rz (asg x ⟨.lst [dy],true,[y]⟩ ρ))=some ir) (hx:ir.items=xs.map toD) (h0:I 0 (QaE ir.M (asg z rz (asg x ⟨.lst [dy],true,[y]⟩ ρ)))) (fin:∀i ρ,I i ρ->Q (.nx ρ))
  (turn:∀i c ρ,i<xs.length->I i ρ->∃dl ρ1 r ρ2,Qa4 x ρ=some dl/\QpW dl=true/\QaC t (toD c) ρ=some ρ1/\f1 ρ1=some r/\QaC t1 r.d (QaE r.norm.M ρ1)=some ρ2/\Run fb (ρ2.set y (some (dl,true))) (Nx (I (i+1)))):Run (Qfn x y z fz fi t t1 f1 fb) ρ Q:=by
 obtain⟨o,h1,h2⟩:=Qi8 I xs.length fin turn xs 0 _ (by omega) h0
 refine⟨o,?_,h2⟩
 unfold Qfn
 rw[if_pos hne,hy]
 dsimp only
 rw[if_pos hf,ez,Za,ei,Za,hx]
 exact h1
theorem Qv3{fa fb:DE}{ρ:En}{ra rb:HS.R}{a b:Int}(ha:fa ρ=some ra)(ea:ra.d= .int a)(hb:fb ρ=some rb)(eb:rb.d= .int b)(h:0<b)(h2:b<2^200):dDm (Qb fa (Qb fb Qg)) ρ=some ⟨.tup [.int (a / b),.int (a % b)],true,[]⟩:=by
 unfold dDm
 rw[Qw ha (Qw hb (Q0 _)),Za]
 simp only[ea,eb]
 rw[if_pos (Qf0 h h2),Qhe _ _ (by omega),Qhs _ _ (by omega)]
theorem Qra(a b:List Nat):deq (Qd a) (Qd b)=decide (a=b):=by
 rw[Qew,Qew]
 show PyData.eqvAll (pys ((a.map λ(p:Nat)=>(p:Int)).map D.int)) (pys ((b.map λ(p:Nat)=>(p:Int)).map D.int))=_
 rw[QeJ,decide_eq_decide]
 constructor
 ·intro h
  have:=congrArg (List.map Int.toNat) h
  rw[ZP,ZP]at this
  have e:∀l:List Nat,l.map (Int.toNat ∘ λ(p:Nat)=>(p:Int))=l:=λl=>by
   refine(ZD λx _=>?_).trans (List.map_id l)
   show Int.toNat (x:Int)=x
   omega
  rw[e,e]at this
  exact this
 ·intro h;rw[h]
structure PO (R:List (Int×Int)) (m:Nat) (e:(Nat->Int)×List Nat):Prop where
 dep:∃dep,Qcp R m e.2 dep/\∀p,p<m->QO R dep e.2 p=e.1 p
 len:e.2.length=m
 inc:e.2.Pairwise (· < ·)
 com:Qb9 R m e.1 (QP (Qv m (Qh R [])) e.1 m m)=true
 bnd:∀j,j<m->0<=e.1 j/\e.1 j<Qag R [] j
theorem PO.same{R:List (Int×Int)}{m:Nat}{e f:(Nat->Int)×List Nat}(hR:∀s∈R,Good m s)(p:PO R m e)(q:PO R m f):(∀j,j<m->e.1 j=f.1 j)↔e.2=f.2:=by
 obtain⟨a,D1,h1⟩:=p.dep
 obtain⟨b,D2,h2⟩:=q.dep
 constructor
 ·intro h
  exact Qkv hR D1 D2 h1 (λj hj=>(h2 j hj).trans (h j hj).symm) p.len q.len p.inc q.inc
 ·intro h j hj
  rw[← h]at D2 h2
  rw[← h1 j hj,← h2 j hj]
  exact Qq0 hR D1 D2 hj
theorem QmK{fa fb:DE}{ρ:En}{ra rb:HS.R}{xs:List D}{k:Nat}{d:D}(ha:fa ρ=some ra)(ea:ra.d= .lst xs)(hb:fb ρ=some rb)(eb:rb.d= .int k)(h:xs[k]? =some d):∃r,Qi fa fb ρ=some r/\r.d=d:=by
 refine⟨HS.R.norm ⟨d,ra.fr,ra.M⟩,?_,R.Qcz _⟩
 unfold Qi
 rw[ha,hb,Za,Za,ea,eb]
 show(atI xs (k:Int)).map _=_
 have:atI xs (k:Int)=some d:=by
  have kl:k<xs.length:=(Zb.mp h).1
  unfold atI ixN
  rw[if_pos (ZbI k),if_pos (Int.ofNat_lt.mpr kl),Zw]
  exact h
 rw[this];rfl
set_option maxHeartbeats 0 in
theorem QvC{dc dn dl dh du dt di ds da:Den}(hc:CellsOk dc)(hn:QiZ dn)(hl:Qhf dl)(hh:Qhp dh)(hu:QhV du)(ht:Qha dt)(hi:Qg6 di)(hs:QiD ds)(ha:QgE da)(ns:List Int)(hns:ns.length<=63):Qs 13 (QjI dc dn dl dh du dt di ds da) [.lst (ns.map .int)]=some (.bl true,true):=by
 obtain⟨cs,hcells,lcs,pcs⟩:=hc ns 42 hns (by decide)
 obtain⟨m,R,en,m0,m8,hw⟩:=hn cs lcs pcs
 have hR:=hw.good.1
 have hRl:R.length<=200:=hw.good.2.2.1
 obtain⟨t0,et0,T0⟩:=hl cs m R lcs m0 m8 hw
 have next:∀h:Nat->Int,(∀j,j<m->0<=h j/\h j<Qag R [] j)->Qb9 R m h (QP (Qv m (Qh R [])) h m m)=true->∃t,PO R m (h,t):=λh hb hcm=>by
  obtain⟨t,mk,_,tl,tp,Dp,eH⟩:=ht m R h m0 m8 hRl hR (λj hj=>(hb j hj).1) hcm
  exact⟨t,⟨mk,Dp,eH⟩,tl,tp,hcm,hb⟩
 have facts:∀e,PO R m e->dh [Qj m R [],Qd e.2]=some (Qc m e.1,true)/\dt [Qj m R [],Qc m e.1]=some (Qd e.2,true)/\di [Qj m R [],Qd e.2]=some (.bl true,true)/\da [Qj m R [],Qc m e.1]=some (.bl true,true)/\du [Qc m e.1,.int m]=some (.bl true,true):=λe p=>by
  obtain⟨dep,Dp,eH⟩:=p.dep
  have dl:=Qq7 m0 hR Dp
  have f1:=hh m R e.2 dep m0 m8 hRl hR ⟨p.len,p.inc,Dp.tl,λv hv z=>by rw[dl v hv]at z;cases z⟩ Dp dl
  rw[Qd9 eH]at f1
  obtain⟨t,mk,e1,tl,tp,D2,eH2⟩:=ht m R e.1 m0 m8 hRl hR (λj hj=>(p.bnd j hj).1) p.com
  have et:t=e.2:=Qkv hR D2 Dp eH2 eH tl p.len tp p.inc
  subst et
  have f4:=ha m R e.1 m0 (by omega) (by omega) hR (λj hj=>(p.bnd j hj).1)
  rw[p.com]at f4
  exact⟨f1,e1,hi m R e.2 dep m0 m8 hR p.len p.inc Dp,f4,hu m e.1⟩
 obtain⟨dep,Dp,hF⟩:=QoA hR T0.lt T0.con
 have P0:PO R m (QO R dep t0,t0):=⟨⟨dep,Dp,λ_ _=>rfl⟩,T0.len,T0.inc,QnX hR Dp,λj hj=>by
  have:=Qel hR Dp hj
  exact⟨(show 0<=QO R dep t0 j by omega),this.2⟩⟩
 generalize QO R dep t0=h0 at P0
 obtain⟨a1,a2,a3,a4,a5⟩:=facts _ P0
 dsimp only at a1 a2 a3 a4 a5
 have it:∀{ρ:En}{b:Bool},ρ[2]? =some (some (Qj m R [],b))->Qi (Qa 2) (dC (.int 0)) ρ=some ⟨.int m,true,[]⟩:=λ{ρ b} h=>(Qbf (m:=m) (R:=R) (L:=[]) (QbK h) (by cases b<;>rfl)).1
 refine QaR ?_
 refine run_seq (Qo (Qx (r:=⟨[.lst (ns.map .int),.int 42],false,[]⟩) rfl hcells rfl) ?_)
 rw[Qq]
 refine run_seq (Qo (Qx (r:=⟨[Qm cs],true,[1]⟩) rfl en rfl) ?_)
 rw[Qq]
 refine run_seq (Qo (Qx (r:=⟨[Qm cs,Qj m R []],true,[1,2]⟩) rfl et0 rfl) ?_)
 rw[Qq]
 refine run_seq (Qo (Qx (r:=⟨[Qj m R [],Qd t0],true,[2,3]⟩) rfl a1 rfl) ?_)
 rw[Qq]
 change Run _ [some (.lst (ns.map .int),false),some (Qm cs,true),some (Qj m R [],true),some (Qd t0,true),some (Qc m h0,true),none,none,none,none,none,none,none,none] _
 refine Qay (QW (b:=false) (Qdb (a:=false) (b:=false) (Qdd (b:=true) (QF (Qx (Qw (r:=⟨Qc m h0,true,[4]⟩) rfl (Qw (it rfl) (Q0 _))) a5 rfl) rfl)) (Qdb (a:=false) (b:=false) (Qdd (b:=true) (QF (Qx (Qw (r:=⟨Qj m R [],true,[2]⟩) rfl (Qw (Qx (r:=⟨[Qj m R [],Qc m h0],true,[2,4]⟩) rfl a2 rfl) (Q0 _))) a3 rfl) rfl)) (QF (b:=false) (Qk1 (d:=Qd t0) (Qx (r:=⟨[Qj m R [],Qc m h0],true,[2,4]⟩) rfl a2 rfl) rfl (rb:=⟨Qd t0,true,[3]⟩) rfl rfl (Qev 7 _)) rfl))) (λh=>by cases h) (λ_=>Qn ?_))
 obtain⟨c29,e29⟩:∃c,cs[29]? =some c:=⟨cs[29]'(by omega),Zp (by omega)⟩
 have q1:=ZN c29 (by decide:(13:Int)≠0)
 obtain⟨q,eq⟩:∃q:Nat,(q:Int)=30+c29 % 13:=⟨(30+c29 % 13).toNat,by omega⟩
 have eh:QQ (dC (.int 30)) (dOp Qbz (Qi (Qa 1) (dC (.int 29))) (dC (.int 13))) [some (.lst (ns.map .int),false),some (Qm cs,true),some (Qj m R [],true),none,none,some (.lst [Qc m h0],true),some (.lst [Qd t0],true),none,none,none,none,none,none]=some ⟨.int q,true,[]⟩:=by
  rw[eq]
  exact Qad (a:=30) rfl rfl (Qbj (a:=c29) (b:=13) (QcE (ns:=cs) (i:=29) (v:=c29) (ra:=⟨Qm cs,true,[1]⟩) (rb:=⟨.int 29,true,[]⟩) rfl rfl rfl rfl (by decide) e29) rfl rfl rfl (by decide)) rfl
 have esl:=Qiq (cs:=cs) (a:=30) (b:=q) (fa:=Qa 1) (fl:=dC (.int 30)) (ρ:=[some (.lst (ns.map .int),false),some (Qm cs,true),some (Qj m R [],true),none,none,some (.lst [Qc m h0],true),some (.lst [Qd t0],true),none,none,none,none,none,none]) (ra:=⟨Qm cs,true,[1]⟩) (rl:=⟨.int 30,true,[]⟩) rfl rfl rfl rfl eh rfl
 have lx:((cs.drop (min 30 cs.length)).take (min q cs.length-min 30 cs.length)).length<=42:=by rw[Zah,Zan];omega
 generalize (cs.drop (min 30 cs.length)).take (min q cs.length-min 30 cs.length)=xs at esl lx
 refine Qay (Qqk (toD:=D.int) (dy:=Qc m h0) (rz:=⟨.lst [Qd t0],true,[3]⟩) xs (λi ρ=>∃(L:List ((Nat->Int)×List Nat)) (e:(Nat->Int)×List Nat) (j7 j8 j9 j10 j11 j12:Option (D×Bool)),L.length=i/\(∀e∈L,PO R m e)/\PO R m e/\ρ=[some (.lst (ns.map .int),false),some (Qm cs,true),some (Qj m R [],true),none,none,some (.lst ((L++[e]).map λe=>Qc m e.1),true),some (.lst ((L++[e]).map λe=>Qd e.2),true),j7,j8,j9,j10,j11,j12]) (by decide) rfl rfl rfl (QaZ esl rfl) rfl ⟨[],(h0,t0),none,none,none,none,none,none,rfl,λe he=>by simp at he,P0,rfl⟩ ?_ ?_)
 ·rintro i ρ ⟨L,e,j7,j8,j9,j10,j11,j12,hL,hP,hE,rfl⟩
  exact QL (r:=⟨.bl true,true,[]⟩) rfl ⟨rfl,rfl⟩
 ·rintro i c ρ hix ⟨L,e,j7,j8,j9,j10,j11,j12,hL,hP,hE,rfl⟩
  have d1:=ZN c (by omega:(m:Int)≠0)
  have d2:=ZL c (by omega:(0:Int)<m)
  refine⟨Qc m e.1,_,⟨.tup [.int (c / m),.int (c % m)],true,[]⟩,_,?_,?_,rfl,Qv3 (a:=c) (b:=m) (ra:=⟨.int c,true,[]⟩) rfl rfl (it rfl) rfl (by omega) (by omega),rfl,?_⟩
  ·unfold Qa4
   simp
  ·show QG _=true
   exact Qo6 m e.1
  generalize c % (m:Int)=pl at d1 d2
  generalize c / (m:Int)=nb
  have g1:=ZN nb (by decide:(51:Int)≠0)
  have g2:=ZL nb (by decide:(0:Int)<51)
  change Run _ [some (.lst (ns.map .int),false),some (Qm cs,true),some (Qj m R [],true),none,some (Qc m e.1,true),some (.lst ((L++[e]).map λe=>Qc m e.1),true),some (.lst ((L++[e]).map λe=>Qd e.2),true),some (.int c,true),some (.int nb,true),some (.int pl,true),j10,j11,j12] _
  refine run_seq (Qhm (m:=m) (f:=e.1) (i:=pl) (v:=e.1 pl.toNat+nb % 51) (ri:=⟨.int pl,true,[]⟩) rfl rfl rfl (Qad (a:=e.1 pl.toNat) (b:=nb % 51) (QmN (m:=m) (f:=e.1) (i:=pl) (ra:=⟨Qc m e.1,true,[4]⟩) (rb:=⟨.int pl,true,[]⟩) rfl rfl rfl rfl d1 d2) rfl (Qbj (a:=nb) (b:=51) (ra:=⟨.int nb,true,[]⟩) rfl rfl rfl rfl (by decide)) rfl) rfl d1 d2 ?_)
  generalize nb % 51=gr at g1 g2
  have le:∀j,j<m->e.1 j<=up e.1 pl.toNat (e.1 pl.toNat+gr) j:=λj _=>by
   rw[Qe3]
   split
   ·rename_i z;rw[z];omega
   ·exact Zau _
  obtain⟨k,es,hk⟩:=hs m R [] (up e.1 pl.toNat (e.1 pl.toNat+gr)) m0 (by omega) hw (λj hj=>by
   have h1:=hE.bnd j hj
   have h2:=QqQ R [] j
   simp at h2
   rw[Qe3]
   split
   ·rename_i z;rw[← z];omega
   ·omega)
  have hcm:=Qni hw hE.com le hk
  obtain⟨t2,P2⟩:=next _ (λj hj=>⟨hk.pos j hj,by rw[← hw.neg hj];exact hk.stb j hj⟩) hcm
  unfold Qdi at es
  generalize up e.1 pl.toNat (e.1 pl.toNat+gr)=f at es le hk hcm P2
  generalize Qr m (Qv m (Qh R [])) f k=h2 at es hcm P2
  obtain⟨b1,b2,b3,b4,b5⟩:=facts _ P2
  dsimp only at b1 b2 b3 b4 b5
  change Run _ [some (.lst (ns.map .int),false),some (Qm cs,true),some (Qj m R [],true),none,some (Qc m f,true),some (.lst ((L++[e]).map λe=>Qc m e.1),true),some (.lst ((L++[e]).map λe=>Qd e.2),true),some (.int c,true),some (.int nb,true),some (.int pl,true),j10,j11,j12] _
  refine run_seq (Qo (r:=⟨Qc m h2,true,[]⟩) (Qtd (Qx (r:=⟨[Qj m R [],Qc m f],true,[2,4]⟩) rfl es rfl)) ?_)
  rw[Qq]
  refine run_seq (Qo (Qx (r:=⟨[Qj m R [],Qc m h2],true,[2,4]⟩) rfl b2 rfl) ?_)
  rw[Qq]
  change Run _ [some (.lst (ns.map .int),false),some (Qm cs,true),some (Qj m R [],true),none,some (Qc m h2,true),some (.lst ((L++[e]).map λe=>Qc m e.1),true),some (.lst ((L++[e]).map λe=>Qd e.2),true),some (.int c,true),some (.int nb,true),some (.int pl,true),some (Qd t2,true),j11,j12] _
  refine Qay (QW (b:=false) (Qdb (a:=false) (b:=false) (Qdd (b:=true) (QF (Qx (r:=⟨[Qj m R [],Qd t2],true,[2,10]⟩) rfl b3 rfl) rfl)) (QF (b:=false) (QT (d:= .bl false) (rb:=⟨.bl true,true,[]⟩) (Qx (r:=⟨[Qj m R [],Qc m h2],true,[2,4]⟩) rfl b4 rfl) rfl rfl) rfl)) (λh=>by cases h) (λ_=>Qn ?_))
  refine run_seq (Qo (Qx (r:=⟨[Qj m R [],Qd t2],true,[2,10]⟩) rfl b1 rfl) ?_)
  rw[Qq]
  change Run _ [some (.lst (ns.map .int),false),some (Qm cs,true),some (Qj m R [],true),none,some (Qc m h2,true),some (.lst ((L++[e]).map λe=>Qc m e.1),true),some (.lst ((L++[e]).map λe=>Qd e.2),true),some (.int c,true),some (.int nb,true),some (.int pl,true),some (Qd t2,true),some (Qc m h2,true),j12] _
  refine Qay (QW (b:=false) (Qdb (a:=false) (b:=false) (Qdd (b:=true) (QF (Qx (Qw (r:=⟨Qc m h2,true,[11]⟩) rfl (Qw (it rfl) (Q0 _))) b5 rfl) rfl)) (QF (b:=false) (Qk1 (d:=Qc m h2) (ra:=⟨Qc m h2,true,[11]⟩) rfl rfl (rb:=⟨Qc m h2,true,[4]⟩) rfl rfl (QiW 7 _ _)) rfl)) (λh=>by cases h) (λ_=>Qn ?_))
  have hAll:∀g∈L++[e],PO R m g:=λg hg=>by
   rcases ZK.mp hg with z | z
   ·exact hP g z
   ·rw[ZF.mp z];exact hE
  have lA:(L++[e]).length=i+1:=by rw[Zt,hL];rfl
  generalize hA:L++[e]=A at hAll lA
  refine run_seq (QX (toD:=λ(k:Nat)=> .int (k:Int)) (List.range A.length) (λ_ ρ=>∃j12,ρ=[some (.lst (ns.map .int),false),some (Qm cs,true),some (Qj m R [],true),none,some (Qc m h2,true),some (.lst (A.map λe=>Qc m e.1),true),some (.lst (A.map λe=>Qd e.2),true),some (.int c,true),some (.int nb,true),some (.int pl,true),some (Qd t2,true),some (Qc m h2,true),j12]) (Qbv (n:=A.length) (by rw[Qcb (xs:=A.map λe=>Qc m e.1) (r:=⟨.lst (A.map λe=>Qc m e.1),true,[5]⟩) rfl rfl,Zd]) rfl (by omega)) rfl ⟨j12,rfl⟩ ?_ ?_)
  ·rintro k k' ρ hk ⟨j12,rfl⟩
   have hk':k<A.length/\k=k':=by
    obtain⟨h1,h2⟩:=Zb.mp hk
    simp at h1 h2;exact⟨h1,h2⟩
   obtain⟨hkA,rfl⟩:=hk'
   obtain⟨g,hg⟩:∃g,A[k]? =some g:=⟨_,Zp hkA⟩
   have Pg:=hAll g (Zy hg)
   refine⟨[some (.lst (ns.map .int),false),some (Qm cs,true),some (Qj m R [],true),none,some (Qc m h2,true),some (.lst (A.map λe=>Qc m e.1),true),some (.lst (A.map λe=>Qd e.2),true),some (.int c,true),some (.int nb,true),some (.int pl,true),some (Qd t2,true),some (Qc m h2,true),some (.int k,true)],rfl,?_⟩
   obtain⟨r1,x1,x2⟩:=QmK (fa:=Qa 5) (fb:=Qa 12) (ρ:=[some (.lst (ns.map .int),false),some (Qm cs,true),some (Qj m R [],true),none,some (Qc m h2,true),some (.lst (A.map λe=>Qc m e.1),true),some (.lst (A.map λe=>Qd e.2),true),some (.int c,true),some (.int nb,true),some (.int pl,true),some (Qd t2,true),some (Qc m h2,true),some (.int k,true)]) (ra:=⟨.lst (A.map λe=>Qc m e.1),true,[5]⟩) (rb:=⟨.int k,true,[]⟩) (xs:=A.map λe=>Qc m e.1) (k:=k) (d:=Qc m g.1) rfl rfl rfl rfl (by rw[Zm,hg];rfl)
   obtain⟨r2,y1,y2⟩:=QmK (fa:=Qa 6) (fb:=Qa 12) (ρ:=[some (.lst (ns.map .int),false),some (Qm cs,true),some (Qj m R [],true),none,some (Qc m h2,true),some (.lst (A.map λe=>Qc m e.1),true),some (.lst (A.map λe=>Qd e.2),true),some (.int c,true),some (.int nb,true),some (.int pl,true),some (Qd t2,true),some (Qc m h2,true),some (.int k,true)]) (ra:=⟨.lst (A.map λe=>Qd e.2),true,[6]⟩) (rb:=⟨.int k,true,[]⟩) (xs:=A.map λe=>Qd e.2) (k:=k) (d:=Qd g.2) rfl rfl rfl rfl (by rw[Zm,hg];rfl)
   have z1:=QkD (rb:=⟨Qc m h2,true,[4]⟩) (fb:=Qa 4) x1 rfl (by rw[x2];exact QiW 7 _ _) (QiW 7 _ _)
   have z2:=QkD (rb:=⟨Qd t2,true,[10]⟩) (fb:=Qa 10) y1 rfl (by rw[y2];exact Qev 7 _) (Qev 7 _)
   rw[x2,Qsd]at z1
   rw[y2,Qra]at z2
   have sm:=Pg.same hR P2
   refine Qay (QW (b:=false) ((QF (Qn9 z1 z2) rfl).trans ?_) (λh=>by cases h) (λ_=>Qn (Qn ⟨_,rfl⟩)))
   dsimp only at sm ⊢
   congr 1
   rw[bne_eq_false_iff_eq,decide_eq_decide]
   exact sm
  ·rintro ρ ⟨j12,rfl⟩
   refine⟨.nx [some (.lst (ns.map .int),false),some (Qm cs,true),some (Qj m R [],true),none,none,some (.lst ((A.map λe=>Qc m e.1)++[Qc m h2]),true),some (.lst ((A.map λe=>Qd e.2)++[Qd t2]),true),some (.int c,true),some (.int nb,true),some (.int pl,true),none,some (Qc m h2,true),j12],?_,A,(h2,t2),some (.int c,true),some (.int nb,true),some (.int pl,true),none,some (Qc m h2,true),j12,lA,hAll,P2,by rw[ZY,ZY];rfl⟩
   unfold QiV
   rw[if_pos (by decide)]
   dsimp only[List.getElem?_cons_zero,List.getElem?_cons_succ]
   rw[if_pos ⟨rfl,rfl,by rw[Zd,lA,Qbd];omega,by rw[Zd,lA,Qbd];omega⟩]
   rfl
end HS
theorem HS.some_of{α:Type}{x:Option α}{d:α}(h:x.isSome=true):x=some (x.getD d):=by cases x with | none=>cases h | some a=>rfl
namespace Law
open PySem L2 HS
noncomputable section
def top(i:Nat):Stmt:=PySem.Challenge.pw_heapstill_k53_whole_there_and_back.main.body.getD i (.Pass ⟨0,0,0,0⟩)
abbrev cst:List (Str×Int):=[]
abbrev Sc(s:Stmt)(P:List Str):Prop:=QcK (namesOf (Qu s)) P (Qu s)
theorem scM{s:Stmt}{P:List Str}(h1:(Qu s).kind= .function)(h2:(Qu s).isCoroutine=false)(h3:(Qu s).isGenerator=false)(h4:(namesOf (Qu s)).Nodup/\(namesOf (Qu s)).take P.length=P/\(∀x∈P,(Qu s).names.lookup x=some .local ∨(Qu s).names.lookup x=some .cell)/\∀y∈(Qu s).names,y.2≠ .free):Sc s P:=⟨h1,h2,h3,h4.1,h4.2.1,h4.2.2.1,h4.2.2.2⟩
noncomputable abbrev Cp(s:Stmt)(Γ:List (Str×FnR)):Option DS:=QaP 60 (QiT s Γ cst) (QbC s)
noncomputable abbrev Dn(s:Stmt)(g:DS):Den:=Qs (namesOf (Qu s)).length g
noncomputable abbrev Gc(x:Str)(n:Nat)(d:Den)(Γ:List (Str×FnR)):List (Str×FnR):=(x,⟨n,[],d⟩)::Γ
abbrev Qci:=top 8
theorem QlS:Sc Qci ["net","rows"]:=scM rfl rfl rfl (by decide+kernel)
theorem Ql5:QE "need_rows" Qci ["net","rows"]:=λ_ _ _ _ _ _=>lc λ_=>lc λ_=>l0 rfl
def QgX:=(Cp Qci []).getD QH
theorem Qmg:Cp Qci []=some QgX:=some_of (by decide+kernel)
abbrev Qcj:=Dn Qci QgX
abbrev QeI:=Gc "need_rows" 2 Qcj []
abbrev QbI:=top 9
theorem QjT:Sc QbI ["net","heaps"]:=scM rfl rfl rfl (by decide+kernel)
theorem QkK:QE "need_heaps" QbI ["net","heaps"]:=λ_ _ _ _ _ _=>lc λ_=>lc λ_=>l0 rfl
def Qgk:=(Cp QbI QeI).getD QH
theorem QlE:Cp QbI QeI=some Qgk:=some_of (by decide+kernel)
abbrev Qaz:=Dn QbI Qgk
abbrev Qej:=Gc "need_heaps" 2 Qaz QeI
abbrev Qd8:=top 11
theorem QqH:Sc Qd8 ["roads","lanes"]:=scM rfl rfl rfl (by decide+kernel)
theorem Qsc:QE "steps" Qd8 ["roads","lanes"]:=λ_ _ _ _ _ _=>lc λ_=>lc λ_=>l0 rfl
def QmE:=(Cp Qd8 Qej).getD QH
theorem QtM:Cp Qd8 Qej=some QmE:=some_of (by decide+kernel)
abbrev QbP:=Dn Qd8 QmE
abbrev Qif:=Gc "steps" 2 QbP Qej
abbrev QbQ:=top 12
theorem Qj0:Sc QbQ ["net"]:=scM rfl rfl rfl (by decide+kernel)
theorem QlM:QE "toll_table" QbQ ["net"]:=λ_ _ _ _ _ _=>lc λ_=>l0 rfl
def Qgd:=(Cp QbQ Qif).getD QH
theorem Qks:Cp QbQ Qif=some Qgd:=some_of (by decide+kernel)
abbrev Q4:=Dn QbQ Qgd
abbrev Qek:=Gc "toll_table" 1 Q4 Qif
abbrev Qcg:=top 13
theorem Qkk:Sc Qcg ["net"]:=scM rfl rfl rfl (by decide+kernel)
theorem QlZ:QE "span_list" Qcg ["net"]:=λ_ _ _ _ _ _=>lc λ_=>l0 rfl
def Qg3:=(Cp Qcg Qek).getD QH
theorem Qmc:Cp Qcg Qek=some Qg3:=some_of (by decide+kernel)
abbrev Qce:=Dn Qcg Qg3
abbrev QeP:=Gc "span_list" 1 Qce Qek
abbrev Qd0:=top 15
theorem QqB:Sc Qd0 ["many","roads","lanes"]:=scM rfl rfl rfl (by decide+kernel)
theorem Qsq:QE "leads" Qd0 ["many","roads","lanes"]:=λ_ _ _ _ _ _=>lc λ_=>lc λ_=>lc λ_=>l0 rfl
def Qml:=(Cp Qd0 QeP).getD QH
theorem QtN:Cp Qd0 QeP=some Qml:=some_of (by decide+kernel)
abbrev Qd3:=Dn Qd0 Qml
abbrev Qin:=Gc "leads" 3 Qd3 QeP
abbrev QcJ:=top 16
theorem Qmj:Sc QcJ ["net"]:=scM rfl rfl rfl (by decide+kernel)
theorem Qnx:QE "is_plain" QcJ ["net"]:=λ_ _ _ _ _ _=>lc λ_=>l0 rfl
def QhQ:=(Cp QcJ Qin).getD QH
theorem QnH:Cp QcJ Qin=some QhQ:=some_of (by decide+kernel)
abbrev QcL:=Dn QcJ QhQ
abbrev QfD:=Gc "is_plain" 1 QcL Qin
abbrev QbL:=top 17
theorem QjM:Sc QbL ["net"]:=scM rfl rfl rfl (by decide+kernel)
theorem QlJ:QE "need_plain" QbL ["net"]:=λ_ _ _ _ _ _=>lc λ_=>l0 rfl
def Qga:=(Cp QbL QfD).getD QH
theorem Qk9:Cp QbL QfD=some Qga:=some_of (by decide+kernel)
abbrev Qav:=Dn QbL Qga
abbrev Qeu:=Gc "need_plain" 1 Qav QfD
abbrev Qc5:=top 20
theorem Qn1:Sc Qc5 ["tolls","heap","counts"]:=scM rfl rfl rfl (by decide+kernel)
theorem Qpu:QE "settled" Qc5 ["tolls","heap","counts"]:=λ_ _ _ _ _ _=>lc λ_=>lc λ_=>lc λ_=>l0 rfl
def QjF:=(Cp Qc5 Qeu).getD QH
theorem QoU:Cp Qc5 Qeu=some QjF:=some_of (by decide+kernel)
abbrev Qc2:=Dn Qc5 QjF
abbrev Qgo:=Gc "settled" 3 Qc2 Qeu
abbrev Qd5:=top 19
theorem Qq8:Sc Qd5 ["net","heap"]:=scM rfl rfl rfl (by decide+kernel)
theorem Qts:QE "still" Qd5 ["net","heap"]:=λ_ _ _ _ _ _=>lc λ_=>lc λ_=>l0 rfl
def Qmz:=(Cp Qd5 Qgo).getD QH
theorem QsG:Cp Qd5 Qgo=some Qmz:=some_of (by decide+kernel)
abbrev Qd2:=Dn Qd5 Qmz
abbrev QiR:=Gc "still" 2 Qd2 Qgo
abbrev Qa9:=top 21
theorem Qiw:Sc Qa9 ["toll","place","places"]:=scM rfl rfl rfl (by decide+kernel)
theorem QjQ:QE "roads_among" Qa9 ["toll","place","places"]:=λ_ _ _ _ _ _=>lc λ_=>lc λ_=>lc λ_=>l0 rfl
def QfZ:=(Cp Qa9 QiR).getD QH
theorem QjN:Cp Qa9 QiR=some QfZ:=some_of (by decide+kernel)
abbrev Qbe:=Dn Qa9 QfZ
abbrev QdK:=Gc "roads_among" 3 Qbe QiR
abbrev Qe4:=top 23
theorem Qr0:Sc Qe4 ["net","heap"]:=scM rfl rfl rfl (by decide+kernel)
theorem Qt7:QE "fire" Qe4 ["net","heap"]:=λ_ _ _ _ _ _=>lc λ_=>lc λ_=>l0 rfl
def QpK:=(Cp Qe4 QdK).getD QH
theorem Quc:Cp Qe4 QdK=some QpK:=some_of (by decide+kernel)
abbrev Qdh:=Dn Qe4 QpK
abbrev Qkr:=Gc "fire" 2 Qdh QdK
abbrev Qbb:=top 24
theorem QiB:Sc Qbb ["net","heap"]:=scM rfl rfl rfl (by decide+kernel)
theorem Qj4:QE "comes_again" Qbb ["net","heap"]:=λ_ _ _ _ _ _=>lc λ_=>lc λ_=>l0 rfl
def QfU:=(Cp Qbb Qkr).getD QH
theorem Qj1:Cp Qbb Qkr=some QfU:=some_of (by decide+kernel)
abbrev Qap:=Dn Qbb QfU
abbrev QdN:=Gc "comes_again" 2 Qap Qkr
abbrev Qcc:=top 29
theorem Qlq:Sc Qcc ["net","place"]:=scM rfl rfl rfl (by decide+kernel)
theorem Ql3:QE "road_ends" Qcc ["net","place"]:=λ_ _ _ _ _ _=>lc λ_=>lc λ_=>l0 rfl
def QgT:=(Cp Qcc QdN).getD QH
theorem Ql1:Cp Qcc QdN=some QgT:=some_of (by decide+kernel)
abbrev Qcn:=Dn Qcc QgT
abbrev QeR:=Gc "road_ends" 2 Qcn QdN
abbrev Qa7:=top 28
theorem Qi1:Sc Qa7 ["net","place","marks"]:=scM rfl rfl rfl (by decide+kernel)
theorem QjZ:QE "own_choices" Qa7 ["net","place","marks"]:=λ_ _ _ _ _ _=>lc λ_=>lc λ_=>lc λ_=>l0 rfl
def QfT:=(Cp Qa7 QeR).getD QH
theorem Qj2:Cp Qa7 QeR=some QfT:=some_of (by decide+kernel)
abbrev Qao:=Dn Qa7 QfT
abbrev QdJ:=Gc "own_choices" 3 Qao QeR
abbrev QcZ:=top 26
theorem QnS:Sc QcZ ["net","heap"]:=scM rfl rfl rfl (by decide+kernel)
theorem Qpx:QE "tree_of" QcZ ["net","heap"]:=λ_ _ _ _ _ _=>lc λ_=>lc λ_=>l0 rfl
def Qjr:=(Cp QcZ QdJ).getD QH
theorem QoF:Cp QcZ QdJ=some Qjr:=some_of (by decide+kernel)
abbrev QbR:=Dn QcZ Qjr
abbrev Qgi:=Gc "tree_of" 2 QbR QdJ
abbrev Qba:=top 30
theorem Qi5:Sc Qba ["net","tree"]:=scM rfl rfl rfl (by decide+kernel)
theorem QjP:QE "tree_depths" Qba ["net","tree"]:=λ_ _ _ _ _ _=>lc λ_=>lc λ_=>l0 rfl
def QfQ:=(Cp Qba Qgi).getD QH
theorem QjL:Cp Qba Qgi=some QfQ:=some_of (by decide+kernel)
abbrev Qan:=Dn Qba QfQ
abbrev QdM:=Gc "tree_depths" 2 Qan Qgi
abbrev Qcd:=top 31
theorem QlK:Sc Qcd ["net","tree"]:=scM rfl rfl rfl (by decide+kernel)
theorem Ql7:QE "need_tree" Qcd ["net","tree"]:=λ_ _ _ _ _ _=>lc λ_=>lc λ_=>l0 rfl
def Qg0:=(Cp Qcd QdM).getD QH
theorem Qmb:Cp Qcd QdM=some Qg0:=some_of (by decide+kernel)
abbrev Qch:=Dn Qcd Qg0
abbrev QeK:=Gc "need_tree" 2 Qch QdM
abbrev Qc4:=top 27
theorem Qns:Sc Qc4 ["net","tree"]:=scM rfl rfl rfl (by decide+kernel)
theorem Qpm:QE "heap_of" Qc4 ["net","tree"]:=λ_ _ _ _ _ _=>lc λ_=>lc λ_=>l0 rfl
def Qjf:=(Cp Qc4 QeK).getD QH
theorem QpA:Cp Qc4 QeK=some Qjf:=some_of (by decide+kernel)
abbrev Qcx:=Dn Qc4 Qjf
abbrev Qgc:=Gc "heap_of" 2 Qcx QeK
abbrev QbO:=top 33
theorem QjU:Sc QbO ["_law_script","_law_many"]:=scM rfl rfl rfl (by decide+kernel)
theorem Qk3:QE "_law_cells" QbO ["_law_script","_law_many"]:=λ_ _ _ _ _ _=>lc λ_=>lc λ_=>l0 rfl
def Qf1:=(Cp QbO Qgc).getD QH
theorem QkP:Cp QbO Qgc=some Qf1:=some_of (by decide+kernel)
abbrev QbM:=Dn QbO Qf1
abbrev Qep:=Gc "_law_cells" 2 QbM Qgc
abbrev QbA:=top 34
theorem QjX:Sc QbA ["_law_found"]:=scM rfl rfl rfl (by decide+kernel)
theorem QkO:QE "_law_whole" QbA ["_law_found"]:=λ_ _ _ _ _ _=>lc λ_=>l0 rfl
def Qf6:=(Cp QbA Qep).getD QH
theorem QlN:Cp QbA Qep=some Qf6:=some_of (by decide+kernel)
abbrev QbB:=Dn QbA Qf6
abbrev Qer:=Gc "_law_whole" 1 QbB Qep
abbrev Qco:=top 35
theorem QkC:Sc Qco ["_law_cells_here","_law_many"]:=scM rfl rfl rfl (by decide+kernel)
theorem Ql2:QE "_law_base" Qco ["_law_cells_here","_law_many"]:=λ_ _ _ _ _ _=>lc λ_=>lc λ_=>l0 rfl
def QgY:=(Cp Qco Qer).getD QH
theorem QlV:Cp Qco Qer=some QgY:=some_of (by decide+kernel)
abbrev Qcf:=Dn Qco QgY
abbrev QeV:=Gc "_law_base" 2 Qcf Qer
abbrev QcI:=top 36
theorem Ql4:Sc QcI ["_law_cells_here"]:=scM rfl rfl rfl (by decide+kernel)
theorem QnD:QE "_law_net" QcI ["_law_cells_here"]:=λ_ _ _ _ _ _=>lc λ_=>l0 rfl
def QhK:=(Cp QcI QeV).getD QH
theorem QnL:Cp QcI QeV=some QhK:=some_of (by decide+kernel)
abbrev QcC:=Dn QcI QhK
abbrev Qfk:=Gc "_law_net" 1 QcC QeV
abbrev Qck:=top 39
theorem Qkm:Sc Qck ["_law_cells_here","_law_net_here"]:=scM rfl rfl rfl (by decide+kernel)
theorem Ql0:QE "_law_tree" Qck ["_law_cells_here","_law_net_here"]:=λ_ _ _ _ _ _=>lc λ_=>lc λ_=>l0 rfl
def QgO:=(Cp Qck Qfk).getD QH
theorem Qmf:Cp Qck Qfk=some QgO:=some_of (by decide+kernel)
abbrev Qcl:=Dn Qck QgO
abbrev QeM:=Gc "_law_tree" 2 Qcl Qfk
abbrev Qa1:=top 40
theorem Qh3:Sc Qa1 ["_law_found","_law_many"]:=scM rfl rfl rfl (by decide+kernel)
theorem Qih:QE "_law_numbers" Qa1 ["_law_found","_law_many"]:=λ_ _ _ _ _ _=>lc λ_=>lc λ_=>l0 rfl
def Qfh:=(Cp Qa1 QeM).getD QH
theorem Qi2:Cp Qa1 QeM=some Qfh:=some_of (by decide+kernel)
abbrev Q6:=Dn Qa1 Qfh
abbrev Qdr:=Gc "_law_numbers" 2 Q6 QeM
abbrev Qbg:=top 41
theorem Qis:Sc Qbg ["_law_net_here","_law_tree_here"]:=scM rfl rfl rfl (by decide+kernel)
theorem QjY:QE "_law_depths" Qbg ["_law_net_here","_law_tree_here"]:=λ_ _ _ _ _ _=>lc λ_=>lc λ_=>l0 rfl
def QfV:=(Cp Qbg Qdr).getD QH
theorem QjR:Cp Qbg Qdr=some QfV:=some_of (by decide+kernel)
abbrev Qbc:=Dn Qbg QfV
abbrev QdI:=Gc "_law_depths" 2 Qbc Qdr
abbrev Qa0:=top 42
theorem QhS:Sc Qa0 ["_law_net_here","_law_tree_here"]:=scM rfl rfl rfl (by decide+kernel)
theorem QiQ:QE "_law_is_tree" Qa0 ["_law_net_here","_law_tree_here"]:=λ_ _ _ _ _ _=>lc λ_=>lc λ_=>l0 rfl
def Qe5:=(Cp Qa0 QdI).getD QH
theorem Qig:Cp Qa0 QdI=some Qe5:=some_of (by decide+kernel)
abbrev QaI:=Dn Qa0 Qe5
abbrev Qfj:=Gc "_law_is_tree" 2 QaI QdI
abbrev Qgy:=top 43
theorem QvB:Sc Qgy ["_law_script"]:=scM rfl rfl rfl (by decide+kernel)
theorem Qwy:QE "law" Qgy ["_law_script"]:=λ_ _ _ _ _ _=>lc λ_=>l0 rfl
def QrR:=(Cp Qgy Qfj).getD QH
theorem QwD:Cp Qgy Qfj=some QrR:=some_of (by decide+kernel)
abbrev QnQ:=Dn Qgy QrR
theorem Ql6:Qcj=Qs 3 (HS.QeW):=by kernel_rfl
theorem QkQ:Qaz=Qs 3 (HS.Qee Qcj):=by kernel_rfl
theorem QmA:QbP=Qs 4 (HS.Qiz):=by kernel_rfl
theorem Qlh:Q4=Qs 5 (HS.Qed QbP):=by kernel_rfl
theorem Qmh:Qce=Qs 1 (HS.QeQ Q4):=by kernel_rfl
theorem Qso:Qd3=Qs 8 (HS.Qms QbP):=by kernel_rfl
theorem QnF:QcL=Qs 1 (HS.Qhz):=by kernel_rfl
theorem QlB:Qav=Qs 1 (HS.Qes QcL):=by kernel_rfl
theorem Qpo:Qc2=Qs 9 (HS.Qge):=by kernel_rfl
theorem QtI:Qd2=Qs 8 (HS.QiM Qaz Q4 Qc2):=by kernel_rfl
theorem Qj5:Qbe=Qs 3 (HS.QfY):=by kernel_rfl
theorem Qua:Qdh=Qs 8 (HS.Qo1 Qav Qaz Q4 Qbe):=by kernel_rfl
theorem QjO:Qap=Qs 4 (HS.QfS Qdh Qce):=by kernel_rfl
theorem Qme:Qcn=Qs 2 (HS.QgS):=by kernel_rfl
theorem QjV:Qao=Qs 7 (HS.QfW Qcn):=by kernel_rfl
theorem QoQ:QbR=Qs 7 (HS.Qji Qdh Qap Qao):=by kernel_rfl
theorem QjW:Qan=Qs 2 (HS.QfX Qd3):=by kernel_rfl
theorem Qmi:Qch=Qs 2 (HS.QeN Qan):=by kernel_rfl
theorem Qom:Qcx=Qs 7 (HS.Qjp Qav Qch Qan Qao):=by kernel_rfl
theorem QlC:QbM=Qs 9 (HS.Qen):=by kernel_rfl
theorem Qls:QbB=Qs 1 (HS.Qf8):=by kernel_rfl
theorem Ql9:Qcf=Qs 10 (HS.QdO):=by kernel_rfl
theorem QnM:QcC=Qs 7 (HS.Qdk Qcf):=by kernel_rfl
theorem Qma:Qcl=Qs 8 (HS.Qc8):=by kernel_rfl
theorem QiG:Q6=Qs 3 (HS.Qem QbB):=by kernel_rfl
theorem Qj3:Qbc=Qs 7 (HS.QfR):=by kernel_rfl
theorem Qix:QaI=Qs 2 (HS.QdE Q6 Qbc):=by kernel_rfl
theorem Qv7:QnQ=Qs 13 (HS.QjI QbM QcC Qcl Qcx Q6 QbR QaI Qd2 Qap):=by kernel_rfl
end
end Law
namespace HS
open PySem PySem.Spec L2
noncomputable def Qrl(mg:Str->Option Value):List Str->Prop
 | []=>True
 | x::r=>mg x=none/\Qrl mg r
theorem Qkn{mg:Str->Option Value}:∀{l:List Str},Qrl mg l->∀x∈l,mg x=none
 | [],_,x,h=>by simp at h
 | y::r,h,x,hx=>by
  rcases Zn.mp hx with rfl | hx
  ·exact h.1
  ·exact Qkn h.2 x hx
noncomputable def QqX(mg:Str->Option Value):List (Str×Int)->Prop
 | []=>True
 | (x,i)::r=>(∃t,mg x=some (.int i t))/\QqX mg r
theorem Qkl{mg:Str->Option Value}:∀{l:List (Str×Int)},QqX mg l->∀x i,look x l=some i->∃t,mg x=some (.int i t)
 | [],_,x,i,h=>by cases h
 | (y,j)::r,h,x,i,hx=>by
  unfold look at hx
  split at hx
  ·rename_i e;cases hx;subst e;exact h.1
  ·exact Qkl h.2 x i hx
theorem Quk{mg:Str->Option Value}{cs:List (Str×Int)}(b:Qrl mg QkI)(c:QqX mg cs):QfH mg cs:=⟨Qkn b,Qkl c⟩
end HS
namespace Law
open HS
theorem QvR:CellsOk QbM:=by rw[QlC];exact Qrk
theorem QuB:QiS QbB:=by rw[Qls];exact Qqg
theorem Qwp:QiJ Qcf:=by rw[Ql9];exact Qp7
theorem Qxx:QiZ QcC:=by rw[QnM];exact QqM Qwp
theorem Qwh:Qhf Qcl:=by rw[Qma];exact Qpg
theorem QuF:QhV Q6:=by rw[QiG];exact QtJ QuB
theorem Qw1:QlF Qbc:=by rw[Qj3];exact Qr3
theorem Qxf:Qg6 QaI:=by rw[Qix];exact Qmk QuF Qw1
theorem QnR:QeX Q4:=by rw[Qlh,QmA];exact QtR
theorem Qwi:Qlf Qcj:=by rw[Ql6];exact Qt1
theorem QoT:QgJ Qaz:=by rw[QkQ];exact QqG Qwi
theorem QuC:Qir QcL:=by rw[QnF];exact QqJ
theorem QpL:QgF Qav:=by rw[QlB];exact QqS QuC
theorem QvF:Qii Qbe:=by rw[Qj5];exact QqT
theorem QrL:Qic Qdh:=by rw[Qua];exact Qtk QpL QoT QnR QvF
theorem Quv:Qlk Qce:=by rw[Qmh];exact Qsg QnR
theorem Qof:QgE Qap:=by rw[QjO];exact Qqm QrL Quv
theorem Qxg:Qf4 Qc2:=by rw[Qpo];exact Qnl
theorem Qvw:QiD Qd2:=by rw[QtI];exact Qqi QoT QnR Qxg
theorem Qup:Qiv Qd3:=by rw[Qso];exact Qrn λR L h=>by rw[QmA];exact QjK (by omega)
theorem QrS:QhH Qan:=by rw[QjW];exact QsT Qup
theorem Qu6:Qi6 Qch:=by rw[Qmi];exact Qqe QrS
theorem QwF:QiE Qcn:=by rw[Qme];exact QqL
theorem Qvz:Qj6 Qao:=by rw[QjV];exact QuN QwF
theorem QtF:Qha QbR:=by rw[QoQ];exact QoS QrL Qof Qvz
theorem QtD:Qhp Qcx:=by rw[Qom];exact Qod QpL Qu6 QrS Qvz
theorem QuQ(ns:List Int)(h:ns.length<=63):∃fr,QnQ [.lst (ns.map .int)]=some (.bl true,fr):=by
 rw[Qv7]
 exact⟨true,QvC QvR Qxx Qwh QtD QuF QtF Qxf Qvw Qof ns h⟩
end Law
namespace PySem.W.Fast
def tw8975388626841516201:=0
def tw7024134790690506767:=0
def tw2359244011114430870:=0
def tw17558939975597194244:=0
def tw446259382418806045:=0
def tw11136474265857500329:=0
def tw3850673349532083017:=0
def tw172967779144600617:=0
def tw10154137539934487717:=0
def tw9762207834996484123:=0
def tw16224678715848643077:=0
def tw4927277698310437587:=0
def tw16269494546052601018:=0
def tw18016188288834469151:=0
def tw10446455500410992137:=0
def tw1819638516812918630:=0
def tw1406047532540570989:=0
def tw10353145535699382968:=0
def tw1014093882973892270:=0
def tw17292262181463677266:=0
def tw8573656475784265245:=0
def tw7651115995301637237:=0
def tw4483441338107501852:=0
def tw4655773571009277473:=0
def tw8071425315231698592:=0
def tw16706869786012980762:=0
def tw8918536537589176526:=0
def tw10349476643224437213:=0
def tw9966820498338881650:=0
def tw10646903346253071523:=0
def tw15780535540962985442:=0
def tw8669510260117260275:=0
def tw15945213519454401009:=0
def tw17491156464137803779:=0
def tw15347029842412557570:=0
def tw13884596262512774315:=0
def tw16193571060489149044:=0
def tw16684431554240560677:=0
def tw16964413282084959132:=0
def tw10112168076291076633:=0
def tw5563380403456981494:=0
def tw4002607517514002778:=0
def tw18123425881218837780:=0
def tw7856718002613702156:=0
def tw16156541932994929739:=0
def tw5991351999078209418:=0
def tw18001570280989755625:=0
def tw7384182045508827600:=0
def tw10365495948816515964:=0
def tw15347953305267616390:=0
def tw4176776840271213425:=0
def tw10712839922293719736:=0
def tw2540492188426160846:=0
def tw6027268954802747496:=0
def tw13463038934506578432:=0
def tw4199821819223205904:=0
def tw10484229303160864255:=0
def tw7710552928453077302:=0
def tw16573288186253861760:=0
def tw4689595341419721088:=0
def tw6536176796980842556:=0
def tw11229043789438890862:=0
def tw10202452382125605855:=0
def tw4773675230355641725:=0
def tw4413042627120120314:=0
def tw3490405625683701729:=0
def tw12437192996650892526:=0
def tw807881684286912594:=0
def tw10891825676234225177:=0
def tw16353293486722410618:=0
def tw5114709904884932254:=0
def tw5186029555299038326:=0
def tw16340486690368078452:=0
def tw10174716895430690243:=0
def tw17581017543537180553:=0
def tw6051821723262412837:=0
def tw16785170774476293742:=0
def tw6755997726452437498:=0
def tw14240946869827463019:=0
def tw16104831118628783859:=0
def tw6143866476115075008:=0
def tw8563369129157696062:=0
def tw13925988715371421671:=0
def tw8736068769371435646:=0
def tw1511861081548209972:=0
def tw7908408688883778423:=0
def tw1382874399425458077:=0
def tw3983427204968933218:=0
def tw14867864155865698992:=0
def tw11021274960875222268:=0
def tw16532107969006816325:=0
def tw2157376013444530389:=0
def tw6067427506015212121:=0
def tw7868668259738799415:=0
def tw16434518112994807231:=0
def tw10918883515486652561:=0
def tw3200695169243276321:=0
def tw4869101877524058407:=0
def tw8445319242694756989:=0
def tw6496690315428020121:=0
def tw16719056339074556858:=0
def tw15885897805653440250:=0
def tw10587328800824916797:=0
def tw2579762194526042692:=0
end PySem.W.Fast
open PySem PySem.W PyProof.Rows HS
set_option maxRecDepth 100000 in
set_option maxHeartbeats 0 in
theorem PySem.Challenge.cw_heapstill_k53_whole_there_and_back_holds : PySem.Challenge.rw_heapstill_k53_whole_there_and_back.Holds := by
 w_on;o_law;k_head;(case hw=>w_witness2)
 k_fill
 refine HS.Qp8 (l:=PySem.Challenge.rw_heapstill_k53_whole_there_and_back) (k:=28) (x:= "_law_script") (den:=Law.QnQ) rfl rfl ⟨rfl,by decide,by decide⟩ (λw h Y=>PySem.W.kIn_of Y) Law.QuQ ?F
 case F=>
  intro w mg fa h KX G hmg
  obtain⟨f_need_rows,f_need_heaps,f_steps,f_toll_table,f_span_list,f_leads,f_is_plain,f_need_plain,f_settled,f_still,f_roads_among,f_fire,f_comes_again,f_road_ends,f_own_choices,f_tree_of,f_tree_depths,f_need_tree,f_heap_of,f__law_cells,f__law_whole,f__law_base,f__law_net,f__law_tree,f__law_numbers,f__law_depths,f__law_is_tree,f_law⟩:HS.Fact (L2.KOf KX) "need_rows" Law.Qci/\HS.Fact (L2.KOf KX) "need_heaps" Law.QbI/\HS.Fact (L2.KOf KX) "steps" Law.Qd8/\HS.Fact (L2.KOf KX) "toll_table" Law.QbQ/\HS.Fact (L2.KOf KX) "span_list" Law.Qcg/\HS.Fact (L2.KOf KX) "leads" Law.Qd0/\HS.Fact (L2.KOf KX) "is_plain" Law.QcJ/\HS.Fact (L2.KOf KX) "need_plain" Law.QbL/\HS.Fact (L2.KOf KX) "settled" Law.Qc5/\HS.Fact (L2.KOf KX) "still" Law.Qd5/\HS.Fact (L2.KOf KX) "roads_among" Law.Qa9/\HS.Fact (L2.KOf KX) "fire" Law.Qe4/\HS.Fact (L2.KOf KX) "comes_again" Law.Qbb/\HS.Fact (L2.KOf KX) "road_ends" Law.Qcc/\HS.Fact (L2.KOf KX) "own_choices" Law.Qa7/\HS.Fact (L2.KOf KX) "tree_of" Law.QcZ/\HS.Fact (L2.KOf KX) "tree_depths" Law.Qba/\HS.Fact (L2.KOf KX) "need_tree" Law.Qcd/\HS.Fact (L2.KOf KX) "heap_of" Law.Qc4/\HS.Fact (L2.KOf KX) "_law_cells" Law.QbO/\HS.Fact (L2.KOf KX) "_law_whole" Law.QbA/\HS.Fact (L2.KOf KX) "_law_base" Law.Qco/\HS.Fact (L2.KOf KX) "_law_net" Law.QcI/\HS.Fact (L2.KOf KX) "_law_tree" Law.Qck/\HS.Fact (L2.KOf KX) "_law_numbers" Law.Qa1/\HS.Fact (L2.KOf KX) "_law_depths" Law.Qbg/\HS.Fact (L2.KOf KX) "_law_is_tree" Law.Qa0/\HS.Fact (L2.KOf KX) "law" Law.Qgy:=by
   refine⟨?_,?_,?_,?_,?_,?_,?_,?_,?_,?_,?_,?_,?_,?_,?_,?_,?_,?_,?_,?_,?_,?_,?_,?_,?_,?_,?_,?_⟩<;>(dsimp only[L2.KOf];refine' HS.fact_mk ?a ?l ?c ?k;(case a=>k_is);(case l=>k_is);(case c=>k_is);(case k=>k_is))
  have M:HS.QfH mg Law.cst:=by
   obtain⟨n_range,n_enumerate,n_zip,n_len,n_list,n_min,n_max,n_sum,n_abs,n_isinstance,n_int,n_bool,n_tuple,n_str,n_divmod,n_sorted,n_any,n_all,n_set⟩:PySem.W.nsIn (L2.KOf KX) mainGlobals "range" =some none/\PySem.W.nsIn (L2.KOf KX) mainGlobals "enumerate" =some none/\PySem.W.nsIn (L2.KOf KX) mainGlobals "zip" =some none/\PySem.W.nsIn (L2.KOf KX) mainGlobals "len" =some none/\PySem.W.nsIn (L2.KOf KX) mainGlobals "list" =some none/\PySem.W.nsIn (L2.KOf KX) mainGlobals "min" =some none/\PySem.W.nsIn (L2.KOf KX) mainGlobals "max" =some none/\PySem.W.nsIn (L2.KOf KX) mainGlobals "sum" =some none/\PySem.W.nsIn (L2.KOf KX) mainGlobals "abs" =some none/\PySem.W.nsIn (L2.KOf KX) mainGlobals "isinstance" =some none/\PySem.W.nsIn (L2.KOf KX) mainGlobals "int" =some none/\PySem.W.nsIn (L2.KOf KX) mainGlobals "bool" =some none/\PySem.W.nsIn (L2.KOf KX) mainGlobals "tuple" =some none/\PySem.W.nsIn (L2.KOf KX) mainGlobals "str" =some none/\PySem.W.nsIn (L2.KOf KX) mainGlobals "divmod" =some none/\PySem.W.nsIn (L2.KOf KX) mainGlobals "sorted" =some none/\PySem.W.nsIn (L2.KOf KX) mainGlobals "any" =some none/\PySem.W.nsIn (L2.KOf KX) mainGlobals "all" =some none/\PySem.W.nsIn (L2.KOf KX) mainGlobals "set" =some none:=by refine⟨?_,?_,?_,?_,?_,?_,?_,?_,?_,?_,?_,?_,?_,?_,?_,?_,?_,?_,?_⟩<;>(dsimp only[L2.KOf];k_is)
   exact HS.Quk ⟨PySem.W.mg_none_of KX G n_range,PySem.W.mg_none_of KX G n_enumerate,PySem.W.mg_none_of KX G n_zip,PySem.W.mg_none_of KX G n_len,PySem.W.mg_none_of KX G n_list,PySem.W.mg_none_of KX G n_min,PySem.W.mg_none_of KX G n_max,PySem.W.mg_none_of KX G n_sum,PySem.W.mg_none_of KX G n_abs,PySem.W.mg_none_of KX G n_isinstance,PySem.W.mg_none_of KX G n_int,PySem.W.mg_none_of KX G n_bool,PySem.W.mg_none_of KX G n_tuple,PySem.W.mg_none_of KX G n_str,PySem.W.mg_none_of KX G n_divmod,PySem.W.mg_none_of KX G n_sorted,PySem.W.mg_none_of KX G n_any,PySem.W.mg_none_of KX G n_all,PySem.W.mg_none_of KX G n_set,True.intro⟩ True.intro
  have t0:∀base:Heap,HS.QcU (PySem.Challenge.rw_heapstill_k53_whole_there_and_back).prog w (L2.KOf KX) mg base 0 []:=λ_=>HS.QcU.nil
  have t_need_rows:=λb=>(t0 b).cons (HS.QI KX G f_need_rows Law.QlS Law.Ql5 M (t0 b) Law.Qmg)
  have t_need_heaps:=λb=>(t_need_rows b).cons (HS.QI KX G f_need_heaps Law.QjT Law.QkK M (t_need_rows b) Law.QlE)
  have t_steps:=λb=>(t_need_heaps b).cons (HS.QI KX G f_steps Law.QqH Law.Qsc M (t_need_heaps b) Law.QtM)
  have t_toll_table:=λb=>(t_steps b).cons (HS.QI KX G f_toll_table Law.Qj0 Law.QlM M (t_steps b) Law.Qks)
  have t_span_list:=λb=>(t_toll_table b).cons (HS.QI KX G f_span_list Law.Qkk Law.QlZ M (t_toll_table b) Law.Qmc)
  have t_leads:=λb=>(t_span_list b).cons (HS.QI KX G f_leads Law.QqB Law.Qsq M (t_span_list b) Law.QtN)
  have t_is_plain:=λb=>(t_leads b).cons (HS.QI KX G f_is_plain Law.Qmj Law.Qnx M (t_leads b) Law.QnH)
  have t_need_plain:=λb=>(t_is_plain b).cons (HS.QI KX G f_need_plain Law.QjM Law.QlJ M (t_is_plain b) Law.Qk9)
  have t_settled:=λb=>(t_need_plain b).cons (HS.QI KX G f_settled Law.Qn1 Law.Qpu M (t_need_plain b) Law.QoU)
  have t_still:=λb=>(t_settled b).cons (HS.QI KX G f_still Law.Qq8 Law.Qts M (t_settled b) Law.QsG)
  have t_roads_among:=λb=>(t_still b).cons (HS.QI KX G f_roads_among Law.Qiw Law.QjQ M (t_still b) Law.QjN)
  have t_fire:=λb=>(t_roads_among b).cons (HS.QI KX G f_fire Law.Qr0 Law.Qt7 M (t_roads_among b) Law.Quc)
  have t_comes_again:=λb=>(t_fire b).cons (HS.QI KX G f_comes_again Law.QiB Law.Qj4 M (t_fire b) Law.Qj1)
  have t_road_ends:=λb=>(t_comes_again b).cons (HS.QI KX G f_road_ends Law.Qlq Law.Ql3 M (t_comes_again b) Law.Ql1)
  have t_own_choices:=λb=>(t_road_ends b).cons (HS.QI KX G f_own_choices Law.Qi1 Law.QjZ M (t_road_ends b) Law.Qj2)
  have t_tree_of:=λb=>(t_own_choices b).cons (HS.QI KX G f_tree_of Law.QnS Law.Qpx M (t_own_choices b) Law.QoF)
  have t_tree_depths:=λb=>(t_tree_of b).cons (HS.QI KX G f_tree_depths Law.Qi5 Law.QjP M (t_tree_of b) Law.QjL)
  have t_need_tree:=λb=>(t_tree_depths b).cons (HS.QI KX G f_need_tree Law.QlK Law.Ql7 M (t_tree_depths b) Law.Qmb)
  have t_heap_of:=λb=>(t_need_tree b).cons (HS.QI KX G f_heap_of Law.Qns Law.Qpm M (t_need_tree b) Law.QpA)
  have t__law_cells:=λb=>(t_heap_of b).cons (HS.QI KX G f__law_cells Law.QjU Law.Qk3 M (t_heap_of b) Law.QkP)
  have t__law_whole:=λb=>(t__law_cells b).cons (HS.QI KX G f__law_whole Law.QjX Law.QkO M (t__law_cells b) Law.QlN)
  have t__law_base:=λb=>(t__law_whole b).cons (HS.QI KX G f__law_base Law.QkC Law.Ql2 M (t__law_whole b) Law.QlV)
  have t__law_net:=λb=>(t__law_base b).cons (HS.QI KX G f__law_net Law.Ql4 Law.QnD M (t__law_base b) Law.QnL)
  have t__law_tree:=λb=>(t__law_net b).cons (HS.QI KX G f__law_tree Law.Qkm Law.Ql0 M (t__law_net b) Law.Qmf)
  have t__law_numbers:=λb=>(t__law_tree b).cons (HS.QI KX G f__law_numbers Law.Qh3 Law.Qih M (t__law_tree b) Law.Qi2)
  have t__law_depths:=λb=>(t__law_numbers b).cons (HS.QI KX G f__law_depths Law.Qis Law.QjY M (t__law_numbers b) Law.QjR)
  have t__law_is_tree:=λb=>(t__law_depths b).cons (HS.QI KX G f__law_is_tree Law.QhS Law.QiQ M (t__law_depths b) Law.Qig)
  exact HS.Qv0 KX G hmg f_law Law.QvB Law.Qwy M (λbase=>t__law_is_tree base) Law.QwD
