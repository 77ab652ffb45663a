import PyProof.Rows.All
import Wide.All
import OpenK.AllK
import Wide.FinOn
import Lean
import PyProof.EqAt
import PyProof.EqKinds
import PyProof.TupleCall
import PyProof.Rows.TupTab
import PyProof.DictRoadsH
import PyProof.StrWalks
import PyProof.SliceStr2
import PyProof.StrBlockI
import PyProof.StrBlockG
import PyProof.StrCalls2
import KE.KIntText
import PyProof.Rows.StrSplitMax
import PyProof.ZipIter
import PyProof.EnumMake
import PyProof.Rows.FactsT2
import PyProof.Rows.EnumRows
import PyProof.P3In
import PyProof.NeData
import KE.KUnpack
import PyProof.Rows.TupDisplay
import PyProof.Rows.SumAny
import PyProof.Rows.MinMaxN
import PyProof.Rows.ListRangeD
import PyProof.Rows.Range3
import PyProof.Rows.RuleM_int
import PyProof.Rows.SortShell
import PyProof.Rows.SeqMore
import PyProof.DictWalks
import PyProof.ListRange
import PyProof.Rows.SetFrom
import PyProof.CollectIter
import PyProof.SetRoads
import PyProof.Rows.ReprOcc
import PyProof.StrLawsIdx
import PyProof.StrLawsIn
import PyProof.StrLawsJoin
import PyProof.StrLawsTight
import PyProof.StrLawsChain
import KE.IntTextText
import KE.KTryOn
import PyProof.ExcBaseAll.ValueError
import PyProof.RulesAs
import PyProof.ExcAttrAll.ValueError
import PyProof.Rows.RegTopCatchBFacts
import KE.RegKTryMore
import KE.RegKIsAll
import PyProof.StrLawsFirst
import PySem.Challenge.RW_heapstill_k11_ways_chosen
set_option Elab.async false
set_option linter.all false
set_option maxRecDepth 100000
def Za:= @Option.bind_some
def Zb:= @List.mem_cons_of_mem
def Zc:= @Option.map_eq_some_iff
def Zd:= @List.mem_append_left
def Ze:= @List.mem_append_right
def Zf:= @List.getElem?_set_ne
def Zg:= @Bool.and_eq_true
def Zh:= @List.getElem?_eq_some_iff
def Zi:= @List.length_cons
def Zj:= @List.mem_cons_self
def Zk:= @List.length_append
def Zl:= @List.mem_singleton
def Zm:= @List.mem_append
def Zn:= @List.getElem?_set_self
def Zo:= @List.mem_cons
def Zp:= @List.length_map
def Zq:= @Nat.le_refl
def Zr:= @List.getElem?_eq_none
def Zs:= @List.lookup_cons
def Zt:= @PySem.Heap.get?_push_of_some
def Zu:= @Nat.lt_of_lt_of_le
def Zv:= @PySem.Heap.lt_size
def Zw:= @List.map_cons
def Zx:= @List.size_toArray
def Zy:= @List.nodup_append
def Zz:= @List.count_eq_zero
def ZA:= @List.getElem?_map
def ZC:= @List.getD_eq_getElem?_getD
def ZD:= @List.append_nil
def ZE:= @List.getElem?_eq_getElem
def ZF:= @Nat.le_trans
def ZG:= @Int.emod_nonneg
def ZH:= @Int.emod_lt_of_pos
def ZI:= @List.contains_iff_mem
def ZJ:= @List.nodup_cons
def ZK:= @List.drop_eq_getElem_cons
def ZL:= @Nat.ne_of_lt
def ZM:= @PySem.Heap.get?_push_size
def ZN:= @PySem.W.kia_one
def ZO:= @Bool.not_eq_true'
def ZP:= @List.length_range
def ZQ:= @List.mem_range
def ZR:= @List.nodup_iff_count
def ZS:= @List.count_pos_iff
def ZT:= @Nat.zero_le
def ZU:= @List.map_append
def ZV:= @Bool.false_ne_true
def ZW:= @List.getElem?_append_left
def ZX:= @List.mem_map
def ZY:= @List.count_append
def ZZ:= @Nat.lt_irrefl
def Zaa:= @Int.toNat_natCast
def Zab:= @List.nodup_nil
def Zac:= @List.all_eq_true
def Zad:= @PySem.mem_of_lookup
def Zae:= @List.replicate_succ
def Zaf:= @List.getElem?_range
def Zag:= @List.mem_of_getElem?
def Zah:= @List.sum_cons
def Zai:= @List.flatten_cons
def Zaj:= @List.append_assoc
def Zak:= @List.map_map
def Zal:= @Array.length_toList
def Zam:= @List.map_congr_left
def Zan:= @List.mem_filter
def Zao:= @List.count_cons
def Zap:= @Option.map_some
def Zaq:= @List.filter_cons
def Zar:= @List.length_set
def Zas:= @PyProof.Rows.callWith_type1
def Zat:= @PySem.W.mg_of
def Zau:= @List.take_append_drop
def Zav:= @List.set_eq_take_append_cons_drop
def Zaw:= @Nat.le_succ
def Zax:= @List.ext_getElem?
def Zay:= @List.length_reverse
def Zaz:= @List.sum_append_int
def ZaA:= @PySem.Heap.size_push
def ZaB:= @List.eq_nil_of_length_eq_zero
def ZaC:= @List.mem_filterMap
def ZaD:= @PySem.W.callWith_K
def ZaE:= @List.zip_cons_cons
def ZaF:= @PyProof.Rows.boot_isinstance
def ZaG:= @List.reverse_cons
def ZaH:= @List.getElem?_append_right
def ZaI:= @Nat.pow_le_pow_right
def ZaJ:= @Nat.lt_succ_self
def ZaK:= @List.length_take
def ZaL:= @List.take_length
def ZaM:= @List.mem_reverse
def ZaN:= @PySem.W.hideAll_get
def ZaO:= @PySem.F.plainAttrs_list
def ZaP:= @Int.add_mul
def ZaQ:= @PySem.Heap.get?_update_other
def ZaR:= @Nat.lt_succ_of_lt
def ZaS:= @List.length_singleton
def ZaT:= @List.not_mem_nil
def ZaU:= @List.mem_flatten
def ZaV:= @List.isEmpty_iff
def ZaW:= @Int.mul_le_mul_of_nonneg_right
def ZaX:= @Nat.add_le_add_right
def ZaY:= @List.getElem?_zipIdx
def ZaZ:= @List.nil_append
def Zba:= @List.range_succ
def Zbb:= @List.filterMap_cons
def Zbc:= @PySem.W.plainGet_of
def Zbd:= @List.length_pos_iff
def Zbe:= @Bool.false_eq_true
def Zbf:= @List.getElem?_drop
def Zbg:= @List.getElem?_eq_none_iff
def Zbh:= @PySem.W.kitx_list
def Zbi:= @List.take_add_one
def Zbj:= @Int.emod_eq_of_lt
def Zbk:= @PySem.F.slot_list_append
def Zbl:= @PySem.F.type_list_append
def Zbm:= @List.map_take
def Zbn:= @PySem.W.makes_of
def Zbo:= @List.getElem?_replicate
def Zbp:= @List.length_drop
def Zbq:= @List.cons_append
def Zbr:= @List.foldlM_cons
def Zbs:= @List.drop_length
def Zbt:= @List.getElem_mem
def Zbu:= @Classical.axiomOfChoice
def Zbv:= @Nat.le_of_lt
def Zbw:= @PySem.W.cellsFrom_some
def Zbx:= @PyProof.Rows.boot_list
def Zby:= @List.append_eq_nil_iff
def Zbz:= @Int.zero_mul
def ZbA:= @List.take_of_length_le
def ZbB:= @List.of_mem_zip
def ZbC:= @List.foldl_cons
def ZbD:= @Nat.min_eq_left
def ZbE:= @Int.le_refl
def ZbF:= @Int.mul_nonneg
def ZbG:= @List.any_cons
namespace L2
open PySem PySem.Spec PyProof.Rows
noncomputable abbrev Key:=Sum Int Str
noncomputable def QsT:Key->Value->Bool
 | .inl k,v=>Value.isInt k v
 | .inr x,v=>Value.isStrOf x v
noncomputable def QyB(w:World):Key->Int
 | .inl k=>hashInt k
 | .inr x=>hashStr w x
theorem QaJ:∀{k:Key}{v:Value},QsT k v=true->(∃i t,k=Sum.inl i/\v=Value.int i t)∨(∃x t,k=Sum.inr x/\v=Value.str x t)
 | .inl i,v,h=>by
  obtain⟨t,e⟩:=Value.isInt_shape (k:=i) (v:=v) h
  exact .inl ⟨i,t,rfl,e⟩
 | .inr x,v,h=>by
  obtain⟨t,e⟩:=Value.isStrOf_shape (x:=x) (v:=v) h
  exact .inr ⟨x,t,rfl,e⟩
theorem QwV(a b:Int):decide ((Sum.inl a:Key)=Sum.inl b)=(a == b):=by
 by_cases e:a=b
 ·subst e;simp
 ·have h:¬(Sum.inl a:Key)=Sum.inl b:=λq=>e (Sum.inl.inj q)
  rw[decide_eq_false h]
  exact(beq_eq_false_iff_ne.mpr e).symm
theorem QvP(a b:Str):decide ((Sum.inr a:Key)=Sum.inr b)=decide (a=b):=by
 by_cases e:a=b
 ·subst e;simp
 ·have h:¬(Sum.inr a:Key)=Sum.inr b:=λq=>e (Sum.inr.inj q)
  rw[decide_eq_false h,decide_eq_false e]
theorem Qu4(a:Int)(b:Str):decide ((Sum.inl a:Key)=Sum.inr b)=false:=decide_eq_false (λq=>nomatch q)
theorem Qvv(a:Str)(b:Int):decide ((Sum.inr a:Key)=Sum.inl b)=false:=decide_eq_false (λq=>nomatch q)
noncomputable def Qj6(prog:Program)(w:World):PySem.KeyKind prog w Key where
 is:=QsT
 hash:=QyB w
 inj:=λv a b ha hb=>by
  rcases QaJ ha with⟨i,t,rfl,rfl⟩ | ⟨x,t,rfl,rfl⟩
  ·rcases QaJ hb with⟨j,u,rfl,e⟩ | ⟨y,u,rfl,e⟩
   ·injection e with e1 _;rw[e1]
   ·exact nomatch e
  ·rcases QaJ hb with⟨j,u,rfl,e⟩ | ⟨y,u,rfl,e⟩
   ·exact nomatch e
   ·injection e with e1 _;rw[e1]
 byValue:=λk v h=>by
  rcases QaJ h with⟨i,t,rfl,rfl⟩ | ⟨x,t,rfl,rfl⟩<;>rfl
 pyHash:=λhv h=>by
  rcases QaJ hv with⟨i,t,rfl,rfl⟩ | ⟨x,t,rfl,rfl⟩
  ·exact wpAny_pyHash_int h
  ·exact wpAny_pyHash_str h
 eqBool:=λhu hv h=>by
  rcases QaJ hu with⟨i,t,rfl,rfl⟩ | ⟨x,t,rfl,rfl⟩
  ·rcases QaJ hv with⟨j,u,rfl,rfl⟩ | ⟨y,u,rfl,rfl⟩
   ·rw[QwV]at h;exact wpAny_eqBool_int h
   ·rw[Qu4]at h;exact SeqAt.EqAt.int_str i t y u _ _ _ _ h
  ·rcases QaJ hv with⟨j,u,rfl,rfl⟩ | ⟨y,u,rfl,rfl⟩
   ·rw[Qvv]at h;exact SeqAt.EqAt.str_int x t j u _ _ _ _ h
   ·rw[QvP]at h;exact wpAny_eqBool_str h
 «strs» :=λk x t v h=>by
  rcases QaJ h with⟨i,u,rfl,e⟩ | ⟨y,u,rfl,e⟩
  ·exact nomatch e
  ·injection e with e1 _
   subst e1
   cases v<;>rfl
end L2
namespace L2
open PySem PySem.Spec PyProof.Rows
inductive V where
 | non | bl (b:Bool) | int (i:Int) | str (x:Str) | byt (b:Array UInt8) | flt (b:UInt64) | ref (a:Addr) | ty (n:String)
 deriving DecidableEq
noncomputable def RelV:V->Value->Prop
 | .non,u=>u=Value.none
 | .bl b,u=>u=Value.bool b
 | .int i,u=>∃t,u=Value.int i t
 | .str x,u=>∃t,u=Value.str x t
 | .byt b,u=>∃t,u=Value.bytes b t
 | .flt b,u=>∃t,u=Value.float b t
 | .ref a,u=>u=Value.ref a
 | .ty n,u=>u=Value.type n
noncomputable abbrev Qq:List V->List Value->Prop:=Paired RelV
theorem Qq.length{xs:List V}{us:List Value}(r:Qq xs us):xs.length=us.length:=Paired.length r
theorem Qq.get:∀{xs:List V}{us:List Value}{i:Nat}{x:V},Qq xs us->xs[i]? =some x->∃u,us[i]? =some u/\RelV x u
 | _,_,_,_,.nil,e=>by simp at e
 | _,_,0,_,.cons r _,e=>by simp at e;subst e;exact⟨_,rfl,r⟩
 | _,_,i+1,x,.cons _ t,e=>by
  obtain⟨u,h1,h2⟩:=Qq.get (i:=i) (x:=x) t (by simpa using e)
  exact⟨u,by simpa using h1,h2⟩
theorem Qq.set{x:V}{u:Value}(r:RelV x u):∀{xs:List V}{us:List Value}(i:Nat),Qq xs us->Qq (xs.set i x) (us.set i u)
 | _,_,_,.nil=> .nil
 | _,_,0,.cons _ t=> .cons r t
 | _,_,i+1,.cons q t=> .cons q (Qq.set r i t)
theorem exK{α β γ δ:Type}{P Q R:α->β->γ->δ->Prop}{G:Prop}(k:∀a b c d,P a b c d->Q a b c d->R a b c d->G)(h:∃a b c d,P a b c d/\Q a b c d/\R a b c d):G:=let ⟨a,b,c,d,p,q,r⟩:=h;k a b c d p q r
theorem exJ{α β:Type}{P Q R:α->β->Prop}{G:Prop}(k:∀a b,P a b->Q a b->R a b->G)(h:∃a b,P a b/\Q a b/\R a b):G:=let ⟨a,b,p,q,r⟩:=h;k a b p q r
theorem Qq.append{xs ys:List V}{us ws:List Value}(h:Qq xs us)(s:Qq ys ws):Qq (xs++ys) (us++ws):=by
 induction h with
 | nil=>exact s
 | cons r t ih=>exact .cons r ih
theorem Qq.take:∀{xs:List V}{us:List Value}(n:Nat),Qq xs us->Qq (xs.take n) (us.take n)
 | _,_,0,_=> .nil
 | _,_,_+1,.nil=> .nil
 | _,_,n+1,.cons r t=> .cons r (Qq.take n t)
theorem Qq.drop:∀{xs:List V}{us:List Value}(n:Nat),Qq xs us->Qq (xs.drop n) (us.drop n)
 | _,_,0,r=>r
 | _,_,_+1,.nil=> .nil
 | _,_,n+1,.cons _ t=>Qq.drop n t
theorem Qq.none_of:∀{xs:List V}{us:List Value}{i:Nat},Qq xs us->xs[i]? =none->us[i]? =none:=λ{xs us i} r e=>by
 have h1:=r.length
 have h2:xs.length<=i:=Zbg.mp e
 exact Zbg.mpr (by omega)
noncomputable def Qcx:Option V->Option Value->Prop
 | some v,some u=>RelV v u
 | none,none=>True
 | _,_=>False
noncomputable def KV{κ:Type}:List (κ×V)->List (κ×Value)->Prop:=Paired λ(p:κ×V) (q:κ×Value)=>p.1=q.1/\RelV p.2 q.2
noncomputable def kV:Key->V
 | .inl i=> .int i
 | .inr x=> .str x
inductive HO where
 | lst (xs:List V)
 | tup (xs:List V)
 | dK (kvs:List (Key×V)) | dT (kvs:List (List Key×V))
 | set (S:Int->Bool) (n:Nat)
 | ins (C dx:Addr) (fs:List (Str×V))
 | own (x:Addr)
 | xd (fs:List (Str×V))
 | met (f x:Addr)
 | rng (lo hi:Int)
 | frz (o:Obj) (u:HO)
 | tbl (ps:Array Value)
 | ext (φ:Heap->Prop)
noncomputable abbrev Hp:=Addr->Option HO
noncomputable def upd(H:Hp)(a:Addr)(o:HO):Hp:=λb=>if b=a then some o else H b
theorem QQ{H:Hp}{a:Addr}{o:HO}:upd H a o a=some o:=by unfold upd;rw[if_pos rfl]
theorem Qx{H:Hp}{a b:Addr}{o:HO}(h:b≠a):upd H a o b=H b:=by unfold upd;rw[if_neg h]
theorem Qk5{H:Hp}{a b:Addr}{o u:HO}(h:H a=some o)(h':H b=some u)(d:o≠u):a≠b:=by
 intro e;subst e;rw[h]at h';exact d (Option.some.inj h')
theorem Qbh{H:Hp}{a b:Addr}{o:HO}(h:H a=some o)(h':H b=none):a≠b:=by
 intro e;subst e;rw[h]at h';cases h'
section
variable (P:Program) (w:World)
noncomputable def QaB(H:Hp)(h:Heap)(a:Addr):HO->Prop
 | .lst xs=>xs.length<=sizeLine/\∃(its:List Value) (n:Nat),Qq xs its/\h.get? a=some {cls:= .type "list",data:= .seq its.toArray n}
 | .tup xs=>xs.length<=sizeLine/\∃its:List Value,Qq xs its/\IsTup h a its.toArray
 | .dK kvs=>kvs.length<=sizeLine/\(a == sysModules)=false/\∃vs,KV kvs vs/\h.DictOf (Qj6 P w) a vs
 | .dT kvs=>kvs.length<=sizeLine/\(a == sysModules)=false/\∃xs:List (List Key×Addr×Value),
   Paired (λ(p:List Key×V) (q:List Key×Addr×Value)=>p.1=q.1/\H q.2.1=some (.tup (p.1.map kV))/\RelV p.2 q.2.2) kvs xs∧
   ∃o es ep,h.get? a=some o/\o.ExactDict/\o.data= .dict es ep/\es.toList=xs.map (entryOfKey (tupleKind (Qj6 P w)))/\(xs.map (·.1)).Nodup
 | .set S n=>h.SetOf (intKind P w) a S n
 | .ins C dx fs=>H dx=some (.own a)/\fs.length<=1000/\dx≠a/\h.get? a=some (PySem.W.instObj C dx)∧
   ∃mA,h.Ns1 dx mA/\(∀f,Qcx (fs.lookup f) (mA f))/\PySem.Within mA (fs.map (·.1))
 | .own _=>∃o,h.get? a=some o
 | .xd fs=>∃mA,h.Ns1 a mA/\∀f,Qcx (fs.lookup f) (mA f)
 | .rng lo hi=>∃t u v,h.get? a=some {cls:= .type "range",data:= .fields #[.int lo t,.int hi u,.int 1 v]}
 | .frz o u=>h.get? a=some o/\QaB H h a u
 | .tbl ps=>h.get? a=some {cls:= .none,data:= .fields ps}
 | .met f x=>h.get? a=some (PySem.W.methodObj (.ref f) (.ref x))
 | .ext φ=>φ h/\(∃o,h.get? a=some o)/\∀h1 h2:Heap,φ h1->(∀o,h1.get? a=some o->h2.get? a=some o)->φ h2
def HOk(H:Hp)(h:Heap):Prop:=∀a o,H a=some o->QaB P w H h a o
end
section
variable {P:Program}{w:World}{H H':Hp}{h h':Heap}{a:Addr}{o:HO}
theorem QaB.lt(x:QaB P w H h a o):a<h.objs.size:=by
 cases o with
 | lst xs=>obtain⟨_,_,_,_,e⟩:=x;exact Zv e
 | tup xs=>obtain⟨_,_,_,p⟩:=x;exact p.lt
 | dK kvs=>obtain⟨_,_,_,_,o,_,_,e,_⟩:=x;exact Zv e
 | dT kvs=>obtain⟨_,_,_,_,o,_,_,e,_⟩:=x;exact Zv e
 | set S n=>obtain⟨o,_,_,_,e,_⟩:=x;exact Zv e
 | ins C dx fs=>obtain⟨_,_,_,e,_⟩:=x;exact Zv e
 | own y=>obtain⟨_,e⟩:=x;exact Zv e
 | xd fs=>obtain⟨_,⟨_,_,_,e,_⟩,_⟩:=x;exact Zv e
 | rng lo hi=>obtain⟨_,_,_,e⟩:=x;exact Zv e
 | frz ob u=>obtain⟨e,_⟩:=x;exact Zv e
 | tbl ps=>exact Zv (show h.get? a=some _ from x)
 | met f y=>exact Zv (show h.get? a=some _ from x)
 | ext φ=>obtain⟨_,⟨_,e⟩,_⟩:=x;exact Zv e
theorem Paired.QcT{α β:Type}{F G:α->β->Prop}:∀{l₁:List α}{l₂:List β},Paired F l₁ l₂->(∀a b,F a b->G a b)->Paired G l₁ l₂
 | _,_,.nil,_=> .nil
 | _,_,.cons r t,f=> .cons (f _ _ r) (Paired.QcT t f)
theorem QaB.Qey(x:QaB P w H h a o)(k:∀b u,(b=a∨H b=some (.own a))->h.get? b=some u->h'.get? b=some u)
  (ho:∀b,H b=some (.own a)->H' b=some (.own a)) (ht:∀b xs,H b=some (.tup xs)->H' b=some (.tup xs)):QaB P w H' h' a o:=by
 induction o with
 | lst xs=>obtain⟨z,its,n,r,e⟩:=x;exact⟨z,its,n,r,k _ _ (.inl rfl) e⟩
 | tup xs=>obtain⟨z,its,r,ob,e,c⟩:=x;exact⟨z,its,r,ob,k _ _ (.inl rfl) e,c⟩
 | dK kvs=>obtain⟨z,y,vs,r,ob,es,ep,e,c⟩:=x;exact⟨z,y,vs,r,ob,es,ep,k _ _ (.inl rfl) e,c⟩
 | dT kvs=>
  obtain⟨z,y,xs,r,ob,es,ep,e,c⟩:=x
  exact⟨z,y,xs,Paired.QcT r λp q z=>⟨z.1,ht _ _ z.2.1,z.2.2⟩,ob,es,ep,k _ _ (.inl rfl) e,c⟩
 | set S n=>obtain⟨ob,es,ep,t,e,c⟩:=x;exact⟨ob,es,ep,t,k _ _ (.inl rfl) e,c⟩
 | ins C dx fs=>
  obtain⟨d,z,ne,e,mA,⟨od,es,ep,e2,c⟩,r⟩:=x
  exact⟨ho _ d,z,ne,k _ _ (.inl rfl) e,mA,⟨od,es,ep,k _ _ (.inr d) e2,c⟩,r⟩
 | own y=>obtain⟨ob,e⟩:=x;exact⟨ob,k _ _ (.inl rfl) e⟩
 | xd fs=>obtain⟨mA,⟨od,es,ep,e,c⟩,r⟩:=x;exact⟨mA,⟨od,es,ep,k _ _ (.inl rfl) e,c⟩,r⟩
 | rng lo hi=>obtain⟨t,u,v,e⟩:=x;exact⟨t,u,v,k _ _ (.inl rfl) e⟩
 | frz ob u ih=>obtain⟨e,q⟩:=x;exact⟨k _ _ (.inl rfl) e,ih q⟩
 | tbl ps=>
  have e:h.get? a=some {cls:= .none,data:= .fields ps}:=x
  show h'.get? a=some {cls:= .none,data:= .fields ps}
  exact k a _ (.inl rfl) e
 | met f y=>
  have e:h.get? a=some (PySem.W.methodObj (.ref f) (.ref y)):=x
  show h'.get? a=some (PySem.W.methodObj (.ref f) (.ref y))
  exact k a _ (.inl rfl) e
 | ext φ=>obtain⟨p,⟨o,e⟩,st⟩:=x;exact⟨st _ _ p λo q=>k _ _ (.inl rfl) q,⟨o,k _ _ (.inl rfl) e⟩,st⟩
theorem HOk.lt(x:HOk P w H h)(e:H a=some o):a<h.objs.size:=(x a o e).lt
theorem HOk.fresh(x:HOk P w H h)(e:h.objs.size<=a):H a=none:=by
 cases q:H a with
 | none=>rfl
 | some u=>exact absurd (Zu (x.lt q) e) (ZZ _)
theorem HOk.kept(x:HOk P w H h)(k:∀b u,h.get? b=some u->h'.get? b=some u):HOk P w H h':=λa o e=>
 (x a o e).Qey (λb u _ q=>k b u q) (λ_ q=>q) λ_ _ q=>q
theorem HOk.laid(x:HOk P w H h)(k:∀b u,h.get? b=some u->h'.get? b=some u)(hp:h.objs.size<=a)(new:QaB P w (upd H a o) h' a o):HOk P w (upd H a o) h':=λb u e=>by
 have hn:=x.fresh hp
 by_cases hb:b=a
 ·subst hb;rw[QQ]at e;cases e;exact new
 ·rw[Qx hb]at e
  exact(x b u e).Qey (λc v _ q=>k c v q) (λc q=>by rw[Qx (Qbh q hn)];exact q) λc xs q=>by rw[Qx (Qbh q hn)];exact q
end
def Rd(H:Hp)(a:Addr)(u:HO):Prop:=H a=some u∨∃o,H a=some (.frz o u)
theorem Rd.of{H:Hp}{a:Addr}{u:HO}(h:H a=some u):Rd H a u:= .inl h
theorem Rd.ok{P:Program}{w:World}{H:Hp}{h:Heap}{a:Addr}{u:HO}(r:Rd H a u)(x:HOk P w H h):QaB P w H h a u:=by
 rcases r with r | ⟨o,r⟩
 ·exact x a u r
 ·obtain⟨_,q⟩:=x a _ r
  exact q
noncomputable def Mut:Option HO->Prop
 | some (.lst _)=>True
 | some (.dK _)=>True
 | some (.dT _)=>True
 | some (.set _ _)=>True
 | some (.ins _ _ _)=>True
 | some (.ext _)=>True
 | _=>False
section
variable {P:Program}{w:World}{H:Hp}{h h':Heap}{x e:Addr}{o':HO}
theorem HOk.write(ok:HOk P w H h)(mu:Mut (H x))(he:e=x∨H e=some (.own x))(k:∀b u,b≠e->h.get? b=some u->h'.get? b=some u)(heo:∃u,h'.get? e=some u)
  (new:QaB P w (upd H x o') h' x o'):HOk P w (upd H x o') h':=λb u q=>by
 have nown:∀c y,H c=some (.own y)->c≠x:=λc y r z=>by subst z;rw[r]at mu;exact mu
 have ntup:∀c xs,H c=some (.tup xs)->c≠x:=λc xs r z=>by subst z;rw[r]at mu;exact mu
 by_cases hb:b=x
 ·subst hb;rw[QQ]at q;cases q;exact new
 ·rw[Qx hb]at q
  by_cases hbe:b=e
  ·have q':H b=some (.own x):=by
    rcases he with z | z
    ·exact absurd (hbe.trans z) hb
    ·rw[hbe];exact z
   rw[q]at q';cases q'
   obtain⟨v,hv⟩:=heo
   exact⟨v,by rw[hbe];exact hv⟩
  ·refine(ok b u q).Qey (λc v hc r=>k c v ?_ r) (λc r=>by rw[Qx (nown c b r)];exact r) λc xs r=>by rw[Qx (ntup c xs r)];exact r
   rcases hc with rfl | hc
   ·exact hbe
   ·rintro rfl
    rcases he with z | z
    ·exact nown c b hc z
    ·rw[hc]at z;cases z;exact hb rfl
end
structure Un (fs ex:List Addr) (H H':Hp) (h h':Heap):Prop where
 keep:∀b o,h.get? b=some o->H b=none->b∉fs->b∉ex->h'.get? b=some o
 slot:∀b o,h.get? b=some o->H b=none->b∈fs->b∉ex->∃sl,h'.get? b=some {o with slots:=sl}
 free:∀b o,h.get? b=some o->H b=none->b∉ex->H' b=none
 there:∀b o,h.get? b=some o->b∉ex->∃o',h'.get? b=some o'
 tups:∀b xs,H b=some (.tup xs)->H' b=some (.tup xs)
 frzs:∀b o u,H b=some (.frz o u)->H' b=some (.frz o u)
 tbls:∀b ps,H b=some (.tbl ps)->∃more,H' b=some (.tbl (ps++more))
section
variable {fs fs' ex ex':List Addr}{H H1 H2:Hp}{h h1 h2 h':Heap}{a x e:Addr}{o:HO}
theorem Un.any(u:Un fs ex H H1 h h1){b:Addr}{ob:Obj}(q:h.get? b=some ob)(n:H b=none)(hx:b∉ex):∃sl,h1.get? b=some {ob with slots:=sl}:=by
 by_cases hb:b∈fs
 ·exact u.slot b ob q n hb hx
 ·exact⟨ob.slots,u.keep b ob q n hb hx⟩
theorem Un.trans(a:Un fs ex H H1 h h1)(b:Un fs ex H1 H2 h1 h2):Un fs ex H H2 h h2 where
 keep:=λc ob q n hc hx=>b.keep c ob (a.keep c ob q n hc hx) (a.free c ob q n hx) hc hx
 slot:=λc ob q n hc hx=>by
  obtain⟨sl,e1⟩:=a.slot c ob q n hc hx
  obtain⟨sl',e2⟩:=b.slot c _ e1 (a.free c ob q n hx) hc hx
  exact⟨sl',e2⟩
 free:=λc ob q n hx=>by
  obtain⟨o',e1⟩:=a.there c ob q hx
  exact b.free c o' e1 (a.free c ob q n hx) hx
 there:=λc ob q hx=>by
  obtain⟨o',e1⟩:=a.there c ob q hx
  exact b.there c o' e1 hx
 tups:=λc xs q=>b.tups c xs (a.tups c xs q)
 frzs:=λc ob xs q=>b.frzs c ob xs (a.frzs c ob xs q)
 tbls:=λc ps q=>by
  obtain⟨m1,e1⟩:=a.tbls c ps q
  obtain⟨m2,e2⟩:=b.tbls c _ e1
  exact⟨m1++m2,by rw[e2,Array.append_assoc]⟩
theorem Un.kept(k:∀b u,h.get? b=some u->h'.get? b=some u):Un fs ex H H h h':=
 ⟨λb ob q _ _ _=>k b ob q,λb ob q _ _ _=>⟨ob.slots,k b ob q⟩,λ_ _ _ n _=>n,λb ob q _=>⟨ob,k b ob q⟩,λ_ _ q=>q,λ_ _ _ q=>q,λ_ ps q=>⟨#[],by rw[q];simp⟩⟩
theorem Un.refl:Un fs ex H H h h:=Un.kept λ_ _ q=>q
theorem Un.laid(k:∀b u,h.get? b=some u->h'.get? b=some u)(hp:h.objs.size<=a)(hn:H a=none):Un fs ex H (upd H a o) h h' where
 keep:=λb u q _ _ _=>k b u q
 slot:=λb u q _ _ _=>⟨u.slots,k b u q⟩
 free:=λb u q n _=>by rw[Qx (ZL (Zu (Zv q) hp))];exact n
 there:=λb u q _=>⟨u,k b u q⟩
 tups:=λb xs q=>by rw[Qx (Qbh q hn)];exact q
 frzs:=λb u xs q=>by rw[Qx (Qbh q hn)];exact q
 tbls:=λb ps q=>⟨#[],by rw[Qx (Qbh q hn),q];simp⟩
theorem Un.write(mu:Mut (H x))(he:e=x∨H e=some (.own x))(k:∀b u,b≠e->h.get? b=some u->h'.get? b=some u)(heo:∃u,h'.get? e=some u):Un fs ex H (upd H x o) h h':=by
 have hx:∀b,H b=none->b≠x:=λb n z=>by subst z;rw[n]at mu;exact mu
 have hb:∀b,H b=none->b≠e:=λb n z=>by
  subst z
  rcases he with r | r
  ·exact hx b n r
  ·rw[n]at r;cases r
 have hm:∀b u,H b=some u->¬Mut (some u)->b≠x:=λb u q nm z=>by subst z;rw[q]at mu;exact nm mu
 refine⟨λb u q n _ _=>k b u (hb b n) q,λb u q n _ _=>⟨u.slots,k b u (hb b n) q⟩,λb u q n _=>by rw[Qx (hx b n)];exact n,λb u q _=>?_,
  λb xs q=>by rw[Qx (hm b _ q λz=>z)];exact q,λb u xs q=>by rw[Qx (hm b _ q λz=>z)];exact q,λb ps q=>⟨#[],by rw[Qx (hm b _ q λz=>z),q];simp⟩⟩
 by_cases hbe:b=e
 ·subst hbe;exact heo
 ·exact⟨u,k b u hbe q⟩
theorem Un.mono(u:Un fs ex H H1 h h1)(hs:∀b∈fs,b∈fs')(hx:∀b∈ex,b∈ex'):Un fs' ex' H H1 h h1:=
 ⟨λb ob q n hb he=>u.keep b ob q n (λz=>hb (hs b z)) λz=>he (hx b z),λ_ _ q n _ he=>u.any q n λz=>he (hx _ z),λb ob q n he=>u.free b ob q n λz=>he (hx b z),λb ob q he=>u.there b ob q λz=>he (hx b z),u.tups,u.frzs,u.tbls⟩
end
noncomputable def trk(h:Heap)(H:Hp):List Addr:=(List.range h.objs.size).filter λa=>(H a).isSome
noncomputable def Qgm(h:Heap)(H:Hp):Heap:=PySem.W.hideAll h (trk h H)
theorem Qqk(h:Heap)(H:Hp):(Qgm h H).objs.size=h.objs.size:=PySem.W.hideAll_size _ _
theorem Qq2{h:Heap}{H:Hp}{b:Addr}{o:Obj}(e:h.get? b=some o)(n:H b=none):(Qgm h H).get? b=some o:=
 ZaN _ e λhm=>by
  have q:(H b).isSome=true:=(Zan.mp hm).2
  rw[n]at q;simp at q
theorem Qug{h:Heap}{H:Hp}{b:Addr}{o:Obj}(e:(Qgm h H).get? b=some o):h.get? b=some o/\H b=none:=by
 have e':h.get? b=some o:=PySem.W.of_hideAll (trk h H) e
 refine⟨e',?_⟩
 cases q:H b with
 | none=>rfl
 | some x=>
  have hm:b∈trk h H:=Zan.mpr ⟨ZQ.mpr (Zv e'),by simp[q]⟩
  have z:(Qgm h H).get? b=none:=PySem.W.hideAll_none (trk h H) hm
  rw[z]at e;cases e
noncomputable def Qtw(g h:Heap)(L:Addr):List (Addr×Obj):=(List.range h.objs.size).filterMap λa=>if a=L∨(g.get? a).isSome=true then none else(h.get? a).map λo=>(a,o)
noncomputable def rest(g h:Heap)(L d:Addr):List (Addr×Obj):=(Qtw g h L).filter λp=>decide (p.1≠d)
end L2
namespace L2
open PySem PySem.Spec PyProof.Rows
structure Mod (K:PySem.W.Frag) (mg:Str->Option Value) (base:Heap):Prop where
 kin:K.In base
 glob:base.Ns mainGlobals mg
 blt:∃mb,base.Ns builtinsNs mb/\∀x:Str,x≠ "__name__" ->mb x=bootBuiltins x
 nolimit:base.NoLimit
structure Cx where
 prog:Program
 w:World
 K:PySem.W.Frag
 mg:Str->Option Value
 base:Heap
 A:Around
 N:List Str
 s₀:Shared
 H₀:Hp
 env:Env
 outer:List Env
 stack:List Env
 ex:List Addr
 fn:Str->Bool
 calm:Bool
 pn:List (Addr×Obj)
 xe:Value->Shared->Prop
noncomputable def frs(l:List Env):List Addr:=l.filterMap (·.frame)
noncomputable abbrev Cx.fs(X:Cx):List Addr:=frs X.outer
def Vis(sc:Scope)(x:Str):Prop:=sc.names.lookup x=some .local ∨sc.names.lookup x=some .cell∨sc.names.lookup x=some .free
def Loc(sc:Scope)(x:Str):Prop:=sc.names.lookup x=some .local ∨sc.names.lookup x=some .cell
def Look(env:Env)(h:Heap)(m:Str->Option Value)(x:Str)(u:Value):Prop:=
 (env.kindOf x=some .local /\m x=some u)∨((env.kindOf x=some .cell∨env.kindOf x=some .free)/\∃c,env.cells.lookup x=some c/\h.IsCell c (some u))
structure Cx.Ok (X:Cx):Prop where
 mod:Mod X.K X.mg X.base
 kind:X.env.scope.kind= .function
 glob:X.env.globals=mainGlobals
 blt:X.env.builtins=builtinsNs
 above:X.s₀.heap.objs.size<=X.env.locals
 inj:∀x y c,X.env.cells.lookup x=some c->X.env.cells.lookup y=some c->x=y
 has:∀x,(X.env.kindOf x=some .cell∨X.env.kindOf x=some .free)->∃c,X.env.cells.lookup x=some c
 cab:∀x c,X.fn x=true->X.env.cells.lookup x=some c->X.s₀.heap.objs.size<=c
 hd:X.calm=true->X.A.handled=none
 frames:X.A.frames=some X.stack
 stk:X.stack=X.outer∨(X.stack=X.env::X.outer/\X.env.frame=some X.env.locals)
 exf:∀b∈X.ex,b≠X.env.locals/\∀x c,X.env.cells.lookup x=some c->c≠b
 bs:∀b o,X.base.get? b=some o->X.s₀.heap.get? b=some o/\X.H₀ b=none
 bsz:X.base.objs.size<=X.s₀.heap.objs.size
 noex:∀b o,X.base.get? b=some o->b∉X.ex
 exfs:∀b∈X.ex,b∉X.fs
 QcA:X.s₀.heap.FunFrames X.base X.outer
 frf:∀b∈X.fs,X.H₀ b=none
structure Inv (X:Cx) (pins:List (Addr×Obj)) (σ:List (Option V)) (H:Hp) (s:Shared):Prop where
 ok:X.Ok
 os:s.os=X.s₀.os
 bare:AllBare s.gens
 base:Un X.fs X.ex X.H₀ H X.s₀.heap s.heap
 loc:∃m,s.heap.Ns X.env.locals m/\∀(i:Nat) (x:Str) (v:V),X.N[i]? =some x->σ[i]? =some (some v)->Vis X.env.scope x->∃u,RelV v u/\Look X.env s.heap m x u
 cell:∀x c,X.env.cells.lookup x=some c->∃v,s.heap.IsCell c v
 free:H X.env.locals=none
 freeC:∀x c,X.env.cells.lookup x=some c->H c=none
 pin:∀p∈X.pn++pins,s.heap.get? p.1=some p.2/\H p.1=none/\p.1≠X.env.locals/\p.1∉X.fs/\∀v,p.2.data≠ .cell v
 hok:HOk X.prog X.w H s.heap
 len:σ.length=X.N.length
section
variable {X:Cx}{pins:List (Addr×Obj)}{σ:List (Option V)}{H H':Hp}{s:Shared}{h':Heap}
theorem Cx.Ok.Qy2(ok:X.Ok){b:Addr}{o:Obj}(e:X.base.get? b=some o):b∉X.fs:=λhb=>by
 have:=(ok.QcA.mem hb).1
 rw[e]at this;cases this
theorem Inv.bs(I:Inv X pins σ H s):∀b o,X.base.get? b=some o->s.heap.get? b=some o/\H b=none:=λb o e=>
 ⟨I.base.keep b o (I.ok.bs b o e).1 (I.ok.bs b o e).2 (I.ok.Qy2 e) (I.ok.noex b o e),I.base.free b o (I.ok.bs b o e).1 (I.ok.bs b o e).2 (I.ok.noex b o e)⟩
theorem Inv.bk(I:Inv X pins σ H s):∀b o,X.base.get? b=some o->s.heap.get? b=some o:=λb o e=>(I.bs b o e).1
theorem Inv.mod(I:Inv X pins σ H s):Mod X.K X.mg X.base:=I.ok.mod
theorem Inv.kIn(I:Inv X pins σ H s):X.K.In s.heap:=I.ok.mod.kin.keeps I.bk
theorem Inv.nolimit(I:Inv X pins σ H s):s.heap.NoLimit:=I.ok.mod.nolimit.keeps I.bk
theorem Inv.fr(I:Inv X pins σ H s):∃m,Fr X.base X.env.locals s.heap m:=
 let ⟨m,hn,_⟩:=I.loc
 ⟨m,hn,I.bk,ZF I.ok.bsz I.ok.above⟩
theorem Inv.lt(I:Inv X pins σ H s):X.env.locals<s.heap.objs.size:=let ⟨_,hn,_⟩:=I.loc;hn.lt
theorem Inv.sz(I:Inv X pins σ H s):X.s₀.heap.objs.size<=s.heap.objs.size:=ZF I.ok.above (Zbv I.lt)
theorem Inv.Qys(I:Inv X pins σ H s){a:Addr}(h:s.heap.objs.size<=a):a∉X.fs:=λhb=>by
 obtain⟨_,o,ho,_⟩:=I.ok.QcA.mem hb
 exact absurd (Zu (Zv ho) (ZF I.sz h)) (ZZ _)
theorem Inv.cne(I:Inv X pins σ H s):∀x c,X.env.cells.lookup x=some c->c≠X.env.locals:=λx c e z=>by
 obtain⟨v,o,ho,hd⟩:=I.cell x c e
 obtain⟨m,⟨o',es,ep,ho',hd',_⟩,_⟩:=I.loc
 rw[z,ho']at ho;cases ho;rw[hd']at hd;cases hd
theorem Inv.QcA(I:Inv X pins σ H s):s.heap.FunFrames X.base X.outer:=by
 have all:∀(l:List Env),(∀b∈frs l,b∈X.fs)->X.s₀.heap.FunFrames X.base l->s.heap.FunFrames X.base l:=by
  intro l
  induction l with
  | nil=>intro _ _;trivial
  | cons env r ih=>
   intro hs hl
   obtain⟨hk,⟨L,o,hf,hn,ho,hd⟩,hr⟩:=hl
   have hL:L∈X.fs:=hs L (by unfold frs;rw[Zbb,hf];exact Zj)
   obtain⟨sl,e⟩:=I.base.slot L o ho (I.ok.frf L hL) hL λz=>I.ok.exfs L z hL
   exact⟨hk,⟨L,_,hf,hn,e,hd⟩,ih (λb hb=>hs b (by unfold frs;rw[Zbb,hf];exact Zb _ hb)) hr⟩
 exact all X.outer (λ_ hb=>hb) I.ok.QcA
theorem Inv.stack(I:Inv X pins σ H s):s.heap.FunFrames X.base X.stack:=by
 rcases I.ok.stk with e | ⟨e,hf⟩
 ·rw[e];exact I.QcA
 ·rw[e]
  obtain⟨m,hn,_⟩:=I.loc
  refine .cons (by rw[I.ok.kind];decide) hf hn ?_ I.QcA
  exact Heap.get?_none_of_le (ZF I.ok.bsz I.ok.above)
theorem Inv.QdT(I:Inv X pins σ H s):∀b∈frs X.stack,b∈X.env.locals::X.fs:=λb hb=>by
 rcases I.ok.stk with e | ⟨e,hf⟩
 ·rw[e]at hb;exact Zb _ hb
 ·rw[e]at hb
  unfold frs at hb
  rw[Zbb,hf]at hb
  exact hb
theorem Inv.Qj4(I:Inv X pins σ H s):∀b∈frs X.stack,H b=none:=λb hb=>by
 rcases Zo.mp (I.QdT b hb)with e | hb
 ·rw[e];exact I.free
 ·obtain⟨_,o,ho,_⟩:=I.ok.QcA.mem hb
  exact I.base.free b o ho (I.ok.frf b hb) λz=>I.ok.exfs b z hb
theorem Inv.step{g':Array GenState}{t':Nat}{d':Drawn}{ch:List Addr}(I:Inv X pins σ H s)
  (hch:∀b∈ch,(b∈X.ex∨X.s₀.heap.objs.size<=b)/\b≠X.env.locals/\(∀x c,X.env.cells.lookup x=some c->c≠b)/\∀p∈X.pn++pins,p.1≠b)
  (keep:∀b o,b≠X.env.locals->b∉X.fs->b∉ch->s.heap.get? b=some o->H b=none->h'.get? b=some o)
  (slot:∀b o,b≠X.env.locals->b∈X.fs->b∉ch->s.heap.get? b=some o->H b=none->∃sl,h'.get? b=some {o with slots:=sl}) (free:∀b o,b∉ch->s.heap.get? b=some o->H b=none->H' b=none)
  (there:∀b o,b∉ch->s.heap.get? b=some o->∃o',h'.get? b=some o')
  (tups:∀b xs,H b=some (.tup xs)->H' b=some (.tup xs)) (frzs:∀b o u,H b=some (.frz o u)->H' b=some (.frz o u)) (tbls:∀b ps,H b=some (.tbl ps)->∃more,H' b=some (.tbl (ps++more)))
  (ns:∀m,s.heap.Ns X.env.locals m->h'.Ns X.env.locals m) (hok:HOk X.prog X.w H' h') (hg:AllBare g'):
  Inv X pins σ H' {s with heap:=h',gens:=g',drawn:=d',toks:=t'}:=by
 have neL:∀b o,X.s₀.heap.get? b=some o->b≠X.env.locals:=λb o e=>ZL (Zu (Zv e) I.ok.above)
 have neC:∀b o,X.s₀.heap.get? b=some o->b∉X.ex->b∉ch:=λb o e hx hb=>by
  rcases(hch b hb).1 with z | z
  ·exact hx z
  ·exact absurd (Zu (Zv e) z) (ZZ _)
 have cellK:∀x c,X.env.cells.lookup x=some c->∀v,s.heap.IsCell c v->h'.IsCell c v:=λx c e v hpt=>by
  obtain⟨o,ho,hd⟩:=hpt
  have nch:c∉ch:=λz=>(hch c z).2.2.1 x c e rfl
  by_cases hc:c∈X.fs
  ·obtain⟨sl,q⟩:=slot c o (I.cne x c e) hc nch ho (I.freeC x c e)
   exact⟨_,q,hd⟩
  ·exact⟨o,keep c o (I.cne x c e) hc nch ho (I.freeC x c e),hd⟩
 refine⟨I.ok,I.os,hg,⟨λb o e n hb hx=>?_,λb o e n hb hx=>?_,λb o e n hx=>?_,λb o e hx=>?_,λb xs e=>tups b xs (I.base.tups b xs e),λb o xs e=>frzs b o xs (I.base.frzs b o xs e),λb ps e=>?_⟩,?_,λx c e=>?_,?_,λx c e=>?_,λp hp=>?_,hok,I.len⟩
 ·exact keep b o (neL b o e) hb (neC b o e hx) (I.base.keep b o e n hb hx) (I.base.free b o e n hx)
 ·obtain⟨sl,e1⟩:=I.base.slot b o e n hb hx
  obtain⟨sl',e2⟩:=slot b _ (neL b o e) hb (neC b o e hx) e1 (I.base.free b o e n hx)
  exact⟨sl',e2⟩
 ·obtain⟨o',e1⟩:=I.base.there b o e hx
  exact free b o' (neC b o e hx) e1 (I.base.free b o e n hx)
 ·obtain⟨o',e1⟩:=I.base.there b o e hx
  exact there b o' (neC b o e hx) e1
 ·obtain⟨m1,e1⟩:=I.base.tbls b ps e
  obtain⟨m2,e2⟩:=tbls b _ e1
  exact⟨m1++m2,by rw[e2,Array.append_assoc]⟩
 ·obtain⟨m,hn,hl⟩:=I.loc
  refine⟨m,ns m hn,λi x v e1 e2 e3=>?_⟩
  obtain⟨u,r,l⟩:=hl i x v e1 e2 e3
  refine⟨u,r,?_⟩
  rcases l with l | ⟨k,c,e,z⟩
  ·exact .inl l
  ·exact .inr ⟨k,c,e,cellK x c e _ z⟩
 ·obtain⟨v,z⟩:=I.cell x c e
  exact⟨v,cellK x c e v z⟩
 ·obtain⟨m,⟨o,_,_,ho,_⟩,_⟩:=I.loc
  exact free _ o (λz=>(hch _ z).2.1 rfl) ho I.free
 ·obtain⟨v,o,ho,hd⟩:=I.cell x c e
  exact free c o (λz=>(hch c z).2.2.1 x c e rfl) ho (I.freeC x c e)
 ·obtain⟨e,n,ne,nf,d⟩:=I.pin p hp
  have nch:p.1∉ch:=λz=>(hch p.1 z).2.2.2 p hp rfl
  exact⟨keep p.1 p.2 ne nf nch e n,free p.1 p.2 nch e n,ne,nf,d⟩
theorem Inv.un{t':Nat}(I:Inv X pins σ H s)(u:Un X.fs [] H H' s.heap h')(hok:HOk X.prog X.w H' h'):Inv X pins σ H' {s with heap:=h',toks:=t'}:=by
 obtain⟨m,⟨o,es,ep,ho,r⟩,_⟩:=id I.loc
 obtain⟨sl,hL⟩:=u.any ho I.free (by simp)
 exact I.step (g':=s.gens) (d':=s.drawn) (ch:=[]) (λ_ z=>nomatch z) (λb o _ hb _ e n=>u.keep b o e n hb (by simp)) (λb o _ hb _ e n=>u.slot b o e n hb (by simp)) (λb o _ e n=>u.free b o e n (by simp)) (λb o _ e=>u.there b o e (by simp)) u.tups u.frzs u.tbls (λm' hm=>by
  obtain⟨o',es',ep',ho',r'⟩:=hm
  rw[ho]at ho';cases ho'
  exact⟨_,es',ep',hL,r'⟩) hok I.bare
theorem Inv.call{g':Array GenState}{t':Nat}{d':Drawn}{ch:List Addr}(I:Inv X pins σ H s)(u:Un (frs X.stack) ch H H' s.heap h')(hok:HOk X.prog X.w H' h')(hg:AllBare g')
  (hch:∀b∈ch,(b∈X.ex∨X.s₀.heap.objs.size<=b)/\b≠X.env.locals/\(∀x c,X.env.cells.lookup x=some c->c≠b)/\∀p∈X.pn++pins,p.1≠b):
  Inv X pins σ H' {s with heap:=h',gens:=g',drawn:=d',toks:=t'}:=by
 obtain⟨m,⟨o,es,ep,ho,r⟩,_⟩:=id I.loc
 obtain⟨sl,hL⟩:=u.any ho I.free λz=>(hch _ z).2.1 rfl
 exact I.step (ch:=ch) hch (λb o hL hb hc e n=>u.keep b o e n (λz=>(Zo.mp (I.QdT b z)).elim hL hb) hc) (λb o _ _ hc e n=>u.any e n hc) (λb o hc e n=>u.free b o e n hc) (λb o hc e=>u.there b o e hc) u.tups u.frzs u.tbls (λm' hm=>by
  obtain⟨o',es',ep',ho',r'⟩:=hm
  rw[ho]at ho';cases ho'
  exact⟨_,es',ep',hL,r'⟩) hok hg
theorem Inv.turned{t':Nat}{it:Addr}(I:Inv X pins σ H s)(k:∀b o,b≠it->s.heap.get? b=some o->h'.get? b=some o)(hn:H it=none)(hL:it≠X.env.locals)
  (h1:it∈X.ex∨X.s₀.heap.objs.size<=it) (h2:∀x c,X.env.cells.lookup x=some c->c≠it) (h3:∀p∈X.pn++pins,p.1≠it):Inv X pins σ H {s with heap:=h',toks:=t'}:=by
 have nit:∀b u,H b=some u->b≠it:=λb u e z=>by rw[z,hn]at e;cases e
 refine I.step (g':=s.gens) (d':=s.drawn) (ch:=[it]) (λb hb=>?_) (λb o _ _ hc e _=>k b o (λz=>hc (by simp[z])) e) (λb o _ _ hc e _=>⟨o.slots,k b o (λz=>hc (by simp[z])) e⟩) (λ_ _ _ _ n=>n)
  (λb o hc e=>⟨o,k b o (λz=>hc (by simp[z])) e⟩) (λ_ _ e=>e) (λ_ _ _ e=>e) (λb ps e=>⟨#[],by rw[e];simp⟩) (λm hm=>?_) (λb u e=>?_) I.bare
 ·have e:b=it:=by simpa using hb
  subst e
  exact⟨h1,hL,h2,h3⟩
 ·obtain⟨o,es,ep,ho,r⟩:=hm
  exact⟨o,es,ep,k _ o (Ne.symm hL) ho,r⟩
 ·refine(I.hok b u e).Qey (λc v hc q=>k c v ?_ q) (λ_ q=>q) λ_ _ q=>q
  rcases hc with z | z
  ·rw[z];exact nit b u e
  ·exact nit c _ z
theorem Inv.tok(I:Inv X pins σ H s)(t:Nat):Inv X pins σ H {s with toks:=t}:=I.un (h':=s.heap) (t':=t) Un.refl I.hok
theorem Inv.kept{t':Nat}(I:Inv X pins σ H s)(k:∀b u,s.heap.get? b=some u->h'.get? b=some u):Inv X pins σ H {s with heap:=h',toks:=t'}:=I.un (Un.kept k) (I.hok.kept k)
theorem Inv.laid{a:Addr}{o:HO}{t':Nat}(I:Inv X pins σ H s)(k:∀b u,s.heap.get? b=some u->h'.get? b=some u)(hp:s.heap.objs.size<=a)(new:QaB X.prog X.w (upd H a o) h' a o):
  Inv X pins σ (upd H a o) {s with heap:=h',toks:=t'}:=I.un (Un.laid k hp (I.hok.fresh hp)) (I.hok.laid k hp new)
theorem Inv.write{x e:Addr}{o:HO}{t':Nat}(I:Inv X pins σ H s)(mu:Mut (H x))(he:e=x∨H e=some (.own x))(k:∀b u,b≠e->s.heap.get? b=some u->h'.get? b=some u)(heo:∃u,h'.get? e=some u)
  (new:QaB X.prog X.w (upd H x o) h' x o):Inv X pins σ (upd H x o) {s with heap:=h',toks:=t'}:=I.un (Un.write mu he k heo) (I.hok.write mu he k heo new)
theorem Inv.weak{σ':List (Option V)}(I:Inv X pins σ H s)(hl:σ'.length=σ.length)(w:∀(i:Nat) v,σ'[i]? =some (some v)->σ[i]? =some (some v)):Inv X pins σ' H s:=
 ⟨I.ok,I.os,I.bare,I.base,let ⟨m,hn,hl'⟩:=I.loc;⟨m,hn,λi x v e1 e2 e3=>hl' i x v e1 (w i v e2) e3⟩,I.cell,I.free,I.freeC,I.pin,I.hok,hl.trans I.len⟩
theorem Inv.Qn4{pins':List (Addr×Obj)}(I:Inv X pins σ H s)(h:∀p∈pins',s.heap.get? p.1=some p.2/\H p.1=none/\p.1≠X.env.locals/\p.1∉X.fs/\∀v,p.2.data≠ .cell v):Inv X pins' σ H s:=
 ⟨I.ok,I.os,I.bare,I.base,I.loc,I.cell,I.free,I.freeC,λp hp=>(Zm.mp hp).elim (λz=>I.pin p (Zd _ z)) (h p),I.hok,I.len⟩
theorem Qip{N:List Str}(hN:N.Nodup){i j:Nat}{x:Str}(a:N[i]? =some x)(b:N[j]? =some x):i=j:=by
 obtain⟨h1,e1⟩:=Zh.mp a
 obtain⟨h2,e2⟩:=Zh.mp b
 exact(List.getElem_inj hN).mp (e1.trans e2.symm)
theorem QkH{M:Model}{A:Around}{E:Value->Shared->Prop}{i:Nat}{x:Str}{v:V}{u:Value}{Q:Unit->Shared->Prop}(I:Inv X pins σ H s)(hN:X.N.Nodup)(hi:X.N[i]? =some x)(hx:Loc X.env.scope x)(r:RelV v u)
  (h:∀s',Inv X pins (σ.set i (some v)) H s'->(∃a,Heap.SameBut a s.heap s'.heap/\(a=X.env.locals∨X.env.cells.lookup x=some a))->Q () s') (hf:X.fn x=true∨X.env.scope.names.lookup x=some .local :=by first | exact .inl rfl | exact .inr rfl | assumption):wpAny M A (storeName X.env x u) Q E s:=by
 obtain⟨m,hn,hl⟩:=id I.loc
 have hcls:(X.env.scope.kind == .class || (X.env.scope.kind == .module && X.env.locals != X.env.globals))=false:=by rw[I.ok.kind];rfl
 have hiσ:i<σ.length:=by rw[I.len];exact(Zh.mp hi).1
 have cne:=I.cne
 have tracked:∀{a:Addr}{h':Heap},(∃o,s.heap.get? a=some o/\H a=none)->Heap.SameBut a s.heap h'->HOk X.prog X.w H h':=λ{a h'} ha hs b ob e=>by
  obtain⟨_,_,hfree⟩:=ha
  refine(I.hok b ob e).Qey (λc w' hc q=>(hs.2 c ?_).trans q) (λ_ q=>q) λ_ _ q=>q
  rintro rfl
  rcases hc with rfl | hc
  ·rw[hfree]at e;cases e
  ·rw[hfree]at hc;cases hc
 rcases hx with hk | hk
 ·refine wpAny_storeName_local hk hn (λh' hn' hs=>?_) hcls
  obtain⟨oL,_,_,hoL,_⟩:=id hn
  refine h _ ⟨I.ok,I.os,I.bare,⟨λb o e n hb hx=>?_,λb o e n hb hx=>?_,I.base.free,λb o e hx=>?_,I.base.tups,I.base.frzs,I.base.tbls⟩,⟨_,hn',λj y v' e1 e2 e3=>?_⟩,λy c e=>?_,I.free,I.freeC,λp hp=>?_,tracked ⟨oL,hoL,I.free⟩ hs,by simpa using I.len⟩ ⟨_,hs,.inl rfl⟩
  ·exact(hs.2 b (ZL (Zu (Zv e) I.ok.above))).trans (I.base.keep b o e n hb hx)
  ·obtain⟨sl,e1⟩:=I.base.slot b o e n hb hx
   exact⟨sl,(hs.2 b (ZL (Zu (Zv e) I.ok.above))).trans e1⟩
  ·obtain⟨o',e1⟩:=I.base.there b o e hx
   exact⟨o',(hs.2 b (ZL (Zu (Zv e) I.ok.above))).trans e1⟩
  ·by_cases hj:j=i
   ·subst hj
    rw[hi]at e1;cases e1
    rw[Zn hiσ]at e2
    cases e2
    exact⟨u,r,.inl ⟨hk,by simp⟩⟩
   ·rw[Zf (Ne.symm hj)]at e2
    obtain⟨u',r',q⟩:=hl j y v' e1 e2 e3
    refine⟨u',r',?_⟩
    rcases q with⟨k,e⟩ | ⟨k,c,e,z⟩
    ·refine .inl ⟨k,?_⟩
     have:y≠x:=λe=>hj (Qip hN e1 (e▸hi))
     simp[this,e]
    ·exact .inr ⟨k,c,e,z.sameBut hs (cne y c e)⟩
  ·obtain⟨w',z⟩:=I.cell y c e
   exact⟨w',z.sameBut hs (cne y c e)⟩
  ·obtain⟨e,n,ne,nf,d⟩:=I.pin p hp
   exact⟨(hs.2 p.1 ne).trans e,n,ne,nf,d⟩
 ·have hfn:X.fn x=true:=by
   rcases hf with z | z
   ·exact z
   ·rw[z]at hk;cases hk
  obtain⟨c,hc⟩:=I.ok.has x (.inl hk)
  obtain⟨w',z⟩:=I.cell x c hc
  refine wpAny_storeName_cell I.ok.kind hk hc z (λh' hc' hs=>?_)
  obtain⟨oc,hoc,hocd⟩:=id z
  refine h {s with heap:=h'} ⟨I.ok,I.os,I.bare,⟨λb o e n hb hx=>?_,λb o e n hb hx=>?_,I.base.free,λb o e hx=>?_,I.base.tups,I.base.frzs,I.base.tbls⟩,⟨m,hn.sameBut hs (Ne.symm (cne x c hc)),λj y v' e1 e2 e3=>?_⟩,λy c' e=>?_,I.free,I.freeC,λp hp=>?_,tracked ⟨oc,hoc,I.freeC x c hc⟩ hs,by simpa using I.len⟩ ⟨c,hs,.inr hc⟩
  ·exact(hs.2 b (ZL (Zu (Zv e) (I.ok.cab x c hfn hc)))).trans (I.base.keep b o e n hb hx)
  ·obtain⟨sl,e1⟩:=I.base.slot b o e n hb hx
   exact⟨sl,(hs.2 b (ZL (Zu (Zv e) (I.ok.cab x c hfn hc)))).trans e1⟩
  ·obtain⟨o',e1⟩:=I.base.there b o e hx
   exact⟨o',(hs.2 b (ZL (Zu (Zv e) (I.ok.cab x c hfn hc)))).trans e1⟩
  ·by_cases hj:j=i
   ·subst hj
    rw[hi]at e1;cases e1
    rw[Zn hiσ]at e2
    cases e2
    exact⟨u,r,.inr ⟨.inl hk,c,hc,hc'⟩⟩
   ·rw[Zf (Ne.symm hj)]at e2
    obtain⟨u',r',q⟩:=hl j y v' e1 e2 e3
    refine⟨u',r',?_⟩
    rcases q with q | ⟨k,c',e,z'⟩
    ·exact .inl q
    ·refine .inr ⟨k,c',e,z'.sameBut hs ?_⟩
     rintro rfl
     exact hj (Qip hN e1 (I.ok.inj _ _ _ e hc▸hi))
  ·by_cases hcc:c'=c
   ·subst hcc;exact⟨_,hc'⟩
   ·obtain⟨w2,z2⟩:=I.cell y c' e
    exact⟨w2,z2.sameBut hs hcc⟩
  ·obtain⟨e,n,ne,nf,d⟩:=I.pin p hp
   refine⟨(hs.2 p.1 ?_).trans e,n,ne,nf,d⟩
   intro q
   rw[q,hoc]at e
   have q':oc=p.2:=Option.some.inj e
   exact d w' (by rw[← q'];exact hocd)
theorem QfR{M:Model}{A:Around}{E:Value->Shared->Prop}{i:Nat}{x:Str}{v:V}{u:Value}{Q:Unit->Shared->Prop}(I:Inv X pins σ H s)(hN:X.N.Nodup)(hi:X.N[i]? =some x)(hx:Loc X.env.scope x)(r:RelV v u)
  (h:∀s',Inv X pins (σ.set i (some v)) H s'->Q () s') (hf:X.fn x=true∨X.env.scope.names.lookup x=some .local :=by first | exact .inl rfl | exact .inr rfl | assumption):wpAny M A (storeName X.env x u) Q E s:=
 QkH I hN hi hx r (λs' I' _=>h s' I') hf
theorem Inv.Qoq{s':Shared}{ch:List Addr}(I:Inv X pins σ H s)(ho:s'.os=s.os)(u:Un (frs X.stack) ch H H' s.heap s'.heap)(hok:HOk X.prog X.w H' s'.heap)(hg:AllBare s'.gens)
  (hch:∀b∈ch,(b∈X.ex∨X.s₀.heap.objs.size<=b)/\b≠X.env.locals/\(∀x c,X.env.cells.lookup x=some c->c≠b)/\∀p∈X.pn++pins,p.1≠b):Inv X pins σ H' s':=by
 obtain⟨h',g',d',t',o'⟩:=s'
 have e:o'=s.os:=ho
 subst e
 exact I.call (g':=g') (t':=t') (d':=d') u hok hg hch
end
noncomputable abbrev XK:=Value->Option Addr->Hp->Prop
noncomputable abbrev St:=List (Option V)
noncomputable abbrev VK:=V->Hp->Prop
noncomputable abbrev TE:=St->Hp->VK->Prop
noncomputable abbrev TT:=St->Hp->(Bool->Hp->Prop)->Prop
noncomputable abbrev TA:=St->Hp->(List V->Hp->Prop)->Prop
structure Ends where
 nx:St->Hp->Prop
 rt:VK
 bk:St->Hp->Prop:=λ_ _=>False
 ct:St->Hp->Prop:=λ_ _=>False
noncomputable abbrev TS:=Ends->St->Hp->Prop
def EP(X:Cx)(pins:List (Addr×Obj))(σ:St)(Q:VK)(u:Value)(s':Shared):Prop:=∃v H',Inv X pins σ H' s'/\RelV v u/\Q v H'
def TP(X:Cx)(pins:List (Addr×Obj))(σ:St)(Q:Bool->Hp->Prop)(b:Bool)(s':Shared):Prop:=∃H',Inv X pins σ H' s'/\Q b H'
def AP(X:Cx)(pins:List (Addr×Obj))(σ:St)(Q:List V->Hp->Prop)(us:List Value)(s':Shared):Prop:=∃vs H',Inv X pins σ H' s'/\Qq vs us/\Q vs H'
def SP(X:Cx)(pins:List (Addr×Obj))(D:Ends)(f:Flow)(s':Shared):Prop:=
 match f with
 | .next=>∃σ' H',Inv X pins σ' H' s'/\D.nx σ' H'
 | .brk=>∃σ' H',Inv X pins σ' H' s'/\D.bk σ' H'
 | .cont=>∃σ' H',Inv X pins σ' H' s'/\D.ct σ' H'
 | .ret u=>∃v σ' H',Inv X pins σ' H' s'/\RelV v u/\D.rt v H'
def PE(X:Cx)(e:Expr)(t:TE):Prop:=
 ∀(pins:List (Addr×Obj)) (s:Shared) (σ:St) (H:Hp) (Q:VK),Inv X pins σ H s->t σ H Q->wpAny (model X.prog X.w) X.A (eval e X.env) (EP X pins σ Q) X.xe s
def PT(X:Cx)(e:Expr)(t:TT):Prop:=
 ∀(pins:List (Addr×Obj)) (s:Shared) (σ:St) (H:Hp) (Q:Bool->Hp->Prop),Inv X pins σ H s->t σ H Q->wpAny (model X.prog X.w) X.A (isTrue e X.env (eval e X.env)) (TP X pins σ Q) X.xe s
def PW(X:Cx)(e:Expr)(t:TT):Prop:=
 ∀(whole:Sem Value) (pins:List (Addr×Obj)) (s:Shared) (σ:St) (H:Hp) (Q:Bool->Hp->Prop),Inv X pins σ H s->t σ H Q->wpAny (model X.prog X.w) X.A (isTrue e X.env whole) (TP X pins σ Q) X.xe s
theorem PW.pt{X:Cx}{e:Expr}{t:TT}(h:PW X e t):PT X e t:=h _
def PA(X:Cx)(es:List Expr)(t:TA):Prop:=
 ∀(pos:Pos) (pins:List (Addr×Obj)) (s:Shared) (σ:St) (H:Hp) (Q:List V->Hp->Prop),Inv X pins σ H s->t σ H Q->wpAny (model X.prog X.w) X.A (spliced (backTo pos (starEach es X.env))) (AP X pins σ Q) X.xe s
def PS(X:Cx)(st:Stmt)(t:TS):Prop:=
 ∀(pins:List (Addr×Obj)) (s:Shared) (σ:St) (H:Hp) (D:Ends),Inv X pins σ H s->t D σ H->wpAny (model X.prog X.w) X.A (exec st X.env) (SP X pins D) X.xe s
def PSs(X:Cx)(st:List Stmt)(t:TS):Prop:=
 ∀(pins:List (Addr×Obj)) (s:Shared) (σ:St) (H:Hp) (D:Ends),Inv X pins σ H s->t D σ H->wpAny (model X.prog X.w) X.A (execs st X.env) (SP X pins D) X.xe s
theorem thn{α:Type}{t:Sem α}{Q Q':α->Shared->Prop}{M:Model}{A:Around}{E:Value->Shared->Prop}{s:Shared}(h:wpAny M A t Q E s)(hQ:∀a s,Q a s->Q' a s):wpAny M A t Q' E s:=wpAny_mono h hQ λ_ _ x=>x
end L2
namespace L2
open PySem PySem.Spec PyProof.Rows
section
variable {X:Cx}
noncomputable def QbX(i:Nat):TE:=λσ H Q=>∃v,σ[i]? =some (some v)/\Q v H
noncomputable def tC(v:V):TE:=λ_ H Q=>Q v H
theorem QwD{i:Nat}{x:Str}{pos:Pos}(hN:X.N[i]? =some x)(hv:Vis X.env.scope x)(hd:(x == ("__debug__" :Str))=false:=by decide)(hcd:(x == ("__classdict__" :Str))=false:=by decide):PE X (.Name x pos) (QbX i):=by
 intro pins s σ H Q I h
 obtain⟨v,e,h⟩:=h
 obtain⟨m,hn,hl⟩:=I.loc
 obtain⟨u,r,l⟩:=hl i x v hN e hv
 have fin:EP X pins σ Q u s:=⟨v,H,I,r,h⟩
 rcases l with⟨hk,hm⟩ | ⟨hk,c,hc,hcell⟩
 ·exact wpAny_Name (wpAny_loadName_local I.ok.kind hk hn hm fin) hd
 ·rcases hk with hk | hk
  ·exact wpAny_Name (wpAny_loadName_cell I.ok.kind hk hc hcell fin) hd
  ·exact wpAny_Name (wpAny_loadName_free I.ok.kind hk hc hcell fin hcd) hd
theorem Qw8{i j pos}:PE X (.Constant (.int i) j pos) (tC (.int i)):=λ_ _ _ H _ I h=>wpAny_Constant_int ⟨.int i,H,I.tok _,⟨_,rfl⟩,h⟩
theorem QsI{b j pos}:PE X (.Constant (.bool b) j pos) (tC (.bl b)):=λ_ _ _ H _ I h=>Constant_bool ⟨.bl b,H,I,rfl,h⟩
theorem Qvz{j pos}:PE X (.Constant .none j pos) (tC .non):=λ_ _ _ H _ I h=>Constant_none ⟨.non,H,I,rfl,h⟩
theorem Qw4{x j pos}:PE X (.Constant (.str x) j pos) (tC (.str x)):=λ_ _ _ H _ I h=>Calls.Constant_str ⟨.str x,H,I.tok _,⟨_,rfl⟩,h⟩
def Gl(X:Cx)(x:Str):Prop:=X.env.kindOf x=some .globalImplicit
theorem QcY{E:Value->Shared->Prop}{pins:List (Addr×Obj)}{s:Shared}{σ:St}{H:Hp}{x:Str}{u:Value}{pos:Pos}{Q:Value->Shared->Prop}(I:Inv X pins σ H s)(hg:Gl X x)(hm:X.mg x=some u)(h:Q u s)
  (hd:(x == ("__debug__" :Str))=false:=by decide):wpAny (model X.prog X.w) X.A (eval (.Name x pos) X.env) Q E s:=
 Calls.Name_function_global I.ok.kind hg (Calls.loadGlobal_global (by rw[I.ok.glob];exact I.mod.glob.keeps I.bk) hm h) hd
theorem QeA{E:Value->Shared->Prop}{pins:List (Addr×Obj)}{s:Shared}{σ:St}{H:Hp}{x:Str}{u:Value}{pos:Pos}{Q:Value->Shared->Prop}(I:Inv X pins σ H s)(hg:Gl X x)(hm:X.mg x=none)(hv:bootBuiltins x=some u)(h:Q u s)
  (hn:x≠ "__name__" :=by decide) (hd:(x == ("__debug__" :Str))=false:=by decide):wpAny (model X.prog X.w) X.A (eval (.Name x pos) X.env) Q E s:=by
 obtain⟨mb,h1,h2⟩:=I.mod.blt
 exact Calls.Name_function_global I.ok.kind hg (Calls.loadGlobal_builtin (by rw[I.ok.glob];exact I.mod.glob.keeps I.bk) hm (by rw[I.ok.blt];exact h1.keeps I.bk) ((h2 x hn).trans hv) h) hd
theorem Qt0{x:Str}{v:V}{u:Value}{pos:Pos}(hg:Gl X x)(hm:X.mg x=some u)(r:RelV v u)(hd:(x == ("__debug__" :Str))=false:=by decide):PE X (.Name x pos) (tC v):=
 λ_ _ _ H _ I h=>QcY I hg hm ⟨v,H,I,r,h⟩ hd
theorem QfD{x:Str}{v:V}{u:Value}{pos:Pos}(hg:Gl X x)(hm:X.mg x=none)(hv:bootBuiltins x=some u)(r:RelV v u)(hn:x≠ "__name__" :=by decide)(hd:(x == ("__debug__" :Str))=false:=by decide):PE X (.Name x pos) (tC v):=
 λ_ _ _ H _ I h=>QeA I hg hm hv ⟨v,H,I,r,h⟩ hn hd
variable {a b:Expr}{ta tb:TE}{pos:Pos}
variable {tA tB':TT}{rest:List Expr}
noncomputable def QyA(t u:TT):TT:=λσ H Q=>t σ H λc H1=>if c=true then u σ H1 Q else Q false H1
noncomputable def tOr(t u:TT):TT:=λσ H Q=>t σ H λc H1=>if c=true then Q true H1 else u σ H1 Q
noncomputable def Qyq(t:TT):TT:=λσ H Q=>t σ H λc H1=>Q (!c) H1
theorem QuF(ha:PT X a tA):PW X (.BoolOp .And [a] pos) tA:=by
 intro wh pins s σ H Q I h
 refine isTrue_and (thn (ha pins s σ H Q I h) λc s1 e=>?_)
 cases c with
 | true=>exact isTrue_and_nil e
 | false=>exact e
theorem QwH(ha:PT X a tA):PW X (.BoolOp .Or [a] pos) tA:=by
 intro wh pins s σ H Q I h
 refine isTrue_or (thn (ha pins s σ H Q I h) λc s1 e=>?_)
 cases c with
 | false=>exact isTrue_or_nil e
 | true=>exact e
theorem Qvc(ha:PT X a tA)(hb:PW X (.BoolOp .And (b::rest) pos) tB'):PW X (.BoolOp .And (a::b::rest) pos) (QyA tA tB'):=by
 intro wh pins s σ H Q I h
 refine isTrue_and (thn (ha pins s σ H _ I h) λc s1 hpt=>?_)
 obtain⟨H1,I1,q1⟩:=hpt
 cases c with
 | true=>exact hb wh pins s1 σ H1 Q I1 q1
 | false=>exact⟨H1,I1,q1⟩
theorem Qxz(ha:PT X a tA)(hb:PW X (.BoolOp .Or (b::rest) pos) tB'):PW X (.BoolOp .Or (a::b::rest) pos) (tOr tA tB'):=by
 intro wh pins s σ H Q I h
 refine isTrue_or (thn (ha pins s σ H _ I h) λc s1 hpt=>?_)
 obtain⟨H1,I1,q1⟩:=hpt
 cases c with
 | true=>exact⟨H1,I1,q1⟩
 | false=>exact hb wh pins s1 σ H1 Q I1 q1
theorem Qvw(ha:PT X a tA):PT X (.UnaryOp .Not a pos) (Qyq tA):=by
 intro pins s σ H Q I h
 exact isTrue_not (ha pins s σ H (λc H1=>Q (!c) H1) I h)
theorem Qwo{op}{t:TE}(h:PE X a t):PE X (.BoolOp op [a] pos) t:=λpins s σ H Q I hw=>BoolOp_one (h pins s σ H Q I hw)
noncomputable def tIf(t:TT)(ta tb:TE):TE:=λσ H Q=>t σ H λc H1=>if c=true then ta σ H1 Q else tb σ H1 Q
theorem Qrc{c:Expr}(hc:PT X c tA)(ha:PE X a ta)(hb:PE X b tb):PE X (.IfExp c a b pos) (tIf tA ta tb):=by
 intro pins s σ H Q I h
 refine wpAny_IfExp (thn (hc pins s σ H _ I h) λd s1 hpt=>?_)
 obtain⟨H1,I1,q1⟩:=hpt
 cases d with
 | true=>exact ha pins s1 σ H1 Q I1 q1
 | false=>exact hb pins s1 σ H1 Q I1 q1
end
end L2
namespace L2
open PySem PySem.Spec PyProof.Rows
def SqL(K:PySem.W.Frag)(H:Hp)(a:Addr)(xs:List V):Prop:=
 Rd H a (.lst xs)∨
  ∃(o:Obj) (its:Array Value) (n:Nat),K.lookup a=some o/\o.cls= .type "list" /\o.dict=none/\o.data= .seq its n/\its.size<=sizeLine/\Qq xs its.toList
def SqT(K:PySem.W.Frag)(H:Hp)(a:Addr)(xs:List V):Prop:=
 Rd H a (.tup xs)∨
  ∃(o:Obj) (its:Array Value) (n:Nat),K.lookup a=some o/\o.cls= .type "tuple" /\o.data= .seq its n/\its.size<=sizeLine/\Qq xs its.toList
noncomputable def QyP:Value->Option V
 | .none=>some .non
 | .bool b=>some (.bl b)
 | .int i _=>some (.int i)
 | .str x _=>some (.str x)
 | .bytes b _=>some (.byt b)
 | .float b _=>some (.flt b)
 | .ref a=>some (.ref a)
 | .type n=>some (.ty n)
 | _=>none
theorem RelV.abs{x:V}{u:Value}(r:RelV x u):QyP u=some x:=by
 cases x with
 | non=>cases r;rfl
 | bl _=>cases r;rfl
 | int _=>obtain⟨t,rfl⟩:=r;rfl
 | str _=>obtain⟨t,rfl⟩:=r;rfl
 | byt _=>obtain⟨t,rfl⟩:=r;rfl
 | flt _=>obtain⟨t,rfl⟩:=r;rfl
 | ref _=>cases r;rfl
 | ty _=>cases r;rfl
theorem RelV.inj{x y:V}{u:Value}(r:RelV x u)(q:RelV y u):x=y:=Option.some.inj (r.abs.symm.trans q.abs)
theorem Qq.inj:∀{xs ys:List V}{us:List Value},Qq xs us->Qq ys us->xs=ys
 | _,_,_,.nil,.nil=>rfl
 | _,_,_,.cons r t,.cons r' t'=>by rw[r.inj r',Qq.inj t t']
section
variable {X:Cx}{pins:List (Addr×Obj)}{σ:St}{H:Hp}{s:Shared}{a:Addr}{xs ys:List V}
theorem SqL.of{K:PySem.W.Frag}(h:H a=some (.lst xs)):SqL K H a xs:= .inl (.inl h)
theorem SqT.of{K:PySem.W.Frag}(h:H a=some (.tup xs)):SqT K H a xs:= .inl (.inl h)
theorem Inv.list(I:Inv X pins σ H s)(h:SqL X.K H a xs):∃its:List Value,Qq xs its/\PlainL s.heap a its.toArray/\xs.length<=sizeLine:=by
 rcases h with h | ⟨o,its,n,hk,hc,hd,hs,hz,r⟩
 ·obtain⟨z,its,n,r,e⟩:=h.ok I.hok
  exact⟨its,r,⟨_,n,e,rfl,rfl,rfl⟩,z⟩
 ·refine⟨its.toList,r,⟨o,n,I.kIn a o hk,hc,hd,by simpa using hs⟩,?_⟩
  have e:=r.length
  simp only[Zal]at e
  omega
theorem Inv.tuple(I:Inv X pins σ H s)(h:SqT X.K H a xs):∃its:List Value,Qq xs its/\IsTup s.heap a its.toArray/\xs.length<=sizeLine:=by
 rcases h with h | ⟨o,its,n,hk,hc,hs,hz,r⟩
 ·obtain⟨z,its,r,p⟩:=h.ok I.hok
  exact⟨its,r,p,z⟩
 ·refine⟨its.toList,r,⟨o,I.kIn a o hk,hc,n,by simpa using hs⟩,?_⟩
  have e:=r.length
  simp only[Zal]at e
  omega
theorem Inv.Qf1(I:Inv X pins σ H s)(h:SqL X.K H a xs)(h':SqL X.K H a ys):xs=ys:=by
 obtain⟨its,r,⟨o,n,e,_,_,d⟩,_⟩:=I.list h
 obtain⟨its',r',⟨o',n',e',_,_,d'⟩,_⟩:=I.list h'
 rw[e]at e';cases e'
 rw[d]at d'
 injection d' with d1 _
 have:its=its':=by simpa using congrArg Array.toList d1
 subst this
 exact r.inj r'
theorem Inv.Qpj(I:Inv X pins σ H s)(h:SqT X.K H a xs)(h':SqT X.K H a ys):xs=ys:=by
 obtain⟨its,r,⟨o,e,_,n,d⟩,_⟩:=I.tuple h
 obtain⟨its',r',⟨o',e',_,n',d'⟩,_⟩:=I.tuple h'
 rw[e]at e';cases e'
 rw[d]at d'
 injection d' with d1 _
 have:its=its':=by simpa using congrArg Array.toList d1
 subst this
 exact r.inj r'
end
noncomputable abbrev Cx.QdC(X:Cx)(E:Value->Shared->Prop):Cx:={X with xe:=E}
noncomputable abbrev Cx.nox(X:Cx):Cx:=X.QdC λ_ _=>False
theorem Cx.Ok.QdC{X:Cx}(ok:X.Ok)(E:Value->Shared->Prop):(X.QdC E).Ok:=
 ⟨ok.mod,ok.kind,ok.glob,ok.blt,ok.above,ok.inj,ok.has,ok.cab,ok.hd,ok.frames,ok.stk,ok.exf,ok.bs,ok.bsz,ok.noex,ok.exfs,ok.QcA,ok.frf⟩
theorem Cx.Ok.QcF{X:Cx}{E:Value->Shared->Prop}(ok:(X.QdC E).Ok):X.Ok:=
 ⟨ok.mod,ok.kind,ok.glob,ok.blt,ok.above,ok.inj,ok.has,ok.cab,ok.hd,ok.frames,ok.stk,ok.exf,ok.bs,ok.bsz,ok.noex,ok.exfs,ok.QcA,ok.frf⟩
section
variable {X:Cx}{pins:List (Addr×Obj)}{σ:St}{H:Hp}{s:Shared}{E:Value->Shared->Prop}
theorem Inv.QdC(I:Inv X pins σ H s)(E:Value->Shared->Prop):Inv (X.QdC E) pins σ H s:=⟨I.ok.QdC E,I.os,I.bare,I.base,I.loc,I.cell,I.free,I.freeC,I.pin,I.hok,I.len⟩
theorem Inv.QcF(I:Inv (X.QdC E) pins σ H s):Inv X pins σ H s:=⟨I.ok.QcF,I.os,I.bare,I.base,I.loc,I.cell,I.free,I.freeC,I.pin,I.hok,I.len⟩
theorem SP.QcF{D:Ends}{f:Flow}{s':Shared}(h:SP (X.QdC E) pins D f s'):SP X pins D f s':=by
 cases f with
 | next=>obtain⟨σ',H',I,q⟩:=h;exact⟨σ',H',I.QcF,q⟩
 | brk=>obtain⟨σ',H',I,q⟩:=h;exact⟨σ',H',I.QcF,q⟩
 | cont=>obtain⟨σ',H',I,q⟩:=h;exact⟨σ',H',I.QcF,q⟩
 | ret u=>obtain⟨v,σ',H',I,r,q⟩:=h;exact⟨v,σ',H',I.QcF,r,q⟩
theorem PE.nox{e:Expr}{t:TE}(h:PE X.nox e t):PE X e t:=λpins s σ H Q I hw=>
 wpAny_mono (h pins s σ H Q (I.QdC _) hw) (λ_ _ ⟨v,H',I',r,q⟩=>⟨v,H',I'.QcF,r,q⟩) λ_ _ z=>False.elim z
theorem PT.nox{e:Expr}{t:TT}(h:PT X.nox e t):PT X e t:=λpins s σ H Q I hw=>
 wpAny_mono (h pins s σ H Q (I.QdC _) hw) (λ_ _ ⟨H',I',q⟩=>⟨H',I'.QcF,q⟩) λ_ _ z=>False.elim z
theorem PSs.nox{st:List Stmt}{t:TS}(h:PSs X.nox st t):PSs X st t:=λpins s σ H D I hw=>
 wpAny_mono (h pins s σ H D (I.QdC _) hw) (λ_ _ q=>q.QcF) λ_ _ z=>False.elim z
end
section
variable {X:Cx}{st:Stmt}{rest:List Stmt}{t u:TS}{e:Expr}{te:TE}{pos:Pos}
noncomputable def Qon:TS:=λD σ H=>D.nx σ H
noncomputable def Qza(t u:TS):TS:=λD σ H=>t {D with nx:=u D} σ H
theorem QnG:PSs X [] Qon:=λ_ _ σ H _ I h=>wpAny_execs_nil ⟨σ,H,I,h⟩
theorem Qid(h1:PS X st t)(h2:PSs X rest u):PSs X (st::rest) (Qza t u):=by
 intro pins s σ H D I h
 refine wpAny_execs_cons (thn (h1 pins s σ H {D with nx:=u D} I h) λf s1 q=>?_)
 cases f with
 | next=>
  obtain⟨σ',H',I',q⟩:=q
  exact h2 pins s1 σ' H' D I' q
 | ret v=>exact q
 | brk=>exact q
 | cont=>exact q
theorem QnY(h1:PS X st t):PSs X [st] t:=by
 intro pins s σ H D I h
 refine wpAny_execs_cons (thn (h1 pins s σ H D I h) λf s1 q=>?_)
 cases f with
 | next=>exact wpAny_execs_nil q
 | ret v=>exact q
 | brk=>exact q
 | cont=>exact q
noncomputable def Qv6:TS:=λD σ H=>D.bk σ H
noncomputable def Qxr:TS:=λD σ H=>D.ct σ H
theorem Qt2:PS X (.Pass pos) Qon:=λ_ _ σ H _ I h=>wpAny_Pass ⟨σ,H,I,h⟩
theorem Qra:PS X (.Break pos) Qv6:=λ_ _ σ H _ I h=>wpAny_Break ⟨σ,H,I,h⟩
theorem Qnw:PS X (.Continue pos) Qxr:=λ_ _ σ H _ I h=>wpAny_Continue ⟨σ,H,I,h⟩
theorem Inv.quiet{pins:List (Addr×Obj)}{σ:St}{H:Hp}{s:Shared}(I:Inv X pins σ H s):interactive X.env=false:=by simp[interactive,I.ok.kind]
theorem Qwn{x j pos pos'}:PS X (.Expr (.Constant (.str x) j pos) pos') Qon:=λ_ s σ H _ I h=>wpAny_Expr (Calls.Constant_str (show SP X _ _ .next {s with toks:=s.toks+1}from⟨σ,H,I.tok _,h⟩)) I.quiet
noncomputable def Qk4(te:TE):TS:=λD σ H=>te σ H λ_ H1=>D.nx σ H1
theorem Qek(he:PE X e te)(hs:swapsWith e none pos.line X.env=pure false:=by rfl):PS X (.Expr e pos) (Qk4 te):=by
 intro pins s σ H D I h
 exact wpAny_Expr_any (thn (he pins s σ H _ I h) λv s1 ⟨x,H1,I1,r1,q1⟩=>⟨σ,H1,I1,q1⟩) I.quiet hs
noncomputable def Qy7(te:TE):TS:=λD σ H=>te σ H D.rt
theorem QlL(he:PE X e te):PS X (.Return (some e) pos) (Qy7 te):=by
 intro pins s σ H D I h
 exact wpAny_Return_some (thn (he pins s σ H _ I h) λv s1 ⟨x,H1,I1,r1,q1⟩=>⟨x,σ,H1,I1,r1,q1⟩)
noncomputable def QyL(c:TT)(t u:TS):TS:=λD σ H=>c σ H λb H1=>if b=true then t D σ H1 else u D σ H1
theorem QoV{c:Expr}{a b:List Stmt}{tc:TT}(hc:PT X c tc)(ha:PSs X a t)(hb:PSs X b u):PS X (.If c a b pos) (QyL tc t u):=by
 intro pins s σ H D I h
 refine wpAny_If (thn (hc pins s σ H _ I h) λd s1 hpt=>?_)
 obtain⟨H1,I1,q1⟩:=hpt
 cases d with
 | true=>exact ha pins s1 σ H1 D I1 q1
 | false=>exact hb pins s1 σ H1 D I1 q1
noncomputable def Qp4:TS:=λ_ _ _=>False
theorem QqV:PS X st Qp4:=λ_ _ _ _ _ _ h=>h.elim
theorem QqJ{sts:List Stmt}:PSs X sts Qp4:=λ_ _ _ _ _ _ h=>h.elim
end
noncomputable abbrev TG:=V->St->Hp->(St->Hp->Prop)->Prop
noncomputable abbrev TGs:=List V->St->Hp->(St->Hp->Prop)->Prop
def PG(X:Cx)(target:Expr)(t:TG):Prop:=
 ∀(pins:List (Addr×Obj)) (s:Shared) (σ:St) (H:Hp) (v:V) (u:Value) (Q:St->Hp->Prop),Inv X pins σ H s->RelV v u->t v σ H Q→
  wpAny (model X.prog X.w) X.A (assign target X.env u) (λ_ s'=>∃σ' H',Inv X pins σ' H' s'/\Q σ' H') X.xe s
def PGs(X:Cx)(ts:List Expr)(t:TGs):Prop:=
 ∀(pins:List (Addr×Obj)) (s:Shared) (σ:St) (H:Hp) (vs:List V) (us:List Value) (Q:St->Hp->Prop),Inv X pins σ H s->Qq vs us->t vs σ H Q→
  wpAny (model X.prog X.w) X.A (assignInOrder ((assignEach ts X.env).map (·.2)) us) (λ_ s'=>∃σ' H',Inv X pins σ' H' s'/\Q σ' H') X.xe s
noncomputable abbrev QlX:=V->V->V->Hp->(Hp->Prop)->Prop
def QrU(X:Cx)(t:QlX):Prop:=
 ∀(pins:List (Addr×Obj)) (s:Shared) (σ:St) (H:Hp) (o i v:V) (ov iv u:Value) (Q:Hp->Prop),Inv X pins σ H s->RelV o ov->RelV i iv->RelV v u->t o i v H Q→
  wpAny (model X.prog X.w) X.A (setItem ov iv u) (λ_ s'=>∃H',Inv X pins σ H' s'/\Q H') X.xe s
noncomputable abbrev TIp:=V->V->Hp->VK->Prop
def PIp(X:Cx)(op:Operator)(t:TIp):Prop:=
 ∀(pins:List (Addr×Obj)) (s:Shared) (σ:St) (H:Hp) (x y:V) (v u:Value) (Q:VK),Inv X pins σ H s->RelV x v->RelV y u->t x y H Q→
  wpAny (model X.prog X.w) X.A (inplaceOp op v u) (EP X pins σ Q) X.xe s
section
variable {X:Cx}{pos:Pos}
noncomputable def Qhi(i:Nat):TG:=λv σ H Q=>Q (σ.set i (some v)) H
theorem Qhn{i:Nat}{x:Str}(hN:X.N.Nodup)(hi:X.N[i]? =some x)(hx:Loc X.env.scope x)(hf:X.fn x=true∨X.env.scope.names.lookup x=some .local :=by first | exact .inl rfl | exact .inr rfl | assumption):PG X (.Name x pos) (Qhi i):=by
 intro pins s σ H v u Q I r h
 exact wpAny_assign_Name (QfR I hN hi hx r (λs' I'=>⟨_,H,I',h⟩) hf)
noncomputable def Qvh:TGs:=λvs σ H Q=>vs=[]/\Q σ H
noncomputable def QsE(t:TG)(u:TGs):TGs:=λvs σ H Q=>∃v r,vs=v::r/\t v σ H λσ' H'=>u r σ' H' Q
theorem QnQ:PGs X [] Qvh:=by
 intro pins s σ H vs us Q I r h
 obtain⟨e,h⟩:=h
 subst e
 cases r
 exact assignInOrder_nil ⟨σ,H,I,h⟩
theorem Qix{e:Expr}{es:List Expr}{t:TG}{u:TGs}(h1:PG X e t)(h2:PGs X es u)
  (hs:(assignEach (e::es) X.env).map (·.2)=assign e X.env::(assignEach es X.env).map (·.2):=by rfl):PGs X (e::es) (QsE t u):=by
 intro pins s σ H vs us Q I r h
 obtain⟨v,vr,e1,h⟩:=h
 subst e1
 cases r with
 | cons r rr=>
  rw[hs]
  refine assignInOrder_cons (thn (h1 pins s σ H _ _ _ I r h) λ_ s1 hpt=>?_)
  obtain⟨σ1,H1,I1,q1⟩:=hpt
  exact h2 pins s1 σ1 H1 _ _ Q I1 rr q1
noncomputable def QyO(K:PySem.W.Frag)(n:Nat)(t:TGs):TG:=λv σ H Q=>∃a xs,v= .ref a/\SqT K H a xs/\xs.length=n/\t xs σ H Q
theorem Qpi{es:List Expr}{k:Nat}{t:TGs}{n:Nat}(hc:X.calm=true)(h:PGs X es t)
  (hn:(assignEach es X.env).length=n:=by rfl) (hst:(assignEach es X.env).findIdx? (·.1)=none:=by rfl):PG X (.Tuple es k pos) (QyO X.K n t):=by
 intro pins s σ H v u Q I r hw
 obtain⟨a,xs,e1,hq,hl,hw⟩:=hw
 subst e1
 cases r
 obtain⟨its,rv,ht,hz⟩:=I.tuple hq
 refine assign_Tuple_tuple (I.ok.hd hc) ht (by simp[hn,← hl,rv.length]) hst λh' hx=>?_
 have I1:Inv X pins σ H {s with heap:=h'}:=I.kept (t':=s.toks) λb o e=>hx b o (ZL (Zv e)) e
 exact h pins _ σ H xs _ Q I1 (by simpa using rv) hw
noncomputable def Qfn(to ti:TE)(t:QlX):TG:=λv σ H Q=>to σ H λo H1=>ti σ H1 λi H2=>t o i v H2 λH3=>Q σ H3
theorem QqD{o i:Expr}{to ti:TE}{t:QlX}(ho:PE X o to)(hi:PE X i ti)(hs:QrU X t)
  (ha:∀v,assign (.Subscript o i pos) X.env v=(do
   let ov ← holding [v] (eval o X.env)
   let iv ← holding [v,ov] (eval i X.env)
   standAt pos
   holding [v,ov,iv] (setItem ov iv v)
   release [v,ov,iv] []):=by intro _;rfl):PG X (.Subscript o i pos) (Qfn to ti t):=by
 intro pins s σ H v u Q I r h
 rw[ha]
 refine wpAny_bind (wpAny_holding (thn (ho pins s σ H _ I h) λov s1=>exJ λx H1 I1 r1 q1=>?_))
 refine wpAny_bind (wpAny_holding (thn (hi pins s1 σ H1 _ I1 q1) λiv s2=>exJ λy H2 I2 r2 q2=>?_))
 refine wpAny_bind (wpAny_standAt (wpAny_bind (wpAny_holding (thn (hs pins s2 σ H2 x y v ov iv u _ I2 r1 r2 r q2) λ_ s3 hpt=>?_))))
 obtain⟨H3,I3,q3⟩:=hpt
 exact wpAny_release ⟨σ,H3,I3,q3⟩
noncomputable def Qj0(te:TE)(g:TG):TS:=λD σ H=>te σ H λx H1=>g x σ H1 D.nx
theorem Qpg{tg e:Expr}{te:TE}{g:TG}(he:PE X e te)(hg:PG X tg g)(hs:swapsWithSole [tg] e pos.line X.env=pure false:=by rfl)(hw:swappedStores [tg] e X.env=pure none:=by rfl)
  (h1:(assignEach [tg] X.env).map (·.2)=[assign tg X.env]:=by rfl):PS X (.Assign [tg] e pos) (Qj0 te g):=by
 intro pins s σ H D I h
 refine wpAny_Assign_stores (thn (he pins s σ H _ I h) λv s1 ⟨x,H1,I1,r1,q1⟩=>?_) hs hw
 rw[h1]
 exact thn (hg pins s1 σ H1 x v _ I1 r1 q1) λ_ s2 q=>q
theorem QdV{i:Nat}{x:Str}{e:Expr}{te:TE}{pos':Pos}(hN:X.N.Nodup)(hi:X.N[i]? =some x)(hx:Loc X.env.scope x)(he:PE X e te)(hs:swapsWith e (some (.Name x pos')) pos.line X.env=pure false:=by rfl)(hf:X.fn x=true∨X.env.scope.names.lookup x=some .local :=by first | exact .inl rfl | exact .inr rfl | assumption):
  PS X (.Assign [.Name x pos'] e pos) (Qj0 te (Qhi i)):=by
 intro pins s σ H D I h
 refine wpAny_Assign_Name (thn (he pins s σ H _ I h) λv s1 ⟨y,H1,I1,r1,q1⟩=>?_) hs
 exact QfR I1 hN hi hx r1 (λs2 I2=>⟨_,H1,I2,q1⟩) hf
noncomputable def QxD(to ti te:TE)(tget:V->V->Hp->VK->Prop)(tip:TIp)(tset:QlX):TS:=λD σ H=>to σ H λo H1=>ti σ H1 λi H2=>tget o i H2 λx H3=>te σ H3 λy H4=>tip x y H4 λz H5=>tset o i z H5 λH6=>D.nx σ H6
def Qvn(X:Cx)(t:V->V->Hp->VK->Prop):Prop:=
 ∀(pins:List (Addr×Obj)) (s:Shared) (σ:St) (H:Hp) (o i:V) (ov iv:Value) (Q:VK),Inv X pins σ H s->RelV o ov->RelV i iv->t o i H Q→
  wpAny (model X.prog X.w) X.A (getItem ov iv) (EP X pins σ Q) X.xe s
theorem Qto{o i e:Expr}{to ti te:TE}{tget:V->V->Hp->VK->Prop}{tip:TIp}{tset:QlX}{op:Operator}{tpos:Pos}(ho:PE X o to)(hi:PE X i ti)(hg:Qvn X tget)(he:PE X e te)(hp:PIp X op tip)(hs:QrU X tset)
  (ha:∀ov iv new,augStore i ov iv new=(do holding [new,ov,iv] (setItem ov iv new);release [new,ov,iv] [];pure .next):=by intros;rfl):PS X (.AugAssign (.Subscript o i tpos) op e pos) (QxD to ti te tget tip tset):=by
 intro pins s σ H D I h
 refine wpAny_AugAssign_SubscriptAny (thn (ho pins s σ H _ I h) λov s1 ⟨x1,H1,I1,r1,q1⟩=>?_) ha
 refine thn (hi pins s1 σ H1 _ I1 q1) λiv s2=>exJ λx2 H2 I2 r2 q2=>?_
 refine thn (hg pins s2 σ H2 x1 x2 ov iv _ I2 r1 r2 q2) λold s3=>exJ λx3 H3 I3 r3 q3=>?_
 refine thn (he pins s3 σ H3 _ I3 q3) λv s4=>exJ λx4 H4 I4 r4 q4=>?_
 refine thn (hp pins s4 σ H4 x3 x4 old v _ I4 r3 r4 q4) λnew s5=>exJ λx5 H5 I5 r5 q5=>?_
 exact thn (hs pins s5 σ H5 x1 x2 x5 ov iv new _ I5 r1 r2 r5 q5) λ_ s6 ⟨H6,I6,q6⟩=>⟨σ,H6,I6,q6⟩
end
section
variable {X:Cx}{pos:Pos}
end
structure It where
 go:Nat->Hp->Prop
 yld:Nat->Hp->V->Hp->Prop
 stop:Nat->Hp->Prop
def Qdj(X:Cx)(pins:List (Addr×Obj))(H:Hp)(b:Addr):Prop:=
 H b=none/\b≠X.env.locals/\b∉X.fs/\(b∈X.ex∨X.s₀.heap.objs.size<=b)/\(∀x c,X.env.cells.lookup x=some c->c≠b)/\∀p∈X.pn++pins,p.1≠b
theorem Inv.Qmv{X:Cx}{pins:List (Addr×Obj)}{σ:St}{H H':Hp}{s:Shared}{b:Addr}(I:Inv X pins σ H s)(hb:s.heap.objs.size<=b)(hn:H' b=none):Qdj X pins H' b:=by
 refine⟨hn,Nat.ne_of_gt (Zu I.lt hb),I.Qys hb,.inr (ZF I.sz hb),λx c e z=>?_,λp hp z=>?_⟩
 ·obtain⟨v,q⟩:=I.cell x c e
  exact absurd (Zu q.lt (by rw[z];exact hb)) (ZZ _)
 ·exact absurd (Zu (Zv (I.pin p hp).1) (by rw[z];exact hb)) (ZZ _)
structure Turn (P:Program) (w:World) (K:PySem.W.Frag) (tg:Expr) (J:It) (fp:List Addr) (it:Addr) (tn:Nat->Heap->Prop):Prop where
 mem:it∈fp
 obj:∀i h,tn i h->∀b∈fp,∃o,h.get? b=some o/\∀v,o.data≠ .cell v
 keep:∀i h h',tn i h->(∀b∈fp,∀o,h.get? b=some o->h'.get? b=some o)->tn i h'
 item:∀(X:Cx),X.prog=P->X.w=w->X.K=K->X.calm=true->∀(i:Nat) (pins:List (Addr×Obj)) (s:Shared) (σ:St) (H:Hp) (E:Value->Shared->Prop),Inv X pins σ H s->(∀b∈fp,Qdj X pins H b)->tn i s.heap->J.go i H→
  wpAny (model P w) X.A (pyNext (.ref it)) (λr s1=>∃u,r=some u∧
   wpAny (model P w) X.A (letOwnedTupleGo tg (.ref it) u) (λ_ s2=>∃x H',Inv X pins σ H' s2/\RelV x u/\J.yld i H x H'/\tn (i+1) s2.heap/\∀b∈fp,H' b=none) E s1) E s
 done:∀(X:Cx),X.prog=P->X.w=w->X.K=K->X.calm=true->∀(i:Nat) (pins:List (Addr×Obj)) (s:Shared) (σ:St) (H:Hp) (E:Value->Shared->Prop),Inv X pins σ H s->(∀b∈fp,Qdj X pins H b)->tn i s.heap->J.stop i H→
  wpAny (model P w) X.A (pyNext (.ref it)) (λr s1=>r=none/\Inv X pins σ H s1) E s
 self:∀(A:Around) (i:Nat) (s:Shared) (Q:Value->Shared->Prop) (E:Value->Shared->Prop),tn i s.heap->Q (.ref it) s->wpAny (model P w) A (pyIter (.ref it)) Q E s
noncomputable abbrev TI:=St->Hp->(It->Hp->Prop)->Prop
def PIE(X:Cx)(pins:List (Addr×Obj))(σ:St)(tg:Expr)(R:It->Hp->Prop)(itv:Value)(s2:Shared):Prop:=
 ∃(it:Addr) (fp:List Addr) (tn:Nat->Heap->Prop) (J:It) (H':Hp),itv= .ref it/\Inv X pins σ H' s2/\Turn X.prog X.w X.K tg J fp it tn/\tn 0 s2.heap/\(∀b∈fp,Qdj X pins H' b)/\R J H'
def PI(X:Cx)(tg iter:Expr)(wi:TI):Prop:=
 ∀(pins:List (Addr×Obj)) (s:Shared) (σ:St) (H:Hp) (R:It->Hp->Prop),Inv X pins σ H s->wi σ H R→
  wpAny (model X.prog X.w) X.A (eval iter X.env) (λv s1=>wpAny (model X.prog X.w) X.A (pyIter v) (PIE X pins σ tg R) X.xe s1) X.xe s
theorem QoM{M:Model}{A:Around}{E:Value->Shared->Prop}{s:Shared}{tg:Expr}{it:Addr}{u:Value}{o:Obj}{n:String}{vs:Array Value}{Q:Unit->Shared->Prop}(ho:s.heap.get? it=some o)(hc:o.cls= .type n)(hd:o.data= .fields vs)
    (hn:["enumerate","zip","dict_itemiterator","dict_reverseitemiterator","odict_iterator","itertools.zip_longest","itertools.pairwise"].contains n=false) (hQ:Q () s):wpAny M A (letOwnedTupleGo tg (.ref it) u) Q E s:=by
  unfold letOwnedTupleGo
  cases tg<;>first
    | exact wpAny_pure hQ
    | (cases u<;>first
        | exact wpAny_pure hQ
        | (refine wpAny_bind (wpAny_load ho ?_)
           rw[hc,hd]
           show wpAny M A (if(["enumerate","zip","dict_itemiterator","dict_reverseitemiterator","odict_iterator","itertools.zip_longest","itertools.pairwise"].contains n && vs[0]? == some (rawInt _))=true then _ else _) Q E s
           rw[if_neg (by intro h;rw[hn,Bool.false_and]at h;cases h)]
           exact wpAny_pure hQ))
noncomputable def Itl(K:PySem.W.Frag)(a:Addr):It:=
 ⟨λi H=>∃xs x,SqL K H a xs/\xs[i]? =some x,λi H x H'=>H'=H/\∀xs,SqL K H a xs->xs[i]? =some x,λi H=>∃xs,SqL K H a xs/\xs.length<=i⟩
noncomputable def Itt(K:PySem.W.Frag)(a:Addr):It:=
 ⟨λi H=>∃xs x,SqT K H a xs/\xs[i]? =some x,λi H x H'=>H'=H/\∀xs,SqT K H a xs->xs[i]? =some x,λi H=>∃xs,SqT K H a xs/\xs.length<=i⟩
noncomputable def Itr(lo:Int)(n:Nat):It:=⟨λi _=>i<n,λi H x H'=>H'=H/\x= .int (lo+i),λi _=>n<=i⟩
theorem Qqz{P:Program}{w:World}{K:PySem.W.Frag}{tg:Expr}(a it:Addr):Turn P w K tg (Itl K a) [it] it (λi h=>h.IsListIter it a i) where
 mem:=by simp
 obj:=λi h st b hb=>by
  have e:b=it:=by simpa using hb
  subst e
  obtain⟨o,e,c,d⟩:=st
  exact⟨o,e,λv z=>by rw[d]at z;cases z⟩
 keep:=λi h h' st k=>st.at λo e=>k it (by simp) o e
 item:=by
  intro X hP hw hK hc i pins s σ H E I hf st hg
  subst hP hw hK
  obtain⟨xs,x,hq,hx⟩:=hg
  obtain⟨its,rv,p,hz⟩:=I.list hq
  obtain⟨u,hu,ru⟩:=rv.get hx
  obtain⟨f0,f1,f2,f3,f4,f5⟩:=hf it (by simp)
  refine wpAny_pyNext_list_item st p.isList (x:=u) (by simpa using hu) λh' st' sb=>?_
  have I1:Inv X pins σ H {s with heap:=h'}:=I.turned (t':=s.toks) (λb o hb e=>(sb.2 b hb).trans e) f0 f1 f3 f4 f5
  obtain⟨o,e,c,d⟩:=id st'
  exact⟨u,rfl,QoM (s:={s with heap:=h'}) e c d (by decide) ⟨x,H,I1,ru,⟨rfl,λys hy=>by rw[I.Qf1 hy hq];exact hx⟩,st',λb hb=>(hf b hb).1⟩⟩
 done:=by
  intro X hP hw hK hc i pins s σ H E I hf st hg
  subst hP hw hK
  obtain⟨xs,hq,hx⟩:=hg
  obtain⟨its,rv,p,hz⟩:=I.list hq
  obtain⟨f0,f1,f2,f3,f4,f5⟩:=hf it (by simp)
  have hl:=rv.length
  exact wpAny_pyNext_list_end (I.ok.hd hc) st p.isList (by simp;omega) λh' eb=>⟨rfl,I.turned (t':=s.toks) (λb o hb e=>eb b o hb e) f0 f1 f3 f4 f5⟩
 self:=λ_ _ _ _ _ st h=>wpAny_pyIter_listiter st h
theorem QoX{P:Program}{w:World}{K:PySem.W.Frag}{tg:Expr}(a it:Addr):Turn P w K tg (Itt K a) [it] it (λi h=>h.IsTupleIter it a i) where
 mem:=by simp
 obj:=λi h st b hb=>by
  have e:b=it:=by simpa using hb
  subst e
  obtain⟨o,e,c,d⟩:=st
  exact⟨o,e,λv z=>by rw[d]at z;cases z⟩
 keep:=λi h h' st k=>st.at λo e=>k it (by simp) o e
 item:=by
  intro X hP hw hK hc i pins s σ H E I hf st hg
  subst hP hw hK
  obtain⟨xs,x,hq,hx⟩:=hg
  obtain⟨its,rv,p,hz⟩:=I.tuple hq
  obtain⟨u,hu,ru⟩:=rv.get hx
  obtain⟨f0,f1,f2,f3,f4,f5⟩:=hf it (by simp)
  refine wpAny_pyNext_tuple_item st (show s.heap.IsTuple a its.toArray from p) (x:=u) (by simpa using hu) λh' st' sb=>?_
  have I1:Inv X pins σ H {s with heap:=h'}:=I.turned (t':=s.toks) (λb o hb e=>(sb.2 b hb).trans e) f0 f1 f3 f4 f5
  obtain⟨o,e,c,d⟩:=id st'
  exact⟨u,rfl,QoM (s:={s with heap:=h'}) e c d (by decide) ⟨x,H,I1,ru,⟨rfl,λys hy=>by rw[I.Qpj hy hq];exact hx⟩,st',λb hb=>(hf b hb).1⟩⟩
 done:=by
  intro X hP hw hK hc i pins s σ H E I hf st hg
  subst hP hw hK
  obtain⟨xs,hq,hx⟩:=hg
  obtain⟨its,rv,p,hz⟩:=I.tuple hq
  obtain⟨f0,f1,f2,f3,f4,f5⟩:=hf it (by simp)
  have hl:=rv.length
  exact wpAny_pyNext_tuple_end (I.ok.hd hc) st (show s.heap.IsTuple a its.toArray from p) (by simp;omega) λh' eb=>⟨rfl,I.turned (t':=s.toks) (λb o hb e=>eb b o hb e) f0 f1 f3 f4 f5⟩
 self:=λ_ _ _ _ _ st h=>wpAny_pyIter_tupleiter st h
theorem QoJ{P:Program}{w:World}{K:PySem.W.Frag}{tg:Expr}(it:Addr)(lo:Int)(n:Nat):Turn P w K tg (Itr lo n) [it] it (λi h=>IsRangeIter h it (lo+(i:Nat)*1) ((n:Int)-(i:Nat)) 1) where
 mem:=by simp
 obj:=λi h st b hb=>by
  have e:b=it:=by simpa using hb
  subst e
  exact⟨_,st,λv z=>by
   have z':Data.fields _=Data.cell v:=z
   cases z'⟩
 keep:=λi h h' st k=>k it (by simp) _ st
 item:=by
  intro X hP hw hK hc i pins s σ H E I hf st hg
  subst hP hw hK
  obtain⟨f0,f1,f2,f3,f4,f5⟩:=hf it (by simp)
  have W:=Walks.range (prog:=X.prog) (w:=X.w) (I.ok.hd hc) it lo 1 n
  refine W.item i s _ _ hg st λv h' tk hv st' kk=>?_
  obtain⟨t,rfl⟩:=hv
  have I1:Inv X pins σ H {s with heap:=h',toks:=tk}:=I.turned (λb o hb e=>kk b o (by simpa using hb) e) f0 f1 f3 f4 f5
  refine⟨_,rfl,QoM (s:={s with heap:=h',toks:=tk}) (n:= "range_iterator") st' rfl rfl (by decide) ⟨.int (lo+i),H,I1,⟨t,?_⟩,⟨rfl,rfl⟩,st',λb hb=>(hf b hb).1⟩⟩
  rw[Int.mul_one]
 done:=by
  intro X hP hw hK hc i pins s σ H E I hf st hg
  subst hP hw hK
  obtain⟨f0,f1,f2,f3,f4,f5⟩:=hf it (by simp)
  exact wpAny_pyNext_range_end (I.ok.hd hc) st (by have:n<=i:=hg;omega) λh' eb=>⟨rfl,I.turned (t':=s.toks) (λb o hb e=>eb b o hb e) f0 f1 f3 f4 f5⟩
 self:=λ_ _ _ _ _ st h=>wpAny_pyIter_rangeiter st h
end L2
namespace L2
open PySem PySem.Spec PyProof.Rows
section
variable {X:Cx}{tg:Expr}
theorem Qsm{pins:List (Addr×Obj)}{σ:St}{H:Hp}{s:Shared}{R:It->Hp->Prop}{E:Value->Shared->Prop}{lo hi:Int}{t u v:Tok}{tk:Nat}(I:Inv X pins σ H s)(h1: -(2^62)<=lo)(h2:lo<2^62)(h3: -(2^62)<=hi)(h4:hi<2^62)
  (q:R (Itr lo (hi-lo).toNat) H):wpAny (model X.prog X.w) X.A (pyIter (.ref s.heap.objs.size)) (PIE X pins σ tg R) E {s with heap:=s.heap.push {cls:= .type "range",data:= .fields #[.int lo t,.int hi u,.int 1 v]},toks:=tk}:=by
 refine wpAny_pyIter_range (IsRange.new ..) (small_one h1 h2 h3 h4) ?_
 have I1:Inv X pins σ H {s with heap:=s.heap.push {cls:= .type "range",data:= .fields #[.int lo t,.int hi u,.int 1 v]},toks:=tk}:=I.kept λb o e=>Zt _ e
 refine⟨(s.heap.push {cls:= .type "range",data:= .fields #[.int lo t,.int hi u,.int 1 v]}).objs.size,[(s.heap.push {cls:= .type "range",data:= .fields #[.int lo t,.int hi u,.int 1 v]}).objs.size],_,_,H,rfl,
  I1.kept (t':=tk) λb o e=>Zt _ e,QoJ _ lo (hi-lo).toNat,?_,λb hb=>?_,q⟩
 ·have e1:lo+((0:Nat):Int)*1=lo:=by simp
  have e2:(((hi-lo).toNat:Nat):Int)-((0:Nat):Int)=Builtin.Range.rangeSize lo hi 1:=by rw[rangeSize_one];split<;>omega
  show IsRangeIter _ _ (lo+((0:Nat):Int)*1) ((((hi-lo).toNat:Nat):Int)-((0:Nat):Int)) 1
  rw[e1,e2]
  exact ZM _ rfl
 ·have e:b=(s.heap.push {cls:= .type "range",data:= .fields #[.int lo t,.int hi u,.int 1 v]}).objs.size:=by simpa using hb
  subst e
  exact I1.Qmv (Zq _) (I1.hok.fresh (Zq _))
noncomputable def Qx5(ta:TA):TI:=λσ H R=>ta σ H λvs H1=>∃j:Int,vs=[.int j]/\ -(2^62)<=j/\j<2^62/\R (Itr 0 j.toNat) H1
theorem Qp7{a:Expr}{ta:TA}{p pos:Pos}(hg:Gl X "range")(hm:X.mg "range" =none)(ha:PA X [a] ta)(hs:starEach [a] X.env=[(false,eval a X.env)]:=by rfl):PI X tg (.Call (.Name "range" p) [a] [] pos) (Qx5 ta):=by
 intro pins s σ H R I h
 refine Call_ (QeA I hg hm boot_range (Zas (thn (ha pos pins s σ H _ I h) λus s1 ⟨vs,H1,I1,r1,q1⟩=>?_) hs rfl))
 obtain⟨j,e,q1,q2,q⟩:=q1
 subst e
 cases r1 with
 | cons r rr=>
  cases rr
  obtain⟨t,rfl⟩:=r
  exact call_range_1 (Qsm I1 (by omega) (by omega) q1 q2 (by simpa using q))
noncomputable def Qyr(wi:TI)(g:TG)(tb:TS):TS:=λD σ H=>wi σ H λJ H1=>∃W:Nat->Nat->St->Hp->Prop,(∃m,W 0 m σ H1)/\∀i m σ H,W i m σ H→
 (J.stop i H/\D.nx σ H)∨(J.go i H/\∃N:St->Hp->Prop,(∀σ' H',N σ' H'->∃m',m'<m/\W (i+1) m' σ' H')/\∀x H',J.yld i H x H'->g x σ H' λσ2 H2=>tb {D with nx:=N,ct:=N,bk:=D.nx} σ2 H2)
noncomputable def Qg3(fp:List Addr)(h:Heap):List (Addr×Obj):=fp.filterMap λb=>(h.get? b).map λo=>(b,o)
theorem Qf7{fp:List Addr}{h:Heap}{b:Addr}{o:Obj}(hb:b∈fp)(e:h.get? b=some o):(b,o)∈Qg3 fp h:=ZaC.mpr ⟨b,hb,by rw[e];rfl⟩
theorem QpK{fp:List Addr}{h:Heap}{p:Addr×Obj}(hp:p∈Qg3 fp h):p.1∈fp/\h.get? p.1=some p.2:=by
 obtain⟨b,hb,e⟩:=ZaC.mp hp
 cases q:h.get? b with
 | none=>rw[q]at e;cases e
 | some o=>
  rw[q]at e
  have e':(b,o)=p:=Option.some.inj e
  subst e'
  exact⟨hb,q⟩
theorem Inv.pinned{pins:List (Addr×Obj)}{σ:St}{H:Hp}{s:Shared}{fp:List Addr}(I:Inv X pins σ H s)(hf:∀b∈fp,Qdj X pins H b)(ho:∀b∈fp,∃o,s.heap.get? b=some o/\∀v,o.data≠ .cell v):Inv X (pins++Qg3 fp s.heap) σ H s:=
 I.Qn4 λp hp=>(Zm.mp hp).elim (λz=>I.pin p (Ze _ z)) λz=>by
  obtain⟨hb,e⟩:=QpK z
  obtain⟨f0,f1,f2,_⟩:=hf p.1 hb
  obtain⟨o,e',d⟩:=ho p.1 hb
  rw[e]at e';cases e'
  exact⟨e,f0,f1,f2,d⟩
theorem Inv.Qga{pins pl:List (Addr×Obj)}{σ:St}{H:Hp}{s:Shared}(I:Inv X (pins++pl) σ H s):Inv X pins σ H s:=I.Qn4 λp hp=>I.pin p (Ze _ (Zd _ hp))
theorem Qmp{iter:Expr}{body:List Stmt}{wi:TI}{g:TG}{tb:TS}{pos:Pos}(hp:PassesOwn (model X.prog X.w) X.A X.env X.xe)(hc:X.calm=true)(hi:PI X tg iter wi)(hg:PG X tg g)(hb:PSs X body tb)
  (hs:∀x,foldedSetIterable iter X.env x=pure x:=by intro _;rfl):PS X (.For tg iter body [] pos) (Qyr wi g tb):=by
 intro pins s σ H D I h
 refine wpAny_For (thn (hi pins s σ H _ I h) λv s1 h1=>thn h1 λitv s2 h2=>?_) hs
 obtain⟨it,fp,tn,J,H2,e,I2,T,st2,f2,W,⟨m0,w0⟩,turn⟩:=h2
 subst e
 have stat:∀{H':Hp},(∀b∈fp,H' b=none)->∀b∈fp,Qdj X pins H' b:=λhn b hb=>⟨hn b hb,(f2 b hb).2⟩
 refine codeAny_forLoop_any (λn s'=>∃i σ' H',Inv X pins σ' H' s'/\tn i s'.heap/\(∀b∈fp,H' b=none)/\W i n σ' H') ?_ m0 ⟨0,σ,H2,I2,st2,λb hb=>(f2 b hb).1,w0⟩
 rintro n s3 ⟨i,σ3,H3,I3,st3,fr3,w3⟩
 rcases turn i n σ3 H3 w3 with⟨stop,qn⟩ | ⟨go,N,hN,step⟩
 ·refine wpAny_passesOwn hp (thn (T.done X rfl rfl rfl hc i pins s3 σ3 H3 X.xe I3 (stat fr3) st3 stop) λr s4 hpt=>?_)
  obtain⟨hr,I4⟩:=hpt
  subst hr
  exact wpAny_execs_nil ⟨σ3,H3,I4,qn⟩
 ·refine wpAny_passesOwn hp (thn (T.item X rfl rfl rfl hc i pins s3 σ3 H3 X.xe I3 (stat fr3) st3 go) λr s4 hpt=>?_)
  obtain⟨u,hr,h4⟩:=hpt
  subst hr
  refine wpAny_passesOwn hp (thn h4 λ_ s5 hpt=>?_)
  obtain⟨x,H5,I5,r5,y5,st5,fr5⟩:=hpt
  have I5':=I5.pinned (stat fr5) (T.obj _ _ st5)
  refine wpAny_passesOwn hp (thn (hg _ s5 σ3 H5 x u _ I5' r5 (step x H5 y5)) λ_ s6 hpt=>?_)
  obtain⟨σ6,H6,I6,q6⟩:=hpt
  refine wpAny_passesOwn hp (thn (hb _ s6 σ6 H6 _ I6 q6) λf s7 q7=>?_)
  have again:∀{σ7:St}{H7:Hp},Inv X (pins++Qg3 fp s5.heap) σ7 H7 s7->N σ7 H7->∃m,m<n/\∃i σ' H',Inv X pins σ' H' s7/\tn i s7.heap/\(∀b∈fp,H' b=none)/\W i m σ' H':=λ{σ7 H7} I7 n7=>by
   obtain⟨m',hm,w7⟩:=hN σ7 H7 n7
   refine⟨m',hm,i+1,σ7,H7,I7.Qga,T.keep _ _ _ st5 λb hb o e=>(I7.pin (b,o) (Ze _ (Ze _ (Qf7 hb e)))).1,λb hb=>?_,w7⟩
   obtain⟨o,e,d⟩:=T.obj _ _ st5 b hb
   exact(I7.pin (b,o) (Ze _ (Ze _ (Qf7 hb e)))).2.1
  cases f with
  | next=>obtain⟨σ7,H7,I7,n7⟩:=q7;exact again I7 n7
  | cont=>obtain⟨σ7,H7,I7,n7⟩:=q7;exact again I7 n7
  | brk=>obtain⟨σ7,H7,I7,q7⟩:=q7;exact⟨σ7,H7,I7.Qga,q7⟩
  | ret v=>obtain⟨x7,σ7,H7,I7,r7,q7⟩:=q7;exact⟨x7,σ7,H7,I7.Qga,r7,q7⟩
end
end L2
namespace L2
open PySem PySem.Spec PyProof.Rows
noncomputable abbrev R2:=V->V->Hp->VK->Prop
def OpR(X:Cx)(f:Value->Value->Sem Value)(r:R2):Prop:=
 ∀(pins:List (Addr×Obj)) (s:Shared) (σ:St) (H:Hp) (x y:V) (v u:Value) (Q:VK),Inv X pins σ H s->RelV x v->RelV y u->r x y H Q→
  wpAny (model X.prog X.w) X.A (f v u) (EP X pins σ Q) X.xe s
def UnR(X:Cx)(f:Value->Sem Value)(r:V->Hp->VK->Prop):Prop:=
 ∀(pins:List (Addr×Obj)) (s:Shared) (σ:St) (H:Hp) (x:V) (v:Value) (Q:VK),Inv X pins σ H s->RelV x v->r x H Q→
  wpAny (model X.prog X.w) X.A (f v) (EP X pins σ Q) X.xe s
def QaY(X:Cx)(f:Value)(r:List V->Hp->VK->Prop):Prop:=
 ∀(pins:List (Addr×Obj)) (s:Shared) (σ:St) (H:Hp) (xs:List V) (us:List Value) (Q:VK),Inv X pins σ H s->Qq xs us->r xs H Q→
  wpAny (model X.prog X.w) X.A (call f us) (EP X pins σ Q) X.xe s
def Qy8(X:Cx)(r:V->Hp->(Bool->Hp->Prop)->Prop):Prop:=
 ∀(pins:List (Addr×Obj)) (s:Shared) (σ:St) (H:Hp) (x:V) (v:Value) (Q:Bool->Hp->Prop),Inv X pins σ H s->RelV x v->r x H Q→
  wpAny (model X.prog X.w) X.A (truthy v) (TP X pins σ Q) X.xe s
noncomputable def tOp(r:R2)(ta tb:TE):TE:=λσ H Q=>ta σ H λx H1=>tb σ H1 λy H2=>r x y H2 Q
noncomputable def tUn(r:V->Hp->VK->Prop)(ta:TE):TE:=λσ H Q=>ta σ H λx H1=>r x H1 Q
noncomputable def rI(C:Int->Int->Prop)(g:Int->Int->V):R2:=λx y H Q=>∃i j,x= .int i/\y= .int j/\C i j/\Q (g i j) H
noncomputable def rI0(g:Int->Int->V):R2:=λx y H Q=>∃i j,x= .int i/\y= .int j/\Q (g i j) H
noncomputable def rU(g:Int->V):V->Hp->VK->Prop:=λx H Q=>∃i,x= .int i/\Q (g i) H
section
variable {X:Cx}{a b c:Expr}{ta tb tc:TE}{pos:Pos}
theorem Qsw(ha:PE X a ta)(hb:PE X b tb){pins:List (Addr×Obj)}{s:Shared}{σ:St}{H:Hp}{R:V->V->Hp->Prop}(I:Inv X pins σ H s)
  (h:ta σ H λx H1=>tb σ H1 λy H2=>R x y H2) {Q:Value->Shared->Prop}{f:Value->Value->Sem Value}
  (hf:∀v u s2 x y H2,Inv X pins σ H2 s2->RelV x v->RelV y u->R x y H2->wpAny (model X.prog X.w) X.A (f v u) Q X.xe s2):
  wpAny (model X.prog X.w) X.A (eval a X.env) (λv s₁=>wpAny (model X.prog X.w) X.A (eval b X.env) (λu s₂=>wpAny (model X.prog X.w) X.A (f v u) Q X.xe s₂) X.xe s₁) X.xe s:=by
 refine thn (ha pins s σ H _ I h) λv s1=>exJ λx H1 I1 r1 q1=>?_
 refine thn (hb pins s1 σ H1 _ I1 q1) λu s2=>exJ λy H2 I2 r2 q2=>?_
 exact hf v u s2 x y H2 I2 r1 r2 q2
theorem Qow{op:Operator}{r:R2}(ho:OpR X (binaryOp op) r)(ha:PE X a ta)(hb:PE X b tb):PE X (.BinOp a op b pos) (tOp r ta tb):=by
 intro pins s σ H Q I h
 exact wpAny_BinOp (Qsw ha hb I h λv u s2 x y H2 I2 rx ry q=>ho pins s2 σ H2 x y v u Q I2 rx ry q)
theorem QxX{op:UnaryOp}{r:V->Hp->VK->Prop}(ho:UnR X (unaryOp op) r)(ha:PE X a ta):PE X (.UnaryOp op a pos) (tUn r ta):=by
 intro pins s σ H Q I h
 exact UnaryOp_ (thn (ha pins s σ H _ I h) λv s1 ⟨x,H1,I1,r1,q1⟩=>ho pins s1 σ H1 x v Q I1 r1 q1)
theorem Qy3{op:Operator}{r:R2}(ho:OpR X (inplaceOp op) r){pins:List (Addr×Obj)}{s:Shared}{σ:St}{H:Hp}{x y:V}{v u:Value}{Q:VK}(I:Inv X pins σ H s)
  (rx:RelV x v) (ry:RelV y u) (q:r x y H Q):wpAny (model X.prog X.w) X.A (inplaceOp op v u) (EP X pins σ Q) X.xe s:=ho pins s σ H x y v u Q I rx ry q
theorem opI{f:Value->Value->Sem Value}{C:Int->Int->Prop}{g:Int->Int->Int}
  (rule:∀(i j:Int) (t u:Tok) (s:Shared) (Q:Value->Shared->Prop) (E:Value->Shared->Prop),C i j->Q (.int (g i j) s.toks) {s with toks:=s.toks+1}->wpAny (model X.prog X.w) X.A (f (.int i t) (.int j u)) Q E s):
  OpR X f (rI C λi j=> .int (g i j)):=by
 intro pins s σ H x y v u Q I rx ry h
 obtain⟨i,j,rfl,rfl,hc,q⟩:=h
 obtain⟨t,rfl⟩:=rx
 obtain⟨t',rfl⟩:=ry
 exact rule i j t t' s _ _ hc ⟨.int (g i j),H,I.tok _,⟨_,rfl⟩,q⟩
theorem QoT{f:Value->Value->Sem Value}{g:Int->Int->Int}
  (rule:∀(i j:Int) (t u:Tok) (s:Shared) (Q:Value->Shared->Prop) (E:Value->Shared->Prop),Q (.int (g i j) s.toks) {s with toks:=s.toks+1}->wpAny (model X.prog X.w) X.A (f (.int i t) (.int j u)) Q E s):
  OpR X f (rI0 λi j=> .int (g i j)):=by
 intro pins s σ H x y v u Q I rx ry h
 obtain⟨i,j,rfl,rfl,q⟩:=h
 obtain⟨t,rfl⟩:=rx
 obtain⟨t',rfl⟩:=ry
 exact rule i j t t' s _ _ ⟨.int (g i j),H,I.tok _,⟨_,rfl⟩,q⟩
theorem Qog{f:Value->Value->Sem Value}{g:Int->Int->Bool}
  (rule:∀(i j:Int) (t u:Tok) (s:Shared) (Q:Value->Shared->Prop) (E:Value->Shared->Prop),Q (.bool (g i j)) s->wpAny (model X.prog X.w) X.A (f (.int i t) (.int j u)) Q E s):
  OpR X f (rI0 λi j=> .bl (g i j)):=by
 intro pins s σ H x y v u Q I rx ry h
 obtain⟨i,j,rfl,rfl,q⟩:=h
 obtain⟨t,rfl⟩:=rx
 obtain⟨t',rfl⟩:=ry
 exact rule i j t t' s _ _ ⟨.bl (g i j),H,I,rfl,q⟩
def Qv1(i j:Int):Prop:=(-(2^64)<i/\i<2^64)∨(-(2^64)<j/\j<2^64)
theorem Qv1.ok{i j:Int}(h:Qv1 i j):IntMulOk i j:=by
 rcases h with⟨h1,h2⟩ | ⟨h1,h2⟩
 ·exact .of_left (intBits_le_64 h1 h2)
 ·exact .of_right (intBits_le_64 h1 h2)
theorem Qva:OpR X (binaryOp .Add) (rI0 λi j=> .int (i+j)):=QoT λ_ _ _ _ _ _ _ q=>add_int q
theorem Qvk:OpR X (binaryOp .Sub) (rI0 λi j=> .int (i-j)):=QoT λ_ _ _ _ _ _ _ q=>sub_int q
theorem QtX:OpR X (inplaceOp .Add) (rI0 λi j=> .int (i+j)):=QoT λ_ _ _ _ _ _ _ q=>iadd_int q
theorem QuB:OpR X (inplaceOp .Sub) (rI0 λi j=> .int (i-j)):=QoT λ_ _ _ _ _ _ _ q=>isub_int q
theorem unI{f:Value->Sem Value}{g:Int->Int}
  (rule:∀(i:Int) (t:Tok) (s:Shared) (Q:Value->Shared->Prop) (E:Value->Shared->Prop),Q (.int (g i) s.toks) {s with toks:=s.toks+1}->wpAny (model X.prog X.w) X.A (f (.int i t)) Q E s):
  UnR X f (rU λi=> .int (g i)):=by
 intro pins s σ H x v Q I rx h
 obtain⟨i,rfl,q⟩:=h
 obtain⟨t,rfl⟩:=rx
 exact rule i t s _ _ ⟨.int (g i),H,I.tok _,⟨_,rfl⟩,q⟩
theorem Qu2:UnR X (unaryOp .USub) (rU λi=> .int (-i)):=unI λ_ _ _ _ _ q=>neg_int q
end
section
variable {X:Cx}{a b c:Expr}{ta tb tc:TE}{pos:Pos}
theorem QxU:OpR X (compareOp .Lt) (rI0 λi j=> .bl (decide (i<j))):=Qog λ_ _ _ _ _ _ _ q=>lt_int q
theorem QxH:OpR X (compareOp .LtE) (rI0 λi j=> .bl (decide (i<=j))):=Qog λ_ _ _ _ _ _ _ q=>le_int q
theorem Qx1:OpR X (compareOp .Gt) (rI0 λi j=> .bl (decide (j<i))):=Qog λ_ _ _ _ _ _ _ q=>gt_int q
theorem Qx4:OpR X (compareOp .GtE) (rI0 λi j=> .bl (decide (j<=i))):=Qog λ_ _ _ _ _ _ _ q=>ge_int q
theorem OpR.or{f:Value->Value->Sem Value}{r r':R2}(h:OpR X f r)(h':OpR X f r'):OpR X f (λx y H Q=>r x y H Q∨r' x y H Q):=by
 intro pins s σ H x y v u Q I rx ry q
 rcases q with q | q
 ·exact h pins s σ H x y v u Q I rx ry q
 ·exact h' pins s σ H x y v u Q I rx ry q
theorem Qzg(b:Expr){op:CmpOp}(h:op≠ .In:=by decide)(h2:op≠ .NotIn:=by decide):behindInMarks op b=false:=by
 have e1:(op == CmpOp.In)=false:=by cases op<;>first | rfl | exact absurd rfl h
 have e2:(op == CmpOp.NotIn)=false:=by cases op<;>first | rfl | exact absurd rfl h2
 cases b<;>simp[behindInMarks,e1,e2]
theorem Qtk{op:CmpOp}{r:R2}(ho:OpR X (compareOp op) r)(ha:PE X a ta)(hb:PE X b tb)(hm:behindInMarks op b=false):PE X (.Compare a [op] [b] pos) (tOp r ta tb):=by
 intro pins s σ H Q I h
 exact wpAny_Compare1 (Qsw ha hb I h λv u s2 x y H2 I2 rx ry q=>ho pins s2 σ H2 x y v u Q I2 rx ry q) hm
noncomputable def QxK(t:TE):TT:=λσ H Q=>t σ H λx H'=>∃k,x= .bl k/\Q k H'
theorem Qt9{op:CmpOp}{r:R2}(ho:OpR X (compareOp op) r)(ha:PE X a ta)(hb:PE X b tb)(hm:behindInMarks op b=false):PT X (.Compare a [op] [b] pos) (QxK (tOp r ta tb)):=by
 intro pins s σ H Q I h
 refine wpAny_isTrue_Compare1 (thn (ha pins s σ H _ I h) λv s1 ⟨x,H1,I1,r1,q1⟩=>thn (hb pins s1 σ H1 _ I1 q1) λu s2 ⟨y,H2,I2,r2,q2⟩=>
  thn (ho pins s2 σ H2 x y v u _ I2 r1 r2 q2) λc s3 ⟨z,H3,I3,r3,k,e,q3⟩=>?_) hm
 subst e
 cases r3
 exact wpAny_truthy_bool ⟨H3,I3,q3⟩
def Qrd(K:PySem.W.Frag)(x:V)(H:Hp)(k:Bool):Prop:=
 match x with
 | .non=>k=false
 | .bl b=>k=b
 | .int i=>k=(i != 0)
 | .str y=>y.length<=sizeLine/\k=((y.length:Int) != 0)
 | .byt y=>y.size<=sizeLine/\k=((y.size:Int) != 0)
 | .ref p=>(∃xs,SqL K H p xs/\k= !xs.isEmpty)∨(∃xs,SqT K H p xs/\k= !xs.isEmpty)∨∃kvs,H p=some (.dK kvs)/\k= !kvs.isEmpty
 | _=>False
theorem Qoc{κ:Type}{kvs:List (κ×V)}{vs:List (κ×Value)}(r:KV kvs vs):(!vs.isEmpty)= !kvs.isEmpty:=by
 cases r<;>rfl
theorem QiM{xs:List V}{its:List Value}(r:Qq xs its):(!its.toArray.isEmpty)= !xs.isEmpty:=by
 cases r<;>simp
theorem QfI:(sizeLine:Nat)<2^63:=by rw[sizeLine_eq];decide
theorem Qi9:Qy8 X (λx H Q=>∃k,Qrd X.K x H k/\Q k H):=by
 intro pins s σ H x v Q I rx h
 obtain⟨k,e,q⟩:=h
 have hl:=QfI
 have hs:sizeLine=16777216:=sizeLine_eq
 cases x with
 | non=>
  cases rx
  have e':k=false:=e
  subst e'
  exact truthy_none ⟨H,I,q⟩
 | bl b=>
  cases rx
  have e':k=b:=e
  subst e'
  exact wpAny_truthy_bool ⟨H,I,q⟩
 | int i=>
  obtain⟨t,rfl⟩:=rx
  have e':k=(i != 0):=e
  subst e'
  exact PySem.P.truthy_int ⟨H,I,q⟩
 | str y=>
  obtain⟨t,rfl⟩:=rx
  obtain⟨hy,e'⟩:y.length<=sizeLine/\k=((y.length:Int) != 0):=e
  subst e'
  exact PySem.P.truthy_str (by omega) ⟨H,I.tok _,q⟩
 | byt y=>
  obtain⟨t,rfl⟩:=rx
  obtain⟨hy,e'⟩:y.size<=sizeLine/\k=((y.size:Int) != 0):=e
  subst e'
  exact PySem.W.truthy_bytes (by omega) ⟨H,I.tok _,q⟩
 | ref p=>
  cases rx
  have e':(∃xs,SqL X.K H p xs/\k= !xs.isEmpty)∨(∃xs,SqT X.K H p xs/\k= !xs.isEmpty)∨∃kvs,H p=some (.dK kvs)/\k= !kvs.isEmpty:=e
  rcases e' with⟨xs,hx,e'⟩ | ⟨xs,hx,e'⟩ | ⟨kvs,hx,e'⟩
  ·subst e'
   obtain⟨its,r,pl,hz⟩:=I.list hx
   have hlen:=r.length
   exact wpAny_truthy_list pl.isList (by simp only[Zx];omega) ⟨H,I.tok _,by rw[QiM r];exact q⟩
  ·subst e'
   obtain⟨its,r,pl,hz⟩:=I.tuple hx
   have hlen:=r.length
   exact truthy_tuple pl (by simp only[Zx];omega) ⟨H,I.tok _,by rw[QiM r];exact q⟩
  ·subst e'
   obtain⟨hz,hS,vs,r,m⟩:kvs.length<=sizeLine/\(p == sysModules)=false/\∃vs,KV kvs vs/\s.heap.DictOf (Qj6 X.prog X.w) p vs:=I.hok p _ hx
   have hlen:kvs.length=vs.length:=Paired.length r
   exact wpAny_truthy_dict hS m (by omega) ⟨H,I.tok _,by rw[Qoc r];exact q⟩
 | _=>exact(show False from e).elim
theorem Qr9(ha:PE X a ta)(he:∀whole,isTrue a X.env whole=(do let v ← whole;standAt a.pos;holding [v] (truthy v))):
  PT X a (λσ H Q=>ta σ H λx H'=>∃k,Qrd X.K x H' k/\Q k H'):=by
 intro pins s σ H Q I h
 exact isTrue_plain (thn (ha pins s σ H _ I h) λv s1 ⟨x,H1,I1,r1,q1⟩=>Qi9 pins s1 σ H1 x v Q I1 r1 q1) (he _)
theorem vals1{x:V}{us:List Value}(r:Qq [x] us):∃u,us=[u]/\RelV x u:=by
 cases r with
 | cons r1 r2=>cases r2;exact⟨_,rfl,r1⟩
theorem vals2{x y:V}{us:List Value}(r:Qq [x,y] us):∃u w',us=[u,w']/\RelV x u/\RelV y w':=by
 cases r with
 | cons r1 r2=>
  cases r2 with
  | cons r3 r4=>cases r4;exact⟨_,_,rfl,r1,r3⟩
theorem Qp0(hc:X.calm=true):QaY X (.builtin "max") (λxs H Q=>∃i j,xs=[.int i,.int j]/\Q (.int (if j>i then j else i)) H):=by
 intro pins s σ H xs us Q I r h
 obtain⟨i,j,rfl,q⟩:=h
 obtain⟨u,w',rfl,⟨t,rfl⟩,⟨t',rfl⟩⟩:=vals2 r
 refine max_two_ints (I.ok.hd hc) λh' tk k=>⟨_,H,I.kept k,?_,q⟩
 by_cases hj:j>i
 ·rw[if_pos hj,if_pos hj];exact⟨_,rfl⟩
 ·rw[if_neg hj,if_neg hj];exact⟨_,rfl⟩
theorem QqL(hc:X.calm=true):QaY X (.builtin "min") (λxs H Q=>∃i j,xs=[.int i,.int j]/\Q (.int (if j<i then j else i)) H):=by
 intro pins s σ H xs us Q I r h
 obtain⟨i,j,rfl,q⟩:=h
 obtain⟨u,w',rfl,⟨t,rfl⟩,⟨t',rfl⟩⟩:=vals2 r
 refine min_two_ints (I.ok.hd hc) λh' tk k=>⟨_,H,I.kept k,?_,q⟩
 by_cases hj:j<i
 ·rw[if_pos hj,if_pos hj];exact⟨_,rfl⟩
 ·rw[if_neg hj,if_neg hj];exact⟨_,rfl⟩
theorem Qo9:QaY X (.type "int") (λxs H Q=>(∃i,xs=[.int i]/\Q (.int i) H)∨∃k,xs=[.bl k]/\Q (.int (if k then 1 else 0)) H):=by
 intro pins s σ H xs us Q I r h
 rcases h with⟨i,rfl,q⟩ | ⟨k,rfl,q⟩
 ·obtain⟨u,rfl,t,rfl⟩:=vals1 r
  exact call_int_int ⟨.int i,H,I,⟨_,rfl⟩,q⟩
 ·obtain⟨u,rfl,r1⟩:=vals1 r
  cases r1
  exact call_int_bool ⟨.int (if k then 1 else 0),H,I.tok _,⟨_,rfl⟩,q⟩
end
end L2
namespace L2
open PySem PySem.Spec PyProof.Rows
structure Qh5 (h:Heap) (x dx C:Addr) (mA:Str->Option Value):Prop where
 obj:h.get? x=some (PySem.W.instObj C dx)
 ns:h.Ns1 dx mA
 ne:dx≠x
theorem Qqs{h:Heap}{dx:Addr}{mA:Str->Option Value}(n:h.Ns1 dx mA):∃od,h.get? dx=some od/\∀name,PySem.W.lookIn name od=some (mA name):=by
 obtain⟨o,es,ep,ho,hd,hk,_,hm⟩:=n
 refine⟨o,ho,λname=>?_⟩
 have e:=hm name
 unfold nsFind findBy at e
 rw[← Array.find?_toList]at e
 unfold PySem.W.lookIn
 rw[hd]
 dsimp only
 split
 ·rename_i y q
  rw[q]at e
  exact congrArg some e
 ·rename_i q
  rw[q]at e
  have a:es.toList.any (·.refKey)=false:=by
   rw[List.any_eq_false]
   intro y hy
   obtain⟨z,t,hkey⟩:=hk y (Array.mem_toList_iff.mp hy)
   simp[DictEntry.refKey,hkey]
  have a':¬es.toList.any (·.refKey)=true:=by rw[a];exact ZV
  rw[if_neg a']
  exact congrArg some e
theorem Qh5.look{h:Heap}{x dx C:Addr}{mA:Str->Option Value}(I:Qh5 h x dx C mA):∃od,PySem.W.InstAt h x (PySem.W.instObj C dx) C (some od)/\∀name,PySem.W.lookIn name od=some (mA name):=
 let ⟨od,ho,hl⟩:=Qqs I.ns
 ⟨od,⟨I.obj,rfl,rfl,ho⟩,hl⟩
section
variable {prog:Program}{w:World}{A:Around}{E:Value->Shared->Prop}{s:Shared}{K:PySem.W.Frag}{x dx C f:Addr}{mA:Str->Option Value}{name:Str}{v:Value}
theorem get_map{expr:Bool}{Q:Value->Shared->Prop}(X:K.In s.heap)(I:Qh5 s.heap x dx C mA)(hg:PySem.W.plainGet K C name=true)(hh:PySem.W.hasDictIn K C=true)
  (ha:PySem.W.findIn K (.ref C) name=some none) (hv:mA name=some v) (hv':PySem.W.handedIn v=true) (h:Q v {s with toks:=s.toks+1}):
  wpAny (model prog w) A (getAttr (.ref x) name expr) Q E s:=by
 obtain⟨od,J,hl⟩:=I.look
 exact PySem.W.get_value X J (Zbc hg).1 (PySem.W.findObj_own hh ha rfl (by rw[hl,hv])) hv' h
theorem Qq5{pl:Sem Bool}{Q:Value×List Value->Shared->Prop}(X:K.In s.heap)(I:Qh5 s.heap x dx C mA)(hg:PySem.W.plainGet K C name=true)
  (hf:PySem.W.findIn K (.ref C) name=some (some (.ref f))) (ht:PySem.W.isFn K (.ref f)=true) (hv:mA name=none) (h:Q (.ref f,[.ref x]) s):
  wpAny (model prog w) A (getMethod (.ref x) name pl) Q E s:=by
 obtain⟨od,J,hl⟩:=I.look
 exact PySem.W.method_fn X J (Zbc hg).1 (Zbc hg).2 hf (beq_iff_eq.mp ht) (by show(PySem.W.lookIn name od).map (·.isSome)=some false;rw[hl,hv];rfl) h
theorem QtJ{ns:List Str}{Q:Unit->Shared->Prop}(X:K.In s.heap)(I:Qh5 s.heap x dx C mA)
  (hs:PySem.W.findIn K (.ref C) "__setattr__" =some (some (.builtin "object.__setattr__"))) (hp:PySem.W.plainOver K C=true) (ht:PySem.W.takerIn K C name=some none) (hh:PySem.W.hasDictIn K C=true)
  (hw:PySem.Within mA ns) (hsz:ns.length<=sizeLine)
  (h:∀h',Qh5 h' x dx C (λy=>if y=name then some v else mA y)->Heap.SameBut dx s.heap h'->Q () {s with heap:=h',toks:=s.toks+2}):
  wpAny (model prog w) A (setAttr (.ref x) name v) Q E s:=by
 obtain⟨od,J,hl⟩:=I.look
 refine PySem.W.set_plain X J hs (PySem.W.osa_open (s:={s with toks:=s.toks+1}) (r:=none) X J hp ht λb=>?_)
 obtain⟨cd,hc,hd'⟩:=PySem.W.any_some hh
 have hx:s.heap.get? x=some ⟨.ref C,some dx,.plain,#[]⟩:=I.obj
 refine wpAny_bind (wpAny_pure (wpAny_bind (wpAny_bind (wpAny_loadPart hx (wpAny_bind (PySem.W.Looks.here (s:={s with toks:=s.toks+1}) (PySem.W.looks_clsIn X hc) ?_))))))
 rw[hd']
 refine wpAny_pure (a:=some dx) (wpAny_bind (wpAny_pure (wpAny_bind ?_)))
 refine wpAny_nsSet1 (s:={s with toks:=s.toks+1}) I.ns λh' hn2 hs2=>?_
 obtain⟨oD,esD,epD,hoD,hdD,hcD⟩:=hn2.count (PySem.Within.cons name v hw)
 refine wpAny_bind (wpAny_lookBehind hoD (by rw[hdD];exact pastItsLine_dict (ZF hcD (by rw[Zi];omega))) ?_)
 exact wpAny_pure (h _ ⟨(hs2.2 _ (Ne.symm I.ne)).trans I.obj,hn2,I.ne⟩ hs2)
theorem Qq9{R:Result->Shared->Prop}{vs:List Value}{kw:List (Str×Value)}(X:K.In s.heap)(hm:PySem.W.makesIn K C=true)
  (hi:PySem.W.findIn K (.ref C) "__init__" =some (some (.ref f))) (hf:PySem.W.typeIn K (.ref f)=some (.type "function"))
  (h:codeAny (model prog w) (A.under (.builtin "type.__call__" ⟨.ref C::vs,kw⟩)) (.call (.ref f) ⟨.ref (s.heap.objs.size+1)::vs,kw⟩) (PySem.W.InitBack (s.heap.objs.size+1) R)
   {s with heap:=(s.heap.push PySem.W.emptyDict).push (PySem.W.instObj C s.heap.objs.size)}):
  codeAny (model prog w) A (.call (.ref C) ⟨vs,kw⟩) R s:=by
 obtain⟨hh,g,d,t,os⟩:=s
 exact PySem.W.make_core (Zbn X hm) (PySem.W.looks_findIn X hi) (λself=>PySem.W.bind_fn X self hf) (.inl rfl) h
theorem QpZ{R:Result->Shared->Prop}(X:K.In s.heap)(hm:PySem.W.makesIn K C=true)
  (hi:PySem.W.findIn K (.ref C) "__init__" =some (some (.builtin "object.__init__")))
  (hb:∀self,PySem.W.Looks (model prog w) s.heap (bindSpecial (.builtin "object.__init__") self) (.builtin "object.__init__",[self]))
  (h:codeAny (model prog w) (A.under (.builtin "type.__call__" ⟨[.ref C],[]⟩)) (.call (.builtin "object.__init__") ⟨[.ref (s.heap.objs.size+1)],[]⟩) (PySem.W.InitBack (s.heap.objs.size+1) R)
   {s with heap:=(s.heap.push PySem.W.emptyDict).push (PySem.W.instObj C s.heap.objs.size)}):
  codeAny (model prog w) A (.call (.ref C) ⟨[],[]⟩) R s:=by
 obtain⟨hh,g,d,t,os⟩:=s
 exact PySem.W.make_core (Zbn X hm) (PySem.W.looks_findIn X hi) hb (.inr ⟨rfl,rfl⟩) h
end
noncomputable def QaW(f:Str)(v:V):List (Str×V)->List (Str×V)
 | []=>[(f,v)]
 | (g,x)::r=>if g=f then(g,v)::r else(g,x)::QaW f v r
theorem QhN(f g:Str)(v:V):∀fs:List (Str×V),(QaW f v fs).lookup g=if g=f then some v else fs.lookup g
 | []=>by
  show List.lookup g [(f,v)]=_
  by_cases h:g=f
  ·have hb:(g == f)=true:=beq_iff_eq.mpr h
   simp only[List.lookup,hb,if_pos h]
  ·have hb:(g == f)=false:=beq_eq_false_iff_ne.mpr h
   simp only[List.lookup,hb,if_neg h]
 | (k,x)::r=>by
  have ih:=QhN f g v r
  rw[show QaW f v ((k,x)::r)=(if k=f then(k,v)::r else(k,x)::QaW f v r)from rfl]
  by_cases hk:k=f
  ·rw[if_pos hk]
   by_cases h:g=k
   ·have hb:(g == k)=true:=beq_iff_eq.mpr h
    simp only[List.lookup,hb,if_pos (h.trans hk)]
   ·have hb:(g == k)=false:=beq_eq_false_iff_ne.mpr h
    simp only[List.lookup,hb,if_neg (λe:g=f=>h (e.trans hk.symm))]
  ·rw[if_neg hk]
   by_cases h:g=k
   ·have hb:(g == k)=true:=beq_iff_eq.mpr h
    simp only[List.lookup,hb,if_neg (λe:g=f=>hk (h.symm.trans e))]
   ·have hb:(g == k)=false:=beq_eq_false_iff_ne.mpr h
    simp only[List.lookup,hb]
    exact ih
theorem QgY(f:Str)(v:V):∀fs:List (Str×V),f∈(QaW f v fs).map (·.1)/\∀g,g∈fs.map (·.1)->g∈(QaW f v fs).map (·.1)
 | []=>⟨by simp[QaW],λg h=>by simp at h⟩
 | (k,x)::r=>by
  obtain⟨i1,i2⟩:=QgY f v r
  rw[show QaW f v ((k,x)::r)=(if k=f then(k,v)::r else(k,x)::QaW f v r)from rfl]
  by_cases hk:k=f
  ·rw[if_pos hk]
   subst hk
   exact⟨by simp,λg h=>by simpa using h⟩
  ·rw[if_neg hk]
   refine⟨?_,λg h=>?_⟩
   ·rw[Zw]
    exact Zb _ i1
   ·rw[Zw]at h ⊢
    rcases Zo.mp h with e | e
    ·exact Zo.mpr (.inl e)
    ·exact Zb _ (i2 g e)
theorem QhP(f:Str)(v:V):∀fs:List (Str×V),(QaW f v fs).length<=fs.length+1
 | []=>by simp[QaW]
 | (k,x)::r=>by
  have ih:=QhP f v r
  rw[show QaW f v ((k,x)::r)=(if k=f then(k,v)::r else(k,x)::QaW f v r)from rfl]
  by_cases hk:k=f
  ·rw[if_pos hk,Zi,Zi];omega
  ·rw[if_neg hk,Zi,Zi];omega
theorem Qcx.some_of{v:V}{o:Option Value}(r:Qcx (some v) o):∃u,o=some u/\RelV v u:=by
 cases o with
 | none=>exact(show False from r).elim
 | some u=>exact⟨u,rfl,r⟩
theorem Qcx.none_of{o:Option Value}(r:Qcx none o):o=none:=by
 cases o with
 | none=>rfl
 | some u=>exact(show False from r).elim
theorem Qqr{v:V}{u:Value}(r:RelV v u):PySem.W.handedIn u=true:=by
 cases v with
 | non=>cases(show u=Value.none from r);rfl
 | bl b=>cases(show u=Value.bool b from r);rfl
 | int i=>obtain⟨t,e⟩:=(show ∃t,u=Value.int i t from r);cases e;rfl
 | str x=>obtain⟨t,e⟩:=(show ∃t,u=Value.str x t from r);cases e;rfl
 | byt b=>obtain⟨t,e⟩:=(show ∃t,u=Value.bytes b t from r);cases e;rfl
 | flt b=>obtain⟨t,e⟩:=(show ∃t,u=Value.float b t from r);cases e;rfl
 | ref a=>cases(show u=Value.ref a from r);rfl
 | ty n=>cases(show u=Value.type n from r);rfl
section
variable {P:Program}{w:World}{H H':Hp}{h h':Heap}{a C dx:Addr}{fs fs':List (Str×V)}
theorem Qht(hok:HOk P w H h)(e:H a=some (.ins C dx fs)):∃mA,Qh5 h a dx C mA/\(∀f,Qcx (fs.lookup f) (mA f))/\PySem.Within mA (fs.map (·.1))/\fs.length<=1000/\H dx=some (.own a):=by
 obtain⟨d,z,ne,ob,mA,n,r,q⟩:=(show QaB P w H h a (.ins C dx fs)from hok a _ e)
 exact⟨mA,⟨ob,n,ne⟩,r,q,z,d⟩
end
structure Cls (K:PySem.W.Frag) (C:Addr):Prop where
 pg:PySem.W.plainGet K C Str.empty=true
 hd:PySem.W.hasDictIn K C=true
 po:PySem.W.plainOver K C=true
 sa:PySem.W.findIn K (.ref C) "__setattr__" =some (some (.builtin "object.__setattr__"))
theorem Cls.get{K:PySem.W.Frag}{C:Addr}(c:Cls K C)(f:Str):PySem.W.plainGet K C f=true:=c.pg
def Qby(K:PySem.W.Frag)(C:Addr)(f:Str):Prop:=PySem.W.findIn K (.ref C) f=some none
theorem Qby.Qya{K:PySem.W.Frag}{C:Addr}{f:Str}(n:Qby K C f):PySem.W.takerIn K C f=some none:=by
 unfold PySem.W.takerIn
 rw[show PySem.W.findIn K (.ref C) f=some none from n]
 rfl
structure Con (K:PySem.W.Frag) (C:Addr) (f:Str) (v:V) (u:Value):Prop where
 at_:PySem.W.findIn K (.ref C) f=some (some u)
 rel:RelV v u
 get:PySem.W.specialIn K u "__get__" =some none
 cp:PySem.W.copiedNames.contains f=false
structure Qiu (K:PySem.W.Frag) (C:Addr) (m:Str) (f:Addr):Prop where
 at_:PySem.W.findIn K (.ref C) m=some (some (.ref f))
 fn:PySem.W.isFn K (.ref f)=true
 kp:PySem.W.keepIn K (.ref f)=true
section
variable {X:Cx}{pins:List (Addr×Obj)}{σ:St}{H:Hp}{s:Shared}{a C dx:Addr}{fs:List (Str×V)}{f:Str}{v:V}{A:Around}{E:Value->Shared->Prop}
theorem Qi5{b:Bool}{Q:Value->Shared->Prop}(I:Inv X pins σ H s)(e:H a=some (.ins C dx fs))(c:Cls X.K C)(n:Qby X.K C f)(l:fs.lookup f=some v)
  (h:∀u s',Inv X pins σ H s'->RelV v u->Q u s'):wpAny (model X.prog X.w) A (getAttr (.ref a) f b) Q E s:=by
 obtain⟨mA,O,r,_,_,_⟩:=Qht I.hok e
 obtain⟨u,hu,ru⟩:=Qcx.some_of (v:=v) (o:=mA f) (by rw[← l];exact r f)
 exact get_map I.kIn O (c.get f) c.hd n hu (Qqr ru) (h u _ (I.tok _) ru)
theorem Qjd{m:Str}{g:Addr}{pl:Sem Bool}{Q:Value×List Value->Shared->Prop}(I:Inv X pins σ H s)(e:H a=some (.ins C dx fs))(c:Cls X.K C)(k:Qiu X.K C m g)(l:fs.lookup m=none)
  (h:Q (.ref g,[.ref a]) s):wpAny (model X.prog X.w) A (getMethod (.ref a) m pl) Q E s:=by
 obtain⟨mA,O,r,_,_,_⟩:=Qht I.hok e
 have hn:mA m=none:=Qcx.none_of (by rw[← l];exact r m)
 exact Qq5 I.kIn O (c.get m) k.at_ k.fn hn h
theorem QiD{y:V}{u:Value}{Q:Unit->Shared->Prop}(I:Inv X pins σ H s)(e:H a=some (.ins C dx fs))(c:Cls X.K C)(n:Qby X.K C f)(hl:fs.length<1000)(ry:RelV y u)
  (h:∀s',Inv X pins σ (upd H a (.ins C dx (QaW f y fs))) s'->Q () s'):wpAny (model X.prog X.w) A (setAttr (.ref a) f u) Q E s:=by
 obtain⟨mA,O,r,wi,_,ho⟩:=Qht I.hok e
 have hz:(fs.map (·.1)).length<=sizeLine:=by rw[Zp,sizeLine_eq];omega
 refine QtJ I.kIn O c.sa c.po n.Qya c.hd wi hz λh' O' sb=>h _ ?_
 have hd:∃o,h'.get? dx=some o:=let ⟨o,_,_,e',_⟩:=O'.ns;⟨o,e'⟩
 refine I.write (x:=a) (e:=dx) (by rw[e];exact True.intro) (.inr ho) (λb q hb z=>(sb.2 b hb).trans z) hd ?_
 refine⟨by rw[Qx O.ne];exact ho,?_,O.ne,O'.obj,_,O'.ns,λg=>?_,λg hg=>?_⟩
 ·have:=QhP f y fs;omega
 ·show Qcx ((QaW f y fs).lookup g) (if g=f then some u else mA g)
  rw[QhN]
  by_cases q:g=f
  ·rw[if_pos q,if_pos q];exact ry
  ·rw[if_neg q,if_neg q];exact r g
 ·by_cases q:g=f
  ·rw[q];exact(QgY f y fs).1
  ·refine(QgY f y fs).2 g (wi g λz=>hg ?_)
   show(if g=f then some u else mA g)=none
   rw[if_neg q];exact z
theorem Inv.made(I:Inv X pins σ H s):Inv X pins σ (upd (upd H s.heap.objs.size (.own (s.heap.objs.size+1))) (s.heap.objs.size+1) (.ins C s.heap.objs.size []))
  {s with heap:=(s.heap.push PySem.W.emptyDict).push (PySem.W.instObj C s.heap.objs.size)}:=by
 have e1:(s.heap.push PySem.W.emptyDict).get? s.heap.objs.size=some PySem.W.emptyDict:=ZM s.heap rfl
 have e2:((s.heap.push PySem.W.emptyDict).push (PySem.W.instObj C s.heap.objs.size)).get? (s.heap.objs.size+1)=some (PySem.W.instObj C s.heap.objs.size):=by
  have:=ZM (s.heap.push PySem.W.emptyDict) (o:=PySem.W.instObj C s.heap.objs.size) rfl
  rwa[ZaA]at this
 have e3:(s.heap.push PySem.W.emptyDict).Ns s.heap.objs.size (λ_=>none):=⟨PySem.W.emptyDict,#[],_,e1,rfl,(λe he=>absurd he (by simp)),λ_=>rfl⟩
 have I1:=I.laid (a:=s.heap.objs.size) (o:= .own (s.heap.objs.size+1)) (h':=s.heap.push PySem.W.emptyDict) (t':=s.toks) (λb u q=>Zt _ q) (Zq _) ⟨_,e1⟩
 refine I1.laid (a:=s.heap.objs.size+1) (o:= .ins C s.heap.objs.size []) (t':=s.toks) (λb u q=>Zt _ q) (Nat.le_of_eq (ZaA _ _)) ?_
 have ne:s.heap.objs.size≠s.heap.objs.size+1:=ZL (ZaJ _)
 refine⟨by rw[Qx ne,QQ],ZT _,ne,e2,λ_=>none,(Heap.Ns1.of_empty e3).at λo q=>Zt _ q,λ_=>True.intro,λy hy=>absurd rfl hy⟩
theorem Qth{prog:Program}{w:World}{env:Env}{e:Expr}{f:Str}{pos:Pos}{s:Shared}{Q:Value->Shared->Prop}(hb:attributeBase e f env (eval e env)=eval e env)
  (h:wpAny (model prog w) A (eval e env) (λo s₁=>wpAny (model prog w) A (getAttr o f true) Q E s₁) E s):wpAny (model prog w) A (eval (.Attribute e f pos) env) Q E s:=
 Attribute_any_ h (by rw[arm_eval_Attribute,hb])
end
noncomputable def Qy5(K:PySem.W.Frag)(ta:TE)(f:Str):TE:=λσ H Q=>ta σ H λx H1=>∃a C dx fs v,x= .ref a/\H1 a=some (.ins C dx fs)/\Cls K C/\Qby K C f/\fs.lookup f=some v/\Q v H1
noncomputable def Qyn(K:PySem.W.Frag)(ta tv:TE)(f:Str):TS:=λD σ H=>tv σ H λy H1=>ta σ H1 λx H2=>∃a C dx fs,x= .ref a/\H2 a=some (.ins C dx fs)/\Cls K C/\Qby K C f/\fs.length<1000∧
 D.nx σ (upd H2 a (.ins C dx (QaW f y fs)))
def QwT(X:Cx)(op:Operator)(rd:V->V->Hp->VK->Prop):Prop:=
 ∀(pins:List (Addr×Obj)) (s:Shared) (σ:St) (H:Hp) (x y:V) (u v:Value) (Q:VK),Inv X pins σ H s->RelV x u->RelV y v->rd x y H Q->wpAny (model X.prog X.w) X.A (inplaceOp op u v) (EP X pins σ Q) X.xe s
noncomputable def QuC(K:PySem.W.Frag)(ta tv:TE)(rd:V->V->Hp->VK->Prop)(f:Str):TS:=λD σ H=>ta σ H λx H1=>∃a C dx fs v,x= .ref a/\H1 a=some (.ins C dx fs)/\Cls K C/\Qby K C f/\fs.lookup f=some v∧
 tv σ H1 λy H2=>rd v y H2 λz H3=>∃dx' fs',H3 a=some (.ins C dx' fs')/\fs'.length<1000/\D.nx σ (upd H3 a (.ins C dx' (QaW f z fs')))
section
variable {X:Cx}{o e value:Expr}{f:Str}{pos pos' tpos:Pos}{ta tv:TE}
theorem QwF(he:PE X e ta)(hb:attributeBase e f X.env (eval e X.env)=eval e X.env):PE X (.Attribute e f pos) (Qy5 X.K ta f):=by
 intro pins s σ H Q I h
 refine Qth hb (thn (he pins s σ H _ I h) λu s1 hpt=>?_)
 obtain⟨x,H1,I1,rx,a,C,dx,fs,v,ex,ea,c,n,l,q⟩:=hpt
 subst ex
 obtain rfl:u=Value.ref a:=rx
 exact Qi5 I1 ea c n l λu' s2 I2 ru=>⟨v,H1,I2,ru,q⟩
theorem Qu5(ha:PE X o ta)(hv:PE X value tv)(hs:swapsWith value (some (.Attribute o f pos')) pos.line X.env=pure false):PS X (.Assign [.Attribute o f pos'] value pos) (Qyn X.K ta tv f):=by
 intro pins s σ H D I h
 refine plainObj_wpAny_Assign_Attribute (thn (hv pins s σ H _ I h) λu s1 ⟨y,H1,I1,ry,q⟩=>thn (ha pins s1 σ H1 _ I1 q) λov s2 ⟨x,H2,I2,rx,a,C,dx,fs,ex,ea,c,n,l,q2⟩=>?_) hs
 subst ex
 obtain rfl:ov=Value.ref a:=rx
 exact QiD I2 ea c n l ry λs3 I3=>⟨σ,_,I3,q2⟩
theorem Qpv{op:Operator}{rd:V->V->Hp->VK->Prop}(ha:PE X o ta)(hv:PE X value tv)(hop:QwT X op rd):PS X (.AugAssign (.Attribute o f tpos) op value pos) (QuC X.K ta tv rd f):=by
 intro pins s σ H D I h
 refine wpAny_AugAssign_AttributeAny (thn (ha pins s σ H _ I h) λov s1 hpt=>?_)
 obtain⟨x,H1,I1,rx,a,C,dx,fs,v,ex,ea,c,n,l,q⟩:=hpt
 subst ex
 obtain rfl:ov=Value.ref a:=rx
 refine Qi5 I1 ea c n l λu s2 I2 ru=>thn (hv pins s2 σ H1 _ I2 q) λw3 s3 ⟨y,H2,I3,ry,q3⟩=>thn (hop pins s3 σ H2 v y u w3 _ I3 ru ry q3) λw4 s4 hpt=>?_
 obtain⟨z,H3,I4,rz,dx',fs',ea',l',q4⟩:=hpt
 exact QiD I4 ea' c n l' rz λs5 I5=>⟨σ,_,I5,q4⟩
noncomputable def QyR:V->V->Hp->VK->Prop:=λx y H Q=>∃i j,x= .int i/\y= .int j/\Q (.int (i+j)) H
theorem QwM:QwT X .Add QyR:=by
 rintro pins s σ H x y u v Q I rx ry ⟨i,j,rfl,rfl,q⟩
 obtain⟨t,rfl⟩:=(show ∃t,u=Value.int i t from rx)
 obtain⟨t',rfl⟩:=(show ∃t',v=Value.int j t' from ry)
 exact PyProof.Rows.iadd_int ⟨.int (i+j),H,I.tok _,⟨_,rfl⟩,q⟩
end
section
variable {X:Cx}{pins:List (Addr×Obj)}{σ:St}{H:Hp}{s:Shared}{A:Around}{E:Value->Shared->Prop}{Q:Value->Shared->Prop}{c:Value}{b:Bool}
inductive Qdu (K:PySem.W.Frag) (H:Hp):V->Value->Prop where
 | non:Qdu K H .non (.type "NoneType")
 | bl (x:Bool):Qdu K H (.bl x) (.type "bool")
 | int (i:Int):Qdu K H (.int i) (.type "int")
 | str (x:Str):Qdu K H (.str x) (.type "str")
 | flt (x:UInt64):Qdu K H (.flt x) (.type "float")
 | lst {a:Addr}{xs:List V}(e:H a=some (.lst xs)):Qdu K H (.ref a) (.type "list")
 | frz {a:Addr}{o:Obj}{xs:List V}(e:H a=some (.frz o (.lst xs))):Qdu K H (.ref a) (.type "list")
 | tup {a:Addr}{xs:List V}(e:H a=some (.tup xs)):Qdu K H (.ref a) (.type "tuple")
 | dK {a:Addr}{kvs:List (Key×V)}(e:H a=some (.dK kvs)):Qdu K H (.ref a) (.type "dict")
 | dT {a:Addr}{kvs:List (List Key×V)}(e:H a=some (.dT kvs)):Qdu K H (.ref a) (.type "dict")
 | ins {a C dx:Addr}{fs:List (Str×V)}(e:H a=some (.ins C dx fs)) (cl:Cls K C) (ha:PySem.W.findIn K (.ref C) "__class__" =some (some (.builtin "object.__class__")))
   (hn:PySem.W.specialIn K (.builtin "object.__class__") "__get__" =some (some (.builtin "getset_descriptor.__get__"))) (htk:PySem.W.takesIn K (.builtin "object.__class__")=some true)
   (hm:PySem.W.mroIn K C (.type "object")=some true):Qdu K H (.ref a) (.ref C)
theorem Qpk{x:V}{u t:Value}(I:Inv X pins σ H s)(rx:RelV x u)(ty:Qdu X.K H x t)(e:PySem.W.kitOne X.K t c=some b)(h:∀tk,Q (.bool b) {s with toks:=tk}):
  wpAny (model X.prog X.w) A (call (.builtin "isinstance") [u,c]) Q E s:=by
 cases ty with
 | non=>cases(show u=Value.none from rx);exact ZN PySem.W.kitx_none I.kIn True.intro e (λz=>nomatch z) h
 | bl y=>cases(show u=Value.bool y from rx);exact ZN PySem.W.kitx_bool I.kIn True.intro e (λz=>nomatch z) h
 | int i=>obtain⟨t,q⟩:=(show ∃t,u=Value.int i t from rx);cases q;exact ZN PySem.W.kitx_int I.kIn True.intro e (λz=>nomatch z) h
 | str y=>obtain⟨t,q⟩:=(show ∃t,u=Value.str y t from rx);cases q;exact ZN PySem.W.kitx_str I.kIn True.intro e (λz=>nomatch z) h
 | flt y=>obtain⟨t,q⟩:=(show ∃t,u=Value.float y t from rx);cases q;exact ZN PySem.W.kitx_float I.kIn True.intro e (λz=>nomatch z) h
 | @lst a xs ea=>
  cases(show u=Value.ref a from rx)
  obtain⟨_,_,n,_,h1⟩:=(show QaB X.prog X.w H s.heap a (.lst xs)from I.hok a _ ea)
  exact ZN Zbh I.kIn ⟨_,h1,rfl⟩ e (λz=>nomatch z) h
 | @frz a ob xs ea=>
  cases(show u=Value.ref a from rx)
  obtain⟨_,_,_,n,_,h1⟩:=(show QaB X.prog X.w H s.heap a (.frz ob (.lst xs))from I.hok a _ ea)
  exact ZN Zbh I.kIn ⟨_,h1,rfl⟩ e (λz=>nomatch z) h
 | @tup a xs ea=>
  cases(show u=Value.ref a from rx)
  obtain⟨_,_,_,p⟩:=(show QaB X.prog X.w H s.heap a (.tup xs)from I.hok a _ ea)
  obtain⟨o,h1,h2,_⟩:=p
  exact ZN PySem.W.kitx_tuple I.kIn ⟨o,h1,h2⟩ e (λz=>nomatch z) h
 | @dK a kvs ea=>
  cases(show u=Value.ref a from rx)
  obtain⟨_,_,vs,_,p⟩:=(show QaB X.prog X.w H s.heap a (.dK kvs)from I.hok a _ ea)
  obtain⟨o,es,ep,h1,h2,_⟩:=p
  exact ZN PySem.W.kitx_dict I.kIn ⟨o,h1,h2.1⟩ e (λz=>nomatch z) h
 | @dT a kvs ea=>
  cases(show u=Value.ref a from rx)
  obtain⟨_,_,xs,_,o,es,ep,h1,h2,_⟩:=(show QaB X.prog X.w H s.heap a (.dT kvs)from I.hok a _ ea)
  exact ZN PySem.W.kitx_dict I.kIn ⟨o,h1,h2.1⟩ e (λz=>nomatch z) h
 | @ins a C dx fs ea cl ha hn htk hm=>
  cases(show u=Value.ref a from rx)
  obtain⟨mA,O,_⟩:=Qht I.hok ea
  obtain⟨od,J,_⟩:=O.look
  exact ZN (PySem.W.kitx_own (cl.get _) cl.hd ha hn htk hm) I.kIn J e (λz=>nomatch z) h
end
end L2
namespace L2
open PySem PySem.Spec PyProof.Rows
structure QU (k:Nat) (A:Around):Prop where
 hd:A.handled=none
 dp:A.depth+3*k+5<recursionLimit
 un:A.units+16*k+200<cLine
theorem QU.mono{j k:Nat}{A:Around}(r:QU k A)(h:j<=k):QU j A:=⟨r.hd,by have:=r.dp;omega,by have:=r.un;omega⟩
theorem QU.deeper{k:Nat}{A:Around}(r:QU (k+1) A)(env:Env):QU k (A.deeper env):=
 ⟨r.hd,by have:=r.dp;show A.depth+1+3*k+5<_;omega,by have:=r.un;show A.units+3+16*k+200<_;omega⟩
theorem QU.in1{k:Nat}{A:Around}(r:QU (k+1) A):QU k A.in1:=
 ⟨r.hd,by have:=r.dp;show A.depth+3*k+5<_;omega,by have:=r.un;show A.units+1+16*k+200<_;omega⟩
theorem Qom{A:Around}{C:Addr}{us:List Value}{kw:List (Str×Value)}:(A.under (.builtin "type.__call__" ⟨.ref C::us,kw⟩)).depth=A.depth+1:=by
 first | rfl | simp[Around.under,Code.weight,Code.isCreation,Code.isGuard,Code.isCaller,Code.frames,Code.isFrame,guardIds]
theorem Qo4{A:Around}{C:Addr}{us:List Value}{kw:List (Str×Value)}:(A.under (.builtin "type.__call__" ⟨.ref C::us,kw⟩)).units=A.units+1:=by
 first | rfl | simp[Around.under,Code.cUnits,Code.frames,Code.isFrame]
theorem QU.make{k:Nat}{A:Around}(r:QU (k+1) A)(C:Addr)(us:List Value)(kw:List (Str×Value)):QU k (A.under (.builtin "type.__call__" ⟨.ref C::us,kw⟩)):=
 ⟨r.hd,by have:=r.dp;rw[Qom];omega,by have:=r.un;rw[Qo4];omega⟩
theorem QU.depth{k:Nat}{A:Around}(r:QU k A):A.depth<recursionLimit:=by have:=r.dp;omega
theorem QU.units{k:Nat}{A:Around}(r:QU k A):A.units+64<cLine:=by have:=r.un;omega
noncomputable def Qo5:TA:=λ_ H Q=>Q [] H
noncomputable def Qn6(ta:TE)(tr:TA):TA:=λσ H Q=>ta σ H λx H1=>tr σ H1 λxs H2=>Q (x::xs) H2
section
variable {X:Cx}{e:Expr}{es:List Expr}{te:TE}{t:TA}{pos:Pos}
theorem QbJ:PA X [] Qo5:=λ_ _ _ _ H Q I h=>Calls.spliced_nil ⟨[],H,I,.nil,h⟩
theorem Qag(ha:PE X e te)(hr:PA X es t)(hs:starEach (e::es) X.env=(false,eval e X.env)::starEach es X.env:=by rfl):PA X (e::es) (Qn6 te t):=by
 intro pos pins s σ H Q I h
 rw[hs]
 show wpAny _ _ (spliced ((false,eval e X.env)::backTo pos (starEach es X.env))) _ _ s
 refine Calls.spliced_cons (thn (ha pins s σ H _ I h) λu s1=>exJ λx H1 I1 r1 q1=>?_)
 exact thn (hr pos pins s1 σ H1 _ I1 q1) λus s2 ⟨xs,H2,I2,r2,q2⟩=>⟨x::xs,H2,I2,.cons r1 r2,q2⟩
noncomputable def QyG(t:TA):TE:=λσ H Q=>t σ H λxs H1=>xs.length<=sizeLine/\∀p,H1 p=none->Q (.ref p) (upd H1 p (.tup xs))
noncomputable def QyH(t:TA):TE:=λσ H Q=>t σ H λxs H1=>xs.length<=sizeLine/\∀p,H1 p=none->Q (.ref p) (upd H1 p (.lst xs))
theorem Qqc{x1}(h:PA X es t):PE X (.Tuple es x1 pos) (QyG t):=by
 intro pins s σ H Q I hq
 refine wpAny_Tuple_spliced (thn (h pos pins s σ H _ I hq) λus s1 ⟨xs,H1,I1,r,z,q⟩=>⟨by rw[← r.length];exact z,?_⟩)
 have hf:H1 s1.heap.objs.size=none:=I1.hok.fresh (Zq _)
 refine⟨.ref s1.heap.objs.size,upd H1 s1.heap.objs.size (.tup xs),I1.laid (t':=s1.toks) (λb u e=>Zt _ e) (Zq _) ?_,rfl,q _ hf⟩
 exact⟨z,us,r,⟨_,ZM _ rfl,rfl,_,rfl⟩⟩
theorem QvW(h:PA X es t):PE X (.List es pos) (QyH t):=by
 intro pins s σ H Q I hq
 refine wpAny_List_spliced (thn (h pos pins s σ H _ I hq) λus s1 ⟨xs,H1,I1,r,z,q⟩=>⟨by rw[← r.length];exact z,?_⟩)
 have hf:H1 s1.heap.objs.size=none:=I1.hok.fresh (Zq _)
 refine⟨.ref s1.heap.objs.size,upd H1 s1.heap.objs.size (.lst xs),I1.laid (t':=s1.toks) (λb u e=>Zt _ e) (Zq _) ?_,rfl,q _ hf⟩
 exact⟨z,us,0,r,ZM _ rfl⟩
end
noncomputable abbrev Sp:=List V->Hp->VK->XK->Prop
noncomputable abbrev CXT:=List Env->Hp->Shared->XK->Value->Shared->Prop
structure Qfg (P:Program) (w:World) (K:PySem.W.Frag) (mg:Str->Option Value) (base:Heap) (A:Around) (outer:List Env) (s:Shared) (H:Hp):Prop where
 frames:A.frames=some outer
 mod:Mod K mg base
 bs:∀b o,base.get? b=some o->s.heap.get? b=some o/\H b=none
 bsz:base.objs.size<=s.heap.objs.size
 QcA:s.heap.FunFrames base outer
 frf:∀b∈frs outer,H b=none
 hok:HOk P w H s.heap
 bare:AllBare s.gens
def CE(outer:List Env)(P:Program)(w:World)(H:Hp)(s:Shared)(Q:VK)(u:Value)(s':Shared):Prop:=
 ∃v H',s'.os=s.os/\AllBare s'.gens/\Un (frs outer) [] H H' s.heap s'.heap/\HOk P w H' s'.heap/\RelV v u/\Q v H'
def CR(CX:CXT)(outer:List Env)(P:Program)(w:World)(H:Hp)(s:Shared)(Q:VK)(E:XK)(r:Result)(s':Shared):Prop:=
 match r with
 | .ok (.ret u)=>CE outer P w H s Q u s'
 | .ok _=>False
 | .error e=>CX outer H s E e s'
structure Q4 (P:Program) (w:World) (K:PySem.W.Frag) (mg:Str->Option Value) (base:Heap) (CX:CXT) (k:Nat) (f:Addr) (fd:FuncData) (ps:List Str) (sp:Sp):Prop where
 len:∀vs H Q E,sp vs H Q E->vs.length=ps.length
 run:∀(A:Around) (outer:List Env) (s:Shared) (H:Hp) (args:Args) (us:List Value) (vs:List V) (Q:VK) (E:XK),QU k A->Qfg P w K mg base A outer s H->BindsTo s fd args (ps.zip us)->Qq vs us->sp vs H Q E→
  codeAny (model P w) A (.call (.ref f) args) (CR CX outer P w H s Q E) s
theorem Q4.mono{P:Program}{w:World}{K:PySem.W.Frag}{mg:Str->Option Value}{base:Heap}{CX:CXT}{j k:Nat}{f:Addr}{fd:FuncData}{ps:List Str}{sp:Sp}(F:Q4 P w K mg base CX j f fd ps sp)(h:j<=k):
  Q4 P w K mg base CX k f fd ps sp:=⟨F.len,λA outer s H args us vs Q E hr=>F.run A outer s H args us vs Q E (hr.mono h)⟩
theorem Q4.imp{P:Program}{w:World}{K:PySem.W.Frag}{mg:Str->Option Value}{base:Heap}{CX:CXT}{k:Nat}{f:Addr}{fd:FuncData}{ps:List Str}{sp sp':Sp}(F:Q4 P w K mg base CX k f fd ps sp)
  (h:∀vs H Q E,sp' vs H Q E->sp vs H Q E):Q4 P w K mg base CX k f fd ps sp':=
 ⟨λvs H Q E q=>F.len vs H Q E (h _ _ _ _ q),λA outer s H args us vs Q E hr he hb hv hs=>F.run A outer s H args us vs Q E hr he hb hv (h _ _ _ _ hs)⟩
theorem Qfg.make{P:Program}{w:World}{K:PySem.W.Frag}{mg:Str->Option Value}{base:Heap}{A:Around}{outer:List Env}{s:Shared}{H:Hp}(e:Qfg P w K mg base A outer s H)(C:Addr)(us:List Value)(kw:List (Str×Value)):
  Qfg P w K mg base (A.under (.builtin "type.__call__" ⟨.ref C::us,kw⟩)) outer s H:=⟨by first | exact e.frames | (simpa[Around.under,Code.envs,Code.isFrame,pushEnvs]using e.frames),e.mod,e.bs,e.bsz,e.QcA,e.frf,e.hok,e.bare⟩
theorem Qfg.in1{P:Program}{w:World}{K:PySem.W.Frag}{mg:Str->Option Value}{base:Heap}{A:Around}{outer:List Env}{s:Shared}{H:Hp}(e:Qfg P w K mg base A outer s H):
  Qfg P w K mg base A.in1 outer s H:=⟨e.frames,e.mod,e.bs,e.bsz,e.QcA,e.frf,e.hok,e.bare⟩
section
variable {X:Cx}{pins:List (Addr×Obj)}{σ:St}{H:Hp}{s s':Shared}
theorem Inv.Qn5(I:Inv X pins σ H s):Qfg X.prog X.w X.K X.mg X.base X.A X.stack s H:=
 ⟨I.ok.frames,I.ok.mod,I.bs,ZF I.ok.bsz I.sz,I.stack,I.Qj4,I.hok,I.bare⟩
theorem Inv.after{Q:VK}{u:Value}(I:Inv X pins σ H s)(h:CE X.stack X.prog X.w H s Q u s'):EP X pins σ Q u s':=by
 obtain⟨v,H',os,bare,un,hok,r,q⟩:=h
 obtain⟨hh,g,d,t,os'⟩:=s'
 obtain rfl:os'=s.os:=os
 exact⟨v,H',I.call (h':=hh) (g':=g) (d':=d) (t':=t) (ch:=[]) un hok bare (λb z=>absurd z (by simp)),r,q⟩
end
noncomputable def QoU(sp:Sp)(dvs:List V)(E:XK)(t:TA):TE:=λσ H Q=>t σ H λvs H1=>sp (vs++dvs) H1 Q E
noncomputable def Qxp(C:Addr)(m:Str)(sp:Sp)(dvs:List V)(E:XK)(ta:TE)(t:TA):TE:=λσ H Q=>ta σ H λx H1=>∃a dx fs,x= .ref a/\H1 a=some (.ins C dx fs)/\fs.lookup m=none∧
 t σ H1 λvs H2=>sp (x::(vs++dvs)) H2 Q E
noncomputable def QxM(C:Addr)(sp:Sp)(dvs:List V)(E:XK)(t:TA):TE:=λσ H Q=>t σ H λvs H1=>∀x dx,H1 x=none->H1 dx=none->dx≠x→
 sp (.ref x::(vs++dvs)) (upd (upd H1 dx (.own x)) x (.ins C dx [])) (λv H2=>v= .non/\Q (.ref x) H2) E
def Binds(K:PySem.W.Frag)(fd:FuncData)(ps:List Str)(ds:List Value):Prop:=
 ∀(s:Shared) (us:List Value),K.In s.heap->(us++ds).length=ps.length->BindsTo s fd ⟨us,[]⟩ (ps.zip (us++ds))
theorem Binds.all{K:PySem.W.Frag}{fd:FuncData}{ps:List Str}(h:∀us:List Value,us.length=ps.length->bindArgs fd ⟨us,[]⟩=pure (ps.zip us)):Binds K fd ps []:=λs us _ hl=>by
 rw[ZD]at hl ⊢
 exact .of_eq (h us hl)
def QeB(CX:CXT)(X:Cx)(E:XK):Prop:=∀(pins:List (Addr×Obj)) (σ:St) (H:Hp) (s:Shared) (e:Value) (s':Shared),Inv X pins σ H s->CX X.stack H s E e s'->X.xe e s'
section
variable {X:Cx}{CX:CXT}{k:Nat}{f C:Addr}{fd:FuncData}{ps:List Str}{sp:Sp}{dvs:List V}{ds:List Value}{E:XK}{x m:Str}{p pos apos:Pos}{e o:Expr}{es:List Expr}{ta:TE}{t:TA}
theorem QmU{pins:List (Addr×Obj)}{σ:St}{H:Hp}{s:Shared}{Q:VK}{us:List Value}{vs:List V}(F:Q4 X.prog X.w X.K X.mg X.base CX k f fd ps sp)(hr:QU k X.A)(hb:Binds X.K fd ps ds)(hd:Qq dvs ds)(hx:QeB CX X E)
  (I:Inv X pins σ H s) (r:Qq vs us) (h:sp (vs++dvs) H Q E):wpAny (model X.prog X.w) X.A (call (.ref f) us) (EP X pins σ Q) X.xe s:=by
 have r2:Qq (vs++dvs) (us++ds):=r.append hd
 have hl:(us++ds).length=ps.length:=by rw[← r2.length];exact F.len _ _ _ _ h
 refine wpAny_call (codeAny_mono (F.run X.A X.stack s H ⟨us,[]⟩ (us++ds) (vs++dvs) Q E hr I.Qn5 (hb s us I.kIn hl) r2 h) λr s' hq=>?_)
 cases r with
 | error e=>exact hx pins σ H s e s' I hq
 | ok fl=>
  cases fl with
  | ret u=>exact I.after hq
  | next=>exact False.elim hq
  | brk=>exact False.elim hq
  | cont=>exact False.elim hq
theorem Qjr(F:Q4 X.prog X.w X.K X.mg X.base CX k f fd ps sp)(hr:QU k X.A)(hg:Gl X x)(hm:X.mg x=some (.ref f))(hk:PySem.W.keepIn X.K (.ref f)=true)(hb:Binds X.K fd ps ds)(hd:Qq dvs ds)(hx:QeB CX X E)
  (ha:PA X (e::es) t) (hdb:(x == ("__debug__" :Str))=false:=by decide) (he:starEach (e::es) X.env=(false,eval e X.env)::starEach es X.env:=by rfl) (hpl:(backTo pos (starEach es X.env)).any (·.1)=false:=by rfl):
  PE X (.Call (.Name x p) (e::es) [] pos) (QoU sp dvs E t):=by
 intro pins s σ H Q I h
 refine wpAny_Call_Name_kw (QcY I hg hm ?_ hdb)
 refine ZaD (h₀:=X.base) I.ok.mod.kin hk (thn (ha pos pins s σ H _ I h) λus s1 ⟨vs,H1,I1,r,q⟩=>⟨I1.kIn,?_⟩) he hpl
 exact QmU F hr hb hd hx I1 r q
theorem Qr1(F:Q4 X.prog X.w X.K X.mg X.base CX k f fd ps sp)(hr:QU k X.A)(hg:Gl X x)(hm:X.mg x=some (.ref f))(hk:PySem.W.keepIn X.K (.ref f)=true)(hb:Binds X.K fd ps ds)(hd:Qq dvs ds)(hx:QeB CX X E)
  (hdb:(x == ("__debug__" :Str))=false:=by decide):PE X (.Call (.Name x p) [] [] pos) (QoU sp dvs E Qo5):=by
 intro pins s σ H Q I h
 refine wpAny_Call_Name_kw (QcY I hg hm ?_ hdb)
 exact PySem.W.callWith_K0 I.kIn hk (QmU (us:=[]) F hr hb hd hx I .nil h)
theorem Qny{pl:Sem Bool}(he:PE X o ta)(c:Cls X.K C)(hm:Qiu X.K C m f)(F:Q4 X.prog X.w X.K X.mg X.base CX k f fd ps sp)(hr:QU k X.A)(hb:Binds X.K fd ps ds)(hd:Qq dvs ds)(hx:QeB CX X E)(ha:PA X (e::es) t)
  (hst:starEach (e::es) X.env=(false,eval e X.env)::starEach es X.env:=by rfl) (hpl:(backTo pos (starEach es X.env)).any (·.1)=false:=by rfl)
  (ht:eval (.Call (.Attribute o m apos) (e::es) [] pos) X.env=(do
   let ov ← eval o X.env
   standAt apos.atName
   let (f,first) ← holding [ov] (getMethod ov m pl)
   callWith pos f first (backTo pos (starEach (e::es) X.env)) (backToKw pos (keywordEach [] X.env))):=by rfl):
  PE X (.Call (.Attribute o m apos) (e::es) [] pos) (Qxp C m sp dvs E ta t):=by
 intro pins s σ H Q I h
 refine PySem.W.methodCall_KW (pl:=pl) (thn (he pins s σ H _ I h) λu s1 ⟨x,H1,I1,rx,a,dx,fs,ex,ea,l,q⟩=>?_) ht
 subst ex
 obtain rfl:u=Value.ref a:=rx
 refine Qjd I1 ea c hm l ?_
 refine ZaD (first:=[.ref a]) (h₀:=X.base) I.ok.mod.kin hm.kp (thn (ha pos pins s1 σ H1 _ I1 q) λus s2 ⟨vs,H2,I2,r,q2⟩=>⟨I2.kIn,?_⟩) hst hpl
 exact QmU (us:= .ref a::us) (vs:= .ref a::vs) F hr hb hd hx I2 (.cons rfl r) q2
structure Mk (K:PySem.W.Frag) (C f:Addr):Prop where
 makes:PySem.W.makesIn K C=true
 init:PySem.W.findIn K (.ref C) "__init__" =some (some (.ref f))
 fn:PySem.W.isFn K (.ref f)=true
 kp:PySem.W.keepIn K (.ref C)=true
theorem QqN{pins:List (Addr×Obj)}{σ:St}{H:Hp}{s:Shared}{Q:VK}{us:List Value}{vs:List V}(M:Mk X.K C f)(F:Q4 X.prog X.w X.K X.mg X.base CX k f fd ps sp)(hr:QU (k+1) X.A)(hb:Binds X.K fd ps ds)(hd:Qq dvs ds)
  (hx:QeB CX X E) (I:Inv X pins σ H s) (r:Qq vs us)
  (h:∀x dx,H x=none->H dx=none->dx≠x->sp (.ref x::(vs++dvs)) (upd (upd H dx (.own x)) x (.ins C dx [])) (λv H2=>v= .non/\Q (.ref x) H2) E):
  wpAny (model X.prog X.w) X.A (call (.ref C) us) (EP X pins σ Q) X.xe s:=by
 have hq:=h (s.heap.objs.size+1) s.heap.objs.size (I.hok.fresh (Zaw _)) (I.hok.fresh (Zq _)) (ZL (ZaJ _))
 have I2:=Inv.made (C:=C) I
 have r2:Qq (V.ref (s.heap.objs.size+1)::(vs++dvs)) (Value.ref (s.heap.objs.size+1)::(us++ds)):= .cons rfl (r.append hd)
 have hl:(Value.ref (s.heap.objs.size+1)::us++ds).length=ps.length:=by
  have e:=r2.length
  rw[F.len _ _ _ _ hq]at e
  exact e.symm
 refine wpAny_call (Qq9 (f:=f) I.kIn M.makes M.init (beq_iff_eq.mp M.fn) (codeAny_mono (F.run _ X.stack _ _ ⟨Value.ref (s.heap.objs.size+1)::us,[]⟩ (Value.ref (s.heap.objs.size+1)::(us++ds)) _ _ E (hr.make C us [])
  (I2.Qn5.make C us []) (hb _ (Value.ref (s.heap.objs.size+1)::us) I2.kIn hl) r2 hq) λr s' hq'=>?_))
 cases r with
 | error e=>exact hx pins σ _ _ e s' I2 hq'
 | ok fl=>
  cases fl with
  | ret u=>
   obtain⟨v,H',I3,rv,ev,q3⟩:=I2.after hq'
   subst ev
   exact⟨rv,⟨V.ref (s.heap.objs.size+1),H',I3,rfl,q3⟩⟩
  | next=>exact False.elim hq'
  | brk=>exact False.elim hq'
  | cont=>exact False.elim hq'
theorem QtW(M:Mk X.K C f)(F:Q4 X.prog X.w X.K X.mg X.base CX k f fd ps sp)(hr:QU (k+1) X.A)(hg:Gl X x)(hm:X.mg x=some (.ref C))(hb:Binds X.K fd ps ds)(hd:Qq dvs ds)(hx:QeB CX X E)
  (ha:PA X (e::es) t) (hdb:(x == ("__debug__" :Str))=false:=by decide) (he:starEach (e::es) X.env=(false,eval e X.env)::starEach es X.env:=by rfl) (hpl:(backTo pos (starEach es X.env)).any (·.1)=false:=by rfl):
  PE X (.Call (.Name x p) (e::es) [] pos) (QxM C sp dvs E t):=by
 intro pins s σ H Q I h
 refine wpAny_Call_Name_kw (QcY I hg hm ?_ hdb)
 refine ZaD (h₀:=X.base) I.ok.mod.kin M.kp (thn (ha pos pins s σ H _ I h) λus s1 ⟨vs,H1,I1,r,q⟩=>⟨I1.kIn,?_⟩) he hpl
 exact QqN M F hr hb hd hx I1 r q
end
section
variable {X:Cx}{CX:CXT}{k:Nat}{f C:Addr}{fd:FuncData}{ps ks:List Str}{sp:Sp}{E:XK}{x m:Str}{p pos apos kpos:Pos}{e o:Expr}{es:List Expr}{kws:List Keyword}{te ta:TE}{t tk:TA}{nm:Option Str}
structure Qzd (K:PySem.W.Frag) (fd:FuncData) (ps ks:List Str) (g:List Value->List Value->List Value) (gV:List V->List V->List V):Prop where
 to:∀(s:Shared) (us ws:List Value),K.In s.heap->(g us ws).length=ps.length->BindsTo s fd ⟨us,ks.zip ws⟩ (ps.zip (g us ws))
 rel:∀{vs:List V}{us:List Value}{zs:List V}{ws:List Value},Qq vs us->Qq zs ws->Qq (gV vs zs) (g us ws)
variable {g:List Value->List Value->List Value}{gV:List V->List V->List V}
end
structure Qar (N P:List Str) (sc:Scope):Prop where
 kind:sc.kind= .function
 co:sc.isCoroutine=false
 gen:sc.isGenerator=false
 nd:N.Nodup
 pre:N.take P.length=P
 par:∀x∈P,sc.names.lookup x=some .local ∨sc.names.lookup x=some .cell
 nofree:∀y∈sc.names,y.2≠ .free
theorem Qkn{kindOf:Str->Option NameKind}{x:Str}:∀{binds:List (Str×Value)}{m:Str->Option Value},(∀v,(x,v)∉binds)->bindL kindOf binds m x=m x
 | [],_,_=>rfl
 | (n,v)::r,m,h=>by
  unfold bindL
  rw[Qkn λw hw=>h w (Zb _ hw)]
  split
  ·have:x≠n:=by rintro rfl;exact h v Zj
   simp[this]
  ·rfl
theorem QkF{kindOf:Str->Option NameKind}{x:Str}:∀{binds:List (Str×Value)}{m:Str->Option Value},(∀v,(x,v)∉binds)->bindC kindOf binds m x=m x
 | [],_,_=>rfl
 | (n,v)::r,m,h=>by
  unfold bindC
  rw[QkF λw hw=>h w (Zb _ hw)]
  split
  ·rfl
  ·have:x≠n:=by rintro rfl;exact h v Zj
   simp[this]
theorem Qka{kindOf:Str->Option NameKind}{x:Str}{v:Value}:∀{P:List Str}{vs:List Value}{i:Nat}{m:Str->Option Value},P.Nodup->P[i]? =some x->vs[i]? =some v->kindOf x=some .local →
  bindL kindOf (P.zip vs) m x=some v
 | [],_,_,_,_,h,_,_=>by simp at h
 | _::_,[],_,_,_,_,h,_=>by simp at h
 | p::P,w::vs,0,m,nd,h1,h2,hk=>by
  simp at h1 h2;subst h1;subst h2
  show bindL kindOf ((p,w)::P.zip vs) m p=_
  unfold bindL
  rw[Qkn λv hv=>(ZJ.mp nd).1 (ZbB hv).1,if_pos hk]
  simp
 | p::P,w::vs,i+1,m,nd,h1,h2,hk=>by
  show bindL kindOf ((p,w)::P.zip vs) m x=_
  unfold bindL
  exact Qka (i:=i) (ZJ.mp nd).2 (by simpa using h1) (by simpa using h2) hk
theorem QkB{kindOf:Str->Option NameKind}{x:Str}{v:Value}:∀{P:List Str}{vs:List Value}{i:Nat}{m:Str->Option Value},P.Nodup->P[i]? =some x->vs[i]? =some v->kindOf x≠some .local →
  bindC kindOf (P.zip vs) m x=some v
 | [],_,_,_,_,h,_,_=>by simp at h
 | _::_,[],_,_,_,_,h,_=>by simp at h
 | p::P,w::vs,0,m,nd,h1,h2,hk=>by
  simp at h1 h2;subst h1;subst h2
  show bindC kindOf ((p,w)::P.zip vs) m p=_
  unfold bindC
  rw[QkF λv hv=>(ZJ.mp nd).1 (ZbB hv).1,if_neg hk]
  simp
 | p::P,w::vs,i+1,m,nd,h1,h2,hk=>by
  show bindC kindOf ((p,w)::P.zip vs) m x=_
  unfold bindC
  exact QkB (i:=i) (ZJ.mp nd).2 (by simpa using h1) (by simpa using h2) hk
noncomputable def start(N:List Str)(vs:List V):St:=vs.map some++List.replicate (N.length-vs.length) none
noncomputable def Qcl(CX:CXT)(P:Program)(w:World)(K:PySem.W.Frag)(mg:Str->Option Value)(base:Heap)(N:List Str)(qual:Str)(scope:Scope)(f:Addr)(cd:Value)(A:Around)(outer:List Env)(s:Shared)(H:Hp)(E:XK):Cx where
 prog:=P
 w:=w
 K:=K
 mg:=mg
 base:=base
 A:=A.deeper (envOfC qual scope s.heap.objs.size f cd)
 N:=N
 s₀:=s
 H₀:=H
 env:=envOfC qual scope s.heap.objs.size f cd
 outer:=outer
 stack:=envOfC qual scope s.heap.objs.size f cd::outer
 ex:=[]
 calm:=decide (A.handled=none)
 fn:=λ_=>true
 pn:=[]
 xe:=λe s'=>wpAny (model P w) (A.deeper (envOfC qual scope s.heap.objs.size f cd)) (leaving (envOfC qual scope s.heap.objs.size f cd) e) (λ_ s''=>CX outer H s E e s'') (λe' s''=>CX outer H s E e' s'') s'
theorem QlG{sc:Scope}{n:Nat}{x:Str}(h:sc.names.lookup x=some .cell):∃c,(cellsFrom n sc.names []).lookup x=some c:=by
 have q:=Zbw sc.names n [] (.inl h)
 exact Option.isSome_iff_exists.mp q
theorem Qp2{CX:CXT}{P:Program}{w:World}{K:PySem.W.Frag}{mg:Str->Option Value}{base:Heap}{N ps:List Str}{qual:Str}{scope:Scope}{f:Addr}{cd:Value}{A:Around}{outer:List Env}{s s1:Shared}{H:Hp}{E:XK}{us:List Value}{vs:List V}
  (S:Qar N ps scope) (e0:Qfg P w K mg base A outer s H) (hl:vs.length=ps.length) (r:Qq vs us)
  (x:InCallC s s.heap.objs.size (bindL (envOfC qual scope s.heap.objs.size f cd).kindOf (ps.zip us) λ_=>none) (cellsFrom (s.heap.objs.size+1) scope.names []) (bindC (envOfC qual scope s.heap.objs.size f cd).kindOf (ps.zip us) λ_=>none) s1):
  Inv (Qcl CX P w K mg base N qual scope f cd A outer s H E) [] (start N vs) H s1:=by
 have hpl:ps.length<=N.length:=by have:=congrArg List.length S.pre;rw[ZaK]at this;omega
 obtain⟨h1,tk,rfl,hk⟩:=x.done
 have noA:∀b:Addr,b∉(Qcl CX P w K mg base N qual scope f cd A outer s H E).ex:=λb z=>absurd (show b∈([]:List Addr)from z) (by simp)
 refine⟨⟨e0.mod,S.kind,rfl,rfl,Zq _,λy z c h1 h2=>?_,λy hy=>?_,λy c _ h=>?_,λh=>of_decide_eq_true h,Around.frames_deeper e0.frames,.inr ⟨rfl,rfl⟩,λb z=>absurd z (noA b),e0.bs,e0.bsz,λb _ _=>noA b,λb z=>absurd z (noA b),e0.QcA,e0.frf⟩,
  rfl,e0.bare,Un.kept hk,⟨_,x.toInCall.ns,λi y v h1 h2 h3=>?_⟩,λy c h=>⟨_,x.cell y c h⟩,e0.hok.fresh (Zq _),λy c h=>?_,λp hp=>absurd (show p∈([]:List (Addr×Obj))from hp) (by simp),e0.hok.kept hk,?_⟩
 ·exact name_of_addr x.apart (Zad h1) (Zad h2)
 ·have hy:scope.names.lookup y=some .cell∨scope.names.lookup y=some .free:=hy
  rcases hy with hy | hy
  ·exact QlG hy
  ·exact absurd rfl (S.nofree _ (Zad hy))
 ·exact Zbv (x.above y c (Zad h))
 ·have hi:i<vs.length:=by
   unfold start at h2
   by_cases hi:i<vs.length
   ·exact hi
   ·rw[ZaH (by simpa using hi)]at h2
    rw[Zbo]at h2
    split at h2<;>cases h2
  have ha:vs[i]? =some v:=by
   unfold start at h2
   rw[ZW (by simpa using hi),ZA]at h2
   cases e:vs[i]? with
   | none=>rw[e]at h2;cases h2
   | some a=>rw[e]at h2;cases h2;rfl
  obtain⟨u,hu,rv⟩:=r.get ha
  have hp:ps[i]? =some y:=by
   rw[← S.pre,List.getElem?_take_of_lt (by omega)];exact h1
  have ndP:ps.Nodup:=by rw[← S.pre];exact S.nd.sublist (List.take_sublist _ _)
  refine⟨u,rv,?_⟩
  rcases S.par y (Zag hp)with k | k
  ·exact .inl ⟨k,Qka ndP hp hu k⟩
  ·obtain⟨c,e⟩:=QlG (n:=s.heap.objs.size+1) k
   refine .inr ⟨.inl k,c,e,?_⟩
   have q:=x.cell y c e
   rw[QkB ndP hp hu (by show scope.names.lookup y≠_;rw[k];decide)]at q
   exact q
 ·exact e0.hok.fresh (Zbv (x.above y c (Zad h)))
 ·unfold start
  show _=N.length
  rw[Zk,Zp,List.length_replicate]
  omega
theorem Qor{CX:CXT}{P:Program}{w:World}{K:PySem.W.Frag}{mg:Str->Option Value}{base:Heap}{k:Nat}{f:Addr}{name qual:Str}{params:Arguments}{body:List Stmt}{scope:Scope}{dV kV doc pm cdv ct oc:Value}{an od:Option Addr}
  {osl:Array (Option Value)}{N ps:List Str}{sp:Sp}(lk:K.lookup f=some ⟨oc,od,.func (PySem.W.fnOf name qual params body scope dV kV doc pm an cdv ct),osl⟩) (hcd:PySem.W.codeIn K cdv qual=true) (S:Qar N ps scope)
  (len:∀vs H Q E,sp vs H Q E->vs.length=ps.length)
  (hbody:∀(A:Around) (outer:List Env) (s:Shared) (H:Hp) (vs:List V) (Q:VK) (E:XK),QU k (A.deeper (envOfC qual scope s.heap.objs.size f cdv))->sp vs H Q E→
   ∃t,PSs (Qcl CX P w K mg base N qual scope f cdv A outer s H E) body t/\t {nx:=λ_ H'=>Q .non H',rt:=Q} (start N vs) H):
  Q4 P w K mg base CX (k+1) f (PySem.W.fnOf name qual params body scope dV kV doc pm an cdv ct) ps sp:=by
 refine⟨len,λA outer s H args us vs Q E hr e0 hb r hsp=>?_⟩
 have hl:=len _ _ _ _ hsp
 have KX:K.In s.heap:=e0.mod.kin.keeps λb o e=>(e0.bs b o e).1
 have lim:s.heap.NoLimit:=e0.mod.nolimit.keeps λb o e=>(e0.bs b o e).1
 have hkind:∀y∈ps.zip us,scope.names.lookup y.1=some .local ∨(scope.names.lookup y.1=some .cell/\((cellsFrom (s.heap.objs.size+1) scope.names []).lookup y.1).isSome=true):=λhpt hy=>by
  obtain⟨n,v⟩:=hpt
  rcases S.par n (ZbB hy).1 with q | q
  ·exact .inl q
  ·exact .inr ⟨q,Zbw _ _ _ (.inl q)⟩
 refine codeAny_call_function hr.depth (KX _ _ lk) rfl S.co S.gen rfl (PySem.W.codeRec_of KX hcd) (hb _ _ _ _ ?_)
 refine wpAny_newFunctionEnv_cells S.kind hkind λenv he s1 x=>?_
 subst he
 refine⟨lim.keeps x.toInCall.keep,codeAny_func ?_⟩
 obtain⟨t,ht,hq⟩:=hbody A outer s H vs Q E (hr.deeper _) hsp
 have I:Inv (Qcl CX P w K mg base N qual scope f cdv A outer s H E) [] (start N vs) H s1:=Qp2 S e0 hl r x
 refine wpAny_mono (ht [] s1 (start N vs) H _ I hq) (λfl s' hs=>?_) λe s' hs=>hs
 have fin:∀{σ':St}{H':Hp}{v:V}{u:Value},Inv (Qcl CX P w K mg base N qual scope f cdv A outer s H E) [] σ' H' s'->RelV v u->Q v H'->CE outer P w H s Q u s':=
  λ{σ' H' v u} J rv q=>⟨v,H',J.os,J.bare,J.base,J.hok,rv,q⟩
 cases fl with
 | ret u=>
  obtain⟨v,σ',H',J,rv,q⟩:=hs
  exact fin J rv q
 | next=>
  obtain⟨σ',H',J,q⟩:=hs
  exact fin (v:=V.non) (u:=Value.none) J rfl q
 | brk=>
  obtain⟨_,_,_,q⟩:=hs
  exact False.elim q
 | cont=>
  obtain⟨_,_,_,q⟩:=hs
  exact False.elim q
end L2
namespace L2
open PySem PySem.Spec PyProof.Rows
section
variable {X:Cx}{x:Str}{p pos:Pos}{e:Expr}{es:List Expr}{t:TA}{id T:String}{r:List V->Hp->VK->Prop}
noncomputable def tCB(r:List V->Hp->VK->Prop)(t:TA):TE:=λσ H Q=>t σ H λvs H1=>r vs H1 Q
theorem QfP(hc:QaY X (.builtin id) r)(hg:Gl X x)(hm:X.mg x=none)(hv:bootBuiltins x=some (.builtin id))(ha:PA X (e::es) t)(hn:x≠ "__name__" :=by decide)(hdb:(x == ("__debug__" :Str))=false:=by decide)
  (he:starEach (e::es) X.env=(false,eval e X.env)::starEach es X.env:=by rfl) (hpl:(backTo pos (starEach es X.env)).any (·.1)=false:=by rfl):PE X (.Call (.Name x p) (e::es) [] pos) (tCB r t):=by
 intro pins s σ H Q I h
 refine wpAny_Call_Name_kw (QeA I hg hm hv ?_ hn hdb)
 exact PyProof.Rows.callWith_builtin1 (thn (ha pos pins s σ H _ I h) λus s1 ⟨vs,H1,I1,r1,q1⟩=>hc pins s1 σ H1 vs us Q I1 r1 q1) he hpl
theorem Qkx(hc:QaY X (.type T) r)(hg:Gl X x)(hm:X.mg x=none)(hv:bootBuiltins x=some (.type T))(ha:PA X (e::es) t)(hn:x≠ "__name__" :=by decide)(hdb:(x == ("__debug__" :Str))=false:=by decide)
  (he:starEach (e::es) X.env=(false,eval e X.env)::starEach es X.env:=by rfl) (hpl:(backTo pos (starEach es X.env)).any (·.1)=false:=by rfl):PE X (.Call (.Name x p) (e::es) [] pos) (tCB r t):=by
 intro pins s σ H Q I h
 refine wpAny_Call_Name_kw (QeA I hg hm hv ?_ hn hdb)
 exact Zas (thn (ha pos pins s σ H _ I h) λus s1 ⟨vs,H1,I1,r1,q1⟩=>hc pins s1 σ H1 vs us Q I1 r1 q1) he hpl
end
end L2
namespace HT
open PySem PyProof.Rows
section
open PySem.SeqAt
open PySem.AutoSeq1 (wpAny_loadPart')
open PySem.MeetsSeq PySem.MeetsSeq2 PySem.MeetsSeq3
end
section
variable {prog:Program}{w:World}{A:Around}{E:Value->Shared->Prop}{s:Shared}
noncomputable def sIx(n d:Nat):Option Int->Nat
 | none=>d
 | some v=>if v<0 then(v+(n:Int)).toNat else min v.toNat n
theorem Qio(n d:Nat):sIx n d none=d:=rfl
theorem QjY(n d k:Nat):sIx n d (some (k:Int))=min k n:=by
 show(if(k:Int)<0 then((k:Int)+(n:Int)).toNat else min (k:Int).toNat n)=min k n
 rw[if_neg (by omega),Zaa]
end
end HT
namespace L2
open PySem PySem.Spec PyProof.Rows
noncomputable abbrev TO:=St->Hp->(Option Int->Hp->Prop)->Prop
def PO(X:Cx)(e:Option Expr)(t:TO):Prop:=
 ∀(pins:List (Addr×Obj)) (s:Shared) (σ:St) (H:Hp) (Q:Option Int->Hp->Prop),Inv X pins σ H s->t σ H Q→
  wpAny (model X.prog X.w) X.A (evalPart e X.env) (λu s'=>∃o H',Inv X pins σ H' s'/\IsPart u o/\Q o H') X.xe s
noncomputable def QtT:TO:=λ_ H Q=>Q none H
noncomputable def Qxk(t:TE):TO:=λσ H Q=>t σ H λx H1=>∃i,x= .int i/\Q (some i) H1
theorem intsAre_of{ns:List Int}:∀{us:List Value},Qq (ns.map V.int) us->IntsAre us ns:=by
 induction ns with
 | nil=>intro us r;rw[List.map_nil]at r;cases r;exact .nil
 | cons n ns ih=>
  intro us r
  rw[Zw]at r
  cases r with
  | cons r1 r2=>
   obtain⟨t,e⟩:=r1
   subst e
   exact .cons n t (ih r2)
section
variable {X:Cx}{e:Expr}{te:TE}{lo hi:Option Expr}{tl th:TO}{pos p2:Pos}
theorem Qun:PO X none QtT:=by
 intro pins s σ H Q I h
 rw[evalPart_none]
 exact wpAny_pure ⟨none,H,I,.none,h⟩
theorem QtE(h:PE X e te):PO X (some e) (Qxk te):=by
 intro pins s σ H Q I hw
 rw[evalPart_some]
 refine thn (h pins s σ H _ I hw) λu s1=>exJ λx H1 I1 r1 q1=>?_
 obtain⟨i,rfl,q⟩:=q1
 obtain⟨t,rfl⟩:=r1
 exact⟨some i,H1,I1,.int i t,q⟩
def SlR(X:Cx)(r:V->Option Int->Option Int->Hp->VK->Prop):Prop:=
 ∀(pins:List (Addr×Obj)) (s:Shared) (σ:St) (H:Hp) (x:V) (v vl vu:Value) (lo hi:Option Int) (sl:Addr) (Q:VK),Inv X pins σ H s->RelV x v->s.heap.IsSliceOf sl vl vu .none->IsPart vl lo->IsPart vu hi->r x lo hi H Q→
  ∃T id,typeLookup (.type T) "__getitem__" =pure (some (.builtin id))/\s.TypeIs v T/\wpAny (model X.prog X.w) X.A (getItem v (.ref sl)) (EP X pins σ Q) X.xe s
theorem SlR.or{r r':V->Option Int->Option Int->Hp->VK->Prop}(h:SlR X r)(h':SlR X r'):SlR X (λx lo hi H Q=>r x lo hi H Q∨r' x lo hi H Q):=by
 intro pins s σ H x v vl vu lo hi sl Q I rx hs pl pu q
 rcases q with q | q
 ·exact h pins s σ H x v vl vu lo hi sl Q I rx hs pl pu q
 ·exact h' pins s σ H x v vl vu lo hi sl Q I rx hs pl pu q
noncomputable def tSl(r:V->Option Int->Option Int->Hp->VK->Prop)(te:TE)(tl th:TO):TE:=λσ H Q=>te σ H λx H1=>tl σ H1 λl H2=>th σ H2 λu H3=>r x l u H3 Q
theorem Qle{r:V->Option Int->Option Int->Hp->VK->Prop}(hr:SlR X r)(he:PE X e te)(hl:PO X lo tl)(hu:PO X hi th):PE X (.Subscript e (.Slice lo hi none p2) pos) (tSl r te tl th):=by
 intro pins s σ H Q I h
 refine Subscript_ (thn (he pins s σ H _ I h) λv s1=>exJ λx H1 I1 r1 q1=>?_)
 refine wpAny_Slice (thn (hl pins s1 σ H1 _ I1 q1) λvl s2 ⟨l,H2,I2,pl,q2⟩=>thn (hu pins s2 σ H2 _ I2 q2) λvu s3=>exJ λu H3 I3 pu q3=>?_)
 rw[evalPart_none]
 refine wpAny_pure ?_
 have I4:Inv X pins σ H3 {s3 with heap:=s3.heap.push {cls:= .type "slice",data:= .fields #[vl,vu,.none]}}:=I3.kept (t':=s3.toks) λb ob q=>Zt _ q
 obtain⟨T,id,hT,ht,hg⟩:=hr pins {s3 with heap:=s3.heap.push {cls:= .type "slice",data:= .fields #[vl,vu,.none]}} σ H3 x v vl vu l u s3.heap.objs.size Q I4 r1 (Heap.IsSliceOf.new ..) pl pu q3
 show wpAny (model X.prog X.w) X.A (subscriptTail e (.Slice lo hi none p2) v (.ref s3.heap.objs.size)) (EP X pins σ Q) X.xe {s3 with heap:=s3.heap.push {cls:= .type "slice",data:= .fields #[vl,vu,.none]}}
 exact tail_any (ops:=[.ref s3.heap.objs.size,v]) ht hT hg (by with_unfolding_all rfl)
noncomputable def Qjy(xs:List V)(lo hi:Option Int):List V:=(xs.drop (HT.sIx xs.length 0 lo)).take (HT.sIx xs.length xs.length hi-HT.sIx xs.length 0 lo)
theorem Qnk(xs:List V)(lo hi:Option Int):(Qjy xs lo hi).length<=xs.length:=by
 unfold Qjy
 rw[ZaK,Zbp]
 omega
end
end L2
namespace L2
open PySem PySem.Spec PyProof.Rows
noncomputable def ixN(n:Nat)(i:Int):Option Nat:=if 0<=i then(if i<n then some i.toNat else none)else if-(n:Int)<=i then some (i+n).toNat else none
noncomputable def atI{α:Type}(xs:List α)(i:Int):Option α:=(ixN xs.length i).bind λj=>xs[j]?
theorem Qem{n:Nat}{i:Int}{j:Nat}(h:ixN n i=some j):seqIndex? i n=some j/\j<n/\ -(n:Int)<=i/\i<n:=by
 unfold ixN at h
 by_cases h0:0<=i
 ·rw[if_pos h0]at h
  by_cases h1:i<n
  ·rw[if_pos h1]at h
   have e:i.toNat=j:=Option.some.inj h
   exact⟨by rw[seqIndex_of h0 h1,e],by omega,by omega,h1⟩
  ·rw[if_neg h1]at h;cases h
 ·rw[if_neg h0]at h
  by_cases h1: -(n:Int)<=i
  ·rw[if_pos h1]at h
   have e:(i+n).toNat=j:=Option.some.inj h
   exact⟨by rw[seqIndex_neg (by omega) h1,e],by omega,h1,by omega⟩
  ·rw[if_neg h1]at h;cases h
theorem Qjq{α:Type}{xs:List α}{i:Int}{v:α}(h:atI xs i=some v):∃j,seqIndex? i xs.length=some j/\xs[j]? =some v/\j<xs.length/\ -(xs.length:Int)<=i/\i<xs.length:=by
 unfold atI at h
 cases e:ixN xs.length i with
 | none=>rw[e]at h;cases h
 | some j=>
  rw[e]at h
  obtain⟨h1,h2,h3,h4⟩:=Qem e
  exact⟨j,h1,h,h2,h3,h4⟩
def Qeh(b:Expr):Prop:=∀o i,subscripted b false o i=operate [o,i] (getItem o i)
def IxR(X:Cx)(r:R2):Prop:=
 ∀(value slice:Expr) (pins:List (Addr×Obj)) (s:Shared) (σ:St) (H:Hp) (x y:V) (v u:Value) (Q:VK),Inv X pins σ H s->RelV x v->RelV y u->r x y H Q→
  subscripted slice false v u=operate [v,u] (getItem v u)->wpAny (model X.prog X.w) X.A (subscriptTail value slice v u) (EP X pins σ Q) X.xe s
def MtR(X:Cx)(id:String)(r:V->List V->Hp->VK->Prop):Prop:=
 ∀(pins:List (Addr×Obj)) (s:Shared) (σ:St) (H:Hp) (x:V) (xs:List V) (v:Value) (us:List Value) (Q:VK),Inv X pins σ H s->RelV x v->Qq xs us->r x xs H Q→
  wpAny (model X.prog X.w) X.A (call (.builtin id) (v::us)) (EP X pins σ Q) X.xe s
section
variable {X:Cx}{a b:Expr}{ta tb:TE}{pos:Pos}
theorem IxR.or{r r':R2}(h:IxR X r)(h':IxR X r'):IxR X (λx y H Q=>r x y H Q∨r' x y H Q):=by
 intro value slice pins s σ H x y v u Q I rx ry q hs
 rcases q with q | q
 ·exact h value slice pins s σ H x y v u Q I rx ry q hs
 ·exact h' value slice pins s σ H x y v u Q I rx ry q hs
theorem MtR.or{id:String}{r r':V->List V->Hp->VK->Prop}(h:MtR X id r)(h':MtR X id r'):MtR X id (λx xs H Q=>r x xs H Q∨r' x xs H Q):=by
 intro pins s σ H x xs v us Q I rx rs q
 rcases q with q | q
 ·exact h pins s σ H x xs v us Q I rx rs q
 ·exact h' pins s σ H x xs v us Q I rx rs q
theorem Qlc{r:R2}(hr:IxR X r)(ha:PE X a ta)(hb:PE X b tb)(hs:Qeh b):PE X (.Subscript a b pos) (tOp r ta tb):=by
 intro pins s σ H Q I h
 exact Subscript_ (Qsw ha hb I h λv u s2 x y H2 I2 rx ry q=>hr a b pins s2 σ H2 x y v u Q I2 rx ry q (hs _ _))
noncomputable def QwX(K:PySem.W.Frag):R2:=λx y H Q=>∃p xs i v,x= .ref p/\y= .int i/\SqL K H p xs/\atI xs i=some v/\Q v H
noncomputable def QyT(K:PySem.W.Frag):R2:=λx y H Q=>∃p xs i v,x= .ref p/\y= .int i/\SqT K H p xs/\atI xs i=some v/\Q v H
theorem Qj7:IxR X (QwX X.K):=by
 intro value slice pins s σ H x y v u Q I rx ry h hs
 obtain⟨p,xs,i,z,rfl,rfl,hq,he,q⟩:=h
 cases rx
 obtain⟨t,rfl⟩:=ry
 obtain⟨its,r,pl,hz⟩:=I.list hq
 obtain⟨j,h1,h2,h3,h4,h5⟩:=Qjq he
 obtain⟨w,ew,rw'⟩:=r.get h2
 have hl:=r.length
 have hn:=QfI
 have fin:EP X pins σ Q w s:=⟨z,H,I,rw',q⟩
 by_cases h0:0<=i
 ·have hj:i.toNat=j:=by
   rw[seqIndex_of h0 h5]at h1
   exact Option.some.inj h1
  exact item_listR pl.isList h0 (by omega) (by rw[hj];simpa using ew) fin hs
 ·have hj:(i+(its.toArray.size:Int)).toNat=j:=by
   rw[seqIndex_neg (by omega) h4]at h1
   rw[Zx,← hl]
   exact Option.some.inj h1
  exact subscriptTail_builtinR (x:=w) pl.isList.typeIs slot_list_getitem.lookup
   (wpAny_getItem_list_neg (Q:=λr s'=>r=w/\EP X pins σ Q r s') pl.isList (by omega) (by rw[Zx]<;>omega) (by omega) (by rw[hj];simpa using ew) ⟨rfl,fin⟩) hs
theorem QpX:IxR X (QyT X.K):=by
 intro value slice pins s σ H x y v u Q I rx ry h hs
 obtain⟨p,xs,i,z,rfl,rfl,hq,he,q⟩:=h
 cases rx
 obtain⟨t,rfl⟩:=ry
 obtain⟨its,r,pl,hz⟩:=I.tuple hq
 obtain⟨j,h1,h2,h3,h4,h5⟩:=Qjq he
 obtain⟨w,ew,rw'⟩:=r.get h2
 have hl:=r.length
 have hn:=QfI
 have fin:EP X pins σ Q w s:=⟨z,H,I,rw',q⟩
 exact subscriptTail_builtinR (x:=w) pl.typeIs slot_tuple_getitem.lookup
  (getItem_tuple (j:=j) (Q:=λr s'=>r=w/\EP X pins σ Q r s') pl (by omega) (by omega) (by rw[Zx,← hl];exact h1) (by simpa using ew) ⟨rfl,fin⟩) hs
theorem QoC(its:List Value)(n j:Nat)(u:Value):Obj.mapSeq (·.setIfInBounds j u) {cls:= .type "list",data:= .seq its.toArray n}={cls:= .type "list",data:= .seq (its.set j u).toArray n}:=by
 simp[Obj.mapSeq]
theorem Inv.lst{pins:List (Addr×Obj)}{σ:St}{H:Hp}{s:Shared}{p:Addr}{xs:List V}(I:Inv X pins σ H s)(h:H p=some (.lst xs)):
  ∃(its:List Value) (n:Nat),Qq xs its/\s.heap.get? p=some {cls:= .type "list",data:= .seq its.toArray n}/\xs.length<=sizeLine:=by
 obtain⟨z,its,n,r,e⟩:=I.hok p _ h
 exact⟨its,n,r,e,z⟩
theorem Inv.Qwq{pins:List (Addr×Obj)}{σ:St}{H:Hp}{s:Shared}{p:Addr}{xs ys:List V}{its its':List Value}{n n':Nat}{f:Obj->Obj}(I:Inv X pins σ H s)(h:H p=some (.lst xs))
  (ho:s.heap.get? p=some {cls:= .type "list",data:= .seq its.toArray n}) (hf:f {cls:= .type "list",data:= .seq its.toArray n}={cls:= .type "list",data:= .seq its'.toArray n'}) (r:Qq ys its') (hz:ys.length<=sizeLine) (t:Nat):
  Inv X pins σ (upd H p (.lst ys)) {s with heap:=s.heap.update p f,toks:=t}:=by
 have e:(s.heap.update p f).get? p=some {cls:= .type "list",data:= .seq its'.toArray n'}:=by
  rw[Heap.get?_update_self f ho (by rw[hf]<;>rfl),hf]
 refine I.write (x:=p) (e:=p) (by rw[h];trivial) (.inl rfl) (λb u hb q=>(ZaQ _ _ (Ne.symm hb)).trans q) ⟨_,e⟩ ?_
 exact⟨hz,its',n',r,e⟩
noncomputable def Qov:V->V->V->Hp->(Hp->Prop)->Prop:=λo i v H Q=>∃p xs k j,o= .ref p/\i= .int k/\H p=some (.lst xs)/\ixN xs.length k=some j/\Q (upd H p (.lst (xs.set j v)))
theorem set_list:QrU X Qov:=by
 intro pins s σ H o i v ov iv u Q I ro ri rv h
 obtain⟨p,xs,k,j,rfl,rfl,hp,hj,q⟩:=h
 cases ro
 obtain⟨t,rfl⟩:=ri
 obtain⟨its,n,r,ho,hz⟩:=I.lst hp
 obtain⟨h1,h2,h3,h4⟩:=Qem hj
 have hl:=r.length
 have hn:=QfI
 have I':Inv X pins σ (upd H p (.lst (xs.set j v))) {s with heap:=s.heap.update p (Obj.mapSeq (·.setIfInBounds j u))}:=
  I.Qwq hp ho (QoC its n j u) (r.set rv j) (by rw[Zar];exact hz) s.toks
 by_cases h0:0<=k
 ·have hk:k.toNat=j:=by
   rw[seqIndex_of h0 h4]at h1
   exact Option.some.inj h1
  exact PySem.W.ki_setAt ho h0 (by omega) (by rw[Zx,← hl];exact h4) (by rw[hk];exact⟨_,I',q⟩)
 ·have hk:(k+(its.toArray.size:Int)).toNat=j:=by
   rw[seqIndex_neg (by omega) h3]at h1
   rw[Zx,← hl]
   exact Option.some.inj h1
  exact PySem.W.ki_setBack ho (by omega) (by rw[Zx,← hl];exact h3) (by omega) (by rw[hk];exact⟨_,I',q⟩)
theorem QlC(lo hi:Option Int)(n:Nat):(sliceBounds lo hi none n).1=((HT.sIx n 0 lo:Nat):Int)/\(sliceBounds lo hi none n).2.1=((HT.sIx n n hi:Nat):Int)/\(sliceBounds lo hi none n).2.2=1:=by
 refine⟨?_,?_,rfl⟩
 ·cases lo with
  | none=>simp[sliceBounds,HT.sIx]
  | some i=>
   simp only[sliceBounds,HT.sIx,Option.getD_none,show(1:Int)>0 by decide,if_true]
   by_cases h:i<0
   ·simp only[h,if_true]<;>omega
   ·simp only[h,if_false]<;>omega
 ·cases hi with
  | none=>simp[sliceBounds,HT.sIx]
  | some i=>
   simp only[sliceBounds,HT.sIx,Option.getD_none,show(1:Int)>0 by decide,if_true]
   by_cases h:i<0
   ·simp only[h,if_true]<;>omega
   ·simp only[h,if_false]<;>omega
theorem QkP(its:List Value)(lo hi:Option Int):slicePick its.toArray lo hi none=((its.drop (HT.sIx its.length 0 lo)).take (HT.sIx its.length its.length hi-HT.sIx its.length 0 lo)).toArray:=by
 obtain⟨h1,h2,h3⟩:=QlC lo hi its.toArray.size
 unfold slicePick
 rw[h1,h2,h3]
 simp only[sliceRange_one,pick_run,Zx]<;>rfl
noncomputable def QyE(K:PySem.W.Frag):V->Option Int->Option Int->Hp->VK->Prop:=λx lo hi H Q=>∃a xs,x= .ref a/\SqL K H a xs/\∀p,H p=none->Q (.ref p) (upd H p (.lst (Qjy xs lo hi)))
theorem Qtq:SlR X (QyE X.K):=by
 intro pins s σ H x v vl vu lo hi sl Q I rx hs pl pu h
 obtain⟨a,xs,rfl,hx,q⟩:=h
 cases rx
 obtain⟨its,r,ht,hz⟩:=I.list hx
 have hlen:=r.length
 refine⟨"list",_,slot_list_getitem.lookup,ht.isList.typeIs,?_⟩
 refine wpAny_getItem_list_slice ht.isList hs pl pu .none (by simp) ?_ (by rw[Zx]<;>omega)
 rw[QkP,← hlen]
 refine⟨.ref s.heap.objs.size,_,I.laid (t':=s.toks) (o:= .lst (Qjy xs lo hi)) (λb ob q=>Zt _ q) (Zq _) ?_,rfl,q _ (I.hok.fresh (Zq _))⟩
 exact⟨ZF (Qnk xs lo hi) hz,_,0,(r.drop (HT.sIx xs.length 0 lo)).take (HT.sIx xs.length xs.length hi-HT.sIx xs.length 0 lo),ZM _ rfl⟩
theorem QmP:QaY X (.builtin "len") (λxs H Q=>∃p ys,xs=[.ref p]/\(SqL X.K H p ys∨SqT X.K H p ys)/\Q (.int ys.length) H):=by
 intro pins s σ H xs us Q I r h
 obtain⟨p,ys,rfl,hq,q⟩:=h
 obtain⟨u,rfl,rx⟩:=vals1 r
 cases rx
 have hn:=QfI
 rcases hq with hq | hq
 ·obtain⟨its,r',pl,hz⟩:=I.list hq
  have hlen:=r'.length
  exact Calls.call_len_list pl.isList (by simp only[Zx]<;>omega) ⟨.int ys.length,H,I.tok _,⟨s.toks+1,by rw[Zx,hlen]⟩,q⟩
 ·obtain⟨its,r',pl,hz⟩:=I.tuple hq
  have hlen:=r'.length
  exact len_tuple pl (by simp only[Zx]<;>omega) ⟨.int ys.length,H,I.tok _,⟨s.toks+1,by rw[Zx,hlen]⟩,q⟩
theorem QaY.or{f:Value}{r r':List V->Hp->VK->Prop}(h:QaY X f r)(h':QaY X f r'):QaY X f (λxs H Q=>r xs H Q∨r' xs H Q):=by
 intro pins s σ H xs us Q I rs q
 rcases q with q | q
 ·exact h pins s σ H xs us Q I rs q
 ·exact h' pins s σ H xs us Q I rs q
theorem Qmd:QaY X (.type "list") (λxs H Q=>∃p ys,xs=[.ref p]/\(SqL X.K H p ys∨SqT X.K H p ys)/\∀l,H l=none->Q (.ref l) (upd H l (.lst ys))):=by
 intro pins s σ H xs us Q I r h
 obtain⟨p,ys,rfl,hq,q⟩:=h
 obtain⟨u,rfl,rx⟩:=vals1 r
 cases rx
 have fin:∀(its:List Value),Qq ys its->ys.length<=sizeLine->∀(h':Heap) (c':Nat),(∀b o',s.heap.get? b=some o'->h'.get? b=some o')→
   h'.get? s.heap.objs.size=some {cls:= .type "list",dict:=none,data:= .seq its.toArray c',slots:= #[]}->EP X pins σ Q (.ref s.heap.objs.size) {s with heap:=h'}:=λits r' hz h' c' kp e=>
  ⟨.ref s.heap.objs.size,_,I.laid (t':=s.toks) kp (Zq _) (show QaB X.prog X.w _ h' _ (.lst ys)from⟨hz,its,c',r',e⟩),rfl,q _ (I.hok.fresh (Zq _))⟩
 rcases hq with hq | hq
 ·obtain⟨its,r',pl,hz⟩:=I.list hq
  have hlen:=r'.length
  obtain⟨o,ho,hc,n,hd⟩:=pl.isList
  exact call_list_seq p (.inl rfl) ho hc hd (λh' c' kp e=>fin its r' hz h' c' kp e) (by simp only[Zx]<;>omega)
 ·obtain⟨its,r',pl,hz⟩:=I.tuple hq
  have hlen:=r'.length
  obtain⟨o,ho,hc,n,hd⟩:=pl
  exact call_list_seq p (.inr rfl) ho hc hd (λh' c' kp e=>fin its r' hz h' c' kp e) (by simp only[Zx]<;>omega)
def tyV(K:PySem.W.Frag)(T:String)(x:V)(H:Hp):Prop:=match x with
 | .str _=>T= "str"
 | .int _=>T= "int"
 | .ref p=>(T= "list" /\∃xs,SqL K H p xs)∨(T= "tuple" /\∃o,K.lookup p=some o/\o.cls= .type "tuple" /\o.dict=none)∨
   (T= "dict" /\((∃kvs,H p=some (.dK kvs))∨∃kvs,H p=some (.dT kvs)))∨(T= "set" /\∃S n,H p=some (.set S n))
 | _=>False
theorem QpO{pins:List (Addr×Obj)}{σ:St}{H:Hp}{s:Shared}{T:String}{x:V}{v:Value}(I:Inv X pins σ H s)(r:RelV x v)(ty:tyV X.K T x H):
  s.TypeIs v T/\∀a,v= .ref a->∃ob,s.heap.get? a=some ob/\ob.dict=none:=by
 cases x with
 | str z=>
  obtain⟨t,rfl⟩:=r
  cases(show T= "str" from ty)
  exact⟨typeIs_str s z t,λ_ e=>nomatch e⟩
 | int i=>
  obtain⟨t,rfl⟩:=r
  cases(show T= "int" from ty)
  exact⟨typeIs_int s i t,λ_ e=>nomatch e⟩
 | ref p=>
  cases r
  rcases ty with⟨rfl,xs,hq⟩ | ⟨rfl,o,hk,hc,hd⟩ | ⟨rfl,hk⟩ | ⟨rfl,S,n,hk⟩
  ·obtain⟨its,_,pl,_⟩:=I.list hq
   refine⟨pl.isList.typeIs,λa e=>?_⟩
   cases e
   obtain⟨o,n,e,c,hd,_⟩:=pl
   exact⟨o,e,hd⟩
  ·refine⟨⟨o,I.kIn p o hk,hc⟩,λa e=>?_⟩
   cases e
   exact⟨o,I.kIn _ o hk,hd⟩
  ·have z:∃o,s.heap.get? p=some o/\o.ExactDict:=by
    rcases hk with⟨kvs,hk⟩ | ⟨kvs,hk⟩
    ·obtain⟨_,_,_,_,o,_,_,e,ex,_⟩:=I.hok p _ hk
     exact⟨o,e,ex⟩
    ·obtain⟨_,_,_,_,o,_,_,e,ex,_⟩:=I.hok p _ hk
     exact⟨o,e,ex⟩
   obtain⟨o,e,ex⟩:=z
   refine⟨⟨o,e,ex.1⟩,λa e2=>?_⟩
   cases e2
   exact⟨o,e,ex.2.1⟩
  ·obtain⟨o,_,_,_,e,ex,_⟩:=I.hok p _ hk
   refine⟨⟨o,e,ex.1⟩,λa e2=>?_⟩
   cases e2
   exact⟨o,e,ex.2.1⟩
 | _=>exact False.elim ty
noncomputable def Qwh(K:PySem.W.Frag)(T:String)(r:V->List V->Hp->VK->Prop)(to:TE):TE:=λσ H Q=>to σ H λx H1=>tyV K T x H1/\r x [] H1 Q
noncomputable def tBM(K:PySem.W.Frag)(T:String)(r:V->List V->Hp->VK->Prop)(to:TE)(t:TA):TE:=λσ H Q=>to σ H λx H1=>tyV K T x H1/\t σ H1 λxs H2=>r x xs H2 Q
variable {o e:Expr}{es:List Expr}{to:TE}{t:TA}{name:Str}{apos cpos:Pos}{T id:String}{r:V->List V->Hp->VK->Prop}
theorem Qwk(pa:PlainAttrs T)(slot:Slot T name id)(hty:typeOf (.builtin id)=pure (.type "method_descriptor"))(hm:MtR X id r)(ho:PE X o to)
  (hbase:attributeBase o name X.env (eval o X.env)=eval o X.env:=by rfl) (hline:(apos.endLine == cpos.line)=true:=by rfl):PE X (.Call (.Attribute o name apos) [] [] cpos) (Qwh X.K T r to):=by
 intro pins s σ H Q I h
 refine wpAny_Call_method0_late hbase hline (thn (ho pins s σ H _ I h) λv s1 hpt=>?_)
 obtain⟨x,H1,I1,r1,ty,q1⟩:=hpt
 obtain⟨h1,h2⟩:=QpO I1 r1 ty
 exact⟨T,id,pa,slot,hty,h1,h2,Calls.callWith_builtin rfl (PySem.evalArgs_none (hm pins s1 σ H1 x [] v [] Q I1 r1 .nil q1))⟩
theorem QsU(pa:PlainAttrs T)(slot:Slot T name id)(hty:typeOf (.builtin id)=pure (.type "method_descriptor"))(hm:MtR X id r)(ho:PE X o to)(ha:PA X (e::es) t)
  (hbase:attributeBase o name X.env (eval o X.env)=eval o X.env:=by rfl)
  (hfew:((backTo cpos (starEach (e::es) X.env)).all (λx=> !x.1) && (backToKw cpos (keywordEach [] X.env)).all (λx=>x.1.isSome)
   && decide ((e::es).length+([]:List Keyword).length+(if([]:List Keyword).isEmpty then 0 else 1)<30))=true:=by rfl)
  (hline:(apos.endLine == cpos.line)=true:=by rfl) (hs:starEach (e::es) X.env=(false,eval e X.env)::starEach es X.env:=by rfl) (hplain:(backTo cpos (starEach es X.env)).any (·.1)=false:=by rfl):
  PE X (.Call (.Attribute o name apos) (e::es) [] cpos) (tBM X.K T r to t):=by
 intro pins s σ H Q I h
 refine wpAny_Call_method_late hbase hfew hline rfl (thn (ho pins s σ H _ I h) λv s1 hpt=>?_)
 obtain⟨x,H1,I1,r1,ty,q1⟩:=hpt
 obtain⟨h1,h2⟩:=QpO I1 r1 ty
 refine⟨T,id,pa,slot,hty,h1,h2,?_⟩
 have hA:=ha cpos pins s1 σ H1 _ I1 q1
 rw[hs]at hA ⊢
 refine Calls.callWith_builtin (by show(false || (backTo cpos (starEach es X.env)).any (·.1))=false;rw[hplain]<;>rfl) (Calls.evalArgs_plain ?_)
 exact thn hA λus s2 ⟨vs,H2,I2,r2,q2⟩=>hm pins s2 σ H2 x vs v us Q I2 r1 r2 q2
end
end L2
namespace L2
open PySem PySem.Spec PyProof.Rows
def MtM(X:Cx)(id:String)(r:V->List V->Hp->VK->Prop):Prop:=
 ∀(pins:List (Addr×Obj)) (s:Shared) (σ:St) (H:Hp) (x:V) (xs:List V) (v:Value) (us:List Value) (Q:VK),Inv X pins σ H s->RelV x v->Qq xs us->r x xs H Q→
  wpAny (model X.prog X.w) X.A (call (.builtin id) (v::us)) (EP X pins σ Q) X.xe s
theorem Qq.one{x:V}{us:List Value}(r:Qq [x] us):∃u,us=[u]/\RelV x u:=vals1 r
theorem Qq.two{x y:V}{us:List Value}(r:Qq [x,y] us):∃u v,us=[u,v]/\RelV x u/\RelV y v:=vals2 r
theorem Qq.zero:∀{us:List Value},Qq [] us->us=[]
 | _,.nil=>rfl
theorem Qq.eraseIdx:∀{xs:List V}{us:List Value}(i:Nat),Qq xs us->Qq (xs.eraseIdx i) (us.eraseIdx i)
 | _,_,_,.nil=> .nil
 | _,_,0,.cons _ t=>t
 | _,_,i+1,.cons r t=> .cons r (Qq.eraseIdx i t)
theorem Qq.reverse{xs:List V}{us:List Value}(h:Qq xs us):Qq xs.reverse us.reverse:=by
 induction h with
 | nil=>exact .nil
 | cons r t ih=>rw[ZaG,ZaG];exact Qq.append ih (.cons r .nil)
theorem Qq.rep{xs:List V}{us:List Value}(h:Qq xs us):∀k:Nat,Qq (List.replicate k xs).flatten (List.replicate k us).flatten
 | 0=> .nil
 | k+1=>by
  rw[Zae,Zae,Zai,Zai]
  exact Qq.append h (Qq.rep h k)
theorem foldl_rep(its:List Value):∀(k:Nat) (acc:List Value),
  List.foldl (λx1 x2=>x1++x2) acc.toArray (List.replicate k its.toArray)=(acc++(List.replicate k its).flatten).toArray
 | 0,acc=>by simp
 | k+1,acc=>by
  have e:acc.toArray++its.toArray=(acc++its).toArray:=by simp
  have e2:(acc++its)++(List.replicate k its).flatten=acc++(List.replicate (k+1) its).flatten:=by
   rw[Zae,Zai,Zaj]
  rw[← e2,← foldl_rep its k (acc++its),← e,Zae,ZbC]
section
variable {X:Cx}{pins:List (Addr×Obj)}{σ:St}{H:Hp}{s:Shared}{l b:Addr}{xs ys zs:List V}
theorem Inv.QwR{its its':List Value}{n:Nat}{f:Array Value->Array Value}{t':Nat}(I:Inv X pins σ H s)(hH:H l=some (.lst xs))
  (e:s.heap.get? l=some {cls:= .type "list",data:= .seq its.toArray n}) (hf:f its.toArray=its'.toArray) (hv:Qq ys its') (hz:ys.length<=sizeLine):
  Inv X pins σ (upd H l (.lst ys)) {s with heap:=s.heap.update l (Obj.mapSeq f),toks:=t'}:=by
 have q:=PySem.IsL.update e f
 rw[hf]at q
 refine I.write (x:=l) (e:=l) (by rw[hH];exact trivial) (.inl rfl) (λb' u hb hu=>(ZaQ s.heap (Obj.mapSeq f) (Ne.symm hb)).trans hu) ⟨_,q⟩ ?_
 exact⟨hz,its',_,hv,q⟩
theorem Inv.Qv4{its:List Value}{t':Nat}(I:Inv X pins σ H s)(hv:Qq ys its)(hz:ys.length<=sizeLine):
  Inv X pins σ (upd H s.heap.objs.size (.lst ys)) {s with heap:=s.heap.push {cls:= .type "list",data:= .seq its.toArray},toks:=t'}:=
 I.laid (λ_ _ q=>Zt _ q) (Zq _) ⟨hz,its,0,hv,ZM _ rfl⟩
theorem Inv.fresh(I:Inv X pins σ H s):H s.heap.objs.size=none:=I.hok.fresh (Zq _)
theorem Inv.Qsd(I:Inv X pins σ H s)(hH:H l=some (.lst xs)):xs.length<=sizeLine/\∃(its:List Value) (n:Nat),Qq xs its/\xs.length=its.length/\s.heap.get? l=some {cls:= .type "list",data:= .seq its.toArray n}:=by
 obtain⟨z,its,n,r,e⟩:=I.hok l _ hH
 exact⟨z,its,n,r,r.length,e⟩
theorem Qro{n:Nat}(h:n<=sizeLine):Builtin.List.listTooLong n=false:=by
 unfold Builtin.List.listTooLong
 exact decide_eq_false (by omega)
end
section
variable {X:Cx}
noncomputable def QnP:V->List V->Hp->VK->Prop:=λx vs H Q=>∃l xs y,x= .ref l/\vs=[y]/\H l=some (.lst xs)/\xs.length<sizeLine/\Q .non (upd H l (.lst (xs++[y])))
theorem Qgy:MtM X "list.append" QnP:=by
 intro pins s σ H x vs v us Q I rx rv h
 obtain⟨l,xs,y,rfl,rfl,hH,hz,q⟩:=h
 cases rx
 obtain⟨u,rfl,ru⟩:=rv.one
 obtain⟨z,its,n,r,hl,e⟩:=I.Qsd hH
 refine call_meets F.slot_list_append ⟨_,e,rfl⟩ F.entry_list_append (F.args_list_append_2 _ _) (PySem.list_append l its.toArray n u (by rw[Zx];omega)) ⟨e,?_⟩
 refine⟨.non,_,I.QwR (its':=its++[u]) hH e (by simp) (r.append (.cons ru .nil)) ?_,rfl,q⟩
 rw[Zk,ZaS]
 omega
noncomputable def QpA:V->List V->Hp->VK->Prop:=λx vs H Q=>∃l xs,x= .ref l/\vs=[]/\H l=some (.lst xs)/\Q .non (upd H l (.lst []))
theorem Qss:MtM X "list.clear" QpA:=by
 intro pins s σ H x vs v us Q I rx rv h
 obtain⟨l,xs,rfl,rfl,hH,q⟩:=h
 cases rx
 have hus:=rv.zero
 subst hus
 obtain⟨z,its,n,r,hl,e⟩:=I.Qsd hH
 refine call_meets F.slot_list_clear ⟨_,e,rfl⟩ F.entry_list_clear (F.args_list_clear_1 _) (AutoSeq1.list_clear_list_0 l its.toArray n (by rw[Zx];omega)) ⟨e,?_⟩
 exact⟨.non,_,I.QwR (its':=[]) (ys:=[]) hH e rfl .nil (ZT _),rfl,q⟩
theorem len_rep{α:Type}(xs:List α)(k:Nat):(List.replicate k xs).flatten.length=k*xs.length:=by
 induction k with
 | zero=>simp
 | succ k ih=>rw[Zae,Zai,Zk,ih,Nat.succ_mul,Nat.add_comm]
end
section
variable {prog:Program}{w:World}{A:Around}{E:Value->Shared->Prop}{s:Shared}
end
section
variable {X:Cx}
end
end L2
namespace Att
open PySem PySem.W PySem.Calls PyProof.Rows
theorem Qjc{P:Params}{h:Heap}:∀(ns:List Int) (vs:List Value),WellAll P h vs (ns.map WData.int)->IntsAre vs ns:=by
 intro ns
 induction ns with
 | nil=>
  intro vs w
  rw[List.map_nil]at w
  cases w
  exact .nil
 | cons n ns ih=>
  intro vs w
  rw[Zw]at w
  cases w with
  | cons a b=>
   cases a
   exact .cons _ _ (ih _ b)
theorem QqK{l:OpenLaw}{n:Nat}(hn:l.most=some n){P:Params}{h:Heap}{args:List WData}{vals:List Value}
  (hpre:l.row.toRowW.claim.pre args=true) (hwl:WellAll P h vals args):
  ∃a vs ns,vals=[Value.ref a]/\args=[WData.list (ns.map WData.int)]/\h.get? a=some {cls:= .type "list",data:= .seq vs.toArray}/\IntsAre vs ns/\ns.length<=n:=by
 have hsh:WShape.hasAll [] args [.list .int]=true:=(pre_splitW hpre).1
 have hc:l.pre.holds [] {args:=args}=true:=(pre_splitW hpre).2
 obtain⟨d,r,rfl,h1,h2⟩:=hasAllW_cons hsh
 obtain rfl:=hasAllW_nil h2
 obtain⟨xs,rfl,h3⟩:=hasW_list h1
 obtain⟨ns,rfl⟩:=items_int h3
 have hlen:ns.length<=n:=by
  unfold OpenLaw.pre at hc
  have h4:(WTm.not (.lt (.lit (.int (n:Int))) (.len (.arg 0)))).holds [] {args:=[.list (ns.map .int)]}=true:=by
   have h4:=(holds_andW hc).1
   rw[hn]at h4
   exact h4
  have h5:=condW_of h4 (w_not (w_lt w_lit (w_len_list (w_arg rfl))))
  rw[Zp]at h5
  refine Nat.le_of_not_lt λq=>?_
  have q':(n:Int)<((ns.length:Nat):Int):=by omega
  first
   | (rw[decide_eq_true q']at h5;exact absurd h5 (by decide))
   | (simp at h5;omega)
 cases hwl with
 | cons w1 w2=>
  cases w2
  cases w1 with
  | list ho hall=>exact⟨_,_,ns,rfl,rfl,ho,Qjc ns _ hall,hlen⟩
theorem Qqp(l:OpenLaw)(args:List WData):l.row.toRowW.claim.post args (.bool true) args=true:=
 postW_of (r:=l.row.toRowW) (X:=(true == true))
  (show WShape.has [] (.bool true) .bool=true by first | rfl | decide | simp[WShape.has,WShape.arms,WShape.armsAll])
  (show(WTm.eq .res (.lit (.bool true))).value [] {args:=args,res:=some (.bool true),after:=args}=some (.bool (true == true))from w_eq_bool (w_res rfl) w_lit) rfl
theorem QhS{l:OpenLaw}{n:Nat}{q:Program}{loose:List Str}{XP:(Str->Option Value)->Heap->Prop}{YP:World->Heap->Prop}{d:DefRec}
  (hn:l.most=some n) (hdf:d.params.defaults=[])
  (call:∀(w:World) (s₀ s₁:Shared) (mg mb:Str->Option Value) (fa:Addr) (o:Obj) (pm cd doc:Value) (a:Addr) (vs:List Value) (ns:List Int),
   Ground q loose [] XP w s₀ mg mb s₁.heap->YP w s₁.heap→
   s₁.heap.get? fa=some o->o.data= .func (docDef d.name d.params d.body d.scope pm cd doc)->s₁.heap.CodeRec cd d.name->mg d.name=some (.ref fa)→
   s₁.heap.get? a=some {cls:= .type "list",data:= .seq vs.toArray}->IntsAre vs ns->ns.length<=n->s₁.gens= #[]→
   codeAny (model l.prog w) callerA (.call (.ref fa) ⟨[.ref a],[]⟩) (λr s'=>r= .ok (.ret (.bool true))/\OldK s₁.heap s'.heap/\s'.os=s₁.os/\AllBare s'.gens) s₁):
  WalkO q loose XP YP l.row.toRowW d [] (λf vs=>PySem.call f vs):=by
 intro w s₀ s₁ mg mb G Y fa o pm cd doc dV kV ho hd hcd hD hmg hg args vals as hpre hlay hrd hwl hlo
 obtain rfl:dV= .none:=Dflts.none hD hdf
 obtain rfl:kV= .none:=Dflts.noKw hD
 obtain⟨a,vs,ns,rfl,rfl,hobj,hints,hlen⟩:=QqK hn hpre hwl
 refine enter_call (codeAny_mono (call w s₀ s₁ mg mb fa o pm cd doc a vs ns G Y ho (fd_plain hd) hcd hmg hobj hints hlen hg) λr s' hq=>?_)
 obtain⟨rfl,h2,h3,h4⟩:=hq
 exact⟨.inl ⟨.bool true,.bool true,[],rfl,λ_=>rfl,.bool true,Qqp l _,λ_=>⟨List.Pairwise.nil,λ_ hm=>(nomatch hm)⟩⟩,h2,h3,h4⟩
section
variable {prog:Program}{w:World}{A:Around}{E:Value->Shared->Prop}{s:Shared}{K:Frag}
noncomputable def ledger(h:Heap)(L d:Addr):List (Addr×Obj):=(List.range h.objs.size).filterMap λa=>if a=L∨a=d then none else(h.get? a).map λo=>(a,o)
end
end Att
namespace L2
open PySem PySem.Spec PyProof.Rows
theorem QdZ:∀{vs:List Value}{ns:List Int},IntsAre vs ns->Qq (ns.map V.int) vs
 | _,_,.nil=> .nil
 | _,_,.cons n t h=> .cons ⟨t,rfl⟩ (QdZ h)
def Qq8(H:Hp):Prop:=∀b,H b=none∨∃o xs,H b=some (.frz o (.lst xs))
theorem QmW{P:Program}{w:World}{K:PySem.W.Frag}{mg mb:Str->Option Value}{CX:CXT}{k:Nat}{fa a:Addr}{fd:FuncData}{x:Str}{sp:Sp}{s₁:Shared}{vs:List Value}{ns:List Int}
  (KX:K.In s₁.heap) (hns:s₁.heap.Ns mainGlobals mg) (hb:s₁.heap.Ns builtinsNs mb) (hbb:∀x:Str,x≠ "__name__" ->mb x=bootBuiltins x) (hlim:s₁.heap.NoLimit) (hg:s₁.gens= #[])
  (ha:s₁.heap.get? a=some {cls:= .type "list",data:= .seq vs.toArray}) (hi:IntsAre vs ns) (hl:ns.length<=sizeLine) (hr:QU k callerA)
  (F:∀base:Heap,K.In base->base.Ns mainGlobals mg->Q4 P w K mg base CX k fa fd [x] sp) (hbind:∀(s:Shared) (u:Value),BindsTo s fd ⟨[u],[]⟩ [(x,u)])
  (hsp:∀H:Hp,Qq8 H->SqL K H a (ns.map V.int)->sp [.ref a] H (λv _=>v= .bl true) λ_ _ _=>False)
  (hCX:∀H e s',CX [] H s₁ (λ_ _ _=>False) e s'->False):
  codeAny (model P w) callerA (.call (.ref fa) ⟨[.ref a],[]⟩) (λr s'=>r= .ok (.ret (.bool true))/\OldK s₁.heap s'.heap/\s'.os=s₁.os/\AllBare s'.gens) s₁:=by
 have rv:=QdZ hi
 have lenV:=hi.length
 have core:∀H:Hp,Qq8 H->SqL K H a (ns.map V.int)->HOk P w H s₁.heap->(∀b,H b≠none->b=a)->(H a≠none->K.lookup a=none)→
   codeAny (model P w) callerA (.call (.ref fa) ⟨[.ref a],[]⟩) (λr s'=>r= .ok (.ret (.bool true))/\OldK s₁.heap s'.heap/\s'.os=s₁.os/\AllBare s'.gens) s₁:=by
  intro H hO hS hok hA hK
  have base_of:∀{b:Addr}{o:Obj},s₁.heap.get? b=some o->H b=none->(Qgm s₁.heap H).get? b=some o:=λe n=>Qq2 e n
  have noA:∀{b:Addr}{o:Obj}{es:Array DictEntry}{ep:Nat},s₁.heap.get? b=some o->o.data= .dict es ep->H b=none:=λ{b o es ep} e d=>by
   cases q:H b with
   | none=>rfl
   | some u=>
    have e':b=a:=hA b (by rw[q];simp)
    subst e'
    rw[ha]at e;cases e
    have d':Data.seq vs.toArray _=Data.dict es ep:=d
    cases d'
  have nsK:∀{b:Addr}{m:Str->Option Value},s₁.heap.Ns b m->(Qgm s₁.heap H).Ns b m:=λ{b m} ⟨o,es,ep,e,d,r⟩=>⟨o,es,ep,base_of e (noA e d),d,r⟩
  have hKb:K.In (Qgm s₁.heap H):=λb o e=>base_of (KX b o e) (by
   cases q:H b with
   | none=>rfl
   | some u=>
    have e':b=a:=hA b (by rw[q];simp)
    subst e'
    rw[hK (by rw[q];simp)]at e;cases e)
  have hM:Mod K mg (Qgm s₁.heap H):=⟨hKb,nsK hns,⟨mb,nsK hb,hbb⟩,let ⟨mc,h1,h2⟩:=hlim;⟨mc,nsK h1,h2⟩⟩
  have e0:Qfg P w K mg (Qgm s₁.heap H) callerA [] s₁ H:=⟨rfl,hM,λb o e=>Qug e,Nat.le_of_eq (Qqk _ _),trivial,λb hb=>absurd (show b∈([]:List Addr)from hb) (by simp),hok,.of_eq hg⟩
  refine codeAny_mono ((F _ hKb (nsK hns)).run callerA [] s₁ H ⟨[.ref a],[]⟩ [.ref a] [.ref a] _ _ hr e0 (hbind s₁ (.ref a)) (.cons rfl .nil) (hsp H hO hS)) λr s' h=>?_
  cases r with
  | error e=>exact(hCX H e s' h).elim
  | ok fl=>
   cases fl with
   | next=>exact False.elim h
   | brk=>exact False.elim h
   | cont=>exact False.elim h
   | ret u=>
    obtain⟨v,H',os,bare,un,hok',r',q⟩:=h
    have q':v= .bl true:=q
    subst q'
    obtain rfl:u=Value.bool true:=r'
    refine⟨rfl,OldK.of_keep λb o e=>?_,os,bare⟩
    cases q:H b with
    | none=>exact un.keep b o e q (by intro z;exact absurd (show b∈([]:List Addr)from z) (by simp)) (by simp)
    | some u=>
     rcases hO b with z | ⟨ob,xs,z⟩
     ·rw[q]at z;cases z
     ·have z2:=un.frzs b ob _ z
      obtain⟨e1,_⟩:=hok b _ z
      obtain⟨e2,_⟩:=hok' b _ z2
      rw[e]at e1;cases e1
      exact e2
 cases hk:K.lookup a with
 | some o=>
  have e:=KX a o hk
  rw[ha]at e
  cases e
  refine core (λ_=>none) (λ_=> .inl rfl) (.inr ⟨_,vs.toArray,_,hk,rfl,rfl,rfl,by rw[Zx,lenV];exact hl,by simpa using rv⟩) (λb u z=>by have z':(none:Option HO)=some u:=z;cases z') (λb z=>absurd rfl z) λz=>absurd rfl z
 | none=>
  refine core (λb=>if b=a then some (.frz {cls:= .type "list",data:= .seq vs.toArray} (.lst (ns.map V.int)))else none) (λb=>?_) (.inl (.inr ⟨{cls:= .type "list",data:= .seq vs.toArray},if_pos rfl⟩)) (λb u z=>?_) (λb z=>?_) λ_=>hk
  ·by_cases hb:b=a
   ·exact .inr ⟨_,_,if_pos hb⟩
   ·exact .inl (if_neg hb)
  ·by_cases hb:b=a
   ·have z':=(if_pos hb).symm.trans z
    cases z'
    subst hb
    exact⟨ha,by rw[Zp];exact hl,vs,_,rv,ha⟩
   ·have z':=(if_neg hb).symm.trans z
    cases z'
  ·by_cases hb:b=a
   ·exact hb
   ·exact absurd (if_neg hb) z
end L2
namespace L2
open PySem PySem.Spec PyProof.Rows
noncomputable abbrev KOf{K:PySem.W.Frag}{h:Heap}(_:K.In h):PySem.W.Frag:=K
theorem Qzb{l:PySem.W.OpenLaw}{n k:Nat}{q:Program}{loose:List Str}{XP:(Str->Option Value)->Heap->Prop}{YP:World->Heap->Prop}{d:DefRec}{K:Params->PySem.W.Frag}{CX:World->CXT}{sp:World->Sp}{x:Str}
  (hn:l.most=some n) (hn2:n<=sizeLine) (hdf:d.params.defaults=[]) (hr:QU k callerA)
  (hY:∀(w:World) (h:Heap),YP w h->(K w.params).In h)
  (F:∀(w:World) (mg:Str->Option Value) (fa:Addr) (h:Heap),(K w.params).In h->h.Ns mainGlobals mg->mg d.name=some (.ref fa)→
   ∃fd:FuncData,(∀(s:Shared) (u:Value),BindsTo s fd ⟨[u],[]⟩ [(x,u)])∧
    ∀base:Heap,(K w.params).In base->base.Ns mainGlobals mg->Q4 l.prog w (K w.params) mg base (CX w) k fa fd [x] (sp w))
  (hsp:∀(w:World) (H:Hp) (a:Addr) (ns:List Int),ns.length<=n->Qq8 H->SqL (K w.params) H a (ns.map V.int)->sp w [.ref a] H (λv _=>v= .bl true) λ_ _ _=>False)
  (hCX:∀(w:World) (H:Hp) (s:Shared) (e:Value) (s':Shared),CX w [] H s (λ_ _ _=>False) e s'->False):
  PySem.W.WalkO q loose XP YP l.row.toRowW d [] (λf vs=>PySem.call f vs):=by
 refine Att.QhS hn hdf λw s₀ s₁ mg mb fa o pm cd doc a vs ns G Y ho hd hcd hmg hobj hints hlen hg=>?_
 have KX:=hY w _ Y
 obtain⟨fd,hb,hF⟩:=F w mg fa _ KX G.T.g hmg
 exact QmW KX G.T.g G.T.b G.T.builtins G.T.nolimit hg hobj hints (ZF hlen hn2) hr hF hb (λH hO hS=>hsp w H a ns hlen hO hS) λH e s'=>hCX w H s₁ e s'
end L2
namespace L2
open PySem PySem.Spec PyProof.Rows
noncomputable def inClass(s:Stmt)(j:Nat):Stmt:=match s with
 | .ClassDef _ _ _ body _ _ _ _ _ _ _=>body.getD j (.Pass ⟨0,0,0,0⟩)
 | _=> .Pass ⟨0,0,0,0⟩
noncomputable def Qc4(s:Stmt):Arguments:=match s with
 | .FunctionDef _ a _ _ _ _ _ _ _ _=>a
 | _=>{posonlyargs:=[],args:=[],vararg:=none,kwonlyargs:=[],kw_defaults:=[],kwarg:=none,defaults:=[]}
noncomputable def QM(s:Stmt):List Stmt:=match s with
 | .FunctionDef _ _ b _ _ _ _ _ _ _=>b
 | _=>[]
noncomputable def Qd(s:Stmt):Scope:=match s with
 | .FunctionDef _ _ _ _ _ _ sc _ _ _=>sc
 | _=>{kind:= .function,names:=[],isGenerator:=false,isCoroutine:=false}
noncomputable abbrev CX0:CXT:=λ_ _ _ _ _ _=>False
noncomputable abbrev E0:XK:=λ_ _ _=>False
theorem QfV{X:Cx}:QeB CX0 X E0:=λ_ _ _ _ _ _ _ h=>h.elim
structure Fun (K:PySem.W.Frag) (x qual:Str) (st:Stmt) (f:Addr) (fd:FuncData):Prop where
 ex:∃(oc:Value) (od:Option Addr) (kV doc pm:Value) (an:Option Addr) (cdv ct:Value) (osl:Array (Option Value)),
  fd=PySem.W.fnOf x qual (Qc4 st) (QM st) (Qd st) .none kV doc pm an cdv ct/\K.lookup f=some ⟨oc,od,.func fd,osl⟩/\PySem.W.codeIn K cdv qual=true
 kp:PySem.W.keepIn K (.ref f)=true
section
variable {P:Program}{w:World}{K:PySem.W.Frag}{mg:Str->Option Value}{base:Heap}
theorem Fun.ok{x qual:Str}{st:Stmt}{f:Addr}{fd:FuncData}{N ps:List Str}{k:Nat}{sp:Sp}(F:Fun K x qual st f fd)(S:Qar N ps (Qd st))(len:∀vs H Q E,sp vs H Q E->vs.length=ps.length)
  (hbody:∀(cdv:Value) (A:Around) (outer:List Env) (s:Shared) (H:Hp) (vs:List V) (Q:VK) (E:XK),QU k (A.deeper (envOfC qual (Qd st) s.heap.objs.size f cdv))->sp vs H Q E→
   ∃t,PSs (Qcl CX0 P w K mg base N qual (Qd st) f cdv A outer s H E).nox (QM st) t/\t {nx:=λ_ H'=>Q .non H',rt:=Q} (start N vs) H):Q4 P w K mg base CX0 (k+1) f fd ps sp:=by
 obtain⟨oc,od,kV,doc,pm,an,cdv,ct,osl,rfl,lk,hcd⟩:=F.ex
 refine Qor lk hcd S len λA outer s H vs Q E hr hsp=>?_
 obtain⟨t,h,q⟩:=hbody cdv A outer s H vs Q E hr hsp
 exact⟨t,h.nox,q⟩
theorem Fun.binds{x qual:Str}{st:Stmt}{f:Addr}{fd:FuncData}{ps:List Str}(F:Fun K x qual st f fd)
  (h:∀(kV doc pm:Value) (an:Option Addr) (cdv ct:Value) (us:List Value),us.length=ps.length->bindArgs (PySem.W.fnOf x qual (Qc4 st) (QM st) (Qd st) .none kV doc pm an cdv ct) ⟨us,[]⟩=pure (ps.zip us)):Binds K fd ps []:=by
 obtain⟨oc,od,kV,doc,pm,an,cdv,ct,osl,rfl,lk,hcd⟩:=F.ex
 exact .all (h kV doc pm an cdv ct)
theorem Qqm{x qual:Str}{st:Stmt}{f:Addr}{oc:Value}{od an:Option Addr}{osl:Array (Option Value)}{kV doc pm cdv ct:Value}(l:K.lookup f=some ⟨oc,od,.func (PySem.W.fnOf x qual (Qc4 st) (QM st) (Qd st) .none kV doc pm an cdv ct),osl⟩)
  (c:PySem.W.codeIn K cdv qual=true) (k:PySem.W.keepIn K (.ref f)=true):Fun K x qual st f (PySem.W.fnOf x qual (Qc4 st) (QM st) (Qd st) .none kV doc pm an cdv ct):=⟨⟨oc,od,kV,doc,pm,an,cdv,ct,osl,rfl,l,c⟩,k⟩
end
section
variable {X:Cx}
end
theorem QqT{A B:Prop}(h:B):if false=true then A else B:=by
 rw[if_neg ZV]
 exact h
theorem QrS{A B:Prop}(h:A):if true=true then A else B:=by
 rw[if_pos rfl]
 exact h
def Qr(H H':Hp):Prop:=∀b o,H b=some o->H' b=some o
theorem Qr.refl(H:Hp):Qr H H:=λ_ _ h=>h
theorem Qr.trans{H H1 H2:Hp}(a:Qr H H1)(b:Qr H1 H2):Qr H H2:=λc o h=>b c o (a c o h)
theorem Qr.free{H H':Hp}(e:Qr H H'){l:Addr}(h:H' l=Option.none):H l=Option.none:=by
 cases q:H l with
 | none=>rfl
 | some o=>
  rw[e l o q]at h
  cases h
theorem Qr.seq{K:PySem.W.Frag}{H H':Hp}{a:Addr}{xs:List V}(e:Qr H H')(h:SqL K H a xs):SqL K H' a xs:=by
 rcases h with(h | ⟨o,h⟩) | h
 ·exact .inl (.inl (e _ _ h))
 ·exact .inl (.inr ⟨o,e _ _ h⟩)
 ·exact .inr h
end L2
namespace L2
open PySem PySem.Spec PyProof.Rows
section
variable {κ:Type} [DecidableEq κ]
noncomputable def Qd2(kvs:List (κ×V))(k:κ):Option V:=(kvs.find? λkv=>decide (kv.1=k)).map (·.2)
noncomputable def putK(kvs:List (κ×V))(k:κ)(v:V):List (κ×V):=
 if(kvs.any λkv=>decide (kv.1=k))=true then kvs.map (λkv=>if kv.1=k then(kv.1,v)else kv)else kvs++[(k,v)]
noncomputable def QsY(kvs:List (κ×V))(k:κ):List (κ×V):=kvs.filter λkv=>decide (kv.1≠k)
theorem Qii{p:κ×V}{r:List (κ×V)}{k:κ}(e:p.1=k):Qd2 (p::r) k=some p.2:=by simp[Qd2,List.find?_cons,e]
theorem Qiy{p:κ×V}{r:List (κ×V)}{k:κ}(e:¬p.1=k):Qd2 (p::r) k=Qd2 r k:=by simp[Qd2,List.find?_cons,e]
theorem QmD(k:κ):∀kvs:List (κ×V),(kvs.any λkv=>decide (kv.1=k))=(Qd2 kvs k).isSome
 | []=>rfl
 | p::r=>by
  rw[ZbG]
  by_cases e:p.1=k
  ·simp only[Qii e,decide_eq_true e,Bool.true_or,Option.isSome_some]
  ·rw[Qiy e,decide_eq_false e,Bool.false_or];exact QmD k r
theorem Qcx.QpY{o:Option V}{u:Option Value}(r:Qcx o u):o.isSome=u.isSome:=by
 cases o with
 | none=>cases u with
  | none=>rfl
  | some _=>exact(show False from r).elim
 | some _=>cases u with
  | none=>exact(show False from r).elim
  | some _=>rfl
theorem Qcx.getD{o:Option V}{u:Option Value}{d:V}{d':Value}(r:Qcx o u)(rd:RelV d d'):RelV (o.getD d) (u.getD d'):=by
 cases o with
 | none=>cases u with
  | none=>exact rd
  | some _=>exact(show False from r).elim
 | some _=>cases u with
  | none=>exact(show False from r).elim
  | some _=>exact r
theorem KV.val{kvs:List (κ×V)}{vs:List (κ×Value)}(r:KV kvs vs)(k:κ):Qcx (Qd2 kvs k) (valueAt vs k):=by
 unfold KV at r
 induction r with
 | nil=>exact True.intro
 | @cons p q ps qs h t ih=>
  obtain⟨h1,h2⟩:=h
  by_cases e:p.1=k
  ·have e':q.1=k:=h1.symm.trans e
   have b:valueAt (q::qs) k=some q.2:=by simp[valueAt,List.find?_cons,e']
   rw[Qii e,b];exact h2
  ·have e':¬q.1=k:=λz=>e (h1.trans z)
   have b:valueAt (q::qs) k=valueAt qs k:=by simp[valueAt,List.find?_cons,e']
   rw[Qiy e,b];exact ih
theorem KV.any{kvs:List (κ×V)}{vs:List (κ×Value)}(r:KV kvs vs)(k:κ):(kvs.any λkv=>decide (kv.1=k))=vs.any λkv=>decide (kv.1=k):=by
 unfold KV at r
 induction r with
 | nil=>rfl
 | cons h t ih=>rw[ZbG,ZbG,ih,h.1]
theorem KV.QqS{kvs:List (κ×V)}{vs:List (κ×Value)}(r:KV kvs vs)(k:κ){y:V}{u:Value}(ry:RelV y u):
  KV (kvs.map λkv=>if kv.1=k then(kv.1,y)else kv) (vs.map λkv=>if kv.1=k then(kv.1,u)else kv):=by
 unfold KV at r ⊢
 induction r with
 | nil=>exact .nil
 | @cons p q ps qs h t ih=>
  rw[Zw,Zw]
  refine .cons ?_ ih
  obtain⟨h1,h2⟩:=h
  by_cases e:p.1=k
  ·rw[if_pos e,if_pos (h1.symm.trans e)];exact⟨h1,ry⟩
  ·rw[if_neg e,if_neg (λz=>e (h1.trans z))];exact⟨h1,h2⟩
theorem KV.put{kvs:List (κ×V)}{vs:List (κ×Value)}(r:KV kvs vs)(k:κ){y:V}{u:Value}(ry:RelV y u):KV (putK kvs k y) (stored vs k u):=by
 unfold putK stored
 rw[r.any k]
 by_cases e:(vs.any λkv=>decide (kv.1=k))=true
 ·rw[if_pos e,if_pos e];exact r.QqS k ry
 ·rw[if_neg e,if_neg e];exact Paired.snoc r ⟨rfl,ry⟩
theorem KV.drop{kvs:List (κ×V)}{vs:List (κ×Value)}(r:KV kvs vs)(k:κ):KV (QsY kvs k) (without vs k):=by
 unfold KV at r ⊢
 unfold QsY without
 induction r with
 | nil=>exact .nil
 | @cons p q ps qs h t ih=>
  obtain⟨h1,h2⟩:=h
  rw[Zaq,Zaq]
  by_cases e:p.1=k
  ·have a:¬decide (p.1≠k)=true:=by simp[e]
   have b:¬decide (q.1≠k)=true:=by simp[h1.symm.trans e]
   rw[if_neg a,if_neg b];exact ih
  ·have e':¬q.1=k:=λz=>e (h1.trans z)
   have a:decide (p.1≠k)=true:=by simp[e]
   have b:decide (q.1≠k)=true:=by simp[e']
   rw[if_pos a,if_pos b];exact .cons ⟨h1,h2⟩ ih
theorem KV.keys{kvs:List (κ×V)}{vs:List (κ×Value)}(r:KV kvs vs):kvs.map (·.1)=vs.map (·.1):=by
 unfold KV at r
 induction r with
 | nil=>rfl
 | cons h t ih=>rw[Zw,Zw,ih,h.1]
theorem KV.length{kvs:List (κ×V)}{vs:List (κ×Value)}(r:KV kvs vs):kvs.length=vs.length:=Paired.length r
end
noncomputable abbrev KT(H:Hp):List (List Key×V)->List (List Key×Addr×Value)->Prop:=Paired λp q=>p.1=q.1/\H q.2.1=some (.tup (p.1.map kV))/\RelV p.2 q.2.2
theorem KT.val{H:Hp}{kvs:List (List Key×V)}{xs:List (List Key×Addr×Value)}(r:KT H kvs xs)(k:List Key):Qcx (Qd2 kvs k) ((atKey xs k).map (·.2)):=by
 induction r with
 | nil=>exact True.intro
 | @cons p q ps qs h t ih=>
  obtain⟨h1,_,h2⟩:=h
  by_cases e:p.1=k
  ·have e':q.1=k:=h1.symm.trans e
   have b:atKey (q::qs) k=some q.2:=by simp[atKey,List.find?_cons,e']
   rw[Qii e,b];exact h2
  ·have e':¬q.1=k:=λz=>e (h1.trans z)
   have b:atKey (q::qs) k=atKey qs k:=by simp[atKey,List.find?_cons,e']
   rw[Qiy e,b];exact ih
theorem KT.QqS{H:Hp}{kvs:List (List Key×V)}{xs:List (List Key×Addr×Value)}(r:KT H kvs xs)(k:List Key){y:V}{u:Value}(ry:RelV y u):
  KT H (kvs.map λkv=>if kv.1=k then(kv.1,y)else kv) (xs.map (putAt k u)):=by
 induction r with
 | nil=>exact .nil
 | @cons p q ps qs h t ih=>
  rw[Zw,Zw]
  refine .cons ?_ ih
  obtain⟨h1,h2,h3⟩:=h
  unfold putAt
  by_cases e:p.1=k
  ·rw[if_pos e,if_pos (h1.symm.trans e)];exact⟨h1,h2,ry⟩
  ·rw[if_neg e,if_neg (λz=>e (h1.trans z))];exact⟨h1,h2,h3⟩
theorem KT.put{H:Hp}{kvs:List (List Key×V)}{xs:List (List Key×Addr×Value)}(r:KT H kvs xs)(k:List Key){b:Addr}{y:V}{u:Value}(hb:H b=some (.tup (k.map kV)))(ry:RelV y u):
  KT H (putK kvs k y) (storedH xs k b u):=by
 have e:(kvs.any λkv=>decide (kv.1=k))=(atKey xs k).isSome:=by
  rw[QmD,(r.val k).QpY,Option.isSome_map]
 unfold putK storedH
 rw[e]
 by_cases q:(atKey xs k).isSome=true
 ·rw[if_pos q,if_pos q];exact r.QqS k ry
 ·rw[if_neg q,if_neg q];exact Paired.snoc r ⟨rfl,hb,ry⟩
theorem KT.keeps{H H':Hp}{kvs:List (List Key×V)}{xs:List (List Key×Addr×Value)}(r:KT H kvs xs)(ht:∀b ys,H b=some (.tup ys)->H' b=some (.tup ys)):KT H' kvs xs:=
 Paired.QcT r λ_ _ z=>⟨z.1,ht _ _ z.2.1,z.2.2⟩
section
variable {P:Program}{w:World}{H:Hp}{h:Heap}{a:Addr}
end
def Qo3(H:Hp)(a:Addr)(y:V)(r:Option V):Prop:=
 (∃kvs k,Rd H a (.dK kvs)/\y=kV k/\r=Qd2 kvs k)∨∃kvs k b,Rd H a (.dT kvs)/\y= .ref b/\H b=some (.tup (k.map kV))/\r=Qd2 kvs k
def Qoh(H:Hp)(a:Addr)(y v:V)(H':Hp):Prop:=
 (∃kvs k,H a=some (.dK kvs)/\y=kV k/\kvs.length<sizeLine/\H'=upd H a (.dK (putK kvs k v)))∨
 ∃kvs k b,H a=some (.dT kvs)/\y= .ref b/\H b=some (.tup (k.map kV))/\kvs.length<sizeLine/\H'=upd H a (.dT (putK kvs k v))
theorem Qo3.k{H:Hp}{a:Addr}{kvs:List (Key×V)}{k:Key}(e:H a=some (.dK kvs)):Qo3 H a (kV k) (Qd2 kvs k):= .inl ⟨kvs,k,.inl e,rfl,rfl⟩
theorem Qo3.t{H:Hp}{a b:Addr}{kvs:List (List Key×V)}{k:List Key}(e:H a=some (.dT kvs))(eb:H b=some (.tup (k.map kV))):Qo3 H a (.ref b) (Qd2 kvs k):= .inr ⟨kvs,k,b,.inl e,rfl,eb,rfl⟩
theorem Qoh.k{H:Hp}{a:Addr}{kvs:List (Key×V)}{k:Key}{v:V}(e:H a=some (.dK kvs))(hl:kvs.length<sizeLine):Qoh H a (kV k) v (upd H a (.dK (putK kvs k v))):= .inl ⟨kvs,k,e,rfl,hl,rfl⟩
theorem Qoh.t{H:Hp}{a b:Addr}{kvs:List (List Key×V)}{k:List Key}{v:V}(e:H a=some (.dT kvs))(eb:H b=some (.tup (k.map kV)))(hl:kvs.length<sizeLine):
  Qoh H a (.ref b) v (upd H a (.dT (putK kvs k v))):= .inr ⟨kvs,k,b,e,rfl,eb,hl,rfl⟩
section
variable {X:Cx}{pins:List (Addr×Obj)}{σ:St}{H:Hp}{s:Shared}{a:Addr}{y v:V}{u r:Value}{o:Option V}{A:Around}{E:Value->Shared->Prop}
end
section
variable {X:Cx}{pins:List (Addr×Obj)}{σ:St}{H:Hp}{s:Shared}{a:Addr}{kvs:List (Key×V)}{k:Key}{u:Value}{A:Around}{E:Value->Shared->Prop}
end
section
variable {X:Cx}{o i e value:Expr}{pos pos' tpos:Pos}{td ty tv:TE}
end
section
variable {X:Cx}{pos:Pos}
end
end L2
namespace HS
open PySem PySem.Spec L2 PyProof.Rows
end HS
namespace L2
open PySem PySem.Spec PyProof.Rows
theorem QjK(env:Env)(body:Str×NameKind->List (Str×Addr)->Sem (ForInStep (List (Str×Addr))))
  (hb:∀n k cs,body (n,k) cs=if(k == NameKind.free)=true then(do let c ← cellOf env n;pure (ForInStep.yield ((n,c)::cs)))else pure (ForInStep.yield cs)):
  ∀(names:List (Str×NameKind)) (acc:List (Str×Addr)),(∀y∈names,y.2= .free->∃c,env.cells.lookup y.1=some c)->(∀x c,acc.lookup x=some c->env.cells.lookup x=some c)→
   ∃cl,forIn names acc body=(pure cl:Sem _)/\(∀x c,cl.lookup x=some c->env.cells.lookup x=some c)/\(∀x,acc.lookup x≠none->cl.lookup x≠none)/\∀y∈names,y.2= .free->cl.lookup y.1≠none
 | [],acc,_,ha=>⟨acc,rfl,ha,λ_ h=>h,λy hy=>by simp at hy⟩
 | (n,k)::r,acc,hn,ha=>by
  rw[List.forIn_cons,hb]
  have hr:∀y∈r,y.2= .free->∃c,env.cells.lookup y.1=some c:=λy hy=>hn y (Zb _ hy)
  by_cases hk:k= .free
  ·subst hk
   obtain⟨c,hc⟩:=hn (n,.free) Zj rfl
   have hce:cellOf env n=pure c:=by unfold cellOf;rw[show env.cells.lookup n=some c from hc]
   rw[if_pos (by rfl),hce]
   obtain⟨cl,e,h1,h2,h3⟩:=QjK env body hb r ((n,c)::acc) hr (λx c' e=>by
    rw[Zs]at e
    cases q:x == n with
    | true=>rw[q]at e;cases e;rw[beq_iff_eq]at q;rw[q];exact hc
    | false=>rw[q]at e;exact ha x c' e)
   have hcons:∀x,((n,c)::acc).lookup x≠none->cl.lookup x≠none:=h2
   refine⟨cl,by simpa using e,h1,λx hx=>hcons x ?_,λy hy hf=>?_⟩
   ·rw[Zs];cases x == n with
    | true=>simp
    | false=>exact hx
   ·rcases Zo.mp hy with rfl | hy
    ·exact hcons _ (by simp[Zs])
    ·exact h3 y hy hf
  ·rw[if_neg (by simpa using hk)]
   obtain⟨cl,e,h1,h2,h3⟩:=QjK env body hb r acc hr ha
   refine⟨cl,by simpa using e,h1,h2,λy hy hf=>?_⟩
   rcases Zo.mp hy with rfl | hy
   ·exact absurd hf hk
   ·exact h3 y hy hf
theorem QuW(h:∀y∈scope.names,y.2= .free->∃c,env.cells.lookup y.1=some c):
  ∃cl,closureFor scope env=pure cl/\(∀x c,cl.lookup x=some c->env.cells.lookup x=some c)/\∀y∈scope.names,y.2= .free->∃c,cl.lookup y.1=some c:=by
 unfold closureFor
 obtain⟨cl,e,h1,_,h3⟩:=QjK env (λx cs=>match x with | (name,kind)=>if(kind == NameKind.free)=true then(do let c ← cellOf env name;pure (ForInStep.yield ((name,c)::cs)))else pure (ForInStep.yield cs)) (λ_ _ _=>rfl) scope.names [] h (λx c e=>by simp at e)
 refine⟨cl,?_,h1,λy hy hf=>Option.ne_none_iff_exists'.mp (h3 y hy hf)⟩
 show(forIn scope.names [] _ >>= λr=>pure r)=_
 rw[e];rfl
noncomputable def cxc(X:Cx)(N':List Str)(scope:Scope)(cl:List (Str×Addr))(C:Addr)(fp:List Addr)(s3:Shared)(H3:Hp):Cx:=
 {X with N:=N',s₀:=s3,H₀:=H3,env:=compEnvC scope cl C X.env,outer:=X.stack,ex:=fp,fn:=λx=>decide (scope.names.lookup x=some .cell),pn:=[],xe:=λ_ _=>False}
def PTs(X:Cx)(ifs:List Expr)(t:TT):Prop:=
 ∀(pins:List (Addr×Obj)) (s:Shared) (σ:St) (H:Hp) (Q:Bool->Hp->Prop),Inv X pins σ H s->t σ H Q→
  wpAny (model X.prog X.w) X.A (forIn ifs true λc r=>if r=true then do let ok ← isTrue c X.env (eval c X.env);pure (ForInStep.yield ok)else pure (ForInStep.yield r)) (TP X pins σ Q) X.xe s
noncomputable def Qyy:TT:=λ_ H Q=>Q true H
theorem Quk:PTs X [] Qyy:=λ_ _ _ H _ I h=>wpAny_tests_nil ⟨H,I,h⟩
theorem Qtr(h:PT X c t):PTs X [c] t:=λpins s σ H Q I q=>wpAny_tests_one (h pins s σ H Q I q)
def Qja(X:Cx)(N':List Str)(scope:Scope)(σ σ':St):Prop:=
 σ'.length=N'.length/\∀(j:Nat) (x:Str) (v:V),N'[j]? =some x->σ'[j]? =some (some v)->scope.names.lookup x=some .free/\∃i:Nat,X.N[i]? =some x/\σ[i]? =some (some v)/\(X.env.kindOf x=some .cell∨X.env.kindOf x=some .free)
noncomputable def Qlb(wi:TI)(cap:St->St->Prop)(g:TG)(tc:TT)(te:TE):TE:=λσ H Q=>wi σ H λJ H1=>∃σc,cap σ σc/\∀D,H1 D=none->∃W:Nat->Nat->List V->Hp->Prop,
 (∃m,W 0 m [] (upd H1 D (.lst [])))/\∀i m acc H2,W i m acc H2->(J.stop i H2/\Q (.ref D) H2)∨
  (J.go i H2/\∀x H3,J.yld i H2 x H3->g x σc H3 λσ2 H4=>(∀(j:Nat) v,σc[j]? =some (some v)->σ2[j]? =some (some v))/\tc σ2 H4 λb H5=>if b=true then
   te σ2 H5 λy H6=>H6 D=some (.lst acc)/\acc.length<sizeLine/\∃m',m'<m/\W (i+1) m' (acc++[y]) (upd H6 D (.lst (acc++[y])))
   else ∃m',m'<m/\W (i+1) m' acc H5)
theorem Qb1{env:Env}:∀{names:List (Str×NameKind)}{x:Str},names.lookup x=some .free→
  (names.map λ(n,k)=>if(k == NameKind.free && env.scope.kind == .function && env.kindOf n == some .cell)then(n,NameKind.cell)else(n,k)).lookup x=some .cell∨
  (names.map λ(n,k)=>if(k == NameKind.free && env.scope.kind == .function && env.kindOf n == some .cell)then(n,NameKind.cell)else(n,k)).lookup x=some .free
 | [],_,h=>by simp at h
 | (n,k)::r,x,h=>by
  have ih:= @Qb1 env r x
  rw[Zw]
  cases hx:x == n with
  | true=>
   simp only[Zs,hx]at h
   cases h
   dsimp only
   split
   ·left;simp[Zs,hx]
   ·right;simp[Zs,hx]
  | false=>
   simp only[Zs,hx]at h
   dsimp only
   split
   ·simp only[Zs,hx];exact ih h
   ·simp only[Zs,hx];exact ih h
theorem QdY{env:Env}:∀{names:List (Str×NameKind)}{x:Str},
  ((names.map λ(n,k)=>if(k == NameKind.free && env.scope.kind == .function && env.kindOf n == some .cell)then(n,NameKind.cell)else(n,k)).lookup x=some .cell∨
  (names.map λ(n,k)=>if(k == NameKind.free && env.scope.kind == .function && env.kindOf n == some .cell)then(n,NameKind.cell)else(n,k)).lookup x=some .free)→
  ∃k,(x,k)∈names/\(k= .free∨k= .cell)
 | [],_,h=>by simp at h
 | (n,k)::r,x,h=>by
  have ih:= @QdY env r x
  rw[Zw]at h
  cases hx:x == n with
  | true=>
   have hn:x=n:=by simpa using hx
   subst hn
   dsimp only at h
   split at h
   ·rename_i hc
    simp only[Zg]at hc
    refine⟨k,Zj,.inl (by simpa using hc.1.1)⟩
   ·simp only[Zs,hx]at h
    refine⟨k,Zj,?_⟩
    rcases h with h | h
    ·exact .inr (Option.some.inj h)
    ·exact .inl (Option.some.inj h)
  | false=>
   dsimp only at h
   have:∃k,(x,k)∈r/\(k= .free∨k= .cell):=by
    apply ih
    split at h
    ·simpa only[Zs,hx]using h
    ·simpa only[Zs,hx]using h
   obtain⟨k',h1,h2⟩:=this
   exact⟨k',Zb _ h1,h2⟩
theorem Qfw:∀(names:List (Str×NameKind)) (n:Nat) (acc:List (Str×Addr)) (x:Str) (c:Addr),(cellsFrom n names acc).lookup x=some c->acc.lookup x=some c∨(n<=c/\(x,NameKind.cell)∈names)
 | [],_,_,_,_,h=> .inl h
 | (nm,k)::r,n,acc,x,c,h=>by
  unfold cellsFrom at h
  split at h
  ·rename_i hk
   have hk:k= .cell:=by simpa using hk
   rcases Qfw r (n+1) ((nm,n)::acc) x c h with h | ⟨h1,h2⟩
   ·rw[Zs]at h
    cases q:x == nm with
    | true=>
     rw[q]at h
     cases h
     have:x=nm:=by simpa using q
     exact .inr ⟨Zq _,by rw[this,hk];exact Zj⟩
    | false=>rw[q]at h;exact .inl h
   ·exact .inr ⟨by omega,Zb _ h2⟩
  ·rcases Qfw r n acc x c h with h | ⟨h1,h2⟩
   ·exact .inl h
   ·exact .inr ⟨h1,Zb _ h2⟩
theorem Qm3:∀(names:List (Str×NameKind)) (n:Nat) (acc:List (Str×Addr)) (x:Str) (c:Addr),(x,NameKind.cell)∈names->(cellsFrom n names acc).lookup x=some c->n<=c
 | (nm,k)::r,n,acc,x,c,hm,h=>by
  unfold cellsFrom at h
  split at h
  ·by_cases hr:(x,NameKind.cell)∈r
   ·have:=Qm3 r (n+1) _ x c hr h
    omega
   ·have hx:x=nm:=by
     rcases Zo.mp hm with e | e
     ·exact(Prod.mk.inj e).1
     ·exact absurd e hr
    rcases Qfw r (n+1) ((nm,n)::acc) x c h with h | ⟨h1,_⟩
    ·rw[Zs,show(x == nm)=true by simpa using hx]at h
     cases h
     exact Zq _
    ·omega
  ·rename_i hk
   rcases Zo.mp hm with e | e
   ·exact absurd (by rw[← (Prod.mk.inj e).2];rfl) hk
   ·exact Qm3 r n acc x c e h
theorem Qlh:∀(names:List (Str×NameKind)) (n:Nat) (acc:List (Str×Addr)),(∀x y c,acc.lookup x=some c->acc.lookup y=some c->x=y)->(∀x c,acc.lookup x=some c->c<n)→
  ∀x y c,(cellsFrom n names acc).lookup x=some c->(cellsFrom n names acc).lookup y=some c->x=y
 | [],_,_,hi,_,x,y,c,h1,h2=>hi x y c h1 h2
 | (nm,k)::r,n,acc,hi,hb,x,y,c,h1,h2=>by
  unfold cellsFrom at h1 h2
  split at h1
  ·rename_i hk
   rw[if_pos hk]at h2
   refine Qlh r (n+1) ((nm,n)::acc) (λx y c h1 h2=>?_) (λx c h=>?_) x y c h1 h2
   ·rw[Zs]at h1 h2
    cases qx:x == nm with
    | true=>
     rw[qx]at h1
     cases h1
     cases qy:y == nm with
     | true=>rw[show x=nm by simpa using qx,show y=nm by simpa using qy]
     | false=>rw[qy]at h2;exact absurd (hb y _ h2) (ZZ _)
    | false=>
     rw[qx]at h1
     cases qy:y == nm with
     | true=>rw[qy]at h2;cases h2;exact absurd (hb x _ h1) (ZZ _)
     | false=>rw[qy]at h2;exact hi x y c h1 h2
   ·rw[Zs]at h
    cases qx:x == nm with
    | true=>rw[qx]at h;cases h;exact ZaJ _
    | false=>rw[qx]at h;exact ZaR (hb x c h)
  ·rename_i hk
   rw[if_neg hk]at h2
   exact Qlh r n acc hi hb x y c h1 h2
theorem QfB:∀(names:List (Str×NameKind)) (n:Nat) (acc:List (Str×Addr)) (x:Str),(∃c,acc.lookup x=some c)->∃c,(cellsFrom n names acc).lookup x=some c
 | [],_,_,_,h=>h
 | (nm,k)::r,n,acc,x,h=>by
  unfold cellsFrom
  split
  ·refine QfB r (n+1) _ x ?_
   rw[Zs]
   cases x == nm with
   | true=>exact⟨n,rfl⟩
   | false=>exact h
  ·exact QfB r n acc x h
theorem QlT:∀(names:List (Str×NameKind)) (n:Nat) (acc:List (Str×Addr)) (x:Str),(x,NameKind.cell)∈names->∃c,(cellsFrom n names acc).lookup x=some c
 | (nm,k)::r,n,acc,x,hm=>by
  unfold cellsFrom
  rcases Zo.mp hm with e | e
  ·obtain⟨e1,e2⟩:=Prod.mk.inj e
   subst e1
   rw[← e2,if_pos (by rfl)]
   exact QfB r (n+1) _ x ⟨n,by simp[Zs]⟩
  ·split
   ·exact QlT r (n+1) _ x e
   ·exact QlT r n acc x e
theorem QjU(lo:Nat):∀(names:List (Str×NameKind)) (h:Heap) (acc:List (Str×Addr)),(∀x c,acc.lookup x=some c->lo<=c->h.IsCell c none)->lo<=h.objs.size→
  ∀x c,(cellsFrom h.objs.size names acc).lookup x=some c->lo<=c->(pushCells h names).IsCell c none
 | [],_,_,ha,_,x,c,e,hl=>ha x c e hl
 | (nm,k)::r,h,acc,ha,hlo,x,c,e,hl=>by
  unfold cellsFrom at e
  unfold pushCells
  split at e
  ·rename_i hk
   rw[if_pos hk]
   have hs:=ZaA h {cls:= .type "cell",data:= .cell none}
   refine QjU lo r (h.push {cls:= .type "cell",data:= .cell none}) ((nm,h.objs.size)::acc) (λx c e hl=>?_) (by rw[hs];omega) x c (by rw[hs];exact e) hl
   rw[Zs]at e
   cases q:x == nm with
   | true=>rw[q]at e;cases e;exact⟨_,ZM _ rfl,rfl⟩
   | false=>rw[q]at e;exact(ha x c e hl).keeps λb o e=>Zt _ e
  ·rename_i hk
   rw[if_neg hk]
   exact QjU lo r h acc ha hlo x c e hl
theorem QoY
  (hQ:∀h':Heap,h'.Ns s.heap.objs.size (λ_=>none)->(∀b o,s.heap.get? b=some o->h'.get? b=some o)->((∀x c,cl.lookup x=some c->c<s.heap.objs.size)->∀x c,(cellsFrom (s.heap.objs.size+1) scope.names cl).lookup x=some c->s.heap.objs.size+1<=c->h'.IsCell c none)→
   Q (newEnv scope s.heap.objs.size globals (cellsFrom (s.heap.objs.size+1) scope.names cl) qual none .none (some env) builtins) {s with heap:=h'}):
  wpAny M A (newFunctionEnv scope globals cl [] qual none .none (some env) builtins) Q E s:=by
 simp only[newFunctionEnv,Option.isSome_some,if_true]
 refine wpAny_bind (wpAny_alloc ?_)
 refine wpAny_bind (wpAny_layCells _ (λname kind cells=>by cases hkc:kind == NameKind.cell<;>simp[hkc]) _ _ _ _ ?_)
 have hs:=ZaA s.heap {cls:= .type "dict",data:= .dict #[]}
 rw[show({s with heap:=s.heap.push {cls:= .type "dict",data:= .dict #[]}}:Shared).heap.objs.size=s.heap.objs.size+1 from hs]
 refine wpAny_bind (wpAny_pure (wpAny_pure ?_))
 refine hQ _ ((Heap.Ns.new s.heap (.type "dict")).keeps (pushCells_keeps _ _)) (λb o e=>pushCells_keeps _ _ b o (Zt _ e)) λhb x c e hl=>?_
 refine QjU (s.heap.objs.size+1) scope.names (s.heap.push {cls:= .type "dict",data:= .dict #[]}) cl (λx c e hl=>?_) (by rw[hs];exact Zq _) x c (by rw[hs];exact e) hl
 exact absurd (Zu (hb x c e) (ZF (Zaw _) hl)) (ZZ _)
section
variable {X:Cx}{tg iter elt:Expr}{ifs:List Expr}{scope:Scope}{N':List Str}{pos:Pos}
structure Qd1 (X:Cx) (N':List Str) (scope:Scope):Prop where
 kind:scope.kind= .function
 own:∀y∈scope.names,y.2= .cell->scope.names.lookup y.1=some .cell
 loc:∀y∈scope.names,y.2= .local ->scope.names.lookup y.1=some .local
 free:∀y∈scope.names,y.2= .free->X.env.kindOf y.1=some .cell∨X.env.kindOf y.1=some .free
theorem QsB{pins:List (Addr×Obj)}{σ σc:St}{H3:Hp}{s3:Shared}{fp:List Addr}{cl:List (Str×Addr)}{h':Heap}{tk:Nat}(S:Qd1 X N' scope)(I:Inv X pins σ H3 s3)
  (hf:∀b∈fp,Qdj X pins H3 b) (hfl:∀b∈fp,b<s3.heap.objs.size) (hc1:∀x c,cl.lookup x=some c->X.env.cells.lookup x=some c) (hc2:∀y∈scope.names,y.2= .free->∃c,cl.lookup y.1=some c) (cap:Qja X N' scope σ σc)
  (hns:h'.Ns s3.heap.objs.size (λ_=>none)) (hk:∀b o,s3.heap.get? b=some o->h'.get? b=some o)
  (hown:(∀x c,cl.lookup x=some c->c<s3.heap.objs.size)->∀x c,(cellsFrom (s3.heap.objs.size+1) scope.names cl).lookup x=some c->s3.heap.objs.size+1<=c->h'.IsCell c none):
  Inv (cxc X N' scope (cellsFrom (s3.heap.objs.size+1) scope.names cl) s3.heap.objs.size fp s3 H3) [] σc H3 {s3 with heap:=h',toks:=tk}:=by
 have nold:∀b,b∈fp->b≠s3.heap.objs.size:=λb hb e=>absurd (hfl b hb) (by rw[e];exact ZZ _)
 have cellOld:∀x c,cl.lookup x=some c->∃v,s3.heap.IsCell c v:=λx c e=>I.cell x c (hc1 x c e)
 have cellLt:∀x c,cl.lookup x=some c->c<s3.heap.objs.size:=λx c e=>let ⟨v,q⟩:=cellOld x c e;q.lt
 have cellNew:∀c v,s3.heap.IsCell c v->h'.IsCell c v:=λc v ⟨o,ho,hd⟩=>⟨o,hk c o ho,hd⟩
 have hown:=hown cellLt
 have look:∀x c,(cellsFrom (s3.heap.objs.size+1) scope.names cl).lookup x=some c->cl.lookup x=some c∨(s3.heap.objs.size+1<=c/\(x,NameKind.cell)∈scope.names):=Qfw scope.names _ cl
 refine⟨⟨I.ok.mod,S.kind,I.ok.glob,I.ok.blt,Zq _,Qlh scope.names _ cl (λx y c h1 h2=>I.ok.inj x y c (hc1 x c h1) (hc1 y c h2)) (λx c e=>ZaR (cellLt x c e)),λx hx=>?_,λx c e1 e2=>?_,I.ok.hd,I.ok.frames,.inl rfl,λb hb=>⟨nold b hb,λx c e=>?_⟩,
  I.bs,ZF I.ok.bsz I.sz,λb o e hb=>?_,λb hb hs=>?_,I.stack,I.Qj4⟩,rfl,I.bare,Un.kept hk,⟨_,hns,λj x v h1 h2 h3=>?_⟩,λx c e=>?_,I.hok.fresh (Zq _),λx c e=>?_,λp hp=>absurd (show p∈([]:List (Addr×Obj))from hp) (by simp),I.hok.kept hk,cap.1⟩
 ·obtain⟨k,hm,hk'⟩:=QdY hx
  rcases hk' with rfl | rfl
  ·exact QfB scope.names _ cl x (hc2 _ hm rfl)
  ·exact QlT scope.names _ cl x hm
 ·have e1:decide (scope.names.lookup x=some .cell)=true:=e1
  have:=Qm3 scope.names _ cl x c (Zad (of_decide_eq_true e1)) e2
  exact ZF (Zaw _) this
 ·rcases look x c e with e | ⟨e,_⟩
  ·exact(hf b hb).2.2.2.2.1 x c (hc1 x c e)
  ·intro z
   rw[z]at e
   exact absurd (Zu (hfl b hb) (ZF (Zaw _) e)) (ZZ _)
 ·rcases(hf b hb).2.2.2.1 with z | z
  ·exact I.ok.noex b o e z
  ·exact absurd (Zu (Zv e) (ZF I.ok.bsz z)) (ZZ _)
 ·rcases Zo.mp (I.QdT b hs)with e | z
  ·exact(hf b hb).2.1 e
  ·exact(hf b hb).2.2.1 z
 ·obtain⟨hl,i,e1,e2,e3⟩:=cap.2 j x v h1 h2
  obtain⟨m,hn,look'⟩:=I.loc
  obtain⟨u,r,l⟩:=look' i x v e1 e2 (e3.elim (λz=> .inr (.inl z)) λz=> .inr (.inr z))
  refine⟨u,r,.inr ⟨Qb1 hl,?_⟩⟩
  rcases l with⟨k,_⟩ | ⟨_,c,ec,hcell⟩
  ·rcases e3 with z | z<;>(rw[k]at z;cases z)
  ·obtain⟨c',ec'⟩:=QfB scope.names (s3.heap.objs.size+1) cl x (hc2 (x,.free) (Zad hl) rfl)
   rcases look x c' ec' with q | ⟨_,q⟩
   ·have:=hc1 x c' q
    rw[ec]at this;cases this
    exact⟨c,ec',cellNew c _ hcell⟩
   ·have:=S.own _ q rfl
    rw[hl]at this
    cases this
 ·rcases look x c e with q | ⟨q,_⟩
  ·obtain⟨v,q⟩:=cellOld x c q
   exact⟨v,cellNew c v q⟩
  ·exact⟨none,hown x c e q⟩
 ·rcases look x c e with q | ⟨q,_⟩
  ·exact I.freeC x c (hc1 x c q)
  ·exact I.hok.fresh (by omega)
theorem Qqt(J:Nat->Shared->Prop)
  (turn:∀n s,J n s->wpAny (model prog w) A (pyNext it) (λr s1=>match r with
   | none=>R (.ok .next) s1
   | some v=>wpAny (model prog w) A (letOwnedTupleGo tg it v) (λ_ s2=>wpAny (model prog w) A (assign tg env v) (λ_ s3=>
     wpAny (model prog w) A (forIn ifs true λc r=>if r=true then do let ok ← isTrue c env (eval c env);pure (ForInStep.yield ok)else pure (ForInStep.yield r)) (λok s4=>
      if ok=true then wpAny (model prog w) A (eval elt env) (λx s5=>wpAny (model prog w) A (call (.builtin "list.append") [acc,x]) (λ_ s6=>∃m,m<n/\J m s6) (λ_ _=>False) s5) (λ_ _=>False) s4
      else ∃m,m<n/\J m s4) (λ_ _=>False) s3) (λ_ _=>False) s2) (λ_ _=>False) s1) (λ_ _=>False) s)
  (n:Nat) (h:J n s0):codeAny (model prog w) A (.compLoop (.ListComp elt [⟨tg,iter,ifs,0⟩] scope pos) 0 it acc env) R s0:=by
 have up:∀{α:Type}{t:Sem α}{Q:α->Shared->Prop}{E:Value->Shared->Prop}{s:Shared},wpAny (model prog w) A t Q (λ_ _=>False) s->wpAny (model prog w) A t Q E s:=λh=>wpAny_mono h (λ_ _ q=>q) λ_ _ f=>f.elim
 refine codeAny_loop (by rfl) J (λk sk hk=>?_) n h
 show wpAny (model prog w) A ((compTurn (.ListComp elt [⟨tg,iter,ifs,0⟩] scope pos) 0 it acc env).onRaise (λx=>do noteFrame x env;theTreesLotGoes x)) _ _ sk
 refine wpAny_noted (up ?_)
 rw[compTurn_list]
 refine wpAny_bind (wpAny_standAt (wpAny_bind (thn (turn k sk hk) λr s1 h1=>?_)))
 cases r with
 | none=>exact wpAny_pure h1
 | some v=>
  refine wpAny_bind (thn h1 λ_ s2 h2=>wpAny_bind (thn h2 λ_ s3 h3=>wpAny_bind (thn h3 λok s4 h4=>?_)))
  cases ok with
  | false=>exact wpAny_pure ⟨rfl,h4⟩
  | true=>exact wpAny_bind (wpAny_bind (thn h4 λx s5 h5=>wpAny_bind (thn h5 λ_ s6 h6=>wpAny_pure (wpAny_pure ⟨rfl,h6⟩))))
theorem Qsk{it D C:Addr}{fp:List Addr}{tn:Nat->Heap->Prop}{J:It}{cl:List (Str×Addr)}{s3 s4:Shared}{H3:Hp}{σc:St}{g:TG}{tc:TT}{te:TE}{Q:Hp->Prop}(hcalm:X.calm=true)
  (T:Turn X.prog X.w X.K tg J fp it tn)
  (hg:PG (cxc X N' scope cl C fp s3 H3) tg g) (ht:PTs (cxc X N' scope cl C fp s3 H3) ifs tc) (he:PE (cxc X N' scope cl C fp s3 H3) elt te)
  (I:Inv (cxc X N' scope cl C fp s3 H3) [] σc H3 s4) (st:tn 0 s4.heap) (ff:∀b∈fp,Qdj (cxc X N' scope cl C fp s3 H3) [] H3 b)
  (W:Nat->Nat->List V->Hp->Prop) (hw:∃m,W 0 m [] H3)
  (turn:∀i m acc H2,W i m acc H2->(J.stop i H2/\Q H2)∨
   (J.go i H2/\∀x H5,J.yld i H2 x H5->g x σc H5 λσ2 H6=>(∀(j:Nat) v,σc[j]? =some (some v)->σ2[j]? =some (some v))/\tc σ2 H6 λb H7=>if b=true then
    te σ2 H7 λy H8=>H8 D=some (.lst acc)/\acc.length<sizeLine/\∃m',m'<m/\W (i+1) m' (acc++[y]) (upd H8 D (.lst (acc++[y])))
    else ∃m',m'<m/\W (i+1) m' acc H7))
  {R:Result->Shared->Prop}(hR:∀H' s',Inv (cxc X N' scope cl C fp s3 H3) [] σc H' s'->Q H'->R (.ok .next) s'):
  codeAny (model X.prog X.w) X.A (.compStart (.ListComp elt [⟨tg,iter,ifs,0⟩] scope pos) 0 (.ref it) (.ref D) (compEnvC scope cl C X.env)) R s4:=by
 obtain⟨m0,w0⟩:=hw
 have stat:∀{H':Hp},(∀b∈fp,H' b=none)->∀b∈fp,Qdj (cxc X N' scope cl C fp s3 H3) [] H' b:=λhn b hb=>⟨hn b hb,(ff b hb).2⟩
 have loop:codeAny (model X.prog X.w) X.A (.compLoop (.ListComp elt [⟨tg,iter,ifs,0⟩] scope pos) 0 (.ref it) (.ref D) (compEnvC scope cl C X.env)) R s4:=by
  refine Qqt (λn s'=>∃i acc H',Inv (cxc X N' scope cl C fp s3 H3) [] σc H' s'/\tn i s'.heap/\(∀b∈fp,H' b=none)/\W i n acc H') ?_ m0 ⟨0,[],H3,I,st,λb hb=>(ff b hb).1,w0⟩
  rintro n s5 ⟨i,acc,H5,I5,st5,fr5,w5⟩
  rcases turn i n acc H5 w5 with⟨stop,q⟩ | ⟨go,step⟩
  ·refine thn (T.done (cxc X N' scope cl C fp s3 H3) rfl rfl rfl hcalm i [] s5 σc H5 _ I5 (stat fr5) st5 stop) λr s6 hpt=>?_
   obtain⟨hr,I6⟩:=hpt
   subst hr
   exact hR H5 s6 I6 q
  ·refine thn (T.item (cxc X N' scope cl C fp s3 H3) rfl rfl rfl hcalm i [] s5 σc H5 _ I5 (stat fr5) st5 go) λr s6 hpt=>?_
   obtain⟨u,hr,h6⟩:=hpt
   subst hr
   refine thn h6 λ_ s7 hpt=>?_
   obtain⟨x,H7,I7,r7,y7,st7,fr7⟩:=hpt
   have I7':=I7.pinned (stat fr7) (T.obj _ _ st7)
   refine thn (hg _ s7 σc H7 x u _ I7' r7 (step x H7 y7)) λ_ s8=>exJ λσ8 H8 I8 k8 q8=>?_
   refine thn (ht _ s8 σ8 H8 _ I8 q8) λok s9 hpt=>?_
   obtain⟨H9,I9,q9⟩:=hpt
   have again:∀{H':Hp}{s':Shared}{acc':List V},Inv (cxc X N' scope cl C fp s3 H3) ([]++Qg3 fp s7.heap) σ8 H' s'->(∃m',m'<n/\W (i+1) m' acc' H')→
     ∃m,m<n/\∃i acc H',Inv (cxc X N' scope cl C fp s3 H3) [] σc H' s'/\tn i s'.heap/\(∀b∈fp,H' b=none)/\W i m acc H':=λ{H' s' acc'} I' ⟨m',hm,w'⟩=>by
    have pin:∀b∈fp,∀o,s7.heap.get? b=some o->s'.heap.get? b=some o/\H' b=none:=λb hb o e=>by
     have z:=I'.pin (b,o) (Ze _ (Ze _ (Qf7 hb e)))
     exact⟨z.1,z.2.1⟩
    refine⟨m',hm,i+1,acc',H',?_,T.keep _ _ _ st7 λb hb o e=>(pin b hb o e).1,λb hb=>?_,w'⟩
    ·exact I'.Qga.weak (I.len.trans I8.len.symm) k8
    ·obtain⟨o,e,_⟩:=T.obj _ _ st7 b hb
     exact(pin b hb o e).2
   cases ok with
   | false=>
    rw[if_neg ZV]at q9 ⊢
    exact again I9 q9
   | true=>
    rw[if_pos rfl]at q9 ⊢
    refine thn (he _ s9 σ8 H9 _ I9 q9) λyv s10 hpt=>?_
    obtain⟨y,H10,I10,r10,e10,l10,q10⟩:=hpt
    refine thn (Qgy _ s10 σ8 H10 (.ref D) [y] (.ref D) [yv] (λv H11=>H11=upd H10 D (.lst (acc++[y]))) I10 rfl (.cons r10 .nil) ⟨D,acc,y,rfl,rfl,e10,l10,rfl⟩) λ_ s11 hpt=>?_
    obtain⟨_,H11,I11,_,e11⟩:=hpt
    subst e11
    exact again I11 q10
 exact codeAny_compStart_list loop (T.self _ 0 _ _ _ st loop)
theorem Qlg{wi:TI}{g:TG}{tc:TT}{te:TE}{cp:Pos}{use:Option (Value->Sem Unit)}{pins:List (Addr×Obj)}{s:Shared}{σ:St}{H:Hp}{QV:Value->Shared->Prop}{Q:VK}(hcalm:X.calm=true)(S:Qd1 X N' scope)(hi:PI X tg iter wi)
  (hin:∀cl C fp s3 H3,PG (cxc X N' scope cl C fp s3 H3) tg g/\PTs (cxc X N' scope cl C fp s3 H3) ifs tc/\PE (cxc X N' scope cl C fp s3 H3) elt te)
  (hs:∀x,foldedSetIterable iter X.env x=pure x) (I:Inv X pins σ H s) (h:Qlb wi (Qja X N' scope) g tc te σ H Q)
  (fin:∀(D C:Addr) (H':Hp) (s':Shared),Inv X pins σ H' s'->H' C=none->C≠X.env.locals->X.s₀.heap.objs.size<=C->(∀x c,X.env.cells.lookup x=some c->c≠C)->(∀p∈X.pn++pins,p.1≠C)->(∃m,s'.heap.Ns C m)->Q (.ref D) H'→
   compPost (model X.prog X.w) X.A X.xe use QV (.ref D) C (.ok .next) s'):
  wpAny (model X.prog X.w) X.A (comprehension (.ListComp elt [⟨tg,iter,ifs,0⟩] scope pos) scope X.env cp (newList []) false (eval iter X.env) use) QV X.xe s:=by
 obtain⟨cl,hcl,hc1,hc2⟩:=QuW λy hy hf=>I.ok.has y.1 (S.free y hy hf)
 refine wpAny_comprehension_free rfl hs hcl S.kind S.loc ?_
 refine thn (hi pins s σ H _ I h) λv s1 h1=>thn h1 λitv s2 h2=>?_
 obtain⟨it,fp,tn,J,H2,e,I2,T,st2,f2,σc,cap,hw⟩:=h2
 subst e
 have hD0:H2 s2.heap.objs.size=none:=I2.hok.fresh (Zq _)
 obtain⟨W,hW0,turn⟩:=hw _ hD0
 have fpl:∀b∈fp,b<s2.heap.objs.size:=λb hb=>let ⟨o,e,_⟩:=T.obj _ _ st2 b hb;Zv e
 have hlist:∀D:Addr,D=s2.heap.objs.size->∃x,x=D:=λD _=>⟨D,rfl⟩
 refine wpAny_newObj_type ?_
 have I3:Inv X pins σ (upd H2 s2.heap.objs.size (.lst [])) {s2 with heap:=s2.heap.push {cls:= .type "list",dict:=none,data:= .seq ([]:List Value).toArray}}:=
  I2.laid (t':=s2.toks) (λb o e=>Zt _ e) (Zq _) ⟨ZT _,[],0,.nil,ZM _ rfl⟩
 generalize hs3:({s2 with heap:=s2.heap.push {cls:= .type "list",dict:=none,data:= .seq ([]:List Value).toArray}}:Shared)=s3 at I3
 have hs3':s3.heap=s2.heap.push {cls:= .type "list",dict:=none,data:= .seq ([]:List Value).toArray}:=by rw[← hs3]
 have sz3:s3.heap.objs.size=s2.heap.objs.size+1:=by rw[hs3',ZaA]
 have old3:∀b o,s2.heap.get? b=some o->s3.heap.get? b=some o:=λb o e=>by rw[hs3'];exact Zt _ e
 have f3:∀b∈fp,Qdj X pins (upd H2 s2.heap.objs.size (.lst [])) b:=λb hb=>⟨by rw[Qx (ZL (fpl b hb))];exact(f2 b hb).1,(f2 b hb).2⟩
 have fpl3:∀b∈fp,b<s3.heap.objs.size:=λb hb=>by rw[sz3];exact ZaR (fpl b hb)
 refine QoY (λh4 hns4' keep4 hown4=>?_)
 have I4:=QsB (tk:=s3.toks) S I3 f3 fpl3 hc1 hc2 cap hns4' keep4 hown4
 have hout:∀H' s',Inv (cxc X N' scope (cellsFrom (s3.heap.objs.size+1) scope.names cl) s3.heap.objs.size fp s3 (upd H2 s2.heap.objs.size (.lst []))) [] σc H' s'->Inv X pins σ H' s':=λH' s' J'=>
  I3.Qoq J'.os J'.base J'.hok J'.bare λb hb=>⟨(f3 b hb).2.2.2.1,(f3 b hb).2.1,(f3 b hb).2.2.2.2.1,(f3 b hb).2.2.2.2.2⟩
 obtain⟨hg,ht,he⟩:=hin (cellsFrom (s3.heap.objs.size+1) scope.names cl) s3.heap.objs.size fp s3 (upd H2 s2.heap.objs.size (.lst []))
 have fc:∀b∈fp,Qdj (cxc X N' scope (cellsFrom (s3.heap.objs.size+1) scope.names cl) s3.heap.objs.size fp s3 (upd H2 s2.heap.objs.size (.lst []))) [] (upd H2 s2.heap.objs.size (.lst [])) b:=λb hb=>
  ⟨(f3 b hb).1,ZL (fpl3 b hb),λhs'=>(Zo.mp (I3.QdT b hs')).elim (f3 b hb).2.1 (f3 b hb).2.2.1,.inl hb,λx c e=>(by
   rcases Qfw scope.names _ cl x c e with e | ⟨e,_⟩
   ·exact(f3 b hb).2.2.2.2.1 x c (hc1 x c e)
   ·intro z
    rw[z]at e
    exact absurd (Zu (fpl3 b hb) (ZF (Zaw _) e)) (ZZ _)),λp hp=>absurd (show p∈([]:List (Addr×Obj))from hp) (by simp)⟩
 have hC1:s3.heap.objs.size≠X.env.locals:=Ne.symm (ZL I3.lt)
 refine Qsk (W:=W) hcalm T hg ht he I4 (T.keep _ _ _ st2 λb hb o e=>keep4 b o (old3 b o e)) fc hW0 turn λH' s' J' q=>?_
 have O:=hout H' s' J'
 refine fin _ _ H' s' O J'.free hC1 (ZF I3.sz (Zq _)) (λx c e z=>?_) (λp hp z=>?_) (let ⟨m,hn,_⟩:=J'.loc;⟨m,hn⟩) q
 ·obtain⟨v,o,ho,_⟩:=I3.cell x c e
  exact absurd (Zv ho) (by rw[z];exact ZZ _)
 ·exact absurd (Zv (I3.pin p hp).1) (by rw[z];exact ZZ _)
theorem Inv.QsG(I:Inv X pins σ H s)(hs:Heap.SameBut C s.heap h')(hn:H C=none)(hL:C≠X.env.locals)(h1:X.s₀.heap.objs.size<=C)
  (h2:∀x c,X.env.cells.lookup x=some c->c≠C) (h3:∀p∈X.pn++pins,p.1≠C):Inv X pins σ H {s with heap:=h'}:=
 I.turned (t':=s.toks) (λb o hb e=>(hs.2 b hb).trans e) hn hL (.inr h1) h2 h3
theorem Qnz(hcalm:X.calm=true)(S:Qd1 X N' scope)(hi:PI X tg iter wi)
  (hin:∀cl C fp s3 H3,PG (cxc X N' scope cl C fp s3 H3) tg g/\PTs (cxc X N' scope cl C fp s3 H3) ifs tc/\PE (cxc X N' scope cl C fp s3 H3) elt te)
  (hs:∀x,foldedSetIterable iter X.env x=pure x:=by intro _;rfl):PE X (.ListComp elt [⟨tg,iter,ifs,0⟩] scope pos) (Qlb wi (Qja X N' scope) g tc te):=by
 intro pins s σ H Q I h
 rw[eval_ListComp]
 refine Qlg hcalm S hi hin hs I h λD C H' s' O h1 h2 h3 h4 h5 hpt q=>?_
 obtain⟨m,hm⟩:=hpt
 exact⟨m,hm,λh' hs'=>⟨.ref D,H',O.QsG hs' h1 h2 h3 h4 h5,rfl,q⟩⟩
theorem Quf(hN:X.N.Nodup)(hx1:X.N[i]? =some x)(hx:Loc X.env.scope x)(hf:X.fn x=true∨X.env.scope.names.lookup x=some .local)(hcalm:X.calm=true)(S:Qd1 X N' scope)(hi:PI X tg iter wi)
  (hin:∀cl C fp s3 H3,PG (cxc X N' scope cl C fp s3 H3) tg g/\PTs (cxc X N' scope cl C fp s3 H3) ifs tc/\PE (cxc X N' scope cl C fp s3 H3) elt te)
  (hs:∀x,foldedSetIterable iter X.env x=pure x:=by intro _;rfl):
  PS X (.Assign [.Name x pos'] (.ListComp elt [⟨tg,iter,ifs,0⟩] scope pos) spos) (Qj0 (Qlb wi (Qja X N' scope) g tc te) (Qhi i)):=by
 have hb:∃b,swapsWith (.ListComp elt [⟨tg,iter,ifs,0⟩] scope pos) (some (.Name x pos')) spos.line X.env=pure b:=⟨_,rfl⟩
 obtain⟨b,hb⟩:=hb
 cases b with
 | false=>exact QdV hN hx1 hx (Qnz hcalm S hi hin hs) hb hf
 | true=>
  intro pins s σ H D I h
  rw[exec_Assign_Name_used _ _ _ _ hb]
  refine wpAny_bind (wpAny_standAt (wpAny_bind ?_))
  show wpAny _ X.A (do let _ ← comprehension (.ListComp elt [⟨tg,iter,ifs,0⟩] scope pos) scope X.env _ (newList []) false (eval iter X.env) (some (assign (.Name x pos') X.env))) _ _ s
  refine wpAny_bind (thn (Qlg hcalm S hi hin hs I h λDl C H' s' O h1 h2 h3 h4 h5 ⟨m,hm⟩ q=>?_) λ_ s' hq=>wpAny_pure (wpAny_pure hq))
  refine wpAny_assign_Name (QkH O hN hx1 hx (v:= .ref Dl) rfl (λs2 I2 hsb=>?_) hf)
  obtain⟨a,sb,ha⟩:=hsb
  have haC:C≠a:=by
   rcases ha with rfl | ha
   ·exact h2
   ·exact Ne.symm (h4 _ _ ha)
  exact⟨m,hm.sameBut sb haC,λh' hs'=>⟨_,H',I2.QsG hs' h1 h2 h3 h4 h5,q⟩⟩
end
end L2
namespace L2
open PySem PySem.Spec PyProof.Rows
section
theorem Inv.QsP{t':Nat}{ch:List Addr}{T:Addr}{ts:List V}(I:Inv X pins σ H s)(hf:∀b∈ch,Qdj X pins H b)(k:∀b o,b∉ch->s.heap.get? b=some o->h'.get? b=some o)(hp:∀b∈ch,∃o,h'.get? b=some o)
  (hT:s.heap.objs.size<=T) (hnew:ts.length<=sizeLine/\∃its:List Value,Qq ts its/\IsTup h' T its.toArray):Inv X pins σ (upd H T (.tup ts)) {s with heap:=h',toks:=t'}:=by
 have hn:H T=none:=I.hok.fresh hT
 have neT:∀b u,H b=some u->b≠T:=λb u e=>Qbh e hn
 have nch:∀b u,H b=some u->b∉ch:=λb u e hb=>by rw[(hf b hb).1]at e;cases e
 have ltT:∀b o,s.heap.get? b=some o->b≠T:=λb o e=>ZL (Zu (Zv e) hT)
 refine I.step (g':=s.gens) (d':=s.drawn) (ch:=ch) (λb hb=>?_) (λb o _ _ hc e _=>k b o hc e) (λb o _ _ hc e _=>⟨o.slots,k b o hc e⟩) (λb o _ e n=>by rw[Qx (ltT b o e)];exact n)
  (λb o hc e=>⟨o,k b o hc e⟩) (λb xs e=>by rw[Qx (neT b _ e)];exact e) (λb o u e=>by rw[Qx (neT b _ e)];exact e) (λb ps e=>⟨#[],by rw[Qx (neT b _ e),e];simp⟩) (λm hm=>?_) (λb u e=>?_) I.bare
 ·obtain⟨f0,f1,f2,f3,f4,f5⟩:=hf b hb
  exact⟨f3,f1,f4,f5⟩
 ·obtain⟨o,es,ep,ho,r⟩:=hm
  exact⟨o,es,ep,k _ o (λz=>(hf _ z).2.1 rfl) ho,r⟩
 ·by_cases hb:b=T
  ·subst hb
   rw[QQ]at e
   cases e
   exact hnew
  ·rw[Qx hb]at e
   refine(I.hok b u e).Qey (λc v hc q=>k c v ?_ q) (λc q=>by rw[Qx (neT c _ q)];exact q) λc xs q=>by rw[Qx (neT c _ q)];exact q
   rcases hc with z | z
   ·rw[z];exact nch b u e
   ·exact nch c _ z
theorem Inv.turns{t':Nat}{ch:List Addr}(I:Inv X pins σ H s)(hf:∀b∈ch,Qdj X pins H b)(k:∀b o,b∉ch->s.heap.get? b=some o->h'.get? b=some o):Inv X pins σ H {s with heap:=h',toks:=t'}:=by
 have nch:∀b u,H b=some u->b∉ch:=λb u e hb=>by rw[(hf b hb).1]at e;cases e
 refine I.step (g':=s.gens) (d':=s.drawn) (ch:=ch) (λb hb=>?_) (λb o _ _ hc e _=>k b o hc e) (λb o _ _ hc e _=>⟨o.slots,k b o hc e⟩) (λb o _ e n=>n)
  (λb o hc e=>⟨o,k b o hc e⟩) (λb xs e=>e) (λb o u e=>e) (λb ps e=>⟨#[],by rw[e];simp⟩) (λm hm=>?_) (λb u e=>?_) I.bare
 ·obtain⟨f0,f1,f2,f3,f4,f5⟩:=hf b hb
  exact⟨f3,f1,f4,f5⟩
 ·obtain⟨o,es,ep,ho,r⟩:=hm
  exact⟨o,es,ep,k _ o (λz=>(hf _ z).2.1 rfl) ho,r⟩
 ·refine(I.hok b u e).Qey (λc v hc q=>k c v ?_ q) (λc q=>q) λc xs q=>q
  rcases hc with z | z
  ·rw[z];exact nch b u e
  ·exact nch c _ z
end
noncomputable def Ite(K:PySem.W.Frag)(a:Addr):It:=
 ⟨λi H=>∃xs x,SqL K H a xs/\xs[i]? =some x,λi H v H'=>∃p x,v= .ref p/\H p=none/\H'=upd H p (.tup [.int i,x])/\∀xs,SqL K H a xs->xs[i]? =some x,λi H=>∃xs,SqL K H a xs/\xs.length<=i⟩
theorem mm0{a:Addr}{l:List Addr}:a∈a::l:= .head _
theorem mm1{a b:Addr}{l:List Addr}:a∈b::a::l:= .tail _ mm0
theorem mm2{a b c:Addr}{l:List Addr}:a∈b::c::a::l:= .tail _ mm1
theorem mm3{a b c d:Addr}{l:List Addr}:a∈b::c::d::a::l:= .tail _ mm2
theorem mm4{a b c d e:Addr}{l:List Addr}:a∈b::c::d::e::a::l:= .tail _ mm3
theorem nmm{a b:Addr}{l:List Addr}(hb:b∉l)(ha:a∈l):b≠a:=λe=>hb (e▸ha)
theorem fa1{p:Addr->Prop}{a:Addr}{l:List Addr}(h:p a)(t:∀x∈l,p x):∀x∈a::l,p x:=List.forall_mem_cons.2 ⟨h,t⟩
def NL(h:Heap)(b:Addr):Prop:=∃o,h.get? b=some o/\o.cls≠ .type "list" /\∀v,o.data≠ .cell v
theorem NL.it{h:Heap}(q:h.IsListIter b l k):NL h b:=by
 obtain⟨o,ho,hc,hd⟩:=q
 exact⟨o,ho,by rw[hc];simp,λv z=>by rw[hd]at z;cases z⟩
theorem NL.zip(hz:IsZip h z T1 T2 x):NL h z:=⟨_,hz,by simp,λv z=>by cases z⟩
theorem NL.tup{h:Heap}(q:h.get? b=some {cls:= .type "tuple",data:= .seq a}):NL h b:=⟨_,q,by simp,λv z=>by cases z⟩
theorem NL.obj(n:NL h b):∃o,h.get? b=some o/\∀v,o.data≠ .cell v:=let ⟨o,e,_,v⟩:=n;⟨o,e,v⟩
theorem NL.ex(n:NL h b):∃o,h.get? b=some o:=let ⟨o,e,_⟩:=n;⟨o,e⟩
theorem NL.lt(n:NL h b):b<h.objs.size:=let ⟨_,e⟩:=n.ex;Zv e
theorem NL.apart{X:Cx}{H:Hp}{s:Shared}(n:NL s.heap b)(I:Inv X pins σ H s)(hn:H b=none)(hq:SqL X.K H l ys):l≠b:=λe=>by
 subst e
 rcases hq with(hq | ⟨_,hq⟩) | ⟨o',its,k,hk,hc',_⟩
 ·rw[hn]at hq;cases hq
 ·rw[hn]at hq;cases hq
 ·obtain⟨o,ho,hc,_⟩:=n
  rw[I.kIn l o' hk]at ho
  exact hc (Option.some.inj ho▸hc')
theorem QpD{P:Program}{w:World}{K:PySem.W.Frag}{es:List Expr}{tk:Nat}{tpos:Pos}(a e it:Addr)(hne:e≠it):Turn P w K (.Tuple es tk tpos) (Ite K a) [e,it] e (λi h=>∃old,IsEnum h e it (i:Int) old/\h.IsListIter it a i) where
 mem:=mm0
 obj:=λi h st b hb=>by
  obtain⟨old,he,hi⟩:=st
  exact(fa1 (p:=NL h) ⟨_,he,by simp,λv z=>by cases z⟩ (fa1 (.it hi) (List.forall_mem_nil _)) b hb).obj
 keep:=λi h h' st k=>by
  obtain⟨old,he,hi⟩:=st
  exact⟨old,k e mm0 _ he,hi.at (k it mm1)⟩
 item:=by
  intro X hP hw hK hc i pins s σ H E I hf st hg
  subst hP hw hK
  obtain⟨old,he,hi⟩:=st
  obtain⟨xs,x,hq,hx⟩:=hg
  obtain⟨its,rv,p,hz⟩:=I.list hq
  obtain⟨u,hu,ru⟩:=rv.get hx
  refine wpAny_pyNext_enum_item he hi p.isList (x:=u) (by simpa using hu) hne λh1 heo hi1 ht1 hz1 hk1=>?_
  refine⟨.ref s.heap.objs.size,rfl,wpAny_letOwnedTupleGo_enum heo λh2 he2 hs2=>?_⟩
  replace hs2:Heap.SameBut e h1 h2:=hs2
  have helt:e<s.heap.objs.size:=Zv he
  have hilt:it<s.heap.objs.size:=by obtain⟨o,ho,_⟩:=hi;exact Zv ho
  have ht2:IsTup h2 s.heap.objs.size [Value.int i s.toks,u].toArray:=⟨_,(hs2.2 _ (Nat.ne_of_gt helt)).trans ht1,rfl,_,rfl⟩
  have hi2:h2.IsListIter it a (i+1):=hi1.extBut hs2.extBut (Ne.symm hne)
  have kk:∀b o,b∉[e,it]->s.heap.get? b=some o->h2.get? b=some o:=λb o hb q=>by
   have h1:b≠e:=λz=>hb (by simp[z])
   have h2:b≠it:=λz=>hb (by simp[z])
   exact hs2.extBut b o h1 (hk1 b o h1 h2 q)
  refine⟨.ref s.heap.objs.size,upd H s.heap.objs.size (.tup [.int i,x]),I.QsP (t':=s.toks+1) hf kk (λb hb=>?_) (Zq _) ⟨by show 2<=sizeLine;decide,_,.cons ⟨_,rfl⟩ (.cons ru .nil),ht2⟩,rfl,
   ⟨_,x,rfl,I.hok.fresh (Zq _),rfl,λys hy=>by rw[I.Qf1 hy hq];exact hx⟩,⟨u,?_,hi2⟩,λb hb=>?_⟩
  ·have hb:b=e∨b=it:=by simpa using hb
   rcases hb with rfl | rfl
   ·exact⟨_,he2⟩
   ·obtain⟨o,ho,_⟩:=hi2;exact⟨o,ho⟩
  ·have:((i+1:Nat):Int)=(i:Int)+1:=by push_cast;rfl
   rw[this];exact he2
  ·have hb':b=e∨b=it:=by simpa using hb
   have:b≠s.heap.objs.size:=by
    rcases hb' with rfl | rfl
    ·exact ZL helt
    ·exact ZL hilt
   rw[Qx this];exact(hf b hb).1
 done:=by
  intro X hP hw hK hc i pins s σ H E I hf st hg
  subst hP hw hK
  obtain⟨old,he,hi⟩:=st
  obtain⟨xs,hq,hx⟩:=hg
  obtain⟨its,rv,p,hz⟩:=I.list hq
  have hl:=rv.length
  refine wpAny_pyNext_enum_end (I.ok.hd hc) he hi p.isList (by simp;omega) λh1 eb=>⟨rfl,?_⟩
  exact I.turns (t':=s.toks) hf λb o hb q=>eb b o (λz=>hb (by simp[z])) q
 self:=λ_ _ _ _ _ st h=>by
  obtain⟨old,he,hi⟩:=st
  exact wpAny_pyIter_enum he h
section
noncomputable def QxS(K:PySem.W.Frag)(ta:TA):TI:=λσ H R=>ta σ H λvs H1=>∃a,vs=[.ref a]/\(∃xs,SqL K H1 a xs)/\R (Ite K a) H1
theorem Que{a:Expr}{ta:TA}{p pos:Pos}{es:List Expr}{tk:Nat}{tpos:Pos}(hg:Gl X "enumerate")(hm:X.mg "enumerate" =none)(ha:PA X [a] ta)(hs:starEach [a] X.env=[(false,eval a X.env)]):
  PI X (.Tuple es tk tpos) (.Call (.Name "enumerate" p) [a] [] pos) (QxS X.K ta):=by
 intro pins s σ H R I h
 refine Call_ (QeA I hg hm PyProof.Rows.boot_enumerate (Zas (thn (ha pos pins s σ H _ I h) λus s1 ⟨vs,H1,I1,r1,q1⟩=>?_) hs rfl))
 obtain⟨l,e,⟨xs,hq⟩,q⟩:=q1
 subst e
 obtain⟨u,rfl,ru⟩:=vals1 r1
 cases ru
 obtain⟨its,rv,pl,hz⟩:=I1.list hq
 refine call_enumerate_list pl.isList λh2 he2 hi2 hz2 hk2=>?_
 have I2:Inv X pins σ H1 {s1 with heap:=h2}:=I1.kept (t':=s1.toks) hk2
 refine wpAny_pyIter_enum he2 ⟨_,[s1.heap.objs.size+1,s1.heap.objs.size],_,_,H1,rfl,I2,QpD l _ _ (Nat.succ_ne_self _),⟨_,he2,hi2⟩,λb hb=>?_,q⟩
 have hb:b=s1.heap.objs.size+1∨b=s1.heap.objs.size:=by simpa using hb
 have hle:s1.heap.objs.size<=b:=by rcases hb with rfl | rfl<;>omega
 exact I1.Qmv hle (I1.hok.fresh hle)
end
noncomputable def Itz(K:PySem.W.Frag)(a b:Addr):It:=
 ⟨λi H=>∃xs ys x y,SqL K H a xs/\SqL K H b ys/\xs[i]? =some x/\ys[i]? =some y,λi H v H'=>∃p x y,v= .ref p/\H p=none/\H'=upd H p (.tup [x,y])/\(∀xs,SqL K H a xs->xs[i]? =some x)/\∀ys,SqL K H b ys->ys[i]? =some y,
  λi H=>∃xs ys,SqL K H a xs/\SqL K H b ys/\(xs.length<=i∨ys.length<=i)⟩
structure QnM (z TI TO i1 i2:Addr):Prop where
 a:TI≠z
 b:TO≠z
 c:i1≠z
 d:i2≠z
 e:TI≠TO
 f:TI≠i1
 g:TI≠i2
 h:TO≠i1
 i:TO≠i2
 j:i1≠i2
theorem QiU{h:Heap}(hz:IsZip h z T1 T2 x)(hA:IsPair h T1 a b)(hB:IsPair h T2 c d)(h1:h.IsListIter i1 l1 k)(h2:h.IsListIter i2 l2 k):∀b∈[z,T1,T2,i1,i2],NL h b:=
 fa1 (.zip hz) (fa1 (.tup hA) (fa1 (.tup hB) (fa1 (.it h1) (fa1 (.it h2) λ_ h=>nomatch h))))
theorem Qql{X:Cx}{s:Shared}(D:QnM z T1 T2 i1 i2)(I:Inv X pins σ H s)(hf:∀b∈[z,T1,T2,i1,i2],Qdj X pins H b)(O:∀b∈[z,T1,T2,i1,i2],NL s.heap b)(hq1:SqL X.K H l1 xs)(hq2:SqL X.K H l2 ys):ZipApart z T1 T2 i1 i2 l1 l2:=by
 have A1:=λb hb=>(O b hb).apart I (hf b hb).1 hq1
 have A2:=λb hb=>(O b hb).apart I (hf b hb).1 hq2
 exact⟨D.a,D.b,D.c,D.d,D.e,D.f,D.g,D.h,D.i,D.j,A1 z mm0,A1 T2 mm2,A1 i1 mm3,A1 i2 mm4,A2 z mm0,A2 T2 mm2,A2 i1 mm3,A2 i2 mm4⟩
theorem QrE{P:Program}{w:World}{K:PySem.W.Frag}{es:List Expr}{tk:Nat}{tpos:Pos}(l1 l2 z TI TO i1 i2:Addr)(D:QnM z TI TO i1 i2):
  Turn P w K (.Tuple es tk tpos) (Itz K l1 l2) [z,TI,TO,i1,i2] z (λi h=>IsZip h z TI TO .none/\IsPair h TI (.ref i1) (.ref i2)/\(∃a b,IsPair h TO a b)/\h.IsListIter i1 l1 i/\h.IsListIter i2 l2 i) where
 mem:=mm0
 obj:=λi h st b hb=>by
  obtain⟨hz,hTI,⟨p,q,hTO⟩,h1,h2⟩:=st
  exact(QiU hz hTI hTO h1 h2 b hb).obj
 keep:=λi h h' st k=>by
  obtain⟨hz,hTI,⟨p,q,hTO⟩,h1,h2⟩:=st
  exact⟨k z mm0 _ hz,k TI mm1 _ hTI,⟨p,q,k TO mm2 _ hTO⟩,h1.at (k i1 mm3),h2.at (k i2 mm4)⟩
 item:=by
  intro X hP hw hK hc i pins s σ H E I hf st hg
  subst hP hw hK
  obtain⟨hz,hTI,⟨a0,b0,hTO⟩,h1,h2⟩:=st
  obtain⟨xs,ys,x,y,hq1,hq2,hx,hy⟩:=hg
  obtain⟨its,rv,p,hzz⟩:=I.list hq1
  obtain⟨its2,rv2,p2,hzz2⟩:=I.list hq2
  obtain⟨u,hu,ru⟩:=rv.get hx
  obtain⟨u2,hu2,ru2⟩:=rv2.get hy
  have O:=QiU hz hTI hTO h1 h2
  refine wpAny_pyNext_zip_item (Qql D I hf O hq1 hq2) hz hTI hTO h1 h2 p.isList p2.isList (x:=u) (y:=u2) (by simpa using hu) (by simpa using hu2) λh3 z3 TO3 a3 b3 T3 sz3 k3=>?_
  refine⟨.ref s.heap.objs.size,rfl,wpAny_letOwnedTupleGo_zip z3 λh4 z4 hs4=>?_⟩
  replace hs4:Heap.SameBut z h3 h4:=hs4
  have kk:∀b o,b∉[z,TI,TO,i1,i2]->s.heap.get? b=some o->h4.get? b=some o:=λb o hb q=>
   hs4.extBut b o (nmm hb mm0) (k3 b o (nmm hb mm0) (nmm hb mm2) (nmm hb mm3) (nmm hb mm4) q)
  have TI4:IsPair h4 TI (.ref i1) (.ref i2):=hs4.extBut _ _ D.a (k3 _ _ D.a D.e D.f D.g hTI)
  have TO4:IsPair h4 TO u u2:=hs4.extBut _ _ D.b TO3
  have a4:h4.IsListIter i1 l1 (i+1):=a3.extBut hs4.extBut D.c
  have b4:h4.IsListIter i2 l2 (i+1):=b3.extBut hs4.extBut D.d
  exact⟨.ref s.heap.objs.size,upd H s.heap.objs.size (.tup [x,y]),I.QsP (t':=s.toks) hf kk (λb hb=>(QiU z4 TI4 TO4 a4 b4 b hb).ex) (Zq _) ⟨by show 2<=sizeLine;decide,_,.cons ru (.cons ru2 .nil),_,(hs4.2 _ (Nat.ne_of_gt (O z mm0).lt)).trans T3,rfl,_,rfl⟩,rfl,
   ⟨_,x,y,rfl,I.hok.fresh (Zq _),rfl,λzs hy'=>by rw[I.Qf1 hy' hq1];exact hx,λzs hy'=>by rw[I.Qf1 hy' hq2];exact hy⟩,⟨z4,TI4,⟨_,_,TO4⟩,a4,b4⟩,λb hb=>by rw[Qx (ZL (O b hb).lt)];exact(hf b hb).1⟩
 done:=by
  intro X hP hw hK hc i pins s σ H E I hf st hg
  subst hP hw hK
  obtain⟨hz,hTI,⟨a0,b0,hTO⟩,h1,h2⟩:=st
  obtain⟨xs,ys,hq1,hq2,hx⟩:=hg
  obtain⟨its,rv,p,hzz⟩:=I.list hq1
  obtain⟨its2,rv2,p2,hzz2⟩:=I.list hq2
  have hl:=rv.length
  have hl2:=rv2.length
  refine wpAny_pyNext_zip_end (I.ok.hd hc) (Qql D I hf (QiU hz hTI hTO h1 h2) hq1 hq2) hz hTI hTO h1 h2 p.isList p2.isList (by rcases hx with hx | hx;(left;simp;omega);(right;simp;omega)) λh3 k3=>⟨rfl,?_⟩
  exact I.turns (t':=s.toks) hf λb o hb q=>k3 b o (nmm hb mm0) (nmm hb mm2) (nmm hb mm3) (nmm hb mm4) q
 self:=λ_ _ _ _ _ st h=>wpAny_pyIter_zip st.1 h
section
noncomputable def Qy4(K:PySem.W.Frag)(ta:TA):TI:=λσ H R=>ta σ H λvs H1=>∃a b,vs=[.ref a,.ref b]/\(∃xs,SqL K H1 a xs)/\(∃ys,SqL K H1 b ys)/\R (Itz K a b) H1
theorem QqF{a b:Expr}{ta:TA}{p pos:Pos}{es:List Expr}{tk:Nat}{tpos:Pos}(hg:Gl X "zip")(hm:X.mg "zip" =none)(ha:PA X [a,b] ta)(hs:starEach [a,b] X.env=[(false,eval a X.env),(false,eval b X.env)])(hs2:starEach [b] X.env=[(false,eval b X.env)]):
  PI X (.Tuple es tk tpos) (.Call (.Name "zip" p) [a,b] [] pos) (Qy4 X.K ta):=by
 intro pins s σ H R I h
 refine Call_ (QeA I hg hm PyProof.Rows.boot_zip (Zas (thn (ha pos pins s σ H _ I h) λus s1 ⟨vs,H1,I1,r1,q1⟩=>?_) (by rw[hs,hs2]) (by rw[hs2];rfl)))
 obtain⟨l,l2,e,⟨xs,hq⟩,⟨ys,hq2⟩,q⟩:=q1
 subst e
 obtain⟨u,u2,rfl,ru,ru2⟩:=vals2 r1
 cases ru
 cases ru2
 obtain⟨its,rv,pl,hz⟩:=I1.list hq
 obtain⟨its2,rv2,pl2,hz2⟩:=I1.list hq2
 refine call_zip_2 pl.isList pl2.isList λh2 hz hTI hTO h1 h2' hsz hk2=>?_
 have I2:Inv X pins σ H1 {s1 with heap:=h2}:=I1.kept (t':=s1.toks) hk2
 refine wpAny_pyIter_zip hz ⟨_,[s1.heap.objs.size+4,s1.heap.objs.size+2,s1.heap.objs.size+3,s1.heap.objs.size,s1.heap.objs.size+1],_,_,H1,rfl,I2,QrE l l2 _ _ _ _ _ ⟨?_,?_,?_,?_,?_,?_,?_,?_,?_,?_⟩,⟨hz,hTI,⟨_,_,hTO⟩,h1,h2'⟩,λb hb=>?_,q⟩
 iterate 10 (exact(by intro e;first | (have e':(s1.heap.objs.size:Nat)+_=_:=e;omega) | (have e':(s1.heap.objs.size:Nat)=_:=e;omega)))
 have hle:s1.heap.objs.size<=b:=by
  simp only[Zo,ZaT,or_false]at hb
  rcases hb with rfl | rfl | rfl | rfl | rfl<;>first | exact Zq _ | exact Nat.le_add_right _ _
 exact I1.Qmv hle (I1.hok.fresh hle)
end
end L2
namespace L2
open PySem PySem.Spec
section
variable {prog:Program}{w:World}{A:Around}{E:Value->Shared->Prop}{s:Shared}
structure Six (z TI TO i1 i2 i3:Addr):Prop where
 TIz:TI≠z
 TOz:TO≠z
 i1z:i1≠z
 i2z:i2≠z
 i3z:i3≠z
 TITO:TI≠TO
 TIi1:TI≠i1
 TIi2:TI≠i2
 TIi3:TI≠i3
 TOi1:TO≠i1
 TOi2:TO≠i2
 TOi3:TO≠i3
 i12:i1≠i2
 i13:i1≠i3
 i23:i2≠i3
end
section
variable {prog:Program}{w:World}{A:Around}{E:Value->Shared->Prop}{s:Shared}
end
open PyProof.Rows
section
end
end L2
namespace HS
open PySem PySem.Spec PyProof.Rows L2
inductive Ob where
 | ins (x:Str) (ns:List Str) | pin (a:Addr) | pair
noncomputable def Ob.n:Ob->Nat
 | .ins _ _=>1
 | .pin _=>0
 | .pair=>0
inductive D where
 | non | bl (b:Bool) | int (i:Int) | str (x:Str) | tup (xs:List D) | lst (xs:List D) | exc (x:Str) | dk (ks:List (List Int))
 | obj (o:Ob) (xs:List D)
mutual
noncomputable def D.flat:D->Bool
 | .lst _=>false
 | .tup xs=>QX xs
 | .non=>true
 | .bl _=>true
 | .int _=>true
 | .str _=>true
 | .exc _=>true
 | .dk _=>false
 | .obj _ _=>false
noncomputable def QX:List D->Bool
 | []=>true
 | d::ds=>d.flat && QX ds
end
mutual
noncomputable def D.nl:D->Nat
 | .lst xs=>nls xs+1
 | .tup xs=>nls xs
 | .non=>0
 | .bl _=>0
 | .int _=>0
 | .str _=>0
 | .exc _=>0
 | .dk _=>1
 | .obj o xs=>nls xs+o.n
noncomputable def nls:List D->Nat
 | []=>0
 | d::ds=>d.nl+nls ds
end
mutual
theorem QcV:∀(d:D),d.flat=true->d.nl=0
 | .non,_=>rfl
 | .bl _,_=>rfl
 | .int _,_=>rfl
 | .str _,_=>rfl
 | .exc _,_=>rfl
 | .dk _,h=>by simp[D.flat]at h
 | .obj _ _,h=>by simp[D.flat]at h
 | .tup xs,h=>by simp only[D.nl];simp only[D.flat]at h;exact Qik xs h
 | .lst xs,h=>by simp[D.flat]at h
theorem Qik:∀(ds:List D),QX ds=true->nls ds=0
 | [],_=>rfl
 | d::ds,h=>by simp only[QX,Zg]at h;simp only[nls,QcV d h.1,Qik ds h.2]
end
def Fix(K:PySem.W.Frag)(H:Hp)(a:Addr)(vs:List V):Prop:=
 (∃o,H a=some (.frz o (.lst vs)))∨
  ∃(its:List Value) (n:Nat),K.lookup a=some {cls:= .type "list",data:= .seq its.toArray n}/\vs.length<=sizeLine/\Qq vs its
def QcR(a C:Addr)(h:Heap):Prop:=∃o vs,h.get? a=some o/\o.cls= .ref C/\o.data= .fields vs
def ExcAt(K:PySem.W.Frag)(H:Hp)(a:Addr)(x:Str):Prop:=∃C,PySem.W.nsIn K mainGlobals x=some (some (.ref C))/\H a=some (.ext (QcR a C))
theorem QoR{K:PySem.W.Frag}{H H':Hp}{a:Addr}{x:Str}(s:Qr H H')(h:ExcAt K H a x):ExcAt K H' a x:=by
 obtain⟨C,h1,h2⟩:=h
 exact⟨C,h1,s _ _ h2⟩
theorem Qpp{K:PySem.W.Frag}{H:Hp}{a p:Addr}{x:Str}{zs ys:List V}(hp:H p=some (.lst zs))(h:ExcAt K H a x):ExcAt K (upd H p (.lst ys)) a x:=by
 obtain⟨C,h1,h2⟩:=h
 exact⟨C,h1,by rw[Qx (Qk5 h2 hp (by intro z;cases z))];exact h2⟩
noncomputable def dkC(ks:List (List Int)):List (List Key×V):=ks.map λk=>(k.map Sum.inl,V.bl true)
noncomputable def Qb3(K:PySem.W.Frag)(H:Hp)(v:V)(vs:List V)(A:List Addr):Ob->Prop
 | .ins x ns=>∃a C dx,v= .ref a/\A=[a]/\PySem.W.nsIn K mainGlobals x=some (some (.ref C))/\H a=some (.ins C dx (ns.zip vs))/\ns.length=vs.length
 | .pin a=>v= .ref a/\vs=[v]/\A=[]
 | .pair=>A=[]/\v≠ .non/\∃u,vs=[v,u]
theorem Qb3.same{K:PySem.W.Frag}{H H':Hp}{v:V}{vs:List V}{A:List Addr}(s:Qr H H'):∀{o:Ob},Qb3 K H v vs A o->Qb3 K H' v vs A o
 | .ins _ _,⟨a,C,dx,e1,e2,e3,e4,e5⟩=>⟨a,C,dx,e1,e2,e3,s _ _ e4,e5⟩
 | .pin _,h=>h
 | .pair,h=>h
theorem Qb3.upd{K:PySem.W.Frag}{H:Hp}{v:V}{vs:List V}{A:List Addr}{p:Addr}{u:HO}(hn:p∉A):∀{o:Ob},Qb3 K H v vs A o->Qb3 K (upd H p u) v vs A o
 | .ins _ _,⟨a,C,dx,e1,e2,e3,e4,e5⟩=>⟨a,C,dx,e1,e2,e3,by rw[Qx (λz=>hn (by rw[e2,← z];exact List.mem_singleton_self a))];exact e4,e5⟩
 | .pin _,h=>h
 | .pair,h=>h
theorem Qb3.mem{K:PySem.W.Frag}{H:Hp}{v:V}{vs:List V}{A:List Addr}:∀{o:Ob},Qb3 K H v vs A o->∀a∈A,∃u,H a=some u
 | .ins _ _,⟨a,C,dx,e1,e2,e3,e4,e5⟩,b,hb=>by rw[e2]at hb;rw[Zl.mp hb];exact⟨_,e4⟩
 | .pin _,⟨_,_,e⟩,b,hb=>by rw[e]at hb;simp at hb
 | .pair,⟨e,_⟩,b,hb=>by rw[e]at hb;simp at hb
theorem Qb3.len{K:PySem.W.Frag}{H:Hp}{v:V}{vs:List V}{A:List Addr}:∀{o:Ob},Qb3 K H v vs A o->A.length=o.n
 | .ins _ _,⟨a,C,dx,e1,e2,e3,e4,e5⟩=>by rw[e2];rfl
 | .pin _,⟨_,_,e⟩=>by rw[e];rfl
 | .pair,⟨e,_⟩=>by rw[e];rfl
theorem Qb3.ne{K:PySem.W.Frag}{H:Hp}{v:V}{vs:List V}{A:List Addr}:∀{o:Ob},Qb3 K H v vs A o->v≠ .non
 | .ins _ _,⟨a,C,dx,e1,_⟩=>by rw[e1];exact V.noConfusion
 | .pin _,⟨e,_,_⟩=>by rw[e];exact V.noConfusion
 | .pair,⟨_,h,_⟩=>h
mutual
noncomputable def Rp(K:PySem.W.Frag)(H:Hp):D->V->List Addr->Prop
 | .non,v,F=>v= .non/\F=[]
 | .bl b,v,F=>v= .bl b/\F=[]
 | .int i,v,F=>v= .int i/\F=[]
 | .str x,v,F=>v= .str x/\F=[]
 | .exc x,v,F=>(∃a,v= .ref a/\ExcAt K H a x)/\F=[]
 | .dk ks,v,F=>∃a,v= .ref a/\F=[a]/\H a=some (.dT (dkC ks))
 | .obj o ds,v,F=>∃vs A G,F=A++G/\Qb3 K H v vs A o/\Rps K H ds vs G
 | .tup ds,v,F=>∃a vs,v= .ref a/\SqT K H a vs/\Rps K H ds vs F
 | .lst ds,v,F=>ds.length<=sizeLine/\∃a vs,v= .ref a/\((∃G,F=a::G/\H a=some (.lst vs)/\Rps K H ds vs G)∨(Fix K H a vs/\Rps K H ds vs F))
noncomputable def Rps(K:PySem.W.Frag)(H:Hp):List D->List V->List Addr->Prop
 | [],vs,F=>vs=[]/\F=[]
 | d::ds,vs,F=>∃v ws F1 F2,vs=v::ws/\F=F1++F2/\Rp K H d v F1/\Rps K H ds ws F2
end
theorem Qmr{K:PySem.W.Frag}{H H':Hp}{a:Addr}{vs:List V}(s:Qr H H')(h:SqT K H a vs):SqT K H' a vs:=by
 rcases h with(h | ⟨o,h⟩) | h
 ·exact .inl (.inl (s _ _ h))
 ·exact .inl (.inr ⟨o,s _ _ h⟩)
 ·exact .inr h
theorem QlH{K:PySem.W.Frag}{H H':Hp}{a:Addr}{vs:List V}(s:Qr H H')(h:Fix K H a vs):Fix K H' a vs:=by
 rcases h with⟨o,h⟩ | h
 ·exact .inl ⟨o,s _ _ h⟩
 ·exact .inr h
theorem Qnx{K:PySem.W.Frag}{H:Hp}{a p:Addr}{vs zs ys:List V}(hp:H p=some (.lst zs))(h:SqT K H a vs):SqT K (upd H p (.lst ys)) a vs:=by
 rcases h with(h | ⟨o,h⟩) | h
 ·exact .inl (.inl (by rw[Qx (Qk5 h hp (by intro z;cases z))];exact h))
 ·exact .inl (.inr ⟨o,by rw[Qx (Qk5 h hp (by intro z;cases z))];exact h⟩)
 ·exact .inr h
theorem Qud{K:PySem.W.Frag}{H:Hp}{a p:Addr}{vs zs ys:List V}(hp:H p=some (.lst zs))(h:Fix K H a vs):Fix K (upd H p (.lst ys)) a vs:=by
 rcases h with⟨o,h⟩ | h
 ·exact .inl ⟨o,by rw[Qx (Qk5 h hp (by intro z;cases z))];exact h⟩
 ·exact .inr h
section
variable {K:PySem.W.Frag}{H H':Hp}
mutual
theorem Rp.same(s:Qr H H'):∀{d:D}{v:V}{F:List Addr},Rp K H d v F->Rp K H' d v F
 | .exc _,_,_,h=>by
  simp only[Rp]at h ⊢
  obtain⟨⟨a,e,q⟩,z⟩:=h
  exact⟨⟨a,e,QoR s q⟩,z⟩
 | .dk _,_,_,h=>by
  simp only[Rp]at h ⊢
  obtain⟨a,e,eF,q⟩:=h
  exact⟨a,e,eF,s _ _ q⟩
 | .obj _ _,_,_,h=>by
  simp only[Rp]at h ⊢
  obtain⟨vs,A,G,eF,q,r⟩:=h
  exact⟨vs,A,G,eF,q.same s,Rps.same s r⟩
 | .non,_,_,h=>h
 | .bl _,_,_,h=>h
 | .int _,_,_,h=>h
 | .str _,_,_,h=>h
 | .tup ds,_,_,h=>by
  simp only[Rp]at h ⊢
  obtain⟨a,vs,e,q,r⟩:=h
  exact⟨a,vs,e,Qmr s q,Rps.same s r⟩
 | .lst ds,_,_,h=>by
  simp only[Rp]at h ⊢
  obtain⟨hz,a,vs,e,⟨G,eF,q,r⟩ | ⟨q,r⟩⟩:=h
  ·exact⟨hz,a,vs,e,.inl ⟨G,eF,s _ _ q,Rps.same s r⟩⟩
  ·exact⟨hz,a,vs,e,.inr ⟨QlH s q,Rps.same s r⟩⟩
theorem Rps.same(s:Qr H H'):∀{ds:List D}{vs:List V}{F:List Addr},Rps K H ds vs F->Rps K H' ds vs F
 | [],_,_,h=>h
 | d::ds,_,_,h=>by
  simp only[Rps]at h ⊢
  obtain⟨v,ws,F1,F2,e,eF,r,q⟩:=h
  exact⟨v,ws,F1,F2,e,eF,Rp.same s r,Rps.same s q⟩
end
mutual
theorem Rp.upd{p:Addr}{zs ys:List V}(hp:H p=some (.lst zs)):∀{d:D}{v:V}{F:List Addr},Rp K H d v F->p∉F->Rp K (upd H p (.lst ys)) d v F
 | .exc _,_,_,h,_=>by
  simp only[Rp]at h ⊢
  obtain⟨⟨a,e,q⟩,z⟩:=h
  exact⟨⟨a,e,Qpp hp q⟩,z⟩
 | .dk _,_,_,h,hn=>by
  simp only[Rp]at h ⊢
  obtain⟨a,e,eF,q⟩:=h
  subst eF
  exact⟨a,e,rfl,by rw[Qx (λz=>hn (by rw[z];exact Zj))];exact q⟩
 | .obj _ _,_,_,h,hn=>by
  simp only[Rp]at h ⊢
  obtain⟨vs,A,G,eF,q,r⟩:=h
  subst eF
  exact⟨vs,A,G,rfl,q.upd λz=>hn (Zd _ z),Rps.upd hp r λz=>hn (Ze _ z)⟩
 | .non,_,_,h,_=>h
 | .bl _,_,_,h,_=>h
 | .int _,_,_,h,_=>h
 | .str _,_,_,h,_=>h
 | .tup ds,_,_,h,hn=>by
  simp only[Rp]at h ⊢
  obtain⟨a,vs,e,q,r⟩:=h
  exact⟨a,vs,e,Qnx hp q,Rps.upd hp r hn⟩
 | .lst ds,_,_,h,hn=>by
  simp only[Rp]at h ⊢
  obtain⟨hz,a,vs,e,⟨G,eF,q,r⟩ | ⟨q,r⟩⟩:=h
  ·subst eF
   have h1:a≠p:=λz=>hn (by rw[z];exact Zj)
   exact⟨hz,a,vs,e,.inl ⟨G,rfl,by rw[Qx h1];exact q,Rps.upd hp r λz=>hn (Zb _ z)⟩⟩
  ·exact⟨hz,a,vs,e,.inr ⟨Qud hp q,Rps.upd hp r hn⟩⟩
theorem Rps.upd{p:Addr}{zs ys:List V}(hp:H p=some (.lst zs)):∀{ds:List D}{vs:List V}{F:List Addr},Rps K H ds vs F->p∉F->Rps K (upd H p (.lst ys)) ds vs F
 | [],_,_,h,_=>h
 | d::ds,_,_,h,hn=>by
  simp only[Rps]at h ⊢
  obtain⟨v,ws,F1,F2,e,eF,r,q⟩:=h
  subst eF
  exact⟨v,ws,F1,F2,e,rfl,Rp.upd hp r λz=>hn (Zd _ z),Rps.upd hp q λz=>hn (Ze _ z)⟩
end
mutual
theorem Rp.mem:∀{d:D}{v:V}{F:List Addr},Rp K H d v F->∀a∈F,∃u,H a=some u
 | .non,_,_,h,a,ha=>by simp only[Rp]at h;rw[h.2]at ha;simp at ha
 | .bl _,_,_,h,a,ha=>by simp only[Rp]at h;rw[h.2]at ha;simp at ha
 | .int _,_,_,h,a,ha=>by simp only[Rp]at h;rw[h.2]at ha;simp at ha
 | .str _,_,_,h,a,ha=>by simp only[Rp]at h;rw[h.2]at ha;simp at ha
 | .exc _,_,_,h,a,ha=>by simp only[Rp]at h;rw[h.2]at ha;simp at ha
 | .dk _,_,_,h,a,ha=>by simp only[Rp]at h;obtain⟨b,e,eF,q⟩:=h;subst eF;rw[Zl.mp ha];exact⟨_,q⟩
 | .obj _ _,_,_,h,a,ha=>by
  simp only[Rp]at h
  obtain⟨vs,A,G,eF,q,r⟩:=h
  subst eF
  rcases Zm.mp ha with z | z
  ·exact q.mem a z
  ·exact Rps.mem r a z
 | .tup ds,_,_,h,a,ha=>by
  simp only[Rp]at h
  obtain⟨_,vs,e,q,r⟩:=h
  exact Rps.mem r a ha
 | .lst ds,_,_,h,a,ha=>by
  simp only[Rp]at h
  obtain⟨_,b,vs,e,⟨G,eF,q,r⟩ | ⟨q,r⟩⟩:=h
  ·subst eF
   rcases Zo.mp ha with z | z
   ·exact⟨_,by rw[z];exact q⟩
   ·exact Rps.mem r a z
  ·exact Rps.mem r a ha
theorem Rps.mem:∀{ds:List D}{vs:List V}{F:List Addr},Rps K H ds vs F->∀a∈F,∃u,H a=some u
 | [],_,_,h,a,ha=>by simp only[Rps]at h;rw[h.2]at ha;simp at ha
 | d::ds,_,_,h,a,ha=>by
  simp only[Rps]at h
  obtain⟨v,ws,F1,F2,e,eF,r,q⟩:=h
  subst eF
  rcases Zm.mp ha with z | z
  ·exact Rp.mem r a z
  ·exact Rps.mem q a z
end
mutual
theorem Rp.Qbc:∀{d:D}{v:V}{F:List Addr},Rp K H d v F->d.flat=true->F=[]
 | .non,_,_,h,_=>by simp only[Rp]at h;exact h.2
 | .bl _,_,_,h,_=>by simp only[Rp]at h;exact h.2
 | .int _,_,_,h,_=>by simp only[Rp]at h;exact h.2
 | .str _,_,_,h,_=>by simp only[Rp]at h;exact h.2
 | .exc _,_,_,h,_=>by simp only[Rp]at h;exact h.2
 | .dk _,_,_,h,hf=>by simp[D.flat]at hf
 | .obj _ _,_,_,h,hf=>by simp[D.flat]at hf
 | .tup ds,_,_,h,hf=>by
  simp only[Rp]at h
  simp only[D.flat]at hf
  obtain⟨_,vs,e,q,r⟩:=h
  exact Rps.Qbc r hf
 | .lst ds,_,_,h,hf=>by simp[D.flat]at hf
theorem Rps.Qbc:∀{ds:List D}{vs:List V}{F:List Addr},Rps K H ds vs F->QX ds=true->F=[]
 | [],_,_,h,_=>by simp only[Rps]at h;exact h.2
 | d::ds,_,_,h,hf=>by
  simp only[Rps]at h
  simp only[QX,Zg]at hf
  obtain⟨v,ws,F1,F2,e,eF,r,q⟩:=h
  rw[eF,Rp.Qbc r hf.1,Rps.Qbc q hf.2];rfl
end
mutual
theorem Rp.QS:∀{d:D}{v:V}{F:List Addr},Rp K H d v F->F.length<=d.nl
 | .non,_,_,h=>by simp only[Rp]at h;rw[h.2];exact ZT _
 | .bl _,_,_,h=>by simp only[Rp]at h;rw[h.2];exact ZT _
 | .int _,_,_,h=>by simp only[Rp]at h;rw[h.2];exact ZT _
 | .str _,_,_,h=>by simp only[Rp]at h;rw[h.2];exact ZT _
 | .exc _,_,_,h=>by simp only[Rp]at h;rw[h.2];exact ZT _
 | .dk _,_,_,h=>by simp only[Rp]at h;obtain⟨b,e,eF,q⟩:=h;subst eF;exact Zq _
 | .obj _ _,_,_,h=>by
  simp only[Rp]at h
  obtain⟨vs,A,G,eF,q,r⟩:=h
  rw[eF,Zk,q.len]
  simp only[D.nl]
  have:=Rps.QS r
  omega
 | .tup ds,_,_,h=>by
  simp only[Rp]at h
  obtain⟨_,vs,e,q,r⟩:=h
  simp only[D.nl]
  exact Rps.QS r
 | .lst ds,_,_,h=>by
  simp only[Rp]at h
  simp only[D.nl]
  obtain⟨_,b,vs,e,⟨G,eF,q,r⟩ | ⟨q,r⟩⟩:=h
  ·rw[eF,Zi];have:=Rps.QS r;omega
  ·have:=Rps.QS r;omega
theorem Rps.QS:∀{ds:List D}{vs:List V}{F:List Addr},Rps K H ds vs F->F.length<=nls ds
 | [],_,_,h=>by simp only[Rps]at h;rw[h.2];exact ZT _
 | d::ds,_,_,h=>by
  simp only[Rps]at h
  obtain⟨v,ws,F1,F2,e,eF,r,q⟩:=h
  simp only[nls]
  rw[eF,Zk]
  have:=Rp.QS r
  have:=Rps.QS q
  omega
end
theorem Rps.length:∀{ds:List D}{vs:List V}{F:List Addr},Rps K H ds vs F->ds.length=vs.length
 | [],_,_,h=>by simp only[Rps]at h;rw[h.1];rfl
 | d::ds,_,_,h=>by
  simp only[Rps]at h
  obtain⟨v,ws,F1,F2,e,eF,r,q⟩:=h
  rw[e,Zi,Zi,Rps.length q]
theorem Rps.append:∀{ds es:List D}{vs ws:List V}{F G:List Addr},Rps K H ds vs F->Rps K H es ws G->Rps K H (ds++es) (vs++ws) (F++G)
 | [],_,_,_,_,_,h,g=>by simp only[Rps]at h;rw[h.1,h.2];exact g
 | d::ds,_,_,_,_,_,h,g=>by
  simp only[Rps,Zbq]at h ⊢
  obtain⟨v,ws,F1,F2,e,eF,r,q⟩:=h
  subst e eF
  exact⟨v,_,F1,_,rfl,by rw[Zaj],r,Rps.append q g⟩
theorem Rps.get:∀{ds:List D}{vs:List V}{F:List Addr}{i:Nat}{d:D},Rps K H ds vs F->ds[i]? =some d->∃v F1 G F2,vs[i]? =some v/\F=F1++(G++F2)/\Rp K H d v G/\(F.length=nls ds->G.length=d.nl)
 | [],_,_,_,_,_,e=>by simp at e
 | d::ds,_,_,0,_,h,e=>by
  simp only[Rps]at h
  obtain⟨v,ws,F1,F2,e1,eF,r,q⟩:=h
  simp at e;subst e e1 eF
  refine⟨v,[],F1,F2,by simp,rfl,r,λhl=>?_⟩
  simp only[nls,Zk]at hl
  have:=Rp.QS r
  have:=Rps.QS q
  omega
 | d::ds,_,_,i+1,_,h,e=>by
  simp only[Rps]at h
  obtain⟨v,ws,F1,F2,e1,eF,r,q⟩:=h
  obtain⟨v',G1,G,G2,h1,h2,h3,h4⟩:=Rps.get q (by simpa using e)
  have l1:=Rp.QS r
  have l2:=Rps.QS q
  subst e1 eF
  refine⟨v',F1++G1,G,G2,by simpa using h1,by rw[h2,Zaj],h3,λhl=>h4 ?_⟩
  simp only[nls,Zk]at hl
  omega
theorem Fix.sq{K:PySem.W.Frag}{H:Hp}{a:Addr}{vs:List V}(h:Fix K H a vs):SqL K H a vs:=by
 rcases h with⟨o,h⟩ | ⟨its,n,h,hz,r⟩
 ·exact .inl (.inr ⟨o,h⟩)
 ·exact .inr ⟨_,its.toArray,n,h,rfl,rfl,rfl,by rw[Zx,← r.length];exact hz,by simpa using r⟩
theorem _root_.L2.Inv.QlR(I:Inv X pins σ H s)(h:H a=some (.lst vs)∨Fix X.K H a vs):
  vs.length<=sizeLine/\∃(its:List Value) (n:Nat),Qq vs its/\vs.length=its.length/\s.heap.get? a=some {cls:= .type "list",data:= .seq its.toArray n}:=by
 rcases h with h | ⟨o,h⟩ | ⟨its,n,h,hz,r⟩
 ·exact I.Qsd h
 ·obtain⟨e,hz,its,n,r,e2⟩:=I.hok a _ h
  exact⟨hz,its,n,r,r.length,e2⟩
 ·exact⟨hz,its,n,r,r.length,I.kIn _ _ h⟩
theorem Rp.lst_inv{K:PySem.W.Frag}{H:Hp}{ds:List D}{v:V}{F:List Addr}(h:Rp K H (.lst ds) v F):
  ∃a vs G,v= .ref a/\(H a=some (.lst vs)∨Fix K H a vs)/\Rps K H ds vs G/\ds.length<=sizeLine/\(F=a::G∨F=G):=by
 simp only[Rp]at h
 obtain⟨hz,a,vs,e,⟨G,eF,q,r⟩ | ⟨q,r⟩⟩:=h
 ·exact⟨a,vs,G,e,.inl q,r,hz,.inl eF⟩
 ·exact⟨a,vs,F,e,.inr q,r,hz,.inr rfl⟩
theorem QP{K:PySem.W.Frag}{H:Hp}{a:Addr}{vs:List V}(h:H a=some (.lst vs)∨Fix K H a vs):SqL K H a vs:=h.elim (λh=>SqL.of h) Fix.sq
theorem Rp.QaQ{K:PySem.W.Frag}{H:Hp}{ds:List D}{v:V}{F:List Addr}(h:Rp K H (.tup ds) v F):∃a vs,v= .ref a/\SqT K H a vs/\Rps K H ds vs F:=by
 simp only[Rp]at h
 exact h
theorem Rp.Qdo{K:PySem.W.Frag}{H:Hp}{ds:List D}{a:Addr}{vs:List V}{G:List Addr}(h:H a=some (.lst vs))(r:Rps K H ds vs G)(hz:ds.length<=sizeLine):Rp K H (.lst ds) (.ref a) (a::G):=by
 simp only[Rp]
 exact⟨hz,a,vs,rfl,.inl ⟨G,rfl,h,r⟩⟩
theorem Rp.Qlp{K:PySem.W.Frag}{H:Hp}{ds:List D}{a:Addr}{vs:List V}{G:List Addr}(h:H a=some (.tup vs))(r:Rps K H ds vs G):Rp K H (.tup ds) (.ref a) G:=by
 simp only[Rp]
 exact⟨a,vs,rfl,SqT.of h,r⟩
theorem Rp.int_inv{K:PySem.W.Frag}{H:Hp}{i:Int}{v:V}{F:List Addr}(h:Rp K H (.int i) v F):v= .int i:=by simp only[Rp]at h;exact h.1
theorem Rp.QeG{K:PySem.W.Frag}{H:Hp}{i:Bool}{v:V}{F:List Addr}(h:Rp K H (.bl i) v F):v= .bl i:=by simp only[Rp]at h;exact h.1
theorem Rp.Qfz{K:PySem.W.Frag}{H:Hp}{v:V}{F:List Addr}(h:Rp K H .non v F):v= .non:=by simp only[Rp]at h;exact h.1
theorem Rp.str_inv{K:PySem.W.Frag}{H:Hp}{i:Str}{v:V}{F:List Addr}(h:Rp K H (.str i) v F):v= .str i:=by simp only[Rp]at h;exact h.1
theorem Rp.int_mk{K:PySem.W.Frag}{H:Hp}{i:Int}:Rp K H (.int i) (.int i) []:=by simp[Rp]
theorem Rp.QcO{K:PySem.W.Frag}{H:Hp}{i:Bool}:Rp K H (.bl i) (.bl i) []:=by simp[Rp]
theorem Rp.QfN{K:PySem.W.Frag}{H:Hp}:Rp K H .non .non []:=by simp[Rp]
theorem Rp.str_mk{K:PySem.W.Frag}{H:Hp}{i:Str}:Rp K H (.str i) (.str i) []:=by simp[Rp]
theorem Qay(h:H p=none):Qr H (L2.upd H p o):=λb u e=>by rw[Qx (Qbh e h)];exact e
end
end HS
namespace HS
open PySem PySem.Spec L2
noncomputable abbrev En:=List (Option (D×Bool))
structure R where
 d:D
 fr:Bool
 M:List Nat
structure RA where
 ds:List D
 fr:Bool
 M:List Nat
noncomputable abbrev DE:=En->Option R
noncomputable abbrev DA:=En->Option RA
noncomputable abbrev DT:=En->Option Bool
structure Rel (K:PySem.W.Frag) (H0:Hp) (A0:List Addr) (hs:List (V×D×List Addr)) (ρ:En) (F:Nat->List Addr) (σ:St) (H:Hp):Prop where
 len:ρ.length=σ.length
 val:∀(i:Nat) d b,ρ[i]? =some (some (d,b))->∃v,σ[i]? =some (some v)/\Rp K H d v (F i)
 own:∀(i:Nat) d,ρ[i]? =some (some (d,true))->(F i).length=d.nl/\(F i).Nodup/\(∀a∈F i,H0 a=none)/\(∀(j:Nat) d' b',j≠i->ρ[j]? =some (some (d',b'))->∀a∈F i,a∉F j)/\∀t∈hs,∀a∈F i,a∉t.2.2
 src:∀(i:Nat) d b,ρ[i]? =some (some (d,b))->∀a∈F i,H0 a=none∨a∈A0
 held:∀t∈hs,Rp K H t.2.1 t.1 t.2.2/\∀a∈t.2.2,H0 a=none∨a∈A0
 same:Qr H0 H
def Src(ρ:En)(F:Nat->List Addr)(H:Hp)(M:List Nat)(G:List Addr):Prop:=
 ∀a∈G,H a=none∨∃(i:Nat) (d:D) (b:Bool),ρ[i]? =some (some (d,b))/\a∈F i/\(b=true->i∈M)
noncomputable def nw(H:Hp)(a:Addr):Nat:=match H a with | none=>1 | some _=>0
def Cnt(F:Nat->List Addr)(H:Hp)(M:List Nat)(G:List Addr):Prop:=
 ∀a,G.count a<=nw H a+((M.map F).flatten).count a
def QaZ(ρ:En)(M:List Nat):Prop:=∀i∈M,∃d,ρ[i]? =some (some (d,true))
structure QN (K:PySem.W.Frag) (ρ:En) (F:Nat->List Addr) (H H':Hp) (r:R) (v:V) (G:List Addr):Prop where
 same:Qr H H'
 rp:Rp K H' r.d v G
 src:Src ρ F H r.M G
 cnt:r.fr=true->Cnt F H r.M G/\G.length=r.d.nl
 own:QaZ ρ r.M
structure Qla (K:PySem.W.Frag) (ρ:En) (F:Nat->List Addr) (H H':Hp) (r:RA) (vs:List V) (G:List Addr):Prop where
 same:Qr H H'
 rp:Rps K H' r.ds vs G
 src:Src ρ F H r.M G
 cnt:r.fr=true->Cnt F H r.M G/\G.length=nls r.ds
 own:QaZ ρ r.M
noncomputable def tV(K:PySem.W.Frag)(H0:Hp)(A0:List Addr)(f:DE):TE:=λσ H Q=>∃ρ hs F r,Rel K H0 A0 hs ρ F σ H/\f ρ=some r/\∀v H' G,QN K ρ F H H' r v G->Q v H'
noncomputable def tVA(K:PySem.W.Frag)(H0:Hp)(A0:List Addr)(f:DA):TA:=λσ H Q=>∃ρ hs F r,Rel K H0 A0 hs ρ F σ H/\f ρ=some r/\∀v H' G,Qla K ρ F H H' r v G->Q v H'
noncomputable def tVT(K:PySem.W.Frag)(H0:Hp)(A0:List Addr)(f:DT):TT:=λσ H Q=>∃ρ hs F b,Rel K H0 A0 hs ρ F σ H/\f ρ=some b/\∀H',Qr H H'->Q b H'
def SE(X:Cx)(e:Expr)(f:DE):Prop:=∀H0 A0,PE X e (tV X.K H0 A0 f)
def SA(X:Cx)(es:List Expr)(f:DA):Prop:=∀H0 A0,PA X es (tVA X.K H0 A0 f)
def ST(X:Cx)(e:Expr)(f:DT):Prop:=∀H0 A0,PT X e (tVT X.K H0 A0 f)
theorem _root_.L2.PE.mono(h:PE X e t)(m:∀σ H Q,t' σ H Q->t σ H Q):PE X e t':=λpins s σ H Q I q=>h pins s σ H Q I (m σ H Q q)
theorem _root_.L2.PT.mono(h:PT X e t)(m:∀σ H Q,t' σ H Q->t σ H Q):PT X e t':=λpins s σ H Q I q=>h pins s σ H Q I (m σ H Q q)
theorem _root_.L2.PA.mono(h:PA X e t)(m:∀σ H Q,t' σ H Q->t σ H Q):PA X e t':=λpos pins s σ H Q I q=>h pos pins s σ H Q I (m σ H Q q)
section
theorem Rel.ext(r:Rel K H0 A0 hs ρ F σ H)(s:Qr H H'):Rel K H0 A0 hs ρ F σ H' where
 len:=r.len
 val:=λi d b e=>let ⟨v,h1,h2⟩:=r.val i d b e;⟨v,h1,h2.same s⟩
 own:=r.own
 src:=r.src
 held:=λt ht=>⟨(r.held t ht).1.same s,(r.held t ht).2⟩
 same:=r.same.trans s
theorem Rel.mem(r:Rel K H0 A0 hs ρ F σ H)(e:ρ[i]? =some (some (d,b)))(h:a∈F i):∃u,H a=some u:=
 let ⟨_,_,h2⟩:=r.val i d b e;h2.mem a h
theorem QcU(h:H a=some o):nw H a=0:=by simp[nw,h]
theorem Qaz(h:H a=none):nw H a=1:=by simp[nw,h]
theorem Rel.fl0(r:Rel K H0 A0 hs ρ F σ H)(ow:QaZ ρ M)(h:H a=none):((M.map F).flatten).count a=0:=by
 rw[Zz]
 intro hm
 obtain⟨l,hl,ha⟩:=ZaU.mp hm
 obtain⟨i,hi,rfl⟩:=ZX.mp hl
 obtain⟨d,e⟩:=ow i hi
 obtain⟨vs,q⟩:=r.mem e ha
 rw[h]at q;cases q
theorem Cnt.append(r:Rel K H0 A0 hs ρ F σ H)(c1:Cnt F H M1 G1)(c2:Cnt F H1 M2 G2)(s:Qr H H1)(m1:∀a∈G1,∃u,H1 a=some u):Cnt F H (M1++M2) (G1++G2):=λa=>by
 rw[ZY,ZU,List.flatten_append,ZY]
 have h1:=c1 a
 have h2:=c2 a
 cases q:H1 a with
 | some o=>rw[QcU q]at h2;omega
 | none=>
  rw[Qaz q]at h2
  have h3:H a=none:=s.free q
  rw[Qaz h3]at h1 ⊢
  have h4:G1.count a=0:=Zz.mpr λhm=>by obtain⟨vs,z⟩:=m1 a hm;rw[q]at z;cases z
  omega
theorem Src.append(c1:Src ρ F H M1 G1)(c2:Src ρ F H1 M2 G2)(s:Qr H H1):Src ρ F H (M1++M2) (G1++G2):=λa ha=>by
 rcases Zm.mp ha with h | h
 ·rcases c1 a h with z | ⟨i,d,b,e,m,w⟩
  ·exact .inl z
  ·exact .inr ⟨i,d,b,e,m,λhb=>Zd _ (w hb)⟩
 ·rcases c2 a h with z | ⟨i,d,b,e,m,w⟩
  ·exact .inl (s.free z)
  ·exact .inr ⟨i,d,b,e,m,λhb=>Ze _ (w hb)⟩
theorem QaZ.append(h1:QaZ ρ M1)(h2:QaZ ρ M2):QaZ ρ (M1++M2):=λi hi=>(Zm.mp hi).elim (h1 i) (h2 i)
theorem QaZ.nil:QaZ ρ []:=λi hi=>by simp at hi
theorem Src.nil:Src ρ F H M []:=λa ha=>by simp at ha
theorem Cnt.nil:Cnt F H M []:=λa=>by simp
theorem QN.flat(s:Qr H H')(r:Rp K H' d v [])(hf:d.flat=true:=by rfl):QN K ρ F H H' ⟨d,true,[]⟩ v []:=⟨s,r,Src.nil,λ_=>⟨Cnt.nil,(QcV d hf).symm⟩,QaZ.nil⟩
theorem QN.sub(p:QN K ρ F H H1 r v G)(rp:Rp K H1 d u G')(hs:∀a,G'.count a<=G.count a)(hn:G.length=r.d.nl->G'.length=d.nl):QN K ρ F H H1 ⟨d,r.fr,r.M⟩ u G' where
 same:=p.same
 rp:=rp
 src:=λa ha=>p.src a (by
  have:=hs a
  have h1:0<G'.count a:=ZS.mpr ha
  exact ZS.mp (by omega))
 cnt:=λh=>⟨λa=>ZF (hs a) ((p.cnt h).1 a),hn (p.cnt h).2⟩
 own:=p.own
noncomputable def R.norm(r:R):R:=if r.d.flat then⟨r.d,true,[]⟩else r
theorem R.QcN(r:R):r.norm.d=r.d:=by unfold R.norm;split<;>rfl
theorem QN.norm(p:QN K ρ F H H' r v G):QN K ρ F H H' r.norm v G:=by
 unfold R.norm
 split
 ·rename_i h
  have:=p.rp.Qbc h
  subst this
  exact .flat p.same p.rp h
 ·exact p
end
noncomputable def Qa(i:Nat):DE:=λρ=>match ρ[i]? with
 | some (some (d,b))=>if d.flat then some ⟨d,true,[]⟩else if b then some ⟨d,true,[i]⟩else some ⟨d,false,[]⟩
 | _=>none
noncomputable def dC(d:D):DE:=λ_=>some ⟨d,true,[]⟩
section
theorem Ql9(h:PE X (.Name x pos) (QbX i)):SE X (.Name x pos) (Qa i):=λH0 A0=>h.mono λσ H Q=>exK λρ hs F r rel e q=>by
 unfold Qa at e
 split at e
 ·rename_i d b q1
  obtain⟨v,h1,h2⟩:=rel.val i d b q1
  refine⟨v,h1,q v H (F i) ?_⟩
  split at e
  ·rename_i hf
   cases e
   have:=h2.Qbc hf
   rw[this]at h2 ⊢
   exact .flat (Qr.refl _) h2 hf
  ·split at e
   ·rename_i hb
    cases e
    subst hb
    exact⟨Qr.refl _,h2,λa ha=> .inr ⟨i,d,true,q1,ha,λ_=>by simp⟩,λ_=>⟨λa=>(by simp),(rel.own i d q1).1⟩,λj hj=>by simp at hj;subst hj;exact⟨d,q1⟩⟩
   ·rename_i hb
    cases e
    simp at hb
    subst hb
    exact⟨Qr.refl _,h2,λa ha=> .inr ⟨i,d,false,q1,ha,λz=>by cases z⟩,λz=>(by cases z),QaZ.nil⟩
 ·cases e
theorem Qjl(h:PE X e (tC v))(r:∀K H,Rp K H d v [])(hf:d.flat=true):SE X e (dC d):=λH0 A0=>h.mono λσ H Q=>exK λρ hs F r' rel e q=>by
 cases e
 exact q v H [] (.flat (Qr.refl _) (r _ _) hf)
theorem two{K:PySem.W.Frag}{H0:Hp}{A0:List Addr}{fa fb:DE}{σ:St}{H:Hp}{hs:List (V×D×List Addr)}{ρ:En}{F:Nat->List Addr}{ra rb:R}{Rr:V->V->Hp->Prop}(rel:Rel K H0 A0 hs ρ F σ H)(ea:fa ρ=some ra)(eb:fb ρ=some rb)
  (k:∀x y H1 H2 G1 G2,QN K ρ F H H1 ra x G1->QN K ρ F H1 H2 rb y G2->Rr x y H2):tV K H0 A0 fa σ H λx H1=>tV K H0 A0 fb σ H1 λy H2=>Rr x y H2:=
 ⟨ρ,hs,F,ra,rel,ea,λx H1 G1 p1=>⟨ρ,hs,F,rb,rel.ext p1.same,eb,λy H2 G2 p2=>k x y H1 H2 G1 G2 p1 p2⟩⟩
noncomputable def dOp(g:D->D->Option D)(fa fb:DE):DE:=λρ=>(fa ρ).bind λra=>(fb ρ).bind λrb=>(g ra.d rb.d).map λd=>⟨d,true,[]⟩
theorem Qj9(e:dOp g fa fb ρ=some r):∃ra rb d,fa ρ=some ra/\fb ρ=some rb/\g ra.d rb.d=some d/\r=⟨d,true,[]⟩:=by
 unfold dOp at e
 cases h1:fa ρ with
 | none=>rw[h1]at e;cases e
 | some ra=>
  cases h2:fb ρ with
  | none=>rw[h1,h2]at e;cases e
  | some rb=>
   rw[h1,h2]at e
   cases h3:g ra.d rb.d with
   | none=>simp[h3]at e
   | some d=>simp[h3]at e;exact⟨ra,rb,d,rfl,rfl,h3,e.symm⟩
def Qb9(K:PySem.W.Frag)(g:D->D->Option D)(r:R2):Prop:=∀a b d,g a b=some d->d.flat=true/\∀H x y F G (Q:VK),Rp K H a x F->Rp K H b y G->(∀v,(∀H',Rp K H' d v [])->Q v H)->r x y H Q
theorem Qk3(ho:OpR X (binaryOp op) r)(hg:Qb9 X.K g r)(ha:SE X a fa)(hb:SE X b fb):SE X (.BinOp a op b pos) (dOp g fa fb):=λH0 A0=>
 (Qow ho (ha H0 A0) (hb H0 A0)).mono λσ H Q=>exK λρ hs F r' rel e q=>by
  obtain⟨ra,rb,d,ea,eb,eg,rfl⟩:=Qj9 e
  refine two rel ea eb λx y H1 H2 G1 G2 p1 p2=>(hg _ _ _ eg).2 H2 x y G1 G2 Q (p1.rp.same p2.same) p2.rp λv hv=>?_
  exact q v H2 [] (.flat (p1.same.trans p2.same) (hv H2) (hg _ _ _ eg).1)
theorem Qvo(ho:OpR X (compareOp op) r)(hg:Qb9 X.K g r)(ha:SE X a fa)(hb:SE X b fb)(hm:behindInMarks op b=false):SE X (.Compare a [op] [b] pos) (dOp g fa fb):=λH0 A0=>
 (Qtk ho (ha H0 A0) (hb H0 A0) hm).mono λσ H Q=>exK λρ hs F r' rel e q=>by
  obtain⟨ra,rb,d,ea,eb,eg,rfl⟩:=Qj9 e
  refine two rel ea eb λx y H1 H2 G1 G2 p1 p2=>(hg _ _ _ eg).2 H2 x y G1 G2 Q (p1.rp.same p2.same) p2.rp λv hv=>?_
  exact q v H2 [] (.flat (p1.same.trans p2.same) (hv H2) (hg _ _ _ eg).1)
end
noncomputable def QgV(i j:Int):Int:=if 0<=j then i / j else i.fdiv j
noncomputable def Qha(i j:Int):Int:=if 0<=j then i % j else i.fmod j
theorem Qua(i j:Int):QgV i j=i.fdiv j:=by
 unfold QgV;split
 ·rw[Int.fdiv_eq_ediv_of_nonneg _ (by assumption)]
 ·rfl
theorem Qtf(i j:Int):Qha i j=i.fmod j:=by
 unfold Qha;split
 ·rw[Int.fmod_eq_emod_of_nonneg _ (by assumption)]
 ·rfl
noncomputable def Qeg(i j:Int):Bool:=decide (i.natAbs<2^64) || decide (j.natAbs<2^64) || (decide (Builtin.Int.intBits i<=2^20) && decide (Builtin.Int.intBits j<=2^20))
noncomputable def Qf0(j:Int):Bool:=decide (j≠0) && decide (j.natAbs<2^8000)
noncomputable def gI(f:Int->Int->Option D)(a b:D):Option D:=match a,b with
 | .int i,.int j=>f i j
 | _,_=>none
noncomputable def Qfn:=gI λi j=>some (.int (i-j))
noncomputable def Qcd:=gI λi j=>if Qf0 j then some (.int (QgV i j))else none
noncomputable def QR:=gI λi j=>if j≠0 then some (.int (Qha i j))else none
noncomputable def Qm2:=gI λi j=>if 0<=j/\j<=1000/\i.natAbs<2^200 then some (.int (i^j.toNat))else none
noncomputable def gLt:=gI λi j=>some (.bl (decide (i<j)))
noncomputable def gLe:=gI λi j=>some (.bl (decide (i<=j)))
noncomputable def gGt:=gI λi j=>some (.bl (decide (j<i)))
noncomputable def gGe:=gI λi j=>some (.bl (decide (j<=i)))
theorem QpB(h:gI f a b=some d):∃i j,a= .int i/\b= .int j/\f i j=some d:=by
 unfold gI at h
 split at h
 ·exact⟨_,_,rfl,rfl,h⟩
 ·cases h
section
theorem Qgd(hf:∀i j d,f i j=some d->d.flat=true)(h:∀i j d,f i j=some d->∀H (Q:VK),(∀v,(∀H',Rp K H' d v [])->Q v H)->r (.int i) (.int j) H Q):Qb9 K (gI f) r:=λa b d e=>by
 obtain⟨i,j,rfl,rfl,ef⟩:=QpB e
 refine⟨hf i j d ef,λH x y F G Q ha hb q=>?_⟩
 rw[ha.int_inv,hb.int_inv]
 exact h i j d ef H Q q
theorem QpI:Qb9 K Qfn (rI0 λi j=> .int (i-j)):=Qgd (λi j d e=>by cases e;rfl) λi j d e H Q q=>by cases e;exact⟨i,j,rfl,rfl,q _ λ_=> .int_mk⟩
theorem QrI(h:Qeg i j=true):IntMulOk i j:=by
 have small:∀k:Int,k.natAbs<2^64->Builtin.Int.intBits k<=64:=λk hk=>by
  unfold Builtin.Int.intBits
  split
  ·omega
  ·rename_i h0;have h0':k.natAbs≠0:=λz=>by simp_all
   have:=(Nat.log2_lt h0').mpr hk;omega
 unfold Qeg at h
 simp only[Bool.or_eq_true,Zg,decide_eq_true_eq]at h
 rcases h with(h | h) | ⟨h1,h2⟩
 ·exact .of_left (small i h)
 ·exact .of_right (small j h)
 ·exact .of_bits h1 h2
theorem QtG:OpR X (binaryOp .Mult) (rI (λi j=>Qeg i j=true) λi j=> .int (i*j)):=opI λ_ _ _ _ _ _ _ hc q=>PyProof.Rows.mul_int q (QrI hc)
theorem Qti:OpR X (binaryOp .FloorDiv) (rI (λi j=>Qf0 j=true) λi j=> .int (QgV i j)):=opI λi j _ _ _ _ _ hc q=>by
 unfold Qf0 at hc
 simp only[Zg,decide_eq_true_eq]at hc
 rw[Qua]at q
 refine PyProof.Rows.floordiv_int hc.1 q (.inl (PyProof.noPylong_of_log2 ?_))
 have h0:j.natAbs≠0:=by omega
 exact Nat.lt_trans ((Nat.log2_lt h0).mpr hc.2) (by decide)
theorem QuQ:OpR X (binaryOp .Mod) (rI (λi j=>j≠0) λi j=> .int (Qha i j)):=opI λi j _ _ _ _ _ hc q=>by
 rw[Qtf]at q
 exact PyProof.Rows.mod_int' hc q
theorem Qu0:Qb9 K Qcd (rI (λi j=>Qf0 j=true) λi j=> .int (QgV i j)):=Qgd (λi j d e=>by split at e<;>cases e;rfl) λi j d e H Q q=>by
 split at e
 ·cases e;exact⟨i,j,rfl,rfl,by assumption,q _ λ_=> .int_mk⟩
 ·cases e
theorem QwG:Qb9 K QR (rI (λi j=>j≠0) λi j=> .int (Qha i j)):=Qgd (λi j d e=>by split at e<;>cases e;rfl) λi j d e H Q q=>by
 split at e
 ·cases e;exact⟨i,j,rfl,rfl,by assumption,q _ λ_=> .int_mk⟩
 ·cases e
theorem Qtc:OpR X (binaryOp .Pow) (rI (λi j=>0<=j/\j<=1000/\i.natAbs<2^200) λi j=> .int (i^j.toNat)):=opI λi j _ _ _ _ _ hc q=>by
 refine PyProof.Rows.pow_int hc.1 ?_ q
 have hb:Builtin.Int.intBits i<=200:=by
  unfold Builtin.Int.intBits
  split
  ·omega
  ·rename_i h0;have h0':i.natAbs≠0:=λz=>by simp_all
   have:=(Nat.log2_lt h0').mpr hc.2.2;omega
 have h1:((Builtin.Int.intBits i:Nat):Int)*j<=200*1000:=Int.mul_le_mul (by omega) hc.2.1 hc.1 (by decide)
 omega
theorem Qv3:Qb9 K Qm2 (rI (λi j=>0<=j/\j<=1000/\i.natAbs<2^200) λi j=> .int (i^j.toNat)):=Qgd (λi j d e=>by split at e<;>cases e;rfl) λi j d e H Q q=>by
 split at e
 ·rename_i h;cases e;exact⟨i,j,rfl,rfl,h,q _ λ_=> .int_mk⟩
 ·cases e
theorem QxP:Qb9 K gLt (rI0 λi j=> .bl (decide (i<j))):=Qgd (λi j d e=>by cases e;rfl) λi j d e H Q q=>by cases e;exact⟨i,j,rfl,rfl,q _ λ_=> .QcO⟩
theorem QxF:Qb9 K gLe (rI0 λi j=> .bl (decide (i<=j))):=Qgd (λi j d e=>by cases e;rfl) λi j d e H Q q=>by cases e;exact⟨i,j,rfl,rfl,q _ λ_=> .QcO⟩
theorem Qx8:Qb9 K gGt (rI0 λi j=> .bl (decide (j<i))):=Qgd (λi j d e=>by cases e;rfl) λi j d e H Q q=>by cases e;exact⟨i,j,rfl,rfl,q _ λ_=> .QcO⟩
theorem Qxt:Qb9 K gGe (rI0 λi j=> .bl (decide (j<=i))):=Qgd (λi j d e=>by cases e;rfl) λi j d e H Q q=>by cases e;exact⟨i,j,rfl,rfl,q _ λ_=> .QcO⟩
end
theorem Qcj:∀(xs ys:List D),QX (xs++ys)=(QX xs && QX ys)
 | [],ys=>by simp[QX]
 | x::xs,ys=>by simp[QX,Qcj xs ys,Bool.and_assoc]
noncomputable def Qap(ds:List D)(M:List Nat):R:=if QX ds then⟨.lst ds,true,[]⟩else⟨.lst ds,false,M⟩
section
variable {K:PySem.W.Frag}{H0 H H':Hp}{A0:List Addr}{hs:List (V×D×List Addr)}{ρ:En}{F:Nat->List Addr}{σ:L2.St}
theorem QN.Qap(s:Qr H H1)(hp:H1 p=none)(r:Rps K H1 ds vs G)(hz:ds.length<=sizeLine)(src:Src ρ F H M G)(ow:QaZ ρ M):
  QN K ρ F H (upd H1 p (.lst vs)) (Qap ds M) (.ref p) (p::G):=by
 have s2:Qr H1 (upd H1 p (.lst vs)):=Qay hp
 have rp:Rp K (upd H1 p (.lst vs)) (.lst ds) (.ref p) (p::G):=Rp.Qdo QQ (r.same s2) hz
 have hH:H p=none:=s.free hp
 unfold HS.Qap
 split
 ·rename_i hf
  have:=r.Qbc hf
  subst this
  refine⟨s.trans s2,rp,λa ha=>?_,λ_=>⟨λa=>?_,by simp only[D.nl,Qik ds hf];rfl⟩,QaZ.nil⟩
  ·have:a=p:=by simpa using ha
   subst this;exact .inl hH
  ·rw[List.count_singleton]
   split
   ·rename_i e;have e':p=a:=by simpa using e
    subst e';rw[Qaz hH];omega
   ·omega
 ·refine⟨s.trans s2,rp,λa ha=>?_,λz=>(by cases z),ow⟩
  rcases Zo.mp ha with rfl | h
  ·exact .inl hH
  ·exact src a h
end
noncomputable def Qy(fa fb:DE):DE:=λρ=>(fa ρ).bind λra=>(fb ρ).bind λrb=>match ra.d,rb.d with
 | .int i,.int j=>some ⟨.int (i+j),true,[]⟩
 | .lst xs,.lst ys=>if xs.length+ys.length<=sizeLine then some (Qap (xs++ys) (ra.M++rb.M))else none
 | _,_=>none
noncomputable def QaM(fa fb:DE):DE:=λρ=>(fa ρ).bind λra=>(fb ρ).bind λrb=>match ra.d,rb.d with
 | .int i,.int j=>if Qeg i j then some ⟨.int (i*j),true,[]⟩else none
 | .lst xs,.int j=>if xs.length*j.toNat<=sizeLine/\ -(2^63)<=j/\j<2^63/\QX xs=true then some ⟨.lst (List.replicate j.toNat xs).flatten,true,[]⟩else none
 | _,_=>none
theorem QoE{fa fb:DE}{ρ:En}{k:R->R->Option R}{r:R}(e:((fa ρ).bind λra=>(fb ρ).bind λrb=>k ra rb)=some r):∃ra rb,fa ρ=some ra/\fb ρ=some rb/\k ra rb=some r:=by
 cases h1:fa ρ with
 | none=>rw[h1]at e;cases e
 | some ra=>
  cases h2:fb ρ with
  | none=>rw[h1,h2]at e;cases e
  | some rb=>rw[h1,h2]at e;exact⟨ra,rb,rfl,rfl,e⟩
theorem bind1{α β:Type}{x:Option α}{k:α->Option β}{r:β}(e:x.bind k=some r):∃a,x=some a/\k a=some r:=by
 cases x with
 | none=>cases e
 | some a=>exact⟨a,rfl,e⟩
section
noncomputable def QxO(K:PySem.W.Frag):R2:=λx y H Q=>∃l c xs zs,x= .ref l/\y= .ref c/\(H l=some (.lst xs)∨Fix K H l xs)/\(H c=some (.lst zs)∨Fix K H c zs)/\xs.length+zs.length<=sizeLine/\∀p,H p=none->Q (.ref p) (upd H p (.lst (xs++zs)))
theorem mapR{α γ:Type}{x:Option α}{f:α->γ}{r:γ}{M:γ->Prop}(e:x.map f=some r)(g:∀a,x=some a->M (f a)):M r:=by
 obtain⟨a,h,rfl⟩:=Zc.mp e
 exact g a h
theorem Qc{α β:Type}{x:Option α}{k:α->Option β}{r:β}{G:Prop}(e:x.bind k=some r)(g:∀a,x=some a->k a=some r->G):G:=let ⟨a,h1,h2⟩:=bind1 e;g a h1 h2
theorem Qte:OpR X (binaryOp .Add) (QxO X.K):=by
 intro pins s σ H x y v u Q I rx ry h
 obtain⟨l,c,xs,zs,rfl,rfl,hH,hB,hz,q⟩:=h
 cases rx
 cases ry
 obtain⟨z,its,n,r,hl,e⟩:=I.QlR hH
 obtain⟨z2,its2,n2,r2,hl2,e2⟩:=I.QlR hB
 refine PySem.P.add_list e e2 ?_ (by rw[Zx,Zx];omega)
 have ea:its.toArray++its2.toArray=(its++its2).toArray:=by simp
 rw[ea]
 exact⟨.ref _,_,I.Qv4 (t':=s.toks) (r.append r2) (by rw[Zk];omega),rfl,q _ I.fresh⟩
theorem QwS(ha:SE X a fa)(hb:SE X b fb):SE X (.BinOp a .Add b pos) (Qy fa fb):=λH0 A0=>
 (Qow (Qva.or Qte) (ha H0 A0) (hb H0 A0)).mono λσ H Q=>exK λρ hs F r' rel e q=>by
  obtain⟨ra,rb,ea,eb,ek⟩:=QoE e
  refine two rel ea eb λx y H1 H2 G1 G2 p1 p2=>?_
  have p1':=p1.rp.same p2.same
  have p2':=p2.rp
  have c1:=p1.src.append p2.src p1.same
  have o1:=p1.own.append p2.own
  revert ek
  revert p1' p2'
  cases ra.d<;>cases rb.d<;>intro p1' p2' ek<;>first | (cases ek;done) | skip
  ·cases ek
   rw[p1'.int_inv,p2'.int_inv]
   exact .inl ⟨_,_,rfl,rfl,q _ H2 [] (.flat (p1.same.trans p2.same) .int_mk)⟩
  ·rename_i xs ys
   dsimp only at ek
   split at ek
   ·rename_i hz
    cases ek
    obtain⟨l,vs,L1,rfl,hl,rl,zl,el⟩:=p1'.lst_inv
    obtain⟨c,ws,L2',rfl,hc,rc,zc,ec⟩:=p2'.lst_inv
    have n1:=rl.length
    have n2:=rc.length
    refine .inr ⟨l,c,vs,ws,rfl,rfl,hl,hc,by omega,λp hp=>?_⟩
    refine q _ _ (p::(L1++L2')) (QN.Qap (p1.same.trans p2.same) hp (rl.append rc) (by rw[Zk];exact hz) (λa ha=>c1 a ?_) o1)
    rcases Zm.mp ha with h | h
    ·refine Zd _ ?_
     rcases el with rfl | rfl
     ·exact Zb _ h
     ·exact h
    ·refine Ze _ ?_
     rcases ec with rfl | rfl
     ·exact Zb _ h
     ·exact h
   ·cases ek
noncomputable def Qxb(K:PySem.W.Frag):R2:=λx y H Q=>∃l k xs,x= .ref l/\y= .int k/\(H l=some (.lst xs)∨Fix K H l xs)/\ -(2^63)<=k/\k<2^63/\xs.length*k.toNat<=sizeLine∧
 ∀p,H p=none->Q (.ref p) (upd H p (.lst (List.replicate k.toNat xs).flatten))
theorem QuX:OpR X (binaryOp .Mult) (Qxb X.K):=by
 intro pins s σ H x y v u Q I rx ry h
 obtain⟨l,k,xs,rfl,rfl,hH,h1,h2,hz,q⟩:=h
 cases rx
 obtain⟨t,rfl⟩:=ry
 obtain⟨z,its,n,r,hl,e⟩:=I.QlR hH
 have hlen:its.toArray.size*k.toNat<=sizeLine:=by rw[Zx,← hl];exact hz
 have hcap:¬its.toArray.size*k.toNat>(2^63-1) / 8:=by
  have:(sizeLine:Nat)<=(2^63-1) / 8:=by decide
  omega
 have hfit:¬(!Builtin.List.listFitsIndex k)=true:=by
  rw[fitsIndex_both h1 h2]
  exact ZV
 have hlong:¬Builtin.List.listTooLong (its.toArray.size*k.toNat)=true:=by
  rw[Qro hlen]
  exact ZV
 have hnew:List.foldl (λx1 x2=>x1++x2) #[] (List.replicate (if its.toArray.isEmpty=true then 0 else k.toNat) its.toArray)=(List.replicate k.toNat its).flatten.toArray:=by
  have f0:∀m:Nat,List.foldl (λx1 x2=>x1++x2) #[] (List.replicate m its.toArray)=(List.replicate m its).flatten.toArray:=λm=>by
   have:=foldl_rep its m []
   rw[ZaZ]at this
   exact this
  rw[f0]
  cases its with
  | nil=>simp
  | cons a r'=>rw[if_neg (by simp)]
 open PyProof.Rows in
 refine wpAny_binaryOp_repeat_ref (by decide) ⟨_,e,rfl⟩ (λs'=>typeIs_int s' k t) noFill_list_mul F.fills_int_mul F.slot_int_rmul repeat_list F.slot_int_index.lookup
  (call_meets F.slot_int_rmul (typeIs_int s k t) F.entry_int_rmul (F.args_int_rmul_2 _ _) (int___rmul___int_list k t l its.toArray n)
   ⟨e,rfl,⟨_,e,rfl⟩,call_meets F.slot_list_mul ⟨_,e,rfl⟩ F.entry_list_mul (F.args_list_mul_2 _ _) (AutoListH.list___mul___list_int_3 l its.toArray n k t hfit hcap hlong) ⟨e,?_⟩⟩)
 rw[hnew]
 exact⟨.ref _,_,I.Qv4 (t':=s.toks) (r.rep k.toNat) (by rw[len_rep,Nat.mul_comm];exact hz),rfl,q _ I.fresh⟩
theorem QkE(h:QX xs=true):∀n:Nat,QX (List.replicate n xs).flatten=true
 | 0=>by simp[QX]
 | n+1=>by rw[Zae,Zai,Qcj,h,QkE h n];rfl
theorem Rps.rep(h:Rps K H ds vs []):∀n:Nat,Rps K H (List.replicate n ds).flatten (List.replicate n vs).flatten []
 | 0=>by simp[Rps]
 | n+1=>by rw[Zae,Zai,Zae,Zai];exact h.append (Rps.rep h n)
theorem Qvl(ha:SE X a fa)(hb:SE X b fb):SE X (.BinOp a .Mult b pos) (QaM fa fb):=λH0 A0=>
 (Qow (QtG.or QuX) (ha H0 A0) (hb H0 A0)).mono λσ H Q=>exK λρ hs F r' rel e q=>by
  obtain⟨ra,rb,ea,eb,ek⟩:=QoE e
  refine two rel ea eb λx y H1 H2 G1 G2 p1 p2=>?_
  have p1':=p1.rp.same p2.same
  have p2':=p2.rp
  revert ek
  revert p1' p2'
  cases ra.d<;>cases rb.d<;>intro p1' p2' ek<;>first | (cases ek;done) | skip
  ·dsimp only at ek
   split at ek
   ·rename_i hm
    cases ek
    rw[p1'.int_inv,p2'.int_inv]
    exact .inl ⟨_,_,rfl,rfl,hm,q _ H2 [] (.flat (p1.same.trans p2.same) .int_mk)⟩
   ·cases ek
  ·rename_i xs j
   dsimp only at ek
   split at ek
   ·rename_i hz
    cases ek
    obtain⟨hz1,hz2,hz3,hf⟩:=hz
    obtain⟨l,vs,L1,rfl,hl,rl,zl,el⟩:=p1'.lst_inv
    have n1:=rl.length
    have e0:=rl.Qbc hf
    subst e0
    rw[p2'.int_inv]
    refine .inr ⟨l,j,vs,rfl,rfl,hl,hz2,hz3,by rw[← n1];exact hz1,λp hp=>?_⟩
    have w:HS.Qap (List.replicate j.toNat xs).flatten []=⟨.lst (List.replicate j.toNat xs).flatten,true,[]⟩:=by
     unfold HS.Qap;rw[if_pos (QkE hf _)]
    rw[← w]at q
    exact q _ _ (p::[]) (QN.Qap (p1.same.trans p2.same) hp (rl.rep _) (by rw[len_rep,Nat.mul_comm];exact hz1) Src.nil QaZ.nil)
   ·cases ek
end
end HS
namespace HS
open PySem PySem.Spec L2
noncomputable def Qe:DA:=λ_=>some ⟨[],true,[]⟩
noncomputable def Qb(fa:DE)(fr:DA):DA:=λρ=>(fa ρ).bind λr=>(fr ρ).bind λrs=>some ⟨r.d::rs.ds,r.fr && rs.fr,r.M++rs.M⟩
noncomputable def QbY(fa:DA):DE:=λρ=>(fa ρ).bind λr=>if r.ds.length<=64 then some ⟨.tup r.ds,r.fr,r.M⟩else none
noncomputable def QF(fa:DA):DE:=λρ=>(fa ρ).bind λr=>if r.ds.length<=64 then some ⟨.lst r.ds,r.fr,r.M⟩else none
section
variable {X:Cx}{a b e:Expr}{es:List Expr}{fa fb:DE}{fs:DA}{pos:Pos}
theorem QlD:SA X [] Qe:=λH0 A0=>QbJ.mono λσ H Q=>exK λρ hs F r' rel e q=>by
 cases e
 exact q [] H [] ⟨Qr.refl _,by simp[Rps],Src.nil,λ_=>⟨Cnt.nil,rfl⟩,QaZ.nil⟩
theorem Qhm(ha:SE X e fa)(hr:SA X es fs)(hs:starEach (e::es) X.env=(false,eval e X.env)::starEach es X.env):SA X (e::es) (Qb fa fs):=λH0 A0=>
 (Qag (ha H0 A0) (hr H0 A0) hs).mono λσ H Q=>exK λρ hs F r' rel e q=>by
  refine Qc e λr e1 e=>?_
  refine Qc e λrs e2 e=>?_
  cases e
  refine⟨ρ,hs,F,r,rel,e1,λx H1 G1 p1=>⟨ρ,hs,F,rs,rel.ext p1.same,e2,λxs H2 G2 p2=>?_⟩⟩
  refine q _ H2 (G1++G2) ⟨p1.same.trans p2.same,?_,p1.src.append p2.src p1.same,λh=>?_,p1.own.append p2.own⟩
  ·simp only[Rps]
   exact⟨x,xs,G1,G2,rfl,rfl,p1.rp.same p2.same,p2.rp⟩
  ·simp only[Zg]at h
   exact⟨(p1.cnt h.1).1.append rel (p2.cnt h.2).1 p1.same p1.rp.mem,by simp only[nls,Zk,(p1.cnt h.1).2,(p2.cnt h.2).2]⟩
theorem QfO{n:Nat}(h:n<=64):n<=sizeLine:=ZF h (by decide)
theorem Qwp{k:Nat}(ha:SA X es fs):SE X (.Tuple es k pos) (QbY fs):=λH0 A0=>
 (Qqc (ha H0 A0)).mono λσ H Q=>exK λρ hs F r' rel e q=>by
  refine Qc e λr e1 e=>?_
  split at e
  ·rename_i hz
   cases e
   refine⟨ρ,hs,F,r,rel,e1,λxs H1 G p=>⟨by rw[← p.rp.length];exact QfO hz,λc hc=>q _ _ G ⟨p.same.trans (Qay hc),Rp.Qlp QQ (p.rp.same (Qay hc)),p.src,λh=>⟨(p.cnt h).1,by simp only[D.nl];exact(p.cnt h).2⟩,p.own⟩⟩⟩
  ·cases e
theorem Qwz(ha:SA X es fs):SE X (.List es pos) (QF fs):=λH0 A0=>
 (QvW (ha H0 A0)).mono λσ H Q=>exK λρ hs F r' rel e q=>by
  refine Qc e λr e1 e=>?_
  split at e
  ·rename_i hz
   cases e
   refine⟨ρ,hs,F,r,rel,e1,λxs H1 G p=>⟨by rw[← p.rp.length];exact QfO hz,λc hc=>?_⟩⟩
   have hH:H c=none:=p.same.free hc
   refine q _ _ (c::G) ⟨p.same.trans (Qay hc),Rp.Qdo QQ (p.rp.same (Qay hc)) (QfO hz),λz hz'=>?_,λh=>⟨λz=>?_,by simp only[D.nl,Zi,(p.cnt h).2]⟩,p.own⟩
   ·rcases Zo.mp hz' with rfl | h
    ·exact .inl hH
    ·exact p.src z h
   ·rw[Zao]
    have:=(p.cnt h).1 z
    split
    ·rename_i e'
     have e':c=z:=by simpa using e'
     subst e'
     have h0:G.count c=0:=Zz.mpr λhm=>by obtain⟨vs,w⟩:=p.rp.mem c hm;rw[hc]at w;cases w
     rw[Qaz hH];omega
    ·exact this
  ·cases e
noncomputable def D.items:D->Option (List D)
 | .lst xs=>some xs
 | .tup xs=>some xs
 | _=>none
noncomputable def Qu(fa fb:DE):DE:=λρ=>(fa ρ).bind λra=>(fb ρ).bind λrb=>match rb.d with
 | .int i=>(ra.d.items).bind λxs=>(atI xs i).map λd=>(R.norm ⟨d,ra.fr,ra.M⟩)
 | _=>none
theorem QuM{α β:Type}{xs:List α}{i:Int}{d:α}(h:atI xs i=some d):∃j:Nat,xs[j]? =some d/\∀(ys:List β),ys.length=xs.length->∀y,ys[j]? =some y->atI ys i=some y:=by
 unfold atI at h
 cases e:ixN xs.length i with
 | none=>rw[e]at h;cases h
 | some j=>
  rw[e]at h
  refine⟨j,h,λys hl y hy=>?_⟩
  unfold atI
  rw[hl,e]
  exact hy
theorem Qw1(ha:SE X a fa)(hb:SE X b fb)(hs:Qeh b):SE X (.Subscript a b pos) (Qu fa fb):=λH0 A0=>
 (Qlc (Qj7.or QpX) (ha H0 A0) (hb H0 A0) hs).mono λσ H Q=>exK λρ hs F r' rel e q=>by
  obtain⟨ra,rb,ea,eb,ek⟩:=QoE e
  refine two rel ea eb λx y H1 H2 G1 G2 p1 p2=>?_
  have p1':=p1.rp.same p2.same
  have p2':=p2.rp
  have pp:QN X.K ρ F H H2 ra x G1:=⟨p1.same.trans p2.same,p1',p1.src,p1.cnt,p1.own⟩
  cases hb':rb.d with
  | int i=>
   rw[hb']at ek p2'
   rw[p2'.int_inv]
   refine Qc ek λxs ex ek=>?_
   obtain⟨d,ed,ek⟩:=Zc.mp ek
   subst ek
   obtain⟨j,hj,hm⟩:=QuM ed
   have fin:∀(L:List Addr) (vs:List V),Rps X.K H2 xs vs L->(∀z,L.count z<=G1.count z)->(G1.length=ra.d.nl->L.length=nls xs)->∃v,atI vs i=some v/\Q v H2:=λL vs rl hc hn=>by
    obtain⟨v,F1,G,F2,hv,eF,rv,hx⟩:=rl.get hj
    refine⟨v,hm vs rl.length.symm v hv,q v H2 G (QN.norm (QN.sub pp rv (λz=>ZF ?_ (hc z)) λz=>hx (hn z)))⟩
    rw[eF,ZY,ZY];omega
   cases hra:ra.d with
   | lst ys=>
    rw[hra]at ex p1'
    cases ex
    obtain⟨l,vs,L,rfl,hl,rl,zl,el⟩:=p1'.lst_inv
    have hn:G1.length=ra.d.nl->L.length=nls xs:=λhz=>by
     have:=rl.QS
     simp only[hra,D.nl]at hz
     rcases el with rfl | rfl
     ·rw[Zi]at hz;omega
     ·omega
    have hc:∀z,L.count z<=G1.count z:=λz=>by
     rcases el with rfl | rfl
     ·rw[Zao];omega
     ·exact Zq _
    obtain⟨v,h1,h2⟩:=fin L vs rl hc hn
    exact .inl ⟨l,vs,i,v,rfl,rfl,QP hl,h1,h2⟩
   | tup ys=>
    rw[hra]at ex p1'
    cases ex
    obtain⟨l,vs,rfl,hl,rl⟩:=p1'.QaQ
    obtain⟨v,h1,h2⟩:=fin G1 vs rl (λz=>Zq _) λz=>(by simpa only[hra,D.nl]using z)
    exact .inr ⟨l,vs,i,v,rfl,rfl,hl,h1,h2⟩
   | _=>rw[hra]at ex;cases ex
  | _=>rw[hb']at ek;cases ek
noncomputable abbrev DO:=En->Option (Option Int)
noncomputable def Qbj:DO:=λ_=>some none
noncomputable def Qab(f:DE):DO:=λρ=>(f ρ).bind λr=>match r.d with
 | .int i=>some (some i)
 | _=>none
noncomputable def tVO(K:PySem.W.Frag)(H0:Hp)(A0:List Addr)(f:DO):TO:=λσ H Q=>∃ρ hs F o,Rel K H0 A0 hs ρ F σ H/\f ρ=some o/\∀H',Qr H H'->Q o H'
def SO(X:Cx)(e:Option Expr)(f:DO):Prop:=∀H0 A0,PO X e (tVO X.K H0 A0 f)
theorem _root_.L2.PO.mono{X:Cx}{e:Option Expr}{t t':TO}(h:PO X e t)(m:∀σ H Q,t' σ H Q->t σ H Q):PO X e t':=by
 intro pins s σ H Q I q
 exact h pins s σ H Q I (m σ H Q q)
theorem Qs6:SO X none Qbj:=λH0 A0=>Qun.mono λσ H Q=>exK λρ hs F o rel e q=>by
 cases e
 exact q H (Qr.refl _)
theorem Quh(h:SE X a fa):SO X (some a) (Qab fa):=λH0 A0=>(QtE (h H0 A0)).mono λσ H Q=>exK λρ hs F o rel e q=>by
 refine Qc e λr e1 e=>?_
 refine⟨ρ,hs,F,r,rel,e1,λv H1 G p=>?_⟩
 have rp:=p.rp
 cases hr:r.d with
 | int i=>
  rw[hr]at e rp
  cases e
  exact⟨i,rp.int_inv,q H1 p.same⟩
 | _=>rw[hr]at e;cases e
noncomputable def cutD(xs:List D)(lo hi:Option Int):List D:=(xs.drop (HT.sIx xs.length 0 lo)).take (HT.sIx xs.length xs.length hi-HT.sIx xs.length 0 lo)
noncomputable def QaV(fa:DE)(lo hi:DO):DE:=λρ=>(fa ρ).bind λra=>(lo ρ).bind λl=>(hi ρ).bind λh=>match ra.d with
 | .lst xs=>some (Qap (cutD xs l h) ra.M)
 | _=>none
theorem Rps.drop:∀{ds:List D}{vs:List V}{F:List Addr}{K:PySem.W.Frag}{H:Hp}(n:Nat),Rps K H ds vs F->∃G,Rps K H (ds.drop n) (vs.drop n) G/\∀a∈G,a∈F
 | [],vs,F,K,H,n,h=>by simp only[Rps]at h;rw[h.1,h.2];exact⟨[],by simp[Rps],λ_ h=>h⟩
 | d::ds,vs,F,K,H,0,h=>⟨F,by simpa using h,λ_ h=>h⟩
 | d::ds,vs,F,K,H,n+1,h=>by
  simp only[Rps]at h
  obtain⟨v,ws,F1,F2,e,eF,r,q⟩:=h
  subst e eF
  obtain⟨G,h1,h2⟩:=Rps.drop n q
  exact⟨G,by simpa using h1,λa ha=>Ze _ (h2 a ha)⟩
theorem Rps.take:∀{ds:List D}{vs:List V}{F:List Addr}{K:PySem.W.Frag}{H:Hp}(n:Nat),Rps K H ds vs F->∃G,Rps K H (ds.take n) (vs.take n) G/\∀a∈G,a∈F
 | [],vs,F,K,H,n,h=>by simp only[Rps]at h;rw[h.1,h.2];exact⟨[],by simp[Rps],λ_ h=>h⟩
 | d::ds,vs,F,K,H,0,h=>⟨[],by simp[Rps],λ_ h=>by simp at h⟩
 | d::ds,vs,F,K,H,n+1,h=>by
  simp only[Rps]at h
  obtain⟨v,ws,F1,F2,e,eF,r,q⟩:=h
  subst e eF
  obtain⟨G,h1,h2⟩:=Rps.take n q
  refine⟨F1++G,?_,λa ha=>?_⟩
  ·simp only[List.take_succ_cons,Rps]
   exact⟨v,_,F1,G,rfl,rfl,r,h1⟩
  ·rcases Zm.mp ha with h | h
   ·exact Zd _ h
   ·exact Ze _ (h2 a h)
theorem QwA{lo hi:Option Expr}{fl fh:DO}{p2:Pos}(ha:SE X a fa)(hl:SO X lo fl)(hh:SO X hi fh):SE X (.Subscript a (.Slice lo hi none p2) pos) (QaV fa fl fh):=λH0 A0=>
 (Qle Qtq (ha H0 A0) (hl H0 A0) (hh H0 A0)).mono λσ H Q=>exK λρ hs F r' rel e q=>by
  refine Qc e λra e1 e=>?_
  refine Qc e λl e2 e=>?_
  refine Qc e λh e3 e=>?_
  refine⟨ρ,hs,F,ra,rel,e1,λx H1 G1 p1=>⟨ρ,hs,F,l,rel.ext p1.same,e2,λH2 s2=>⟨ρ,hs,F,h,(rel.ext p1.same).ext s2,e3,λH3 s3=>?_⟩⟩⟩
  have rp:=p1.rp.same (s2.trans s3)
  cases hra:ra.d with
  | lst xs=>
   rw[hra]at e rp
   cases e
   obtain⟨c,vs,L,rfl,hc,rl,zl,el⟩:=rp.lst_inv
   refine⟨c,vs,rfl,QP hc,λp hp=>?_⟩
   obtain⟨G2,h2,m2⟩:=rl.drop (HT.sIx xs.length 0 l)
   obtain⟨G3,h3,m3⟩:=h2.take (HT.sIx xs.length xs.length h-HT.sIx xs.length 0 l)
   have n1:=rl.length
   rw[show Qjy vs l h=(vs.drop (HT.sIx xs.length 0 l)).take (HT.sIx xs.length xs.length h-HT.sIx xs.length 0 l) by unfold Qjy;rw[n1]]
   refine q _ _ (p::G3) (QN.Qap (p1.same.trans (s2.trans s3)) hp h3 ?_ (λz hz=>p1.src z ?_) p1.own)
   ·unfold cutD;rw[ZaK,Zbp];omega
   ·have:=m2 z (m3 z hz)
    rcases el with rfl | rfl
    ·exact Zb _ this
    ·exact this
  | _=>rw[hra]at e;cases e
noncomputable def dBf(g:List D->Option D)(fs:DA):DE:=λρ=>(fs ρ).bind λr=>(g r.ds).map λd=>⟨d,true,[]⟩
def Qes(K:PySem.W.Frag)(g:List D->Option D)(r:List V->Hp->VK->Prop):Prop:=∀ds d,g ds=some d->d.flat=true/\∀H vs F (Q:VK),Rps K H ds vs F->(∀v,(∀H',Rp K H' d v [])->Q v H)->r vs H Q
theorem QkX{x:Str}{id:String}{g:List D->Option D}{r:List V->Hp->VK->Prop}{p:Pos}(hc:QaY X (.builtin id) r)(hk:Qes X.K g r)(hg:Gl X x)(hm:X.mg x=none)(hv:bootBuiltins x=some (.builtin id))(ha:SA X (e::es) fs)(hn:x≠ "__name__")(hdb:(x == ("__debug__" :Str))=false)
  (he:starEach (e::es) X.env=(false,eval e X.env)::starEach es X.env) (hpl:(backTo pos (starEach es X.env)).any (·.1)=false):SE X (.Call (.Name x p) (e::es) [] pos) (dBf g fs):=λH0 A0=>
 (QfP hc hg hm hv (ha H0 A0) hn hdb he hpl).mono λσ H Q=>exK λρ hs F r' rel e q=>by
  refine Qc e λra e1 e=>?_
  obtain⟨d,ed,e⟩:=Zc.mp e
  subst e
  exact⟨ρ,hs,F,ra,rel,e1,λvs H1 G p1=>(hk _ _ ed).2 H1 vs G Q p1.rp λv hv=>q v H1 [] (.flat p1.same (hv _) (hk _ _ ed).1)⟩
theorem Rps.one{K:PySem.W.Frag}{H:Hp}{d:D}{vs:List V}{F:List Addr}(h:Rps K H [d] vs F):∃v,vs=[v]/\Rp K H d v F:=by
 simp only[Rps]at h
 obtain⟨v,ws,F1,F2,rfl,rfl,r,rfl,rfl⟩:=h
 exact⟨v,rfl,by simpa using r⟩
theorem Rps.two{K:PySem.W.Frag}{H:Hp}{d e:D}{vs:List V}{F:List Addr}(h:Rps K H [d,e] vs F):∃v w F1 F2,vs=[v,w]/\Rp K H d v F1/\Rp K H e w F2:=by
 simp only[Rps]at h
 obtain⟨v,ws,F1,F2,rfl,rfl,r,w,ws',F3,F4,rfl,rfl,r2,rfl,rfl⟩:=h
 exact⟨v,w,F1,F3,rfl,r,r2⟩
noncomputable def QaO:List D->Option D
 | [.lst xs]=>some (.int xs.length)
 | [.tup xs]=>some (.int xs.length)
 | _=>none
noncomputable def QsZ(K:PySem.W.Frag):List V->Hp->VK->Prop:=λxs H Q=>∃p ys,xs=[.ref p]/\(SqL K H p ys∨SqT K H p ys)/\Q (.int ys.length) H
theorem Qqx{X:Cx}:QaY X (.builtin "len") (QsZ X.K):=QmP
theorem Qvf{K:PySem.W.Frag}:Qes K QaO (QsZ K):=λds d e=>by
 unfold QaO at e
 split at e
 ·cases e
  refine⟨rfl,λH vs F Q r q=>?_⟩
  obtain⟨v,rfl,rp⟩:=r.one
  obtain⟨l,ws,L,rfl,hl,rl,zl,el⟩:=rp.lst_inv
  exact⟨l,ws,rfl,.inl (QP hl),by rw[← rl.length];exact q _ λ_=> .int_mk⟩
 ·cases e
  refine⟨rfl,λH vs F Q r q=>?_⟩
  obtain⟨v,rfl,rp⟩:=r.one
  obtain⟨l,ws,rfl,hl,rl⟩:=rp.QaQ
  exact⟨l,ws,rfl,.inr hl,by rw[← rl.length];exact q _ λ_=> .int_mk⟩
 ·cases e
noncomputable def Qi7:List D->Option D
 | [.int i,.int j]=>some (.int (if j<i then j else i))
 | _=>none
noncomputable def QiA:List D->Option D
 | [.int i,.int j]=>some (.int (if j>i then j else i))
 | _=>none
theorem QuH{K:PySem.W.Frag}:Qes K Qi7 (λxs H Q=>∃i j,xs=[.int i,.int j]/\Q (.int (if j<i then j else i)) H):=λds d e=>by
 unfold Qi7 at e
 split at e
 ·cases e
  refine⟨rfl,λH vs F Q r q=>?_⟩
  obtain⟨v,w,F1,F2,rfl,r1,r2⟩:=r.two
  exact⟨_,_,by rw[r1.int_inv,r2.int_inv],q _ λ_=> .int_mk⟩
 ·cases e
theorem Quc{K:PySem.W.Frag}:Qes K QiA (λxs H Q=>∃i j,xs=[.int i,.int j]/\Q (.int (if j>i then j else i)) H):=λds d e=>by
 unfold QiA at e
 split at e
 ·cases e
  refine⟨rfl,λH vs F Q r q=>?_⟩
  obtain⟨v,w,F1,F2,rfl,r1,r2⟩:=r.two
  exact⟨_,_,by rw[r1.int_inv,r2.int_inv],q _ λ_=> .int_mk⟩
 ·cases e
noncomputable def dList(fs:DA):DE:=λρ=>(fs ρ).bind λr=>match r.ds with
 | [.lst xs]=>some (Qap xs r.M)
 | [.tup xs]=>if xs.length<=sizeLine then some (Qap xs r.M)else none
 | _=>none
end
end HS
namespace HS
open PySem PySem.Spec L2 PyProof.Rows
end HS
namespace HS
open PySem PySem.Spec L2
mutual
noncomputable def D.py:D->PyData
 | .non=> .none
 | .bl b=> .bool b
 | .int i=> .int i
 | .str x=> .str x
 | .tup xs=> .tuple (pys xs)
 | .lst xs=> .list (pys xs)
 | .exc _=> .none
 | .dk _=> .none
 | .obj _ _=> .none
noncomputable def pys:List D->List PyData
 | []=>[]
 | d::ds=>d.py::pys ds
end
noncomputable def D.sim:Nat->D->Bool
 | _,.non=>true
 | _,.bl _=>true
 | _,.int _=>true
 | _,.str x=>PyData.canLay0 (.str x)
 | 0,.tup xs=>xs.isEmpty
 | 0,.lst xs=>xs.isEmpty
 | n+1,.tup xs=>xs.all (D.sim n)
 | n+1,.lst xs=>xs.all (D.sim n)
 | _,.exc _=>false
 | _,.dk _=>false
 | _,.obj _ _=>false
theorem Qew:∀{ds:List D},(∀d∈ds,d.py.canLay0=true)->PyData.canLayAll0 (pys ds)=true
 | [],_=>rfl
 | d::ds,h=>by
  simp only[pys,PyData.canLayAll0,Zg]
  exact⟨h d Zj,Qew λe he=>h e (Zb _ he)⟩
theorem Qfk:∀{ds:List D},(∀d∈ds,d.py.depth<=n)->PyData.depthAll (pys ds)<=n
 | [],_=>ZT _
 | d::ds,h=>by
  simp only[pys,PyData.depthAll]
  exact Nat.max_le.mpr ⟨h d Zj,Qfk λe he=>h e (Zb _ he)⟩
theorem Qde:∀(n:Nat) (d:D),d.sim n=true->d.py.canLay0=true/\d.py.depth<=n+1
 | n,.exc _,h=>by cases n<;>cases h
 | n,.dk _,h=>by cases n<;>cases h
 | n,.obj _ _,h=>by cases n<;>cases h
 | n,.non,_=>by simp[D.py,PyData.canLay0,PyData.depth]
 | n,.bl _,_=>by simp[D.py,PyData.canLay0,PyData.depth]
 | n,.int _,_=>by simp[D.py,PyData.canLay0,PyData.depth]
 | n,.str x,h=>by
  simp only[D.py,PyData.depth]
  refine⟨?_,ZT _⟩
  cases n<;>exact h
 | 0,.tup xs,h=>by
  have:xs=[]:=by simpa[D.sim]using h
  subst this
  simp[D.py,pys,PyData.canLay0,PyData.canLayAll0,PyData.depth,PyData.depthAll]
 | 0,.lst xs,h=>by
  have:xs=[]:=by simpa[D.sim]using h
  subst this
  simp[D.py,pys,PyData.canLay0,PyData.canLayAll0,PyData.depth,PyData.depthAll]
 | n+1,.tup xs,h=>by
  simp only[D.sim,Zac]at h
  simp only[D.py,PyData.canLay0,PyData.depth]
  exact⟨Qew λd hd=>(Qde n d (h d hd)).1,ZaX (Qfk λd hd=>(Qde n d (h d hd)).2) 1⟩
 | n+1,.lst xs,h=>by
  simp only[D.sim,Zac]at h
  simp only[D.py,PyData.canLay0,PyData.depth]
  exact⟨Qew λd hd=>(Qde n d (h d hd)).1,ZaX (Qfk λd hd=>(Qde n d (h d hd)).2) 1⟩
noncomputable def deq(a b:D):Bool:=PyData.eqv a.py b.py
theorem Qsh(h:d.sim n=true):deq d d=true:=SeqAt.eqv_refl _ (Qde n d h).1
mutual
noncomputable def D.noX:D->Bool
 | .exc _=>false
 | .dk _=>false
 | .obj _ _=>false
 | .tup xs=>Qie xs
 | .lst xs=>Qie xs
 | .non=>true
 | .bl _=>true
 | .int _=>true
 | .str _=>true
noncomputable def Qie:List D->Bool
 | []=>true
 | d::ds=>d.noX && Qie ds
end
theorem Qjo:∀{ds:List D},(∀d∈ds,d.noX=true)->Qie ds=true
 | [],_=>rfl
 | d::ds,h=>by
  simp only[Qie,Zg]
  exact⟨h d Zj,Qjo λe he=>h e (Zb _ he)⟩
theorem Qen:∀(n:Nat) (d:D),d.sim n=true->d.noX=true
 | n,.exc _,h=>by cases n<;>cases h
 | n,.dk _,h=>by cases n<;>cases h
 | n,.obj _ _,h=>by cases n<;>cases h
 | n,.non,_=>rfl
 | n,.bl _,_=>rfl
 | n,.int _,_=>rfl
 | n,.str x,_=>rfl
 | 0,.tup xs,h=>by
  have:xs=[]:=by simpa[D.sim]using h
  subst this;rfl
 | 0,.lst xs,h=>by
  have:xs=[]:=by simpa[D.sim]using h
  subst this;rfl
 | n+1,.tup xs,h=>by
  simp only[D.sim,Zac]at h
  simp only[D.noX]
  exact Qjo λd hd=>Qen n d (h d hd)
 | n+1,.lst xs,h=>by
  simp only[D.sim,Zac]at h
  simp only[D.noX]
  exact Qjo λd hd=>Qen n d (h d hd)
section
variable {X:Cx}{pins:List (Addr×Obj)}{σ:L2.St}{H:Hp}{s:Shared}
mutual
theorem Rp.reads(I:Inv X pins σ H s):∀{d:D}{v:V}{F:List Addr}{u:Value},d.noX=true->Rp X.K H d v F->RelV v u->∃as,Reads s.heap u d.py as
 | .exc _,v,_,u,hx,h,r=>by cases hx
 | .dk _,v,_,u,hx,h,r=>by cases hx
 | .obj _ _,v,_,u,hx,h,r=>by cases hx
 | .non,v,_,u,hx,h,r=>by
  rw[h.Qfz]at r
  cases(show u=Value.none from r)
  exact⟨_,.none⟩
 | .bl b,v,_,u,hx,h,r=>by
  rw[h.QeG]at r
  cases(show u=Value.bool b from r)
  exact⟨_,.bool b⟩
 | .int i,v,_,u,hx,h,r=>by
  rw[h.int_inv]at r
  obtain⟨t,rfl⟩:=(show ∃t,u=Value.int i t from r)
  exact⟨_,.int i t⟩
 | .str i,v,_,u,hx,h,r=>by
  rw[h.str_inv]at r
  obtain⟨t,rfl⟩:=(show ∃t,u=Value.str i t from r)
  exact⟨_,.str i t⟩
 | .tup ds,v,_,u,hx,h,r=>by
  obtain⟨a,vs,rfl,hq,rs⟩:=h.QaQ
  cases(show u=Value.ref a from r)
  obtain⟨its,rv,⟨o,h1,h2,n,h3⟩,_⟩:=I.tuple hq
  obtain⟨as,ra⟩:=Rps.reads I (by simpa only[D.noX]using hx) rs rv
  exact⟨_,.tuple h1 h2 h3 (by simpa using ra)⟩
 | .lst ds,v,_,u,hx,h,r=>by
  simp only[Rp]at h
  obtain⟨hz,a,vs,rfl,h⟩:=h
  have key:∃G,(H a=some (.lst vs)∨Fix X.K H a vs)/\Rps X.K H ds vs G:=by
   rcases h with⟨G,_,q,rs⟩ | ⟨q,rs⟩
   ·exact⟨G,.inl q,rs⟩
   ·exact⟨_,.inr q,rs⟩
  obtain⟨G,hq,rs⟩:=key
  cases(show u=Value.ref a from r)
  obtain⟨_,its,n,rv,_,e⟩:=I.QlR hq
  obtain⟨as,ra⟩:=Rps.reads I (by simpa only[D.noX]using hx) rs rv
  exact⟨_,.list e rfl rfl (by simpa using ra)⟩
theorem Rps.reads(I:Inv X pins σ H s):∀{ds:List D}{vs:List V}{F:List Addr}{us:List Value},Qie ds=true->Rps X.K H ds vs F->Qq vs us->∃as,ReadsAll s.heap us (pys ds) as
 | [],vs,_,us,_,h,r=>by
  simp only[Rps]at h
  rw[h.1]at r
  cases r
  exact⟨_,.nil⟩
 | d::ds,vs,_,us,hx,h,r=>by
  simp only[Qie,Zg]at hx
  simp only[Rps]at h
  obtain⟨v,ws,F1,F2,rfl,rfl,h1,h2⟩:=h
  cases r with
  | cons r rr=>
   obtain⟨as,ra⟩:=Rp.reads I hx.1 h1 r
   obtain⟨bs,rb⟩:=Rps.reads I hx.2 h2 rr
   exact⟨_,.cons ra rb⟩
end
end
noncomputable def gEq(a b:D):Option D:=if a.sim 8 && b.sim 8 then some (.bl (deq a b))else none
noncomputable def gNe(a b:D):Option D:=if a.sim 8 && b.sim 8 then some (.bl (!deq a b))else none
noncomputable def Qvy(K:PySem.W.Frag):R2:=λx y H Q=>∃a b F G,Rp K H a x F/\Rp K H b y G/\a.sim 8=true/\b.sim 8=true/\Q (.bl (deq a b)) H
noncomputable def Qwu(K:PySem.W.Frag):R2:=λx y H Q=>∃a b F G,Rp K H a x F/\Rp K H b y G/\a.sim 8=true/\b.sim 8=true/\Q (.bl (!deq a b)) H
section
variable {X:Cx}
theorem Qvx(hu:X.A.units+64<cLine):OpR X (compareOp .Eq) (Qvy X.K):=by
 intro pins s σ H x y v u Q I rx ry h
 obtain⟨a,b,F,G,ha,hb,sa,sb,q⟩:=h
 obtain⟨as,ra⟩:=Rp.reads I (Qen 8 _ sa) ha rx
 obtain⟨bs,rb⟩:=Rp.reads I (Qen 8 _ sb) hb ry
 have h1:=Qde 8 a sa
 have h2:=Qde 8 b sb
 exact SeqAt.compareEq_reads ra rb h1.1 h2.1 (by have:=Nat.min_le_left a.py.depth b.py.depth;omega) ⟨.bl _,H,I,rfl,q⟩
theorem Qu8(hu:X.A.units+64<cLine):OpR X (compareOp .NotEq) (Qwu X.K):=by
 intro pins s σ H x y v u Q I rx ry h
 obtain⟨a,b,F,G,ha,hb,sa,sb,q⟩:=h
 obtain⟨as,ra⟩:=Rp.reads I (Qen 8 _ sa) ha rx
 obtain⟨bs,rb⟩:=Rp.reads I (Qen 8 _ sb) hb ry
 have h1:=Qde 8 a sa
 have h2:=Qde 8 b sb
 exact SeqAt.compareNe_reads ra rb h1.1 h2.1 (by have:=Nat.min_le_left a.py.depth b.py.depth;omega) ⟨.bl _,H,I,rfl,q⟩
theorem QxL:Qb9 K gEq (Qvy K):=λa b d e=>by
 unfold gEq at e
 split at e
 ·rename_i h
  simp only[Zg]at h
  cases e
  exact⟨rfl,λH x y F G Q ha hb q=>⟨a,b,F,G,ha,hb,h.1,h.2,q _ λ_=> .QcO⟩⟩
 ·cases e
theorem QxQ:Qb9 K gNe (Qwu K):=λa b d e=>by
 unfold gNe at e
 split at e
 ·rename_i h
  simp only[Zg]at h
  cases e
  exact⟨rfl,λH x y F G Q ha hb q=>⟨a,b,F,G,ha,hb,h.1,h.2,q _ λ_=> .QcO⟩⟩
 ·cases e
noncomputable def D.Qof:D->Bool
 | .non=>true
 | _=>false
theorem QtO(h:Rp K H d v F):decide (v= .non)=d.Qof:=by
 cases d with
 | obj o ds=>simp only[Rp]at h;obtain⟨vs,A,G,_,q,_⟩:=h;exact decide_eq_false q.ne
 | non=>rw[h.Qfz];rfl
 | bl b=>rw[h.QeG];rfl
 | int b=>rw[h.int_inv];rfl
 | str b=>rw[h.str_inv];rfl
 | tup b=>obtain⟨a,vs,rfl,_⟩:=h.QaQ;rfl
 | lst b=>obtain⟨a,vs,G,rfl,_⟩:=h.lst_inv;rfl
 | exc b=>simp only[Rp]at h;obtain⟨⟨a,rfl,_⟩,_⟩:=h;rfl
 | dk b=>simp only[Rp]at h;obtain⟨a,rfl,_⟩:=h;rfl
noncomputable def D.tyN:D->String
 | .non=> "NoneType" | .bl _=> "bool" | .int _=> "int" | .str _=> "str" | .tup _=> "tuple" | .lst _=> "list" | .exc _=> "?" | .dk _=> "?"
 | .obj _ _=> "?"
noncomputable def D.isE:D->Bool
 | .exc _=>true
 | .dk _=>true
 | .obj _ _=>true
 | _=>false
noncomputable def D.isa(T:String)(d:D):Option Bool:=if(T == "int" || T == "bool" || T == "list" || T == "tuple" || T == "str") && !d.isE then some (d.tyN == T || (d.tyN == "bool" && T == "int"))else none
theorem QvG(I:Inv X pins σ H s)(rp:Rp X.K H d v F)(rx:RelV v u)(e:d.isa T=some b)(h:∀tk,Q (.bool b) {s with toks:=tk}):
  wpAny (model X.prog X.w) A (call (.builtin "isinstance") [u,.type T]) Q E s:=by
 have kit:PySem.W.kitOne X.K (.type d.tyN) (.type T)=some b:=by
  unfold D.isa at e
  split at e
  ·rename_i hT
   cases e
   simp only[Zg,Bool.or_eq_true,beq_iff_eq]at hT
   obtain⟨hT,hE⟩:=hT
   rcases hT with(((rfl | rfl) | rfl) | rfl) | rfl<;>cases d<;>first | rfl | (cases hE)
  ·cases e
 cases d with
 | exc x=>unfold D.isa at e;split at e;(rename_i hT;exfalso;simp only[Zg]at hT;exact nomatch hT.2);cases e
 | dk x=>unfold D.isa at e;split at e;(rename_i hT;exfalso;simp only[Zg]at hT;exact nomatch hT.2);cases e
 | obj _ _=>unfold D.isa at e;split at e;(rename_i hT;exfalso;simp only[Zg]at hT;exact nomatch hT.2);cases e
 | non=>rw[rp.Qfz]at rx;cases(show u=Value.none from rx);exact ZN PySem.W.kitx_none I.kIn True.intro kit (λz=>nomatch z) h
 | bl y=>rw[rp.QeG]at rx;cases(show u=Value.bool y from rx);exact ZN PySem.W.kitx_bool I.kIn True.intro kit (λz=>nomatch z) h
 | int i=>rw[rp.int_inv]at rx;obtain⟨t,q⟩:=(show ∃t,u=Value.int i t from rx);cases q;exact ZN PySem.W.kitx_int I.kIn True.intro kit (λz=>nomatch z) h
 | str y=>rw[rp.str_inv]at rx;obtain⟨t,q⟩:=(show ∃t,u=Value.str y t from rx);cases q;exact ZN PySem.W.kitx_str I.kIn True.intro kit (λz=>nomatch z) h
 | tup ds=>
  obtain⟨a,vs,rfl,hq,_⟩:=rp.QaQ
  cases(show u=Value.ref a from rx)
  obtain⟨its,rv,⟨o,h1,h2,n,h3⟩,_⟩:=I.tuple hq
  exact ZN PySem.W.kitx_tuple I.kIn ⟨o,h1,h2⟩ kit (λz=>nomatch z) h
 | lst ds=>
  obtain⟨a,vs,G,rfl,hq,_⟩:=rp.lst_inv
  cases(show u=Value.ref a from rx)
  obtain⟨_,its,n,rv,_,e1⟩:=I.QlR hq
  exact ZN Zbh I.kIn ⟨_,e1,rfl⟩ kit (λz=>nomatch z) h
noncomputable def QyU(K:PySem.W.Frag):List V->Hp->VK->Prop:=λxs H Q=>∃x T d F b,xs=[x,.ty T]/\Rp K H d x F/\d.isa T=some b/\Q (.bl b) H
theorem Qrt:QaY X (.builtin "isinstance") (QyU X.K):=by
 intro pins s σ H xs us Q I r h
 obtain⟨x,T,d,F,b,rfl,rp,e,q⟩:=h
 obtain⟨u,w,rfl,ru,rw'⟩:=vals2 r
 cases(show w=Value.type T from rw')
 exact QvG I rp ru e λtk=>⟨.bl b,H,I.tok _,rfl,q⟩
noncomputable def Qj8(T:String)(fa:DE):DE:=λρ=>(fa ρ).bind λr=>(r.d.isa T).map λb=>⟨.bl b,true,[]⟩
theorem QvK(hg:Gl X "isinstance")(hm:X.mg "isinstance" =none)(ha:SE X a fa)(hT:PE X (.Name x p2) (tC (.ty T)))
  (he:starEach [a,.Name x p2] X.env=(false,eval a X.env)::starEach [.Name x p2] X.env):SE X (.Call (.Name "isinstance" p) [a,.Name x p2] [] pos) (Qj8 T fa):=λH0 A0=>
 (QfP Qrt hg hm ZaF (Qag (ha H0 A0) (Qag hT QbJ) he) (by decide) (by decide) he (by rfl)).mono λσ H Q=>exK λρ hs F r' rel e q=>by
  refine Qc e λr e1 e=>?_
  obtain⟨b,eb,e⟩:=Zc.mp e
  subst e
  exact⟨ρ,hs,F,r,rel,e1,λv H1 G p=>⟨v,T,r.d,G,b,rfl,p.rp,eb,q _ H1 [] (.flat p.same .QcO)⟩⟩
noncomputable def D.tru:D->Option Bool
 | .non=>some false
 | .bl b=>some b
 | .int i=>some (i != 0)
 | .lst xs=>some (!xs.isEmpty)
 | .tup xs=>some (!xs.isEmpty)
 | .str _=>none
 | .exc _=>none
 | .dk _=>none
 | .obj _ _=>none
theorem Qk7(h:Rp K H d v F)(e:d.tru=some b):Qrd K v H b:=by
 have emp:∀{ds:List D}{vs:List V}{G:List Addr},Rps K H ds vs G->(!ds.isEmpty)= !vs.isEmpty:=λ{ds vs G} r=>by
  have:=r.length
  cases ds<;>cases vs<;>simp_all
 cases d with
 | non=>rw[h.Qfz];cases e;exact rfl
 | bl c=>rw[h.QeG];cases e;exact rfl
 | int i=>rw[h.int_inv];cases e;exact rfl
 | str i=>cases e
 | exc i=>cases e
 | dk i=>cases e
 | obj _ _=>cases e
 | tup ds=>cases e;obtain⟨a,vs,rfl,hq,r⟩:=h.QaQ;exact .inr (.inl ⟨vs,hq,emp r⟩)
 | lst ds=>cases e;obtain⟨a,vs,G,rfl,hq,r,_⟩:=h.lst_inv;exact .inl ⟨vs,QP hq,emp r⟩
noncomputable def QA(fa:DE):DT:=λρ=>(fa ρ).bind λr=>r.d.tru
noncomputable def QeL(f g:DT):DT:=λρ=>(f ρ).bind λb=>if b=true then g ρ else some false
noncomputable def bOr(f g:DT):DT:=λρ=>(f ρ).bind λb=>if b=true then some true else g ρ
noncomputable def Qca(f:DT):DT:=λρ=>(f ρ).bind λb=>some (!b)
def SW(X:Cx)(e:Expr)(f:DT):Prop:=∀H0 A0,PW X e (tVT X.K H0 A0 f)
theorem _root_.L2.PW.mono(h:PW X e t)(m:∀σ H Q,t' σ H Q->t σ H Q):PW X e t':=λwh pins s σ H Q I q=>h wh pins s σ H Q I (m σ H Q q)
variable {a b e:Expr}{fa fb:DE}{ga gb gc:DT}{pos:Pos}{rest:List Expr}
theorem QvO(ha:SE X a fa)(he:∀whole,isTrue a X.env whole=(do let v ← whole;standAt a.pos;holding [v] (truthy v))):ST X a (QA fa):=λH0 A0=>
 (Qr9 (ha H0 A0) he).mono λσ H Q=>exK λρ hs F b rel e q=>by
  refine Qc e λr e1 e=>?_
  exact⟨ρ,hs,F,r,rel,e1,λv H1 G p=>⟨b,Qk7 p.rp e,q H1 p.same⟩⟩
theorem QvD(ho:OpR X (compareOp op) r)(hg:Qb9 X.K g r)(hbl:∀a b d,g a b=some d->∃k,d= .bl k)(ha:SE X a fa)(hb:SE X b fb)(hm:behindInMarks op b=false):ST X (.Compare a [op] [b] pos) (QA (dOp g fa fb)):=λH0 A0=>
 (Qt9 ho (ha H0 A0) (hb H0 A0) hm).mono λσ H Q=>exK λρ hs F k rel e q=>by
  refine Qc e λr' e0 e=>?_
  obtain⟨ra,rb,d,ea,eb,eg,rfl⟩:=Qj9 e0
  obtain⟨k',rfl⟩:=hbl _ _ _ eg
  cases e
  refine two rel ea eb λx y H1 H2 G1 G2 p1 p2=>(hg _ _ _ eg).2 H2 x y G1 G2 _ (p1.rp.same p2.same) p2.rp λv hv=>?_
  exact⟨_,(hv H2).QeG,q H2 (p1.same.trans p2.same)⟩
theorem Qvu(ha:ST X a ga):ST X (.UnaryOp .Not a pos) (Qca ga):=λH0 A0=>
 (Qvw (ha H0 A0)).mono λσ H Q=>exK λρ hs F b rel e q=>by
  refine Qc e λc e1 e=>?_
  cases e
  exact⟨ρ,hs,F,c,rel,e1,λH1 s1=>q H1 s1⟩
theorem Quo(ha:ST X a ga):SW X (.BoolOp .And [a] pos) ga:=λH0 A0=>QuF (ha H0 A0)
theorem Qwy(ha:ST X a ga):SW X (.BoolOp .Or [a] pos) ga:=λH0 A0=>QwH (ha H0 A0)
theorem Qw9(ha:ST X a ga)(hb:SW X (.BoolOp .And (b::rest) pos) gb):SW X (.BoolOp .And (a::b::rest) pos) (QeL ga gb):=λH0 A0=>
 (Qvc (ha H0 A0) (hb H0 A0)).mono λσ H Q=>exK λρ hs F c rel e q=>by
  refine Qc e λd e1 e=>?_
  refine⟨ρ,hs,F,d,rel,e1,λH1 s1=>?_⟩
  cases d with
  | true=>exact⟨ρ,hs,F,c,rel.ext s1,e,λH2 s2=>q H2 (s1.trans s2)⟩
  | false=>cases e;exact q H1 s1
theorem QxR(ha:ST X a ga)(hb:SW X (.BoolOp .Or (b::rest) pos) gb):SW X (.BoolOp .Or (a::b::rest) pos) (bOr ga gb):=λH0 A0=>
 (Qxz (ha H0 A0) (hb H0 A0)).mono λσ H Q=>exK λρ hs F c rel e q=>by
  refine Qc e λd e1 e=>?_
  refine⟨ρ,hs,F,d,rel,e1,λH1 s1=>?_⟩
  cases d with
  | true=>cases e;exact q H1 s1
  | false=>exact⟨ρ,hs,F,c,rel.ext s1,e,λH2 s2=>q H2 (s1.trans s2)⟩
theorem SW.st(h:SW X e ga):ST X e ga:=λH0 A0=>(h H0 A0).pt
noncomputable def Qb2(fa fb:DE):DE:=λρ=>(fa ρ).bind λra=>(ra.d.tru).bind λb=>if b=true then fb ρ else some ra
noncomputable def dOr(fa fb:DE):DE:=λρ=>(fa ρ).bind λra=>(ra.d.tru).bind λb=>if b=true then some ra else fb ρ
noncomputable def Qg1(fa:DE):DE:=λρ=>(fa ρ).bind λra=>(ra.d.tru).bind λb=>some ⟨.bl (!b),true,[]⟩
noncomputable def dIf(g:DT)(fa fb:DE):DE:=λρ=>(g ρ).bind λb=>if b=true then fa ρ else fb ρ
theorem QmQ{op}(h:SE X a fa):SE X (.BoolOp op [a] pos) fa:=λH0 A0=>Qwo (h H0 A0)
theorem QN.ext(s:Qr H H1)(p:QN K ρ F H1 H2 r v G)(rel:Rel K H0 A0 hs ρ F σ H):QN K ρ F H H2 r v G where
 same:=s.trans p.same
 rp:=p.rp
 src:=λa ha=>(p.src a ha).elim (λz=> .inl (s.free z)) .inr
 cnt:=λh=>⟨λa=>ZF ((p.cnt h).1 a) (ZaX (by
  cases q:H1 a with
  | none=>rw[Qaz q,Qaz (s.free q)];exact Zq _
  | some o=>rw[QcU q];exact ZT _) _),(p.cnt h).2⟩
 own:=p.own
theorem Qpd(ha:SE X a fa)(hb:SE X (.BoolOp .And (b::rest) pos) fb):SE X (.BoolOp .And (a::b::rest) pos) (Qb2 fa fb):=λH0 A0=>by
 intro pins s σ H Q I ⟨ρ,hs,F,r,rel,e,q⟩
 refine Qc e λra e1 e=>?_
 refine Qc e λc e2 e=>?_
 refine PyProof.Rows.BoolOp_and (thn (ha H0 A0 pins s σ H _ I ⟨ρ,hs,F,ra,rel,e1,λv H' G p=>(⟨G,p⟩:∃G,QN X.K ρ F H H' ra v G)⟩) λv s1 hpt=>?_)
 obtain⟨x,H1,I1,r1,G,p⟩:=hpt
 refine thn (Qi9 pins s1 σ H1 x v (λk H2=>k=c/\H2=H1) I1 r1 ⟨c,Qk7 p.rp e2,rfl,rfl⟩) λk s2 hpt=>?_
 obtain⟨H2,I2,e3,e4⟩:=hpt
 subst e3 e4
 cases k with
 | true=>exact hb H0 A0 pins s2 σ _ Q I2 ⟨ρ,hs,F,r,rel.ext p.same,e,λw H3 G3 p3=>q w H3 G3 (p3.ext p.same rel)⟩
 | false=>cases e;exact⟨x,_,I2,r1,q x _ G p⟩
theorem QxW(ha:SE X a fa)(hb:SE X (.BoolOp .Or (b::rest) pos) fb):SE X (.BoolOp .Or (a::b::rest) pos) (dOr fa fb):=λH0 A0=>by
 intro pins s σ H Q I ⟨ρ,hs,F,r,rel,e,q⟩
 refine Qc e λra e1 e=>?_
 refine Qc e λc e2 e=>?_
 refine PyProof.Rows.BoolOp_or (thn (ha H0 A0 pins s σ H _ I ⟨ρ,hs,F,ra,rel,e1,λv H' G p=>(⟨G,p⟩:∃G,QN X.K ρ F H H' ra v G)⟩) λv s1 hpt=>?_)
 obtain⟨x,H1,I1,r1,G,p⟩:=hpt
 refine thn (Qi9 pins s1 σ H1 x v (λk H2=>k=c/\H2=H1) I1 r1 ⟨c,Qk7 p.rp e2,rfl,rfl⟩) λk s2 hpt=>?_
 obtain⟨H2,I2,e3,e4⟩:=hpt
 subst e3 e4
 cases k with
 | false=>exact hb H0 A0 pins s2 σ _ Q I2 ⟨ρ,hs,F,r,rel.ext p.same,e,λw H3 G3 p3=>q w H3 G3 (p3.ext p.same rel)⟩
 | true=>cases e;exact⟨x,_,I2,r1,q x _ G p⟩
theorem QqG(ha:SE X a fa):SE X (.UnaryOp .Not a pos) (Qg1 fa):=λH0 A0=>by
 intro pins s σ H Q I ⟨ρ,hs,F,r,rel,e,q⟩
 refine Qc e λra e1 e=>?_
 refine Qc e λc e2 e=>?_
 cases e
 refine PyProof.Rows.UnaryOp_ (thn (ha H0 A0 pins s σ H _ I ⟨ρ,hs,F,ra,rel,e1,λv H' G p=>(⟨G,p⟩:∃G,QN X.K ρ F H H' ra v G)⟩) λv s1 hpt=>?_)
 obtain⟨x,H1,I1,r1,G,p⟩:=hpt
 refine PyProof.Rows.not_of (thn (Qi9 pins s1 σ H1 x v (λk H2=>k=c/\H2=H1) I1 r1 ⟨c,Qk7 p.rp e2,rfl,rfl⟩) λk s2 hpt=>?_)
 obtain⟨H2,I2,e3,e4⟩:=hpt
 subst e3 e4
 exact⟨.bl (!k),_,I2,rfl,q _ _ [] (.flat p.same .QcO)⟩
theorem Qxo(hc:ST X c gc)(ha:SE X a fa)(hb:SE X b fb):SE X (.IfExp c a b pos) (dIf gc fa fb):=λH0 A0=>
 (Qrc (hc H0 A0) (ha H0 A0) (hb H0 A0)).mono λσ H Q=>exK λρ hs F r rel e q=>by
  refine Qc e λc e1 e=>?_
  refine⟨ρ,hs,F,c,rel,e1,λH1 s1=>?_⟩
  cases c with
  | true=>exact⟨ρ,hs,F,r,rel.ext s1,e,λv H2 G p=>q v H2 G (p.ext s1 rel)⟩
  | false=>exact⟨ρ,hs,F,r,rel.ext s1,e,λv H2 G p=>q v H2 G (p.ext s1 rel)⟩
noncomputable def Qff(fa:DE):DE:=λρ=>(fa ρ).bind λra=>match ra.d with
 | .int i=>some ⟨.int (-i),true,[]⟩
 | _=>none
theorem Qwi(ha:SE X a fa):SE X (.UnaryOp .USub a pos) (Qff fa):=λH0 A0=>
 (QxX Qu2 (ha H0 A0)).mono λσ H Q=>exK λρ hs F r rel e q=>by
  refine Qc e λra e1 e=>?_
  refine⟨ρ,hs,F,ra,rel,e1,λv H1 G p=>?_⟩
  have rp:=p.rp
  cases hr:ra.d with
  | int i=>
   rw[hr]at e rp
   cases e
   exact⟨i,rp.int_inv,q _ H1 [] (.flat p.same .int_mk)⟩
  | _=>rw[hr]at e;cases e
end
end HS
namespace HS
open PySem PySem.Spec L2
section
def Qch(ρ ρ':En):Prop:=ρ'.length=ρ.length/\∀(i:Nat) d b,ρ'[i]? =some (some (d,b))->∃b',ρ[i]? =some (some (d,b'))/\(b=true->b'=true)
theorem Qch.refl:Qch ρ ρ:=⟨rfl,λi d b h=>⟨b,h,id⟩⟩
theorem Qch.trans(a:Qch ρ ρ')(b:Qch ρ' ρ''):Qch ρ ρ'':=⟨b.1.trans a.1,λi d c h=>by
 obtain⟨c',h1,h2⟩:=b.2 i d c h
 obtain⟨c'',h3,h4⟩:=a.2 i d c' h1
 exact⟨c'',h3,λz=>h4 (h2 z)⟩⟩
theorem Rel.weak(r:Rel K H0 A0 hs ρ F σ H)(w:Qch ρ ρ'):Rel K H0 A0 hs ρ' F σ H where
 len:=w.1.trans r.len
 val:=λi d b e=>let ⟨b',h,_⟩:=w.2 i d b e;r.val i d b' h
 own:=λi d e=>by
  obtain⟨b',h,hb⟩:=w.2 i d true e
  have:b'=true:=hb rfl
  subst this
  obtain⟨h1,h2,h3,h4,h5⟩:=r.own i d h
  exact⟨h1,h2,h3,λj d' b' hj e'=>let ⟨b'',h',_⟩:=w.2 j d' b' e';h4 j d' b'' hj h',h5⟩
 src:=λi d b e=>let ⟨b',h,_⟩:=w.2 i d b e;r.src i d b' h
 held:=r.held
 same:=r.same
noncomputable def kill:List Nat->En->En
 | [],ρ=>ρ
 | i::M,ρ=>kill M (ρ.set i none)
noncomputable def Qba:List Nat->En->En
 | [],ρ=>ρ
 | i::M,ρ=>Qba M (match ρ[i]? with
  | some (some (d,_))=>ρ.set i (some (d,false))
  | _=>ρ)
theorem Qb7(i:Nat):Qch ρ (ρ.set i none):=⟨by simp,λj d b h=>by
 by_cases hj:i=j
 ·subst hj
  by_cases hl:i<ρ.length
  ·rw[Zn hl]at h;cases h
  ·rw[Zr (by simp;omega)]at h;cases h
 ·rw[Zf hj]at h
  exact⟨b,h,id⟩⟩
theorem Qbk:∀(M:List Nat) (ρ:En),Qch ρ (kill M ρ)
 | [],ρ=> .refl
 | i::M,ρ=>(Qb7 i).trans (Qbk M _)
theorem QeT:∀(M:List Nat) (ρ:En) (i:Nat) (d:D) (b:Bool),i∈M->(kill M ρ)[i]? =some (some (d,b))->False
 | [],ρ,i,d,b,h,_=>by simp at h
 | j::M,ρ,i,d,b,h,e=>by
  rcases Zo.mp h with rfl | h
  ·obtain⟨b',e',_⟩:=(Qbk M (ρ.set i none)).2 i d b e
   by_cases hl:i<ρ.length
   ·rw[Zn hl]at e';cases e'
   ·rw[Zr (by simp;omega)]at e';cases e'
  ·exact QeT M _ i d b h e
theorem QrZ(i:Nat):Qch ρ (match ρ[i]? with
  | some (some (d,_))=>ρ.set i (some (d,false))
  | _=>ρ):=by
 split
 ·rename_i d b e
  refine⟨by simp,λj d' b' h=>?_⟩
  by_cases hj:i=j
  ·subst hj
   have hl:i<ρ.length:=(Zh.mp e).1
   rw[Zn hl]at h
   cases h
   exact⟨b,e,λz=>by cases z⟩
  ·rw[Zf hj]at h
   exact⟨b',h,id⟩
 ·exact .refl
theorem QbR:∀(M:List Nat) (ρ:En),Qch ρ (Qba M ρ)
 | [],ρ=> .refl
 | i::M,ρ=>(QrZ i).trans (QbR M _)
theorem QiY:∀(M:List Nat) (ρ:En) (i:Nat) (d:D),i∈M->(Qba M ρ)[i]? =some (some (d,true))->False
 | [],ρ,i,d,h,_=>by simp at h
 | j::M,ρ,i,d,h,e=>by
  rcases Zo.mp h with rfl | h
  ·obtain⟨b',e',hb⟩:=(QbR M _).2 i d true e
   have:b'=true:=hb rfl
   subst this
   split at e'
   ·rename_i d' b e1
    have hl:i<ρ.length:=(Zh.mp e1).1
    rw[Zn hl]at e'
    cases e'
   ·rename_i h1
    exact h1 d true e'
  ·exact QiY M _ i d h e
def Shr(H0:Hp)(A0:List Addr)(ρ:En)(F:Nat->List Addr)(G:List Addr):Prop:=
 ∀a∈G,(H0 a=none∨a∈A0)/\∀(i:Nat) d,ρ[i]? =some (some (d,true))->a∉F i
theorem Shr.of(r:Rel K H0 A0 hs ρ F σ H)(s:Src ρ F H M G):Shr H0 A0 (Qba M ρ) F G:=λa ha=>by
 have w:=QbR M ρ
 rcases s a ha with h | ⟨i,d,b,e,m,hm⟩
 ·refine⟨.inl (r.same.free h),λj d' e' hj=>?_⟩
  obtain⟨b',e2,_⟩:=w.2 j d' true e'
  obtain⟨vs,q⟩:=r.mem e2 hj
  rw[h]at q;cases q
 ·refine⟨r.src i d b e a m,λj d' e' hj=>?_⟩
  obtain⟨b',e2,hb⟩:=w.2 j d' true e'
  have:b'=true:=hb rfl
  subst this
  by_cases hij:i=j
  ·subst hij
   rw[e]at e2
   cases e2
   exact QiY M ρ i _ (hm rfl) e'
  ·exact(r.own j d' e2).2.2.2.1 i d b hij e a hj m
theorem Rel.Qjn(r:Rel K H0 A0 hs ρ F σ H)(rp:Rp K H d v G)(sh:Shr H0 A0 ρ F G):
  Rel K H0 A0 hs (ρ.set i (some (d,d.flat))) (λj=>if j=i then G else F j) (σ.set i (some v)) H where
 len:=by simp[r.len]
 val:=λj d' b e=>by
  by_cases hj:j=i
  ·subst hj
   have hl:j<ρ.length:=by
    by_cases hl:j<ρ.length
    ·exact hl
    ·rw[Zr (by simp;omega)]at e;cases e
   rw[Zn hl]at e
   cases e
   exact⟨v,by rw[Zn (by rw[← r.len];exact hl)],by rw[if_pos rfl];exact rp⟩
  ·rw[Zf (Ne.symm hj)]at e
   obtain⟨w,h1,h2⟩:=r.val j d' b e
   exact⟨w,by rw[Zf (Ne.symm hj)];exact h1,by rw[if_neg hj];exact h2⟩
 own:=λj d' e=>by
  by_cases hj:j=i
  ·subst hj
   have hl:j<ρ.length:=by
    by_cases hl:j<ρ.length
    ·exact hl
    ·rw[Zr (by simp;omega)]at e;cases e
   rw[Zn hl]at e
   have e1:=Option.some.inj (Option.some.inj e)
   have ed:d=d':=congrArg Prod.fst e1
   have ef:d.flat=true:=congrArg Prod.snd e1
   subst ed
   have:=rp.Qbc ef
   subst this
   rw[if_pos rfl]
   exact⟨(QcV d ef).symm,Zab,λa ha=>by simp at ha,λ_ _ _ _ _ a ha=>by simp at ha,λ_ _ a ha=>by simp at ha⟩
  ·rw[Zf (Ne.symm hj)]at e
   obtain⟨h1,h2,h3,h4,h5⟩:=r.own j d' e
   rw[if_neg hj]
   refine⟨h1,h2,h3,λk d'' b hk ek a ha=>?_,h5⟩
   by_cases hki:k=i
   ·subst hki
    rw[if_pos rfl]
    exact λhG=>(sh a hG).2 j d' e ha
   ·rw[Zf (Ne.symm hki)]at ek
    rw[if_neg hki]
    exact h4 k d'' b hk ek a ha
 src:=λj d' b e a ha=>by
  by_cases hj:j=i
  ·subst hj
   rw[if_pos rfl]at ha
   exact(sh a ha).1
  ·rw[Zf (Ne.symm hj)]at e
   rw[if_neg hj]at ha
   exact r.src j d' b e a ha
 held:=r.held
 same:=r.same
theorem QxT(r:Rel K H0 A0 hs ρ F σ H)(ow:QaZ ρ M)(nd:M.Nodup)(a:Addr):((M.map F).flatten).count a<=1:=by
 induction M with
 | nil=>simp
 | cons i M ih=>
  rw[Zw,Zai,ZY]
  obtain⟨h1,h2⟩:=ZJ.mp nd
  have ih':=ih (λj hj=>ow j (Zb _ hj)) h2
  obtain⟨d,e⟩:=ow i Zj
  obtain⟨_,nd1,_,apart,_⟩:=r.own i d e
  by_cases ha:a∈F i
  ·have c1:(F i).count a<=1:=ZR.mp nd1 a
   have c2:((M.map F).flatten).count a=0:=Zz.mpr λhm=>by
    obtain⟨l,hl,hal⟩:=ZaU.mp hm
    obtain⟨j,hj,rfl⟩:=ZX.mp hl
    obtain⟨d',e'⟩:=ow j (Zb _ hj)
    exact apart j d' true (λz=>h1 (z▸hj)) e' a ha hal
   omega
  ·have:(F i).count a=0:=Zz.mpr ha
   omega
theorem QN.fresh(r:Rel K H0 A0 hs ρ F σ H)(p:QN K ρ F H H' rr v G)(hf:rr.fr=true)(nd:rr.M.Nodup):
  G.Nodup/\∀a∈G,H0 a=none/\(H a=none∨∃i d,i∈rr.M/\ρ[i]? =some (some (d,true))/\a∈F i):=by
 obtain⟨c,_⟩:=p.cnt hf
 refine⟨ZR.mpr λa=>?_,λa ha=>?_⟩
 ·have h1:=c a
  have h2:=QxT r p.own nd a
  cases q:H a with
  | none=>rw[Qaz q,r.fl0 p.own q]at h1;omega
  | some o=>rw[QcU q]at h1;omega
 ·cases q:H a with
  | none=>exact⟨r.same.free q,.inl rfl⟩
  | some o=>
   have h1:=c a
   rw[QcU q]at h1
   have h2:0<G.count a:=ZS.mpr ha
   obtain⟨l,hl,hal⟩:=ZaU.mp (ZS.mp (by omega:0<((rr.M.map F).flatten).count a))
   obtain⟨i,hi,rfl⟩:=ZX.mp hl
   obtain⟨d,e⟩:=p.own i hi
   exact⟨(r.own i d e).2.2.1 a hal,.inr ⟨i,d,hi,e,hal⟩⟩
theorem Rel.Qvs(r:Rel K H0 A0 hs ρ F σ H)(p:QN K ρ F H H' rr v G)(hf:rr.fr=true)(nd:rr.M.Nodup):
  Rel K H0 A0 hs ((kill rr.M ρ).set i (some (rr.d,true))) (λj=>if j=i then G else F j) (σ.set i (some v)) H':=by
 have r1:=(r.ext p.same).weak (Qbk rr.M ρ)
 obtain⟨gn,gs⟩:=p.fresh r hf nd
 have gl:=(p.cnt hf).2
 have apart:∀(j:Nat) d b,(kill rr.M ρ)[j]? =some (some (d,b))->∀a∈G,a∉F j:=λj d b e a ha hj=>by
  obtain⟨b',e',_⟩:=(Qbk rr.M ρ).2 j d b e
  rcases(gs a ha).2 with q | ⟨k,d',hk,ek,hak⟩
  ·obtain⟨vs,w⟩:=r.mem e' hj
   rw[q]at w;cases w
  ·have hjk:j≠k:=λz=>by subst z;exact QeT rr.M ρ j d b hk e
   exact(r.own k d' ek).2.2.2.1 j d b' hjk e' a hak hj
 have apartH:∀t∈hs,∀a∈G,a∉t.2.2:=λt ht a ha hj=>by
  rcases(gs a ha).2 with q | ⟨k,d',hk,ek,hak⟩
  ·obtain⟨vs,w⟩:=(r.held t ht).1.mem a hj
   rw[q]at w;cases w
  ·exact(r.own k d' ek).2.2.2.2 t ht a hak hj
 have lt:∀{j:Nat}{x:Option (D×Bool)}{y:D×Bool},((kill rr.M ρ).set j x)[j]? =some (some y)->j<(kill rr.M ρ).length:=λ{j x y} e=>by
  by_cases hl:j<(kill rr.M ρ).length
  ·exact hl
  ·rw[Zr (by simp;omega)]at e;cases e
 refine⟨by simp[r1.len],λj d b e=>?_,λj d e=>?_,λj d b e a ha=>?_,r1.held,r1.same⟩
 ·by_cases hj:j=i
  ·subst hj
   have hl:=lt e
   rw[Zn hl]at e
   cases e
   exact⟨v,by rw[Zn (by rw[← r1.len];exact hl)],by rw[if_pos rfl];exact p.rp⟩
  ·rw[Zf (Ne.symm hj)]at e
   obtain⟨w,h1,h2⟩:=r1.val j d b e
   exact⟨w,by rw[Zf (Ne.symm hj)];exact h1,by rw[if_neg hj];exact h2⟩
 ·by_cases hj:j=i
  ·subst hj
   have hl:=lt e
   rw[Zn hl]at e
   cases e
   rw[if_pos rfl]
   refine⟨gl,gn,λa ha=>(gs a ha).1,λk d' b hk ek a ha=>?_,apartH⟩
   rw[Zf (Ne.symm hk)]at ek
   rw[if_neg hk]
   exact apart k d' b ek a ha
  ·rw[Zf (Ne.symm hj)]at e
   obtain⟨h1,h2,h3,h4,h5⟩:=r1.own j d e
   rw[if_neg hj]
   refine⟨h1,h2,h3,λk d' b hk ek a ha=>?_,h5⟩
   by_cases hki:k=i
   ·subst hki
    rw[if_pos rfl]
    exact λhG=>apart j d true e a hG ha
   ·rw[Zf (Ne.symm hki)]at ek
    rw[if_neg hki]
    exact h4 k d' b hk ek a ha
 ·by_cases hj:j=i
  ·subst hj
   rw[if_pos rfl]at ha
   exact .inl (gs a ha).1
  ·rw[Zf (Ne.symm hj)]at e
   rw[if_neg hj]at ha
   exact r1.src j d b e a ha
noncomputable def asg(i:Nat)(r:R)(ρ:En):En:=
 if r.norm.fr && decide r.norm.M.Nodup then(kill r.norm.M ρ).set i (some (r.d,true))else(Qba r.norm.M ρ).set i (some (r.d,r.d.flat))
theorem Rel.asg(r:Rel K H0 A0 hs ρ F σ H)(p:QN K ρ F H H' rr v G):∃F',Rel K H0 A0 hs (asg i rr ρ) F' (σ.set i (some v)) H':=by
 have p':=p.norm
 unfold HS.asg
 split
 ·rename_i h
  simp only[Zg,decide_eq_true_eq]at h
  have:=r.Qvs (i:=i) p' h.1 h.2
  rw[rr.QcN]at this
  exact⟨_,this⟩
 ·have r1:=(r.ext p'.same).weak (QbR rr.norm.M ρ)
  have rp:=p'.rp
  rw[rr.QcN]at rp
  have sh:=Shr.of r p'.src
  exact⟨_,r1.Qjn rp sh⟩
theorem Rel.hold(r:Rel K H0 A0 hs ρ F σ H)(h:∀t∈ts,Rp K H t.2.1 t.1 t.2.2/\Shr H0 A0 ρ F t.2.2):Rel K H0 A0 (ts++hs) ρ F σ H where
 len:=r.len
 val:=r.val
 own:=λi d e=>by
  obtain⟨h1,h2,h3,h4,h5⟩:=r.own i d e
  refine⟨h1,h2,h3,h4,λt ht a ha hm=>?_⟩
  rcases Zm.mp ht with z | z
  ·exact((h t z).2 a hm).2 i d e ha
  ·exact h5 t z a ha hm
 src:=r.src
 held:=λt ht=>by
  rcases Zm.mp ht with z | z
  ·exact⟨(h t z).1,λa ha=>((h t z).2 a ha).1⟩
  ·exact r.held t z
 same:=r.same
theorem Rel.QlI(r:Rel K H0 A0 (ts++hs) ρ F σ H):Rel K H0 A0 hs ρ F σ H where
 len:=r.len
 val:=r.val
 own:=λi d e=>let ⟨h1,h2,h3,h4,h5⟩:=r.own i d e;⟨h1,h2,h3,h4,λt ht=>h5 t (Ze _ ht)⟩
 src:=r.src
 held:=λt ht=>r.held t (Ze _ ht)
 same:=r.same
end
structure Ret (K:PySem.W.Frag) (H0:Hp) (A0:List Addr) (d:D) (fr:Bool) (v:V) (H':Hp) (G:List Addr):Prop where
 same:Qr H0 H'
 rp:Rp K H' d v G
 src:∀a∈G,H0 a=none∨a∈A0
 cnt:fr=true->G.Nodup/\G.length=d.nl/\∀a∈G,H0 a=none
noncomputable abbrev Den:=List D->Option (D×Bool)
noncomputable def spV(K:PySem.W.Frag)(n:Nat)(den:Den):Sp:=λvs H Q _=>∃ds F d fr,Rps K H ds vs F/\ds.length=n/\den ds=some (d,fr)/\∀v H' G,Ret K H F d fr v H' G->Q v H'
theorem QjG{K:PySem.W.Frag}{n:Nat}{den:Den}{ps:List Str}(hn:ps.length=n):∀vs H Q E,spV K n den vs H Q E->vs.length=ps.length:=λvs H Q E ⟨ds,F,d,fr,r,hl,_⟩=>by rw[hn,← hl,r.length]
noncomputable def Qz(n:Nat)(den:Den)(dfl:List D)(fs:DA):DE:=λρ=>(fs ρ).bind λr=>if r.ds.length+dfl.length=n then(den (r.ds++dfl)).map λq=>if q.2=true then⟨q.1,true,[]⟩else R.norm ⟨q.1,false,r.M⟩else none
section
variable {X:Cx}{e:Expr}{es:List Expr}{fs:DA}{pos p:Pos}{x:Str}{n k:Nat}{f:Addr}{fd:FuncData}{ps:List Str}{den:Den}{dfl:List D}{dvs:List V}{ds:List Value}
theorem Qkh{σ:L2.St}{H H0:Hp}{A0:List Addr}{Q:VK}(hdf:∀H,Rps X.K H dfl dvs []):tV X.K H0 A0 (Qz n den dfl fs) σ H Q->QoU (spV X.K n den) dvs E0 (tVA X.K H0 A0 fs) σ H Q:=exK λρ hs F r rel e q=>by
 refine Qc e λra e1 e=>?_
 split at e
 ·rename_i hl
  obtain⟨⟨d,fr⟩,e2,e⟩:=Zc.mp e
  refine⟨ρ,hs,F,ra,rel,e1,λvs H1 G p1=>⟨ra.ds++dfl,G++[],d,fr,p1.rp.append (hdf H1),by rw[Zk];exact hl,e2,λv H2 G2 rt=>?_⟩⟩
  subst e
  have src:Src ρ F H ra.M G2:=λa ha=>by
   rcases rt.src a ha with z | z
   ·exact .inl (p1.same.free z)
   ·rw[ZD]at z
    exact p1.src a z
  split at q
  ·rename_i hf
   have hf:fr=true:=hf
   obtain⟨nd,hn,fresh⟩:=rt.cnt hf
   have hH:∀a∈G2,H a=none:=λa ha=>p1.same.free (fresh a ha)
   refine q v H2 G2 ⟨p1.same.trans rt.same,rt.rp,λa ha=> .inl (hH a ha),λ_=>⟨λa=>?_,hn⟩,QaZ.nil⟩
   by_cases ha:a∈G2
   ·rw[Qaz (hH a ha)];have:=ZR.mp nd a;omega
   ·rw[Zz.mpr ha];exact ZT _
  ·refine q v H2 G2 (QN.norm ⟨p1.same.trans rt.same,rt.rp,src,λz=>(by cases z),p1.own⟩)
 ·cases e
theorem QtC(Fk:Q4 X.prog X.w X.K X.mg X.base CX0 k f fd ps (spV X.K n den))(hr:QU k X.A)(hg:Gl X x)(hm:X.mg x=some (.ref f))(hk:PySem.W.keepIn X.K (.ref f)=true)(hb:Binds X.K fd ps ds)(hd:Qq dvs ds)(hdf:∀H,Rps X.K H dfl dvs [])
  (ha:SA X (e::es) fs) (hdb:(x == ("__debug__" :Str))=false) (he:starEach (e::es) X.env=(false,eval e X.env)::starEach es X.env) (hpl:(backTo pos (starEach es X.env)).any (·.1)=false):
  SE X (.Call (.Name x p) (e::es) [] pos) (Qz n den dfl fs):=λH0 A0=>
 (Qjr Fk hr hg hm hk hb hd QfV (ha H0 A0) hdb he hpl).mono λσ H Q h=>Qkh hdf h
theorem Qrk(Fk:Q4 X.prog X.w X.K X.mg X.base CX0 k f fd ps (spV X.K n den))(hr:QU k X.A)(hg:Gl X x)(hm:X.mg x=some (.ref f))(hk:PySem.W.keepIn X.K (.ref f)=true)(hb:Binds X.K fd ps ds)(hd:Qq dvs ds)(hdf:∀H,Rps X.K H dfl dvs [])
  (hdb:(x == ("__debug__" :Str))=false):SE X (.Call (.Name x p) [] [] pos) (Qz n den dfl Qe):=λH0 A0=>
 (Qr1 Fk hr hg hm hk hb hd QfV hdb).mono λσ H Q h=>by
  have h':=Qkh hdf h
  obtain⟨ρ,hs,F,r,rel,e,q⟩:=h'
  cases e
  exact q [] H [] ⟨Qr.refl _,by simp[Rps],Src.nil,λ_=>⟨Cnt.nil,rfl⟩,QaZ.nil⟩
end
structure IR where
 items:List D
 M:List Nat
noncomputable abbrev DI:=En->Option IR
def QjM(K:PySem.W.Frag)(H:Hp)(ts:List (V×D×List Addr)):Prop:=∀t∈ts,Rp K H t.2.1 t.1 t.2.2
structure Walk (K:PySem.W.Frag) (J:It) (ts:List (V×D×List Addr)) (ds:List D):Prop where
 stop:∀H,QjM K H ts->J.stop ds.length H
 go:∀i H,i<ds.length->QjM K H ts->J.go i H
 yld:∀(i:Nat) d H x H',ds[i]? =some d->QjM K H ts->J.yld i H x H'->Qr H H'/\∃G,Rp K H' d x G/\∀a∈G,∃t∈ts,a∈t.2.2
noncomputable def tI(K:PySem.W.Frag)(H0:Hp)(A0:List Addr)(f:DI):TI:=λσ H Rr=>∃ρ hs F ir,Rel K H0 A0 hs ρ F σ H/\f ρ=some ir∧
 ∀J H1 ts,Qr H H1->Walk K J ts ir.items->(∀t∈ts,Rp K H1 t.2.1 t.1 t.2.2/\Src ρ F H ir.M t.2.2)->QaZ ρ ir.M->ir.items.length<=sizeLine->Rr J H1
def SI(X:Cx)(tg e:Expr)(f:DI):Prop:=∀H0 A0,PI X tg e (tI X.K H0 A0 f)
theorem _root_.L2.PI.mono(h:PI X tg e t)(m:∀σ H Q,t' σ H Q->t σ H Q):PI X tg e t':=λpins s σ H Q I q=>h pins s σ H Q I (m σ H Q q)
section
variable {X:Cx}{tg a b:Expr}{fa fb:DE}{fs:DA}{pos p:Pos}
theorem Rps.nth{K:PySem.W.Frag}{H:Hp}{ds:List D}{vs:List V}{F:List Addr}{i:Nat}{d:D}(h:Rps K H ds vs F)(e:ds[i]? =some d):∃v G,vs[i]? =some v/\Rp K H d v G/\∀a∈G,a∈F:=by
 obtain⟨v,F1,G,F2,h1,h2,h3,_⟩:=h.get e
 exact⟨v,G,h1,h3,λa ha=>by rw[h2];exact Ze _ (Zd _ ha)⟩
noncomputable def QyM(K:PySem.W.Frag)(tl:TE):TI:=λσ H Rr=>tl σ H λx H1=>(∃a,x= .ref a/\(∃xs,SqL K H1 a xs)/\Rr (Itl K a) H1)∨(∃a,x= .ref a/\(∃xs,SqT K H1 a xs)/\Rr (Itt K a) H1)
theorem Qve(hl:PE X l tl):PI X tg l (QyM X.K tl):=by
 intro pins s σ H Rr I h
 refine thn (hl pins s σ H _ I h) λv s1=>exJ λx H1 I1 r1 q1=>?_
 rcases q1 with⟨a,e,⟨xs,hq⟩,q⟩ | ⟨a,e,⟨xs,hq⟩,q⟩
 ·subst e
  cases r1
  obtain⟨its,rv,pl,hz⟩:=I1.list hq
  refine wpAny_pyIter_list pl.isList ⟨s1.heap.objs.size,[s1.heap.objs.size],_,_,H1,rfl,I1.kept (t':=s1.toks) λb o e=>Zt _ e,Qqz a _,⟨_,ZM _ rfl,rfl,rfl⟩,λb hb=>?_,q⟩
  have e:b=s1.heap.objs.size:=by simpa using hb
  subst e
  exact I1.Qmv (Zq _) (I1.hok.fresh (Zq _))
 ·subst e
  cases r1
  obtain⟨its,rv,pl,hz⟩:=I1.tuple hq
  refine wpAny_pyIter_tuple (show s1.heap.IsTuple a its.toArray from pl) ⟨s1.heap.objs.size,[s1.heap.objs.size],_,_,H1,rfl,I1.kept (t':=s1.toks) λb o e=>Zt _ e,QoX a _,⟨_,ZM _ rfl,rfl,rfl⟩,λb hb=>?_,q⟩
  have e:b=s1.heap.objs.size:=by simpa using hb
  subst e
  exact I1.Qmv (Zq _) (I1.hok.fresh (Zq _))
noncomputable def Qaf(fa:DE):DI:=λρ=>(fa ρ).bind λr=>match r.d with
 | .lst xs=>some ⟨xs,r.M⟩
 | .tup xs=>if xs.length<=sizeLine then some ⟨xs,r.M⟩else none
 | _=>none
theorem Qqh{K:PySem.W.Frag}{c:Addr}{ds:List D}{G:List Addr}:Walk K (Itl K c) [(.ref c,.lst ds,G)] ds where
 stop:=λH h=>by
  obtain⟨l,vs,L,e,hl,rl,zl,el⟩:=(h _ (Zl.mpr rfl)).lst_inv
  cases e
  exact⟨vs,QP hl,by rw[rl.length];exact Zq _⟩
 go:=λi H hi h=>by
  obtain⟨l,vs,L,e,hl,rl,zl,el⟩:=(h _ (Zl.mpr rfl)).lst_inv
  cases e
  have:i<vs.length:=by rw[← rl.length];exact hi
  exact⟨vs,vs[i],QP hl,by simp[this]⟩
 yld:=λi d H x H' e h y=>by
  obtain⟨l,vs,L,e1,hl,rl,zl,el⟩:=(h _ (Zl.mpr rfl)).lst_inv
  cases e1
  obtain⟨rfl,y⟩:=y
  obtain⟨v,G',h1,h2,h3⟩:=rl.nth e
  have:=y vs (QP hl)
  rw[h1]at this
  cases this
  refine⟨Qr.refl _,G',h2,λz hz=>⟨_,Zl.mpr rfl,?_⟩⟩
  have:=h3 z hz
  rcases el with rfl | rfl
  ·exact Zb _ this
  ·exact this
theorem Qsf{K:PySem.W.Frag}{c:Addr}{ds:List D}{G:List Addr}:Walk K (Itt K c) [(.ref c,.tup ds,G)] ds where
 stop:=λH h=>by
  obtain⟨l,vs,e,hl,rl⟩:=(h _ (Zl.mpr rfl)).QaQ
  cases e
  exact⟨vs,hl,by rw[rl.length];exact Zq _⟩
 go:=λi H hi h=>by
  obtain⟨l,vs,e,hl,rl⟩:=(h _ (Zl.mpr rfl)).QaQ
  cases e
  have:i<vs.length:=by rw[← rl.length];exact hi
  exact⟨vs,vs[i],hl,by simp[this]⟩
 yld:=λi d H x H' e h y=>by
  obtain⟨l,vs,e1,hl,rl⟩:=(h _ (Zl.mpr rfl)).QaQ
  cases e1
  obtain⟨rfl,y⟩:=y
  obtain⟨v,G',h1,h2,h3⟩:=rl.nth e
  have:=y vs hl
  rw[h1]at this
  cases this
  exact⟨Qr.refl _,G',h2,λz hz=>⟨_,Zl.mpr rfl,h3 z hz⟩⟩
theorem QvU(ha:SE X a fa):SI X tg a (Qaf fa):=λH0 A0=>
 (Qve (ha H0 A0)).mono λσ H Rr=>exK λρ hs F ir rel e q=>by
 refine Qc e λr e1 e=>?_
 refine⟨ρ,hs,F,r,rel,e1,λv H1 G p=>?_⟩
 have rp:=p.rp
 cases hr:r.d with
 | lst xs=>
  rw[hr]at e rp
  cases e
  obtain⟨c,vs,L,rfl,hl,rl,zl,el⟩:=rp.lst_inv
  refine .inl ⟨c,rfl,⟨vs,QP hl⟩,q _ H1 [(.ref c,.lst xs,G)] p.same Qqh (λt ht=>?_) p.own zl⟩
  rw[Zl.mp ht]
  exact⟨rp,p.src⟩
 | tup xs=>
  rw[hr]at e rp
  dsimp only at e
  split at e
  ·rename_i hz
   cases e
   obtain⟨c,vs,rfl,hl,rl⟩:=rp.QaQ
   refine .inr ⟨c,rfl,⟨vs,hl⟩,q _ H1 [(.ref c,.tup xs,G)] p.same Qsf (λt ht=>?_) p.own hz⟩
   rw[Zl.mp ht]
   exact⟨rp,p.src⟩
  ·cases e
 | _=>rw[hr]at e;cases e
noncomputable def Qib(lo:Int)(n:Nat):List D:=(List.range n).map λ(k:Nat)=> .int (lo+(k:Int))
theorem Qia:(Qib lo n).length=n:=by simp[Qib]
theorem Qrs(h:(Qib lo n)[i]? =some d):i<n/\d= .int (lo+i):=by
 unfold Qib at h
 rw[ZA]at h
 cases q:(List.range n)[i]? with
 | none=>rw[q]at h;cases h
 | some k=>
  rw[q]at h
  obtain⟨h1,h2⟩:=Zh.mp q
  simp at h1 h2
  subst h2
  exact⟨h1,(Option.some.inj h).symm⟩
theorem Qoy:Walk K (Itr lo n) [] (Qib lo n) where
 stop:=λH _=>by rw[Qia];exact Zq _
 go:=λi H hi _=>by rw[Qia]at hi;exact hi
 yld:=λi d H x H' e _ y=>by
  obtain⟨h1,rfl⟩:=Qrs e
  obtain⟨rfl,rfl⟩:=y
  exact⟨Qr.refl _,[],.int_mk,λz hz=>by simp at hz⟩
noncomputable def QbO(fa:DE):DI:=λρ=>(fa ρ).bind λr=>match r.d with
 | .int j=>if j<=16777216/\ -(2^62)<=j then some ⟨Qib 0 j.toNat,[]⟩else none
 | _=>none
theorem QhA:(sizeLine:Nat)=16777216:=sizeLine_eq
theorem Qpo(hg:Gl X "range")(hm:X.mg "range" =none)(ha:SE X a fa)(hs:starEach [a] X.env=[(false,eval a X.env)]):SI X tg (.Call (.Name "range" p) [a] [] pos) (QbO fa):=λH0 A0=>
 (Qp7 hg hm (Qag (ha H0 A0) QbJ hs) hs).mono λσ H Rr=>exK λρ hs F ir rel e q=>by
  refine Qc e λr e1 e=>?_
  refine⟨ρ,hs,F,r,rel,e1,λv H1 G pp=>?_⟩
  have rp:=pp.rp
  cases hr:r.d with
  | int j=>
   rw[hr]at e rp
   dsimp only at e
   split at e
   ·rename_i hz
    cases e
    rw[rp.int_inv]
    refine⟨j,rfl,hz.2,by omega,q _ H1 [] pp.same Qoy (λt ht=>by simp at ht) QaZ.nil ?_⟩
    rw[Qia,QhA];omega
   ·cases e
  | _=>rw[hr]at e;cases e
noncomputable def Qdh(ds:List D):List D:=ds.zipIdx.map λq=> .tup [.int q.2,q.1]
theorem QgQ:(Qdh ds).length=ds.length:=by simp[Qdh]
theorem Qpq{ds:List D}{i:Nat}{d:D}(h:(Qdh ds)[i]? =some d):∃e,ds[i]? =some e/\d= .tup [.int i,e]:=by
 unfold Qdh at h
 rw[ZA,ZaY]at h
 cases q:ds[i]? with
 | none=>rw[q]at h;cases h
 | some e=>rw[q]at h;simp at h;exact⟨e,rfl,h.symm⟩
theorem QpW{K:PySem.W.Frag}{c:Addr}{ds:List D}{G:List Addr}:Walk K (Ite K c) [(.ref c,.lst ds,G)] (Qdh ds) where
 stop:=λH h=>by
  obtain⟨l,vs,L,e,hl,rl,zl,el⟩:=(h _ (Zl.mpr rfl)).lst_inv
  cases e
  exact⟨vs,QP hl,by rw[QgQ,rl.length];exact Zq _⟩
 go:=λi H hi h=>by
  obtain⟨l,vs,L,e,hl,rl,zl,el⟩:=(h _ (Zl.mpr rfl)).lst_inv
  cases e
  rw[QgQ]at hi
  have:i<vs.length:=by rw[← rl.length];exact hi
  exact⟨vs,vs[i],QP hl,by simp[this]⟩
 yld:=λi d H x H' e h y=>by
  obtain⟨l,vs,L,e1,hl,rl,zl,el⟩:=(h _ (Zl.mpr rfl)).lst_inv
  cases e1
  obtain⟨d',e',rfl⟩:=Qpq e
  obtain⟨pp,u,rfl,hp,rfl,y⟩:=y
  obtain⟨v,G',h1,h2,h3⟩:=rl.nth e'
  have:=y vs (QP hl)
  rw[h1]at this
  cases this
  have s:=Qay (o:= .tup [.int i,u]) hp
  refine⟨s,G',Rp.Qlp QQ ?_,λz hz=>⟨_,Zl.mpr rfl,?_⟩⟩
  ·simp only[Rps]
   exact⟨.int i,[u],[],G',rfl,rfl,.int_mk,u,[],G',[],rfl,by simp,h2.same s,rfl,rfl⟩
  ·have:=h3 z hz
   rcases el with rfl | rfl
   ·exact Zb _ this
   ·exact this
noncomputable def QdO(fa:DE):DI:=λρ=>(fa ρ).bind λr=>match r.d with
 | .lst xs=>some ⟨Qdh xs,r.M⟩
 | _=>none
theorem Qtz(hg:Gl X "enumerate")(hm:X.mg "enumerate" =none)(ha:SE X a fa)(hs:starEach [a] X.env=[(false,eval a X.env)]):SI X (.Tuple es tk tpos) (.Call (.Name "enumerate" p) [a] [] pos) (QdO fa):=λH0 A0=>
 (Que hg hm (Qag (ha H0 A0) QbJ hs) hs).mono λσ H Rr=>exK λρ hs F ir rel e q=>by
  refine Qc e λr e1 e=>?_
  refine⟨ρ,hs,F,r,rel,e1,λv H1 G pp=>?_⟩
  have rp:=pp.rp
  cases hr:r.d with
  | lst xs=>
   rw[hr]at e rp
   cases e
   obtain⟨c,vs,L,rfl,hl,rl,zl,el⟩:=rp.lst_inv
   refine⟨c,rfl,⟨vs,QP hl⟩,q _ H1 [(.ref c,.lst xs,G)] pp.same QpW (λt ht=>?_) pp.own (by rw[QgQ];exact zl)⟩
   rw[Zl.mp ht]
   exact⟨rp,pp.src⟩
  | _=>rw[hr]at e;cases e
noncomputable def Qgh(xs ys:List D):List D:=(xs.zip ys).map λq=> .tup [q.1,q.2]
theorem Qit:(Qgh xs ys).length=min xs.length ys.length:=by simp[Qgh]
theorem QrQ{xs ys:List D}{i:Nat}{d:D}(h:(Qgh xs ys)[i]? =some d):∃e f,xs[i]? =some e/\ys[i]? =some f/\d= .tup [e,f]:=by
 unfold Qgh at h
 rw[ZA]at h
 cases q:(xs.zip ys)[i]? with
 | none=>rw[q]at h;cases h
 | some e=>
  rw[q]at h
  obtain⟨h1,h2⟩:=List.getElem?_zip_eq_some.mp q
  exact⟨e.1,e.2,h1,h2,(Option.some.inj h).symm⟩
theorem QqY{K:PySem.W.Frag}{c c':Addr}{xs ys:List D}{G G':List Addr}:Walk K (Itz K c c') [(.ref c,.lst xs,G),(.ref c',.lst ys,G')] (Qgh xs ys) where
 stop:=λH h=>by
  obtain⟨l,vs,L,e,hl,rl,zl,el⟩:=(h _ (Zj)).lst_inv
  obtain⟨l',vs',L',e',hl',rl',zl',el'⟩:=(h _ (Zb _ Zj)).lst_inv
  cases e
  cases e'
  refine⟨vs,vs',QP hl,QP hl',?_⟩
  rw[Qit,← rl.length,← rl'.length];omega
 go:=λi H hi h=>by
  obtain⟨l,vs,L,e,hl,rl,zl,el⟩:=(h _ (Zj)).lst_inv
  obtain⟨l',vs',L',e',hl',rl',zl',el'⟩:=(h _ (Zb _ Zj)).lst_inv
  cases e
  cases e'
  rw[Qit]at hi
  have h1:i<vs.length:=by rw[← rl.length];omega
  have h2:i<vs'.length:=by rw[← rl'.length];omega
  exact⟨vs,vs',vs[i],vs'[i],QP hl,QP hl',by simp[h1],by simp[h2]⟩
 yld:=λi d H x H' e h y=>by
  obtain⟨l,vs,L,e1,hl,rl,zl,el⟩:=(h _ (Zj)).lst_inv
  obtain⟨l',vs',L',e1',hl',rl',zl',el'⟩:=(h _ (Zb _ Zj)).lst_inv
  cases e1
  cases e1'
  obtain⟨d1,d2,ea,eb,rfl⟩:=QrQ e
  obtain⟨pp,u,u',rfl,hp,rfl,y,y'⟩:=y
  obtain⟨v,G1,h1,h2,h3⟩:=rl.nth ea
  obtain⟨v',G2,h1',h2',h3'⟩:=rl'.nth eb
  have:=y vs (QP hl)
  rw[h1]at this
  cases this
  have:=y' vs' (QP hl')
  rw[h1']at this
  cases this
  have s:=Qay (o:= .tup [u,u']) hp
  refine⟨s,G1++G2,Rp.Qlp QQ ?_,λz hz=>?_⟩
  ·simp only[Rps]
   exact⟨u,[u'],G1,G2,rfl,rfl,h2.same s,u',[],G2,[],rfl,by simp,h2'.same s,rfl,rfl⟩
  ·rcases Zm.mp hz with hz | hz
   ·refine⟨_,Zj,?_⟩
    have:=h3 z hz
    rcases el with rfl | rfl
    ·exact Zb _ this
    ·exact this
   ·refine⟨_,Zb _ Zj,?_⟩
    have:=h3' z hz
    rcases el' with rfl | rfl
    ·exact Zb _ this
    ·exact this
noncomputable def Qol(fa fb:DE):DI:=λρ=>(fa ρ).bind λr=>(fb ρ).bind λr'=>match r.d,r'.d with
 | .lst xs,.lst ys=>some ⟨Qgh xs ys,r.M++r'.M⟩
 | _,_=>none
theorem Qv0(hg:Gl X "zip")(hm:X.mg "zip" =none)(ha:SE X a fa)(hb:SE X b fb)(hs:starEach [a,b] X.env=[(false,eval a X.env),(false,eval b X.env)])(hs2:starEach [b] X.env=[(false,eval b X.env)]):
  SI X (.Tuple es tk tpos) (.Call (.Name "zip" p) [a,b] [] pos) (Qol fa fb):=λH0 A0=>
 (QqF hg hm (Qag (ha H0 A0) (Qag (hb H0 A0) QbJ hs2) (by rw[hs,hs2])) hs hs2).mono λσ H Rr=>exK λρ hs F ir rel e q=>by
  refine Qc e λr e1 e=>?_
  refine Qc e λr' e2 e=>?_
  refine⟨ρ,hs,F,r,rel,e1,λv H1 G pp=>⟨ρ,hs,F,r',rel.ext pp.same,e2,λv' H2 G' pp'=>?_⟩⟩
  have rp:=pp.rp.same pp'.same
  have rp':=pp'.rp
  cases hr:r.d with
  | lst xs=>
   cases hr':r'.d with
   | lst ys=>
    rw[hr,hr']at e
    rw[hr]at rp
    rw[hr']at rp'
    cases e
    obtain⟨c,vs,L,rfl,hl,rl,zl,el⟩:=rp.lst_inv
    obtain⟨c',vs',L',rfl,hl',rl',zl',el'⟩:=rp'.lst_inv
    refine⟨c,c',rfl,⟨vs,QP hl⟩,⟨vs',QP hl'⟩,q _ H2 [(.ref c,.lst xs,G),(.ref c',.lst ys,G')] (pp.same.trans pp'.same) QqY (λt ht=>?_) (pp.own.append pp'.own) (by rw[Qit];omega)⟩
    have sa:=pp.src.append pp'.src pp.same
    rcases Zo.mp ht with rfl | ht
    ·exact⟨rp,λz hz=>sa z (Zd _ hz)⟩
    ·rw[Zl.mp ht]
     exact⟨rp',λz hz=>sa z (Ze _ hz)⟩
   | _=>rw[hr,hr']at e;cases e
  | _=>rw[hr]at e;cases e
end
end HS
namespace HS
open PySem L2
section
end
end HS
namespace HS
open PySem PySem.Spec L2
inductive Tg where
 | nm (i:Nat)
 | tp (is:List Nat)
noncomputable def Tg.slots:Tg->List Nat
 | .nm i=>[i]
 | .tp is=>is
noncomputable def Qdb:List Nat->List D->En->En
 | i::is,d::ds,ρ=>Qdb is ds (ρ.set i (some (d,d.flat)))
 | _,_,ρ=>ρ
noncomputable def QaS:Tg->D->En->Option En
 | .nm i,d,ρ=>some (ρ.set i (some (d,d.flat)))
 | .tp is,.tup xs,ρ=>if xs.length=is.length then some (Qdb is xs ρ)else none
 | .tp is,.lst xs,ρ=>if xs.length=is.length then some (Qdb is xs ρ)else none
 | .tp _,_,_=>none
noncomputable def tG(K:PySem.W.Frag)(H0:Hp)(A0:List Addr)(t:Tg):TG:=λv σ H Q=>∃ρ hs F d G ρ',Rel K H0 A0 hs ρ F σ H/\Rp K H d v G/\Shr H0 A0 ρ F G/\QaS t d ρ=some ρ'∧
 ∀σ' F',Rel K H0 A0 hs ρ' F' σ' H->(∀j,j∉t.slots->σ'[j]? =σ[j]?)->(∀j a,a∈F' j->a∈F j∨a∈G)->Q σ' H
def SG(X:Cx)(tg:Expr)(t:Tg):Prop:=∀H0 A0,PG X tg (tG X.K H0 A0 t)
theorem _root_.L2.PG.mono{X:Cx}{tg:Expr}{t t':TG}(h:PG X tg t)(m:∀v σ H Q,t' v σ H Q->t v σ H Q):PG X tg t':=λpins s σ H v u Q I r q=>h pins s σ H v u Q I r (m v σ H Q q)
noncomputable def QgB:List Nat->TGs
 | []=>Qvh
 | i::is=>QsE (Qhi i) (QgB is)
theorem Shr.set{H0:Hp}{A0:List Addr}{ρ:En}{F:Nat->List Addr}{G G1:List Addr}{i:Nat}{d:D}(h:Shr H0 A0 ρ F G)(hf:d.flat=true->G1=[]):Shr H0 A0 (ρ.set i (some (d,d.flat))) (λj=>if j=i then G1 else F j) G:=λa ha=>by
 refine⟨(h a ha).1,λj d' e=>?_⟩
 by_cases hj:j=i
 ·subst hj
  show ¬a∈(if j=j then G1 else F j)
  rw[if_pos rfl]
  have hl:j<ρ.length:=by
   by_cases hl:j<ρ.length
   ·exact hl
   ·rw[Zr (by simp;omega)]at e;cases e
  rw[Zn hl]at e
  have e1:=Option.some.inj (Option.some.inj e)
  rw[hf (congrArg Prod.snd e1)]
  simp
 ·rw[Zf (Ne.symm hj)]at e
  show ¬a∈(if j=i then G1 else F j)
  rw[if_neg hj]
  exact(h a ha).2 j d' e
theorem Qim{K:PySem.W.Frag}{H0:Hp}{A0:List Addr}{hs:List (V×D×List Addr)}:∀(is:List Nat) (ds:List D) (vs:List V) (ρ:En) (F:Nat->List Addr) (σ:L2.St) (H:Hp) (G:List Addr) (Q:L2.St->Hp->Prop),
  Rel K H0 A0 hs ρ F σ H->Rps K H ds vs G->Shr H0 A0 ρ F G->ds.length=is.length→
  (∀σ' F',Rel K H0 A0 hs (Qdb is ds ρ) F' σ' H->(∀j,j∉is->σ'[j]? =σ[j]?)->(∀j a,a∈F' j->a∈F j∨a∈G)->Q σ' H)->QgB is vs σ H Q
 | [],ds,vs,ρ,F,σ,H,G,Q,rel,rp,sh,hl,q=>by
  have:ds=[]:=by simpa using hl
  subst this
  simp only[Rps]at rp
  exact⟨rp.1,q σ F rel (λ_ _=>rfl) λ_ _ h=> .inl h⟩
 | i::is,[],vs,ρ,F,σ,H,G,Q,rel,rp,sh,hl,q=>by simp at hl
 | i::is,d::ds,vs,ρ,F,σ,H,G,Q,rel,rp,sh,hl,q=>by
  simp only[Rps]at rp
  obtain⟨v,ws,G1,G2,rfl,rfl,r1,r2⟩:=rp
  refine⟨v,ws,rfl,?_⟩
  have sh1:Shr H0 A0 ρ F G1:=λa ha=>sh a (Zd _ ha)
  have sh2:Shr H0 A0 ρ F G2:=λa ha=>sh a (Ze _ ha)
  refine Qim is ds ws _ _ _ H G2 Q (rel.Qjn r1 sh1) r2 (sh2.set r1.Qbc) (by simpa using hl) λσ' F' rel' k m=>q σ' F' rel' (λj hj=>?_) λj a ha=>?_
  ·have h1:j≠i:=λz=>hj (by rw[z];exact Zj)
   rw[k j λz=>hj (Zb _ z),Zf (Ne.symm h1)]
  ·rcases m j a ha with z | z
   ·by_cases hj:j=i
    ·rw[if_pos hj]at z;exact .inr (Zd _ z)
    ·rw[if_neg hj]at z;exact .inl z
   ·exact .inr (Ze _ z)
section
variable {X:Cx}{tg:Expr}{pos:Pos}
theorem Qt7{i:Nat}{x:Str}(h:PG X (.Name x pos) (Qhi i)):SG X (.Name x pos) (.nm i):=λH0 A0=>h.mono λv σ H Q hpt=>by
 obtain⟨ρ,hs,F,d,G,ρ',rel,rp,sh,e,q⟩:=hpt
 cases e
 refine q _ _ (rel.Qjn rp sh) (λj hj=>?_) λj a ha=>?_
 ·have:j≠i:=λz=>hj (by simp[Tg.slots,z])
  rw[Zf (Ne.symm this)]
 ·by_cases hj:j=i
  ·rw[if_pos hj]at ha;exact .inr ha
  ·rw[if_neg hj]at ha;exact .inl ha
theorem Qtn{es:List Expr}{k:Nat}{t:TGs}{n:Nat}(hc:X.calm=true)(h:PGs X es t)
  (hn:(assignEach es X.env).length=n) (hst:(assignEach es X.env).findIdx? (·.1)=none):PG X (.Tuple es k pos) (λv σ H Q=>∃a xs,v= .ref a/\SqL X.K H a xs/\xs.length=n/\t xs σ H Q):=by
 intro pins s σ H v u Q I r hw
 obtain⟨a,xs,e1,hq,hl,hw⟩:=hw
 subst e1
 cases r
 obtain⟨its,rv,ht,hz⟩:=I.list hq
 rw[PyProof.Rows.assign_Tuple]
 refine wpAny_bind (wpAny_standAt ?_)
 unfold unpack
 rw[hn,hst,show n=its.toArray.size by simp[← hl,rv.length]]
 refine wpAny_bind (wpAny_holding (PySem.W.kun_itemsOf (I.ok.hd hc) ht.isList λh' hx=>?_))
 have I1:Inv X pins σ H {s with heap:=h'}:=I.kept (t':=s.toks) λb o e=>hx b o (ZL (Zv e)) e
 exact h pins _ σ H xs _ Q I1 (by simpa using rv) hw
theorem QwN{es:List Expr}{k:Nat}{is:List Nat}(hc:X.calm=true)(h:PGs X es (QgB is))(hn:(assignEach es X.env).length=is.length)(hst:(assignEach es X.env).findIdx? (·.1)=none):SG X (.Tuple es k pos) (.tp is):=λH0 A0=>
 λpins s σ H v u Q I r hpt=>by
  obtain⟨ρ,hs,F,d,G,ρ',rel,rp,sh,e,q⟩:=hpt
  cases d with
  | tup xs=>
   simp only[QaS]at e
   split at e
   ·rename_i hl
    cases e
    obtain⟨a,vs,rfl,hq,rs⟩:=rp.QaQ
    exact Qpi hc h hn hst pins s σ H _ u Q I r ⟨a,vs,rfl,hq,by rw[← rs.length];exact hl,Qim is xs vs ρ F σ H G Q rel rs sh hl q⟩
   ·cases e
  | lst xs=>
   simp only[QaS]at e
   split at e
   ·rename_i hl
    cases e
    obtain⟨a,vs,L,rfl,hq,rs,_,eG⟩:=rp.lst_inv
    have sub:∀b∈L,b∈G:=λb hb=>by
     rcases eG with rfl | rfl
     ·exact Zb _ hb
     ·exact hb
    exact Qtn hc h hn hst pins s σ H _ u Q I r ⟨a,vs,rfl,QP hq,by rw[← rs.length];exact hl,Qim is xs vs ρ F σ H L Q rel rs (λb hb=>sh b (sub b hb)) hl λσ' F' rel' k m=>q σ' F' rel' k λj b hb=>(m j b hb).imp id (sub b)⟩
   ·cases e
  | _=>simp only[QaS]at e;cases e
end
noncomputable def Qef(cap:List (Option Nat))(ρ:En):En:=cap.map λo=>o.bind λi=>match ρ[i]? with
 | some (some (d,_))=>some (d,d.flat)
 | _=>none
noncomputable def Qod(cap:List (Option Nat))(ρ:En):List Nat:=cap.filterMap λo=>o.bind λi=>match ρ[i]? with
 | some (some (d,b))=>if b && !d.flat then some i else none
 | _=>none
noncomputable def QeZ(t:Tg)(ft:DT)(fe:DE)(ρc:En)(acc:List D×Bool)(d:D):Option (List D×Bool):=
 (QaS t d ρc).bind λρ1=>(ft ρ1).bind λc=>if c=true then(fe ρ1).map λr=>(acc.1++[r.d],acc.2 && r.norm.fr)else some acc
noncomputable def QaE(fi:DI)(t:Tg)(cap:List (Option Nat))(ft:DT)(fe:DE):DE:=λρ=>(fi ρ).bind λir=>
 (ir.items.foldlM (QeZ t ft fe (Qef cap ρ)) ([],true)).map λq=>if q.2=true then⟨.lst q.1,true,[]⟩else⟨.lst q.1,false,ir.M++Qod cap ρ⟩
def Qco(ρ:En):Prop:=∀(j:Nat) d,ρ[j]? =some (some (d,true))->d.flat=true
theorem Qco.set{ρ:En}(h:Qco ρ)(i:Nat)(d:D):Qco (ρ.set i (some (d,d.flat))):=λj d' e=>by
 by_cases hj:j=i
 ·subst hj
  have hl:j<ρ.length:=by
   by_cases hl:j<ρ.length
   ·exact hl
   ·rw[Zr (by simp;omega)]at e;cases e
  rw[Zn hl]at e
  have e1:=Option.some.inj (Option.some.inj e)
  have h1:d=d':=congrArg Prod.fst e1
  have h2:d.flat=true:=congrArg Prod.snd e1
  rw[← h1];exact h2
 ·rw[Zf (Ne.symm hj)]at e
  exact h j d' e
theorem Qco.Qdb:∀(is:List Nat) (ds:List D) {ρ:En},Qco ρ->Qco (Qdb is ds ρ)
 | [],_,_,h=>h
 | _::_,[],_,h=>h
 | i::is,d::ds,_,h=>Qco.Qdb is ds (h.set i d)
theorem Qco.bind{t:Tg}{d:D}{ρ ρ':En}(h:Qco ρ)(e:QaS t d ρ=some ρ'):Qco ρ':=by
 cases t with
 | nm i=>cases e;exact h.set i d
 | tp is=>
  cases d with
  | tup xs=>
   simp only[QaS]at e
   split at e
   ·cases e;exact h.Qdb is xs
   ·cases e
  | lst xs=>
   simp only[QaS]at e
   split at e
   ·cases e;exact h.Qdb is xs
   ·cases e
  | _=>simp only[QaS]at e;cases e
theorem Qiq(cap:List (Option Nat))(ρ:En):Qco (Qef cap ρ):=λj d e=>by
 unfold Qef at e
 rw[ZA]at e
 cases q:cap[j]? with
 | none=>rw[q]at e;cases e
 | some o=>
  rw[q]at e
  cases o with
  | none=>cases e
  | some i=>
   simp only[Zap,Za,Option.some.injEq]at e
   split at e
   ·have e1:=Option.some.inj e
    have h1:=congrArg Prod.fst e1
    have h2:=congrArg Prod.snd e1
    dsimp only at h1 h2
    rw[← h1];exact h2
   ·cases e
theorem Qkq{cap:List (Option Nat)}{ρ:En}{j:Nat}{d:D}{b:Bool}(e:(Qef cap ρ)[j]? =some (some (d,b))):∃i b',cap[j]? =some (some i)/\ρ[i]? =some (some (d,b')):=by
 unfold Qef at e
 rw[ZA]at e
 cases q:cap[j]? with
 | none=>rw[q]at e;cases e
 | some o=>
  rw[q]at e
  cases o with
  | none=>cases e
  | some i=>
   simp only[Zap,Za,Option.some.injEq]at e
   split at e
   ·rename_i d' b' hi
    have e1:=Option.some.inj e
    have h1:d'=d:=congrArg Prod.fst e1
    subst h1
    exact⟨i,b',rfl,hi⟩
   ·cases e
def QlW(X:Cx)(ifs:List Expr)(f:DT):Prop:=∀H0 A0,PTs X ifs (tVT X.K H0 A0 f)
noncomputable def QdI:DT:=λ_=>some true
theorem Qrf{X:Cx}:QlW X [] QdI:=λH0 A0 pins s σ H Q I=>exK λρ hs F b rel e q=>by
 cases e
 exact Quk pins s σ H Q I (q H (Qr.refl _))
theorem QrJ{X:Cx}{c:Expr}{f:DT}(h:ST X c f):QlW X [c] f:=λH0 A0=>Qtr (h H0 A0)
structure Qk9 (X:Cx) (N':List Str) (scope:Scope) (cap:List (Option Nat)) (tgs:List Nat):Prop where
 len:cap.length=N'.length
 get:∀(j i:Nat),cap[j]? =some (some i)->∃x,N'[j]? =some x/\scope.names.lookup x=some .free/\X.N[i]? =some x/\(X.env.kindOf x=some .cell∨X.env.kindOf x=some .free)
 apart:∀(j i:Nat),cap[j]? =some (some i)->j∉tgs
theorem join_some{α:Type}{o:Option (Option α)}{v:α}(h:o.join=some v):o=some (some v):=by
 cases o with
 | none=>cases h
 | some p=>cases p with
  | none=>cases h
  | some x=>exact h▸rfl
theorem Qkw{X:Cx}{N':List Str}{scope:Scope}{fi:DI}{t:Tg}{cap:List (Option Nat)}{ft:DT}{fe:DE}{H0:Hp}{A0:List Addr}{σ:L2.St}{H:Hp}{Q:VK}(hc:Qk9 X N' scope cap t.slots):
  tV X.K H0 A0 (QaE fi t cap ft fe) σ H Q->Qlb (tI X.K H0 A0 fi) (Qja X N' scope) (tG X.K (λ_=>none) [] t) (tVT X.K (λ_=>none) [] ft) (tV X.K (λ_=>none) [] fe) σ H Q:=exK λρ hs F r rel e q=>by
 refine Qc e λir e1 e=>?_
 obtain⟨⟨xs,f⟩,ef,e⟩:=Zc.mp e
 subst e
 refine⟨ρ,hs,F,ir,rel,e1,λJ H1 ts s1 wk hts ow hz=>?_⟩
 refine⟨cap.map λo=>o.bind λi=>σ[i]?.join,⟨by simp[hc.len],λj x v hN hv=>?_⟩,λDl hD=>?_⟩
 ·rw[ZA]at hv
  cases qc:cap[j]? with
  | none=>rw[qc]at hv;cases hv
  | some o=>
   rw[qc]at hv
   cases o with
   | none=>cases hv
   | some i=>
    simp only[Zap,Za,Option.some.injEq]at hv
    obtain⟨y,h1,h2,h3,h4⟩:=hc.get j i qc
    rw[hN]at h1;cases h1
    exact⟨h2,i,h3,join_some hv,h4⟩
 generalize hσc:(cap.map λo=>o.bind λi=>σ[i]?.join)=σc
 generalize hρc:Qef cap ρ=ρc at ef
 have hF0:∃Fc:Nat->List Addr,Fc=λj=>match cap[j]? with
  | some (some i)=>(match ρ[i]? with
   | some (some _)=>F i
   | _=>[])
  | _=>[]:=⟨_,rfl⟩
 obtain⟨Fc,hFc⟩:=hF0
 have rel1:=rel.ext s1
 have relC:∀H2,Qr H1 H2->Rel X.K (λ_=>none) [] [] ρc Fc σc H2:=λH2 s2=>by
  refine⟨by rw[← hρc,← hσc];simp[Qef],λj d b e=>?_,λj d e=>?_,λj d b e a ha=> .inl rfl,λt ht=>(by simp at ht),λb o z=>(by cases z)⟩
  ·rw[← hρc]at e
   obtain⟨i,b',h1,h2⟩:=Qkq e
   obtain⟨v,h3,h4⟩:=(rel1.ext s2).val i d b' h2
   refine⟨v,?_,?_⟩
   ·rw[← hσc,ZA,h1]
    simp only[Zap,Za,h3,Option.join_some]
   ·rw[hFc];simp only[h1,h2];exact h4
  ·have hf:d.flat=true:=Qiq cap ρ j d (by rw[hρc];exact e)
   have:Fc j=[]:=by
    rw[← hρc]at e
    obtain⟨i,b',h1,h2⟩:=Qkq e
    obtain⟨v,h3,h4⟩:=rel1.val i d b' h2
    rw[hFc];simp only[h1,h2];exact h4.Qbc hf
   rw[this]
   exact⟨(QcV d hf).symm,Zab,λa ha=>(by simp at ha),λ_ _ _ _ _ a ha=>(by simp at ha),λt ht=>(by simp at ht)⟩
 have shC:∀G,Shr (λ_=>none) [] ρc Fc G:=λG a ha=>⟨.inl rfl,λj d e hj=>by
  have h0:=(relC H1 (Qr.refl _)).own j d e
  have hf:d.flat=true:=Qiq cap ρ j d (by rw[hρc];exact e)
  have:(Fc j).length=0:=by rw[h0.1,QcV d hf]
  rw[ZaB this]at hj
  simp at hj⟩
 have hSh:Qco ρc:=by rw[← hρc];exact Qiq cap ρ
 have heldOf:∀H2,Qr H1 H2->QjM X.K H2 ts:=λH2 s2 t ht=>(hts t ht).1.same s2
 have oldOf:∀a,((∃t∈ts,a∈t.2.2)∨∃j,a∈Fc j)->(∃u,H1 a=some u)/\(H a=none∨∃(i:Nat) (d:D) (b:Bool),ρ[i]? =some (some (d,b))/\a∈F i/\(b=true->i∈ir.M++Qod cap ρ)):=λa ha=>by
  rcases ha with⟨t,ht,ha⟩ | ⟨j,ha⟩
  ·refine⟨(hts t ht).1.mem a ha,?_⟩
   rcases(hts t ht).2 a ha with z | ⟨i,d,b,e,m,w⟩
   ·exact .inl z
   ·exact .inr ⟨i,d,b,e,m,λhb=>Zd _ (w hb)⟩
  ·have ha0:=ha
   rw[hFc]at ha
   dsimp only at ha
   split at ha
   ·rename_i i hi
    split at ha
    ·rename_i db hdb
     obtain⟨d,b⟩:=db
     obtain⟨v,h3,h4⟩:=rel1.val i d b hdb
     refine⟨h4.mem a ha,.inr ⟨i,d,b,hdb,ha,λhb=>Ze _ ?_⟩⟩
     unfold Qod
     refine ZaC.mpr ⟨some i,Zag hi,?_⟩
     simp only[Za,hdb]
     have hnf:d.flat=false:=by
      cases hf:d.flat with
      | false=>rfl
      | true=>rw[h4.Qbc hf]at ha;simp at ha
     rw[hb,hnf];rfl
    ·simp at ha
   ·simp at ha
 have fresh5:∀H2,Qr H1 H2->∀a,H2 a=none->H1 a=none:=λH2 s2 a h=>s2.free h
 refine⟨λi m acc H2=>m=ir.items.length-i/\i<=ir.items.length/\Qr H1 H2/\H2 Dl=some (.lst acc)/\∃(ys:List D) (g:Bool) (G:List Addr),(ir.items.drop i).foldlM (QeZ t ft fe ρc) (ys,g)=some (xs,f)/\Rps X.K H2 ys acc G/\ys.length<=i∧
  (∀a∈G,a≠Dl/\(H1 a=none∨(∃t∈ts,a∈t.2.2)∨∃j,a∈Fc j))/\(g=true->G.length=nls ys/\∀a,G.count a<=nw H1 a),⟨ir.items.length,rfl,ZT _,Qay hD,QQ,[],true,[],by simpa using ef,by simp[Rps],Zq _,λa ha=>(by simp at ha),λ_=>⟨rfl,λa=>by simp⟩⟩,?_⟩
 rintro i m acc H2 ⟨rfl,hi,s2,eD,ys,g,G,hfold,rps,hlen,hG,hcnt⟩
 by_cases hlt:i<ir.items.length
 ·refine .inr ⟨wk.go i H2 hlt (heldOf H2 s2),λx H3 hy=>?_⟩
  obtain⟨s3,G0,rp0,hG0⟩:=wk.yld i ir.items[i] H2 x H3 (by simp[hlt]) (heldOf H2 s2) hy
  rw[ZK hlt,Zbr]at hfold
  refine Qc hfold λacc1 hstep hrest=>?_
  unfold QeZ at hstep
  refine Qc hstep λρ1 eb hstep=>?_
  refine Qc hstep λc ec hstep=>?_
  have sh1:Qco ρ1:=hSh.bind eb
  refine⟨ρc,[],Fc,ir.items[i],G0,ρ1,relC H3 (s2.trans s3),rp0,shC G0,eb,λσ2 F2 rel2 keep mem2=>⟨λj v hv=>?_,ρ1,[],F2,c,rel2,ec,λH5 s5=>?_⟩⟩
  ·have hj:j∉t.slots:=λhj=>by
    rw[← hσc,ZA]at hv
    cases qc:cap[j]? with
    | none=>rw[qc]at hv;cases hv
    | some o=>
     cases o with
     | none=>rw[qc]at hv;cases hv
     | some k=>exact hc.apart j k qc hj
   rw[keep j hj];exact hv
  have s15:Qr H1 H5:=(s2.trans s3).trans s5
  have eD5:H5 Dl=some (.lst acc):=s5 _ _ (s3 _ _ eD)
  cases c with
  | false=>
   rw[if_neg ZV]at hstep
   refine QqT ?_
   cases hstep
   exact⟨_,by omega,rfl,hlt,s15,eD5,ys,g,G,hrest,rps.same (s3.trans s5),by omega,hG,hcnt⟩
  | true=>
   rw[if_pos rfl]at hstep
   refine QrS ?_
   obtain⟨rr,er,hstep⟩:=Zc.mp hstep
   subst hstep
   refine⟨ρ1,[],F2,rr,rel2.ext s5,er,λy H6 Ge pe=>?_⟩
   have eD6:H6 Dl=some (.lst acc):=pe.same _ _ eD5
   have s16:=s15.trans pe.same
   refine⟨eD6,?_,_,by omega,rfl,hlt,?_⟩
   ·rw[← rps.length];exact Nat.lt_of_le_of_lt hlen (Zu hlt hz)
   have hGe:∀a∈Ge,a≠Dl/\(H1 a=none∨(∃t∈ts,a∈t.2.2)∨∃j,a∈Fc j):=λa ha=>by
    rcases pe.src a ha with z | ⟨j,d,b,ej,hj,_⟩
    ·exact⟨λw=>(by rw[w,eD5]at z;cases z),.inl (s15.free z)⟩
    ·have h1:(∃t∈ts,a∈t.2.2)∨∃j,a∈Fc j:=by
      rcases mem2 j a hj with w | w
      ·exact .inr ⟨j,w⟩
      ·exact .inl (hG0 a w)
     obtain⟨⟨vs,w⟩,_⟩:=oldOf a h1
     exact⟨λw'=>(by rw[w',hD]at w;cases w),.inr h1⟩
   have nD:Dl∉G:=λh=>(hG _ h).1 rfl
   have nDe:Dl∉Ge:=λh=>(hGe _ h).1 rfl
   have sU:Qr H1 (L2.upd H6 Dl (.lst (acc++[y]))):=λb o hb=>by rw[Qx (Qbh hb hD)];exact s16 b o hb
   refine⟨sU,QQ,ys++[rr.d],g && rr.norm.fr,G++Ge,hrest,?_,by rw[Zk,ZaS];omega,λa ha=>?_,λhg=>?_⟩
   ·refine Rps.append ((rps.same ((s3.trans s5).trans pe.same)).upd eD6 nD) ?_
    simp only[Rps]
    exact⟨y,[],Ge,[],rfl,by simp,pe.rp.upd eD6 nDe,rfl,rfl⟩
   ·rcases Zm.mp ha with h | h
    ·exact hG a h
    ·exact hGe a h
   ·simp only[Zg]at hg
    obtain⟨l1,c1⟩:=hcnt hg.1
    have pn:=pe.norm
    obtain⟨c2,l2⟩:=pn.cnt hg.2
    rw[rr.QcN]at l2
    have nlapp:∀(as bs:List D),nls (as++bs)=nls as+nls bs:=λas bs=>by
     induction as with
     | nil=>simp[nls]
     | cons a as ih=>simp only[Zbq,nls,ih];omega
    refine⟨by rw[Zk,l1,l2,nlapp];simp[nls],λa=>?_⟩
    have fl:((rr.norm.M.map F2).flatten).count a=0:=by
     rw[Zz]
     intro hm
     obtain⟨l,hl,hal⟩:=ZaU.mp hm
     obtain⟨j,hj,rfl⟩:=ZX.mp hl
     obtain⟨d,ej⟩:=pn.own j hj
     have hf:=sh1 j d ej
     obtain⟨v,_,rv⟩:=rel2.val j d true ej
     rw[rv.Qbc hf]at hal
     simp at hal
    have h1:=c1 a
    have h2:=c2 a
    rw[fl]at h2
    rw[ZY]
    cases q5:H5 a with
    | some o=>rw[QcU q5]at h2;omega
    | none=>
     rw[Qaz q5]at h2
     have h0:G.count a=0:=Zz.mpr λhm=>by
      obtain⟨vs,w⟩:=rps.mem a hm
      rw[s5 _ _ (s3 _ _ w)]at q5;cases q5
     rw[Qaz (s15.free q5)]
     omega
 ·have hn:i=ir.items.length:=by omega
  subst hn
  refine .inl ⟨wk.stop H2 (heldOf H2 s2),?_⟩
  rw[Zbs]at hfold
  have:(ys,g)=(xs,f):=Option.some.inj hfold
  cases this
  have rp:Rp X.K H2 (.lst xs) (.ref Dl) (Dl::G):=Rp.Qdo eD rps (ZF hlen hz)
  have hHD:H Dl=none:=s1.free hD
  split at q
  ·rename_i hg
   have hg:f=true:=hg
   obtain⟨l1,c1⟩:=hcnt hg
   have hn:∀a∈G,H1 a=none:=λa ha=>by
    have:=c1 a
    have h2:0<G.count a:=ZS.mpr ha
    cases w:H1 a with
    | none=>rfl
    | some o=>rw[QcU w]at this;omega
   refine q _ H2 (Dl::G) ⟨s1.trans s2,rp,λa ha=>?_,λ_=>⟨λa=>?_,by simp only[D.nl,Zi,l1]⟩,QaZ.nil⟩
   ·rcases Zo.mp ha with rfl | h
    ·exact .inl hHD
    ·exact .inl (s1.free (hn a h))
   ·rw[Zao]
    have h1:=c1 a
    split
    ·rename_i w
     have w:Dl=a:=by simpa using w
     subst w
     have h0:G.count Dl=0:=Zz.mpr λh=>(hG _ h).1 rfl
     rw[Qaz hHD];omega
    ·cases w:H1 a with
     | none=>rw[Qaz w]at h1;rw[Qaz (s1.free w)];omega
     | some o=>rw[QcU w]at h1;omega
  ·refine q _ H2 (Dl::G) ⟨s1.trans s2,rp,λa ha=>?_,λz=>(by cases z),?_⟩
   ·rcases Zo.mp ha with rfl | h
    ·exact .inl hHD
    ·rcases(hG a h).2 with z | z
     ·exact .inl (s1.free z)
     ·exact(oldOf a z).2
   ·refine ow.append λi hi=>?_
    unfold Qod at hi
    obtain⟨o,_,ho⟩:=ZaC.mp hi
    cases o with
    | none=>cases ho
    | some k=>
     simp only[Za]at ho
     split at ho
     ·rename_i d b hk
      split at ho
      ·rename_i hb
       cases ho
       simp only[Zg]at hb
       rw[hb.1]at hk
       exact⟨d,hk⟩
      ·cases ho
     ·cases ho
section
variable {X:Cx}{tg iter elt:Expr}{ifs:List Expr}{scope:Scope}{N':List Str}{pos:Pos}{fi:DI}{t:Tg}{cap:List (Option Nat)}{ft:DT}{fe:DE}
theorem QtN(hcalm:X.calm=true)(S:Qd1 X N' scope)(hi:SI X tg iter fi)(hcap:Qk9 X N' scope cap t.slots)
  (hin:∀cl C fp s3 H3,SG (cxc X N' scope cl C fp s3 H3) tg t/\QlW (cxc X N' scope cl C fp s3 H3) ifs ft/\SE (cxc X N' scope cl C fp s3 H3) elt fe) (hs:∀x,foldedSetIterable iter X.env x=pure x):
  SE X (.ListComp elt [⟨tg,iter,ifs,0⟩] scope pos) (QaE fi t cap ft fe):=λH0 A0=>
 (Qnz hcalm S (hi H0 A0) (λcl C fp s3 H3=>⟨(hin cl C fp s3 H3).1 _ _,(hin cl C fp s3 H3).2.1 _ _,(hin cl C fp s3 H3).2.2 _ _⟩) hs).mono λσ H Q h=>Qkw hcap h
end
end HS
namespace HS
open PySem PySem.Spec L2
inductive Out where
 | nx (ρ:En)
 | bk (ρ:En)
 | ct (ρ:En)
 | rt (d:D) (fr:Bool)
noncomputable abbrev DS:=En->Option Out
noncomputable def Fits(K:PySem.W.Frag)(H0:Hp)(A0:List Addr)(hs:List (V×D×List Addr))(E:Ends):Out->Prop
 | .nx ρ=>∀σ H F,Rel K H0 A0 hs ρ F σ H->E.nx σ H
 | .bk ρ=>∀σ H F,Rel K H0 A0 hs ρ F σ H->E.bk σ H
 | .ct ρ=>∀σ H F,Rel K H0 A0 hs ρ F σ H->E.ct σ H
 | .rt d fr=>∀v H G,Ret K H0 A0 d fr v H G->E.rt v H
noncomputable def tS(K:PySem.W.Frag)(H0:Hp)(A0:List Addr)(f:DS):TS:=λE σ H=>∃ρ hs F o,Rel K H0 A0 hs ρ F σ H/\f ρ=some o/\Fits K H0 A0 hs E o
def S1(X:Cx)(st:Stmt)(f:DS):Prop:=∀H0 A0,PS X st (tS X.K H0 A0 f)
def SS(X:Cx)(sts:List Stmt)(f:DS):Prop:=∀H0 A0,PSs X sts (tS X.K H0 A0 f)
theorem _root_.L2.PS.mono(h:PS X st t)(m:∀D σ H,t' D σ H->t D σ H):PS X st t':=λpins s σ H D I q=>h pins s σ H D I (m D σ H q)
theorem _root_.L2.PSs.mono(h:PSs X st t)(m:∀D σ H,t' D σ H->t D σ H):PSs X st t':=λpins s σ H D I q=>h pins s σ H D I (m D σ H q)
noncomputable def Qj:DS:=λρ=>some (.nx ρ)
noncomputable def Qf(f g:DS):DS:=λρ=>(f ρ).bind λo=>match o with
 | .nx ρ'=>g ρ'
 | .bk ρ'=>some (.bk ρ')
 | .ct ρ'=>some (.ct ρ')
 | .rt d fr=>some (.rt d fr)
noncomputable def Qsl:DS:=λρ=>some (.bk ρ)
noncomputable def Qr4:DS:=λρ=>some (.ct ρ)
noncomputable def Qs(i:Nat)(fa:DE):DS:=λρ=>(fa ρ).bind λr=>some (.nx (asg i r ρ))
noncomputable def Qcm(fa:DE):DE:=λρ=>(fa ρ).map λr=>⟨r.d,false,r.M⟩
noncomputable def Q3(fa:DE):DS:=λρ=>(fa ρ).bind λr=>some (.rt r.d (r.norm.fr && decide r.norm.M.Nodup))
noncomputable def Qc7(fa:DE):DS:=λρ=>(fa ρ).bind λ_=>some (.nx ρ)
noncomputable def sIf(g:DT)(f1 f2:DS):DS:=λρ=>(g ρ).bind λb=>if b=true then f1 ρ else f2 ρ
noncomputable def Qbb(t:Tg)(fb:DS):List D->DS
 | [],ρ=>some (.nx ρ)
 | d::ds,ρ=>(QaS t d ρ).bind λρ1=>(fb ρ1).bind λo=>match o with
  | .nx ρ2=>Qbb t fb ds ρ2
  | .ct ρ2=>Qbb t fb ds ρ2
  | .bk ρ2=>some (.nx ρ2)
  | .rt d fr=>some (.rt d fr)
noncomputable def QaT(fi:DI)(t:Tg)(fb:DS):DS:=λρ=>(fi ρ).bind λir=>Qbb t fb ir.items (Qba ir.M ρ)
section
theorem QpN:SS X [] Qj:=λH0 A0=>QnG.mono λE σ H=>exK λρ hs F o rel e q=>by
 cases e
 exact q σ H F rel
theorem QjW(h1:S1 X st f)(h2:SS X sts g):SS X (st::sts) (Qf f g):=λH0 A0=>(Qid (h1 H0 A0) (h2 H0 A0)).mono λE σ H=>exK λρ hs F o rel e q=>by
 refine Qc e λo1 e1 e=>?_
 refine⟨ρ,hs,F,o1,rel,e1,?_⟩
 cases o1 with
 | nx ρ'=>exact λσ' H' F' rel'=>⟨ρ',hs,F',o,rel',e,q⟩
 | bk ρ'=>cases e;exact q
 | ct ρ'=>cases e;exact q
 | rt d fr=>cases e;exact q
theorem QuK:S1 X (.Pass pos) Qj:=λH0 A0=>Qt2.mono λE σ H=>exK λρ hs F o rel e q=>by
 cases e
 exact q σ H F rel
theorem QrH:S1 X (.Break pos) Qsl:=λH0 A0=>Qra.mono λE σ H=>exK λρ hs F o rel e q=>by
 cases e
 exact q σ H F rel
theorem Qt5:S1 X (.Continue pos) Qr4:=λH0 A0=>Qnw.mono λE σ H=>exK λρ hs F o rel e q=>by
 cases e
 exact q σ H F rel
theorem QlS(h:SE X e fa):SE X e (Qcm fa):=λH0 A0=>(h H0 A0).mono λσ H Q=>exK λρ hs F r rel e q=>by
 obtain⟨r',e1,rfl⟩:=Zc.mp e
 exact⟨ρ,hs,F,r',rel,e1,λv H' G p=>q v H' G ⟨p.same,p.rp,p.src,λz=>(by cases z),p.own⟩⟩
theorem QgE(h:∀H0 A0,PS X st (Qj0 (tV X.K H0 A0 fa) (Qhi i))):S1 X st (Qs i fa):=λH0 A0=>(h H0 A0).mono λE σ H=>exK λρ hs F o rel e q=>by
 refine Qc e λr e1 e=>?_
 cases e
 refine⟨ρ,hs,F,r,rel,e1,λv H' G p=>?_⟩
 obtain⟨F',rel'⟩:=rel.asg (i:=i) p
 exact q _ _ F' rel'
theorem Qts(h:PS X st (Qk4 (tV X.K H0 A0 fa))):PS X st (tS X.K H0 A0 (Qc7 fa)):=h.mono λE σ H=>exK λρ hs F o rel e q=>by
 refine Qc e λr e1 e=>?_
 cases e
 exact⟨ρ,hs,F,r,rel,e1,λv H' G p=>q σ H' F (rel.ext p.same)⟩
theorem Rel.ret(rel:Rel K H0 A0 hs ρ F σ H)(p:QN K ρ F H H' r v G):Ret K H0 A0 r.d (r.norm.fr && decide r.norm.M.Nodup) v H' G where
 same:=rel.same.trans p.same
 rp:=p.rp
 src:=λa ha=>by
  rcases p.src a ha with z | ⟨i,d,b,e,m,_⟩
  ·exact .inl (rel.same.free z)
  ·exact rel.src i d b e a m
 cnt:=λh=>by
  simp only[Zg,decide_eq_true_eq]at h
  have p':=p.norm
  obtain⟨h1,h2⟩:=p'.fresh rel h.1 h.2
  have h3:=(p'.cnt h.1).2
  rw[r.QcN]at h3
  exact⟨h1,h3,λa ha=>(h2 a ha).1⟩
theorem Qw2(he:SE X e fa):S1 X (.Return (some e) pos) (Q3 fa):=λH0 A0=>(QlL (he H0 A0)).mono λE σ H=>exK λρ hs F o rel e q=>by
 refine Qc e λr e1 e=>?_
 cases e
 exact⟨ρ,hs,F,r,rel,e1,λv H' G p=>q v H' G (rel.ret p)⟩
theorem QxJ(hc:ST X c gc)(ha:SS X a f)(hb:SS X b g):S1 X (.If c a b pos) (sIf gc f g):=λH0 A0=>(QoV (hc H0 A0) (ha H0 A0) (hb H0 A0)).mono λE σ H=>exK λρ hs F o rel e q=>by
 refine Qc e λc e1 e=>?_
 refine⟨ρ,hs,F,c,rel,e1,λH1 s1=>?_⟩
 cases c with
 | true=>exact QrS ⟨ρ,hs,F,o,rel.ext s1,e,q⟩
 | false=>exact QqT ⟨ρ,hs,F,o,rel.ext s1,e,q⟩
theorem QvX(hp:PassesOwn (model X.prog X.w) X.A X.env X.xe)(hc:X.calm=true)(hi:SI X tg iter fi)(hg:SG X tg t)(hb:SS X body f)(hs:∀x,foldedSetIterable iter X.env x=pure x):
  S1 X (.For tg iter body [] pos) (QaT fi t f):=λH0 A0=>(Qmp hp hc (hi H0 A0) (hg H0 A0) (hb H0 A0) hs).mono λE σ H=>exK λρ hs F o rel e q=>by
 refine Qc e λir e1 e=>?_
 refine⟨ρ,hs,F,ir,rel,e1,λJ H1 ts s1 wk hts ow hz=>?_⟩
 have rel1:Rel X.K H0 A0 (ts++hs) (Qba ir.M ρ) F σ H1:=((rel.ext s1).weak (QbR ir.M ρ)).hold λt ht=>⟨(hts t ht).1,Shr.of rel (hts t ht).2⟩
 refine⟨λi m σ' H'=>m=ir.items.length-i/\i<=ir.items.length/\∃ρi Fi,Rel X.K H0 A0 (ts++hs) ρi Fi σ' H'/\Qbb t f (ir.items.drop i) ρi=some o,⟨_,rfl,ZT _,_,F,rel1,by simpa using e⟩,?_⟩
 rintro i m σ' H' ⟨rfl,hi',ρi,Fi,reli,ei⟩
 have held:QjM X.K H' ts:=λt ht=>(reli.held t (Zd _ ht)).1
 by_cases hlt:i<ir.items.length
 ·rw[ZK hlt]at ei
  unfold Qbb at ei
  refine Qc ei λρ1 eb ei=>?_
  refine Qc ei λo1 eo ei=>?_
  refine .inr ⟨wk.go i H' hlt held,λσ2 H2=>∃ρ2 F2,Rel X.K H0 A0 (ts++hs) ρ2 F2 σ2 H2/\Qbb t f (ir.items.drop (i+1)) ρ2=some o,λσ2 H2 ⟨ρ2,F2,rel2,e2⟩=>⟨_,by omega,rfl,hlt,ρ2,F2,rel2,e2⟩,λx H2 hy=>?_⟩
  obtain⟨s2,G0,rp0,hG0⟩:=wk.yld i ir.items[i] H' x H2 (by simp[hlt]) held hy
  have shr:Shr H0 A0 ρi Fi G0:=λa ha=>by
   obtain⟨t,ht,hat⟩:=hG0 a ha
   exact⟨(reli.held t (Zd _ ht)).2 a hat,λj d ej hj=>(reli.own j d ej).2.2.2.2 t (Zd _ ht) a hj hat⟩
  refine⟨ρi,ts++hs,Fi,ir.items[i],G0,ρ1,reli.ext s2,rp0,shr,eb,λσ3 F3 rel3 _ _=>⟨ρ1,ts++hs,F3,o1,rel3,eo,?_⟩⟩
  cases o1 with
  | nx ρ2=>exact λσ4 H4 F4 rel4=>⟨ρ2,F4,rel4,ei⟩
  | ct ρ2=>exact λσ4 H4 F4 rel4=>⟨ρ2,F4,rel4,ei⟩
  | bk ρ2=>cases ei;exact λσ4 H4 F4 rel4=>q σ4 H4 F4 rel4.QlI
  | rt d fr=>cases ei;exact q
 ·have hn:i=ir.items.length:=by omega
  subst hn
  rw[Zbs]at ei
  cases ei
  exact .inl ⟨wk.stop H' held,q σ' H' Fi reli.QlI⟩
theorem Rel.Qy0(rel:Rel K H0 A0 hs ρ F σ H)(rp:Rp K H d v [])(hf:d.flat=true):
  ∃F',Rel K H0 A0 hs (ρ.set i (some (d,true))) F' (σ.set i (some v)) H:=by
 have:=rel.Qjn (i:=i) rp (λa ha=>by simp at ha)
 rw[hf]at this
 exact⟨_,this⟩
end
end HS
namespace HS
open PySem PySem.Spec L2 PyProof.Rows
end HS
namespace HS
open PySem PySem.Spec L2
section
variable {K:PySem.W.Frag}{H H':Hp}
theorem Rps.split:∀{ds:List D}{vs:List V}{F:List Addr}{j:Nat}{d:D},Rps K H ds vs F->ds[j]? =some d→
  ∃F1 G F2 v,F=F1++(G++F2)/\vs[j]? =some v/\Rps K H (ds.take j) (vs.take j) F1/\Rp K H d v G/\Rps K H (ds.drop (j+1)) (vs.drop (j+1)) F2
 | [],_,_,_,_,_,e=>by simp at e
 | d::ds,_,_,0,_,h,e=>by
  simp only[Rps]at h
  obtain⟨v,ws,F1,F2,rfl,rfl,r,q⟩:=h
  simp at e;subst e
  exact⟨[],F1,F2,v,rfl,by simp,by simp[Rps],r,by simpa using q⟩
 | d::ds,_,_,j+1,_,h,e=>by
  simp only[Rps]at h
  obtain⟨v,ws,F1,F2,rfl,rfl,r,q⟩:=h
  obtain⟨G1,G,G2,v',h1,h2,h3,h4,h5⟩:=Rps.split q (by simpa using e)
  refine⟨F1++G1,G,G2,v',by rw[h1,Zaj],by simpa using h2,?_,h4,by simpa using h5⟩
  simp only[List.take_succ_cons,Rps]
  exact⟨v,_,F1,G1,rfl,rfl,r,h3⟩
theorem Rps.join{ds:List D}{vs:List V}{F1 G F2:List Addr}{j:Nat}{d:D}{v:V}(h1:Rps K H (ds.take j) (vs.take j) F1)(hd:Rp K H d v G)(h2:Rps K H (ds.drop (j+1)) (vs.drop (j+1)) F2)(hj:j<ds.length)(hv:vs[j]? =some v):
  Rps K H (ds.set j d) vs (F1++(G++F2)):=by
 have e1:ds.set j d=ds.take j++d::ds.drop (j+1):=Zav .. |>.trans (by rw[if_pos hj])
 have hjv:j<vs.length:=(Zh.mp hv).1
 have hve:vs[j]=v:=(Zh.mp hv).2
 have e2:vs=vs.take j++v::vs.drop (j+1):=by
  rw[← hve,← ZK hjv,Zau]
 rw[e1,e2]
 refine h1.append ?_
 simp only[Rps]
 refine⟨v,_,G,F2,rfl,rfl,hd,h2⟩
theorem Rps.Qn8{ds:List D}{vs:List V}{F1 G F2:List Addr}{j:Nat}{d:D}{v:V}(h1:Rps K H (ds.take j) (vs.take j) F1)(hd:Rp K H d v G)(h2:Rps K H (ds.drop (j+1)) (vs.drop (j+1)) F2)(hj:j<ds.length)(hv:j<vs.length):
  Rps K H (ds.set j d) (vs.set j v) (F1++(G++F2)):=by
 have e1:ds.set j d=ds.take j++d::ds.drop (j+1):=Zav .. |>.trans (by rw[if_pos hj])
 have e2:vs.set j v=vs.take j++v::vs.drop (j+1):=Zav .. |>.trans (by rw[if_pos hv])
 rw[e1,e2]
 refine h1.append ?_
 simp only[Rps]
 exact⟨v,_,G,F2,rfl,rfl,hd,h2⟩
noncomputable def Focus(K:PySem.W.Frag)(H:Hp):List Int->D->V->List Addr->D->V->List Addr->Prop
 | [],d,v,F,dm,w,Gm=>dm=d/\w=v/\Gm=F/\Rp K H d v F
 | i::is,d,v,F,dm,w,Gm=>∃(ds:List D) (a:Addr) (vs:List V) (j:Nat) (F1 G F2:List Addr) (d':D) (v':V),v= .ref a/\ixN ds.length i=some j∧
   ((d= .lst ds/\ds.length<=sizeLine/\((F=a::(F1++(G++F2))/\H a=some (.lst vs))∨(F=F1++(G++F2)/\Fix K H a vs)))∨(d= .tup ds/\F=F1++(G++F2)/\SqT K H a vs))∧
   Rps K H (ds.take j) (vs.take j) F1/\Rps K H (ds.drop (j+1)) (vs.drop (j+1)) F2/\ds[j]? =some d'/\vs[j]? =some v'/\ds.length=vs.length/\Focus K H is d' v' G dm w Gm
theorem Focus.same(s:Qr H H'):∀{is:List Int}{d:D}{v:V}{F:List Addr}{dm:D}{w:V}{Gm:List Addr},Focus K H is d v F dm w Gm->Focus K H' is d v F dm w Gm
 | [],_,_,_,_,_,_,h=>⟨h.1,h.2.1,h.2.2.1,h.2.2.2.same s⟩
 | i::is,_,_,_,_,_,_,h=>by
  obtain⟨ds,a,vs,j,F1,G,F2,d',v',h1,h2,h3,h4,h5,h6,h7,h8,h9⟩:=h
  refine⟨ds,a,vs,j,F1,G,F2,d',v',h1,h2,?_,h4.same s,h5.same s,h6,h7,h8,h9.same s⟩
  rcases h3 with⟨e,z,q⟩ | ⟨e,eF,q⟩
  ·refine .inl ⟨e,z,?_⟩
   rcases q with⟨eF,q⟩ | ⟨eF,q⟩
   ·exact .inl ⟨eF,s _ _ q⟩
   ·exact .inr ⟨eF,QlH s q⟩
  ·exact .inr ⟨e,eF,Qmr s q⟩
theorem Focus.rp:∀{is:List Int}{d:D}{v:V}{F:List Addr}{dm:D}{w:V}{Gm:List Addr},Focus K H is d v F dm w Gm->Rp K H dm w Gm
 | [],_,_,_,_,_,_,h=>by
  obtain⟨rfl,rfl,rfl,r⟩:=h
  exact r
 | i::is,_,_,_,_,_,_,h=>by
  obtain⟨ds,a,vs,j,F1,G,F2,d',v',h1,h2,h3,h4,h5,h6,h7,h8,h9⟩:=h
  exact h9.rp
theorem Focus.Qp1:∀{is:List Int}{d:D}{v:V}{F:List Addr}{dm:D}{w:V}{Gm:List Addr},Focus K H is d v F dm w Gm->Rp K H d v F
 | [],_,_,_,_,_,_,h=>h.2.2.2
 | i::is,_,_,_,_,_,_,h=>by
  obtain⟨ds,a,vs,j,F1,G,F2,d',v',rfl,h2,h3,h4,h5,h6,h7,h8,h9⟩:=h
  have hjl:j<ds.length:=(Zh.mp h6).1
  have hdj:ds[j]=d':=(Zh.mp h6).2
  have j1:=Rps.join h4 h9.Qp1 h5 hjl h7
  rw[show ds.set j d'=ds by rw[← hdj];exact List.set_getElem_self hjl]at j1
  rcases h3 with⟨rfl,hz,⟨rfl,q⟩ | ⟨rfl,q⟩⟩ | ⟨rfl,rfl,q⟩
  ·exact Rp.Qdo q j1 hz
  ·simp only[Rp]
   exact⟨hz,a,vs,rfl,.inr ⟨q,j1⟩⟩
  ·simp only[Rp]
   exact⟨a,vs,rfl,q,j1⟩
theorem Focus.one(r:Rp K H d v F)(hd:d.items=some ds)(hi:atI ds i=some d'):
  ∃a vs v' G,v= .ref a/\((d= .lst ds/\SqL K H a vs)∨(d= .tup ds/\SqT K H a vs))/\atI vs i=some v'/\Focus K H [i] d v F d' v' G:=by
 unfold atI at hi
 cases hj:ixN ds.length i with
 | none=>rw[hj]at hi;cases hi
 | some j=>
  rw[hj]at hi
  have hdj:ds[j]? =some d':=hi
  have fin:∀(vs:List V) (L:List Addr),Rps K H ds vs L->∃v' G F1 F2,L=F1++(G++F2)/\vs[j]? =some v'/\atI vs i=some v'/\Rps K H (ds.take j) (vs.take j) F1/\Rp K H d' v' G/\Rps K H (ds.drop (j+1)) (vs.drop (j+1)) F2/\ds.length=vs.length:=λvs L rl=>by
   obtain⟨F1,G,F2,v',h1,h2,h3,h4,h5⟩:=rl.split hdj
   refine⟨v',G,F1,F2,h1,h2,?_,h3,h4,h5,rl.length⟩
   unfold atI
   rw[← rl.length,hj]
   exact h2
  cases d with
  | lst xs=>
   cases hd
   simp only[Rp]at r
   obtain⟨hz,a,vs,rfl,⟨L,rfl,q,rl⟩ | ⟨q,rl⟩⟩:=r
   ·obtain⟨v',G,F1,F2,h1,h2,h3,h4,h5,h6,h7⟩:=fin vs L rl
    exact⟨a,vs,v',G,rfl,.inl ⟨rfl,SqL.of q⟩,h3,ds,a,vs,j,F1,G,F2,d',v',rfl,hj,.inl ⟨rfl,hz,.inl ⟨by rw[h1],q⟩⟩,h4,h6,hdj,h2,h7,rfl,rfl,rfl,h5⟩
   ·obtain⟨v',G,F1,F2,h1,h2,h3,h4,h5,h6,h7⟩:=fin vs _ rl
    exact⟨a,vs,v',G,rfl,.inl ⟨rfl,q.sq⟩,h3,ds,a,vs,j,F1,G,F2,d',v',rfl,hj,.inl ⟨rfl,hz,.inr ⟨h1,q⟩⟩,h4,h6,hdj,h2,h7,rfl,rfl,rfl,h5⟩
  | tup xs=>
   cases hd
   obtain⟨a,vs,rfl,q,rl⟩:=r.QaQ
   obtain⟨v',G,F1,F2,h1,h2,h3,h4,h5,h6,h7⟩:=fin vs _ rl
   exact⟨a,vs,v',G,rfl,.inr ⟨rfl,q⟩,h3,ds,a,vs,j,F1,G,F2,d',v',rfl,hj,.inr ⟨rfl,h1,q⟩,h4,h6,hdj,h2,h7,rfl,rfl,rfl,h5⟩
  | _=>cases hd
theorem Focus.snoc:∀{is:List Int}{d:D}{v:V}{F:List Addr}{dm:D}{w:V}{Gm:List Addr}{i:Int}{d':D}{v':V}{G:List Addr},Focus K H is d v F dm w Gm->Focus K H [i] dm w Gm d' v' G->Focus K H (is++[i]) d v F d' v' G
 | [],_,_,_,_,_,_,_,_,_,_,h,g=>by
  obtain⟨rfl,rfl,rfl,r⟩:=h
  exact g
 | k::is,_,_,_,_,_,_,_,_,_,_,h,g=>by
  obtain⟨ds,a,vs,j,F1,G,F2,d',v',h1,h2,h3,h4,h5,h6,h7,h8,h9⟩:=h
  exact⟨ds,a,vs,j,F1,G,F2,d',v',h1,h2,h3,h4,h5,h6,h7,h8,h9.snoc g⟩
noncomputable def Qcu:D->List Int->Option D
 | d,[]=>some d
 | d,i::is=>(d.items).bind λds=>(atI ds i).bind λd'=>Qcu d' is
theorem QiB:∀{is:List Int}{d:D}{i:Int}{d':D},Qcu d (is++[i])=some d'->∃dm ds,Qcu d is=some dm/\dm.items=some ds/\atI ds i=some d'
 | [],d,i,d',h=>by
  refine Qc h λds h1 h=>?_
  refine Qc h λd'' h2 h=>?_
  cases h
  exact⟨d,ds,rfl,h1,h2⟩
 | k::is,d,i,d',h=>by
  refine Qc h λds h1 h=>?_
  refine Qc h λd'' h2 h=>?_
  obtain⟨dm,es,h3,h4,h5⟩:=QiB h
  refine⟨dm,es,?_,h4,h5⟩
  simp only[Qcu,h1,h2,Za,h3]
noncomputable def Qbd:List Int->D->D->D
 | [],_,new=>new
 | i::is,.lst ds,new=>match ixN ds.length i with
  | some j=> .lst (ds.set j (Qbd is (ds.getD j .non) new))
  | none=> .lst ds
 | i::is,.tup ds,new=>match ixN ds.length i with
  | some j=> .tup (ds.set j (Qbd is (ds.getD j .non) new))
  | none=> .tup ds
 | _::_,d,_=>d
theorem Qej:∀{ds:List D}{j:Nat}{d e:D},ds[j]? =some d->nls (ds.set j e)+d.nl=nls ds+e.nl
 | [],_,_,_,h=>by simp at h
 | x::ds,0,d,e,h=>by simp at h;subst h;simp only[List.set_cons_zero,nls];omega
 | x::ds,j+1,d,e,h=>by
  have:=Qej (e:=e) (by simpa using h)
  simp only[List.set_cons_succ,nls];omega
theorem Qa0:∀(as bs:List D),nls (as++bs)=nls as+nls bs
 | [],bs=>by simp[nls]
 | a::as,bs=>by simp only[Zbq,nls,Qa0 as bs];omega
theorem Focus.mut:∀{is:List Int}{d:D}{v:V}{F:List Addr}{Gm:List Addr},Focus K H is d v F (.lst dsm) (.ref p) Gm->F.Nodup->F.length=d.nl→
  ∃vsm Gp,H p=some (.lst vsm)/\Gm=p::Gp/\Rps K H dsm vsm Gp/\Gp.length=nls dsm/\p∈F/\(∀a∈Gp,a∈F)/\p∉Gp∧
   (Rps K (upd H p (.lst vs')) ds' vs' G'->ds'.length<=sizeLine->G'.length=nls ds'→
    ∃F',Rp K (upd H p (.lst vs')) (Qbd is d (.lst ds')) v F'/\F'.length=(Qbd is d (.lst ds')).nl/\∀a,F'.count a+Gp.count a=F.count a+G'.count a)
 | [],d,v,F,Gm,h,nd,hl=>by
  obtain⟨rfl,rfl,rfl,r⟩:=h
  simp only[Rp]at r
  obtain⟨hz,a,vs,e,h⟩:=r
  cases e
  rcases h with⟨L,rfl,q,rl⟩ | ⟨q,rl⟩
  ·obtain⟨n1,n2⟩:=ZJ.mp nd
   have hl':L.length=nls dsm:=by simp only[D.nl,Zi]at hl;omega
   refine⟨vs,L,q,rfl,rl,hl',Zj,λa ha=>Zb _ ha,n1,λr' hz' hl2=>⟨p::G',Rp.Qdo QQ r' hz',?_,λa=>?_⟩⟩
   ·simp only[Qbd,D.nl,Zi,hl2]
   ·rw[Zao,Zao];omega
  ·have:=rl.QS
   simp only[D.nl]at hl
   omega
 | i::is,d,v,F,Gm,h,nd,hl=>by
  obtain⟨ds,a,vs,j,F1,G,F2,d',v',rfl,hj,h3,h4,h5,h6,h7,h8,h9⟩:=h
  have hjl:j<ds.length:=(Zh.mp h6).1
  have gd:ds.getD j .non=d':=by rw[ZC,h6];rfl
  have l1:=h4.QS
  have l2:=h5.QS
  have l3:=h9.Qp1.QS
  have nlsplit:nls (ds.take j)+(d'.nl+nls (ds.drop (j+1)))=nls ds:=by
   have e1:ds=ds.take j++d'::ds.drop (j+1):=by
    have:ds[j]=d':=(Zh.mp h6).2
    rw[← this,← ZK hjl,Zau]
   have e2:=congrArg nls e1
   rw[Qa0]at e2
   simp only[nls]at e2
   exact e2.symm
  have core:(F1++(G++F2)).Nodup->(F1++(G++F2)).length=nls ds->_:=λnd' hl'=>by
   simp only[Zk]at hl'
   have hG:G.length=d'.nl:=by omega
   have ndG:G.Nodup:=(Zy.mp (Zy.mp nd').2.1).1
   exact(h9.mut (vs':=vs') (ds':=ds') (G':=G') ndG hG)
  have apart:(F1++(G++F2)).Nodup->p∈G->p∉F1/\p∉F2:=λnd' hp=>by
   have n1:=Zy.mp nd'
   have n2:=Zy.mp n1.2.1
   exact⟨λh=>n1.2.2 p h p (Zd _ hp) rfl,λh=>n2.2.2 p hp p h rfl⟩
  have cnt:∀(G'' Gp:List Addr),(∀a,G''.count a+Gp.count a=G.count a+G'.count a)->∀a,(F1++(G''++F2)).count a+Gp.count a=(F1++(G++F2)).count a+G'.count a:=λG'' Gp hc a=>by
   have:=hc a
   simp only[ZY];omega
  rcases h3 with⟨rfl,hz,⟨rfl,q⟩ | ⟨rfl,q⟩⟩ | ⟨rfl,rfl,q⟩
  ·
   obtain⟨n1,n2⟩:=ZJ.mp nd
   have hl':(F1++(G++F2)).length=nls ds:=by simp only[D.nl,Zi]at hl;omega
   obtain⟨vsm,Gp,e1,e2,e3,e4,e5,e6,e7,e8⟩:=core n2 hl'
   have ap:=apart n2 e5
   have hap:a≠p:=λz=>n1 (by rw[z];exact Ze _ (Zd _ e5))
   refine⟨vsm,Gp,e1,e2,e3,e4,Zb _ (Ze _ (Zd _ e5)),λb hb=>Zb _ (Ze _ (Zd _ (e6 b hb))),e7,λr' hz' hl2=>?_⟩
   obtain⟨G'',f1,f2,f3⟩:=e8 r' hz' hl2
   have j1:=Rps.join (h4.upd e1 ap.1) f1 (h5.upd e1 ap.2) hjl h7
   refine⟨a::(F1++(G''++F2)),?_,?_,λb=>?_⟩
   ·simp only[Qbd,hj,gd]
    exact Rp.Qdo (by rw[Qx hap];exact q) j1 (by rw[Zar];exact hz)
   ·have:=Qej (e:=Qbd is d' (.lst ds')) h6
    simp only[Qbd,hj,gd,D.nl,Zi,Zk,f2]at hl' ⊢
    omega
   ·have:=cnt G'' Gp f3 b
    rw[Zao,Zao];omega
  ·have:(F1++(G++F2)).length<=nls ds:=by simp only[Zk];omega
   simp only[D.nl]at hl
   omega
  ·
   have hl':(F1++(G++F2)).length=nls ds:=by simpa only[D.nl]using hl
   obtain⟨vsm,Gp,e1,e2,e3,e4,e5,e6,e7,e8⟩:=core nd hl'
   have ap:=apart nd e5
   refine⟨vsm,Gp,e1,e2,e3,e4,Ze _ (Zd _ e5),λb hb=>Ze _ (Zd _ (e6 b hb)),e7,λr' hz' hl2=>?_⟩
   obtain⟨G'',f1,f2,f3⟩:=e8 r' hz' hl2
   have j1:=Rps.join (h4.upd e1 ap.1) f1 (h5.upd e1 ap.2) hjl h7
   refine⟨F1++(G''++F2),?_,?_,cnt G'' Gp f3⟩
   ·simp only[Qbd,hj,gd,Rp]
    exact⟨a,vs,rfl,Qnx e1 q,j1⟩
   ·have:=Qej (e:=Qbd is d' (.lst ds')) h6
    simp only[Qbd,hj,gd,D.nl,Zk,f2]at hl' ⊢
    omega
end
end HS
namespace HS
open PySem PySem.Spec L2
section
theorem Rel.mut(rel:Rel K H0 A0 hs ρ F σ H)(p:QN K ρ F H H1 r vn Gn)(hf:r.fr=true)(nd:r.M.Nodup)(s12:Qr H1 H2)(hx:ρ[x]? =some (some (d,true)))(hxM:x∉r.M)(hv0:σ[x]? =some (some v0))
  {dnew:D}{q:Addr}{F':List Addr}{vsm vs':List V}(e1:H2 q=some (.lst vsm)) (e5:q∈F x) (f1:Rp K (upd H2 q (.lst vs')) dnew v0 F') (f2:F'.length=dnew.nl) (cF:∀a,F'.count a<=(F x).count a+Gn.count a):
  ∃F',Rel K H0 A0 hs ((kill r.M ρ).set x (some (dnew,true))) F' σ (upd H2 q (.lst vs')):=by
 obtain⟨ol,on,o0,oap,oh⟩:=rel.own x d hx
 obtain⟨gn,gs⟩:=p.fresh rel hf nd
 have rel2:=(rel.ext p.same).ext s12
 have relk:=rel2.weak (Qbk r.M ρ)
 have apn:∀a∈Gn,a∉F x:=λa ha hax=>by
  rcases(gs a ha).2 with z | ⟨k,d',hk,ek,hak⟩
  ·obtain⟨vs,w⟩:=rel.mem hx hax
   rw[z]at w;cases w
  ·have:k≠x:=λz=>hxM (z▸hk)
   exact oap k d' true this ek a hax hak
 have memF:∀a∈F',a∈F x∨a∈Gn:=λa ha=>by
  have h1:=cF a
  have h2:0<F'.count a:=ZS.mpr ha
  by_cases h:a∈F x
  ·exact .inl h
  ·rw[Zz.mpr h]at h1
   exact .inr (ZS.mp (by omega))
 have apart:∀(j:Nat) d' b,j≠x->(kill r.M ρ)[j]? =some (some (d',b))->∀a∈F',a∉F j:=λj d' b hj e a ha haj=>by
  obtain⟨b',e',_⟩:=(Qbk r.M ρ).2 j d' b e
  rcases memF a ha with h | h
  ·exact oap j d' b' hj e' a h haj
  ·rcases(gs a h).2 with z | ⟨k,d'',hk,ek,hak⟩
   ·obtain⟨vs,w⟩:=rel.mem e' haj
    rw[z]at w;cases w
   ·have hjk:j≠k:=λz=>by subst z;exact QeT r.M ρ j d' b hk e
    exact(rel.own k d'' ek).2.2.2.1 j d' b' hjk e' a hak haj
 have apartH:∀t∈hs,∀a∈F',a∉t.2.2:=λt ht a ha hat=>by
  rcases memF a ha with h | h
  ·exact oh t ht a h hat
  ·rcases(gs a h).2 with z | ⟨k,d'',hk,ek,hak⟩
   ·obtain⟨vs,w⟩:=(rel.held t ht).1.mem a hat
    rw[z]at w;cases w
   ·exact(rel.own k d'' ek).2.2.2.2 t ht a hak hat
 have nqj:∀(j:Nat) d' b,j≠x->ρ[j]? =some (some (d',b))->q∉F j:=λj d' b hj e h=>oap j d' b hj e q e5 h
 have nF':F'.Nodup:=ZR.mpr λa=>by
  have h1:=cF a
  have h2:=ZR.mp on a
  have h3:=ZR.mp gn a
  by_cases h:a∈Gn
  ·rw[Zz.mpr (apn a h)]at h1;omega
  ·rw[Zz.mpr h]at h1;omega
 have lt:∀{j:Nat}{z:Option (D×Bool)}{y:D×Bool},((kill r.M ρ).set j z)[j]? =some (some y)->j<(kill r.M ρ).length:=λ{j z y} e=>by
  by_cases hl:j<(kill r.M ρ).length
  ·exact hl
  ·rw[Zr (by simp;omega)]at e;cases e
 refine⟨λj=>if j=x then F' else F j,by simp[relk.len],λj d' b e=>?_,λj d' e=>?_,λj d' b e a ha=>?_,λt ht=>⟨(relk.held t ht).1.upd e1 λh=>oh t ht q e5 h,(relk.held t ht).2⟩,λb o hb=>?_⟩
 ·by_cases hj:j=x
  ·subst hj
   have hl:=lt e
   rw[Zn hl]at e
   cases e
   exact⟨v0,hv0,by rw[if_pos rfl];exact f1⟩
  ·rw[Zf (Ne.symm hj)]at e
   obtain⟨w,h1,h2⟩:=relk.val j d' b e
   obtain⟨b',e',_⟩:=(Qbk r.M ρ).2 j d' b e
   exact⟨w,h1,by rw[if_neg hj];exact h2.upd e1 (nqj j d' b' hj e')⟩
 ·by_cases hj:j=x
  ·subst hj
   have hl:=lt e
   rw[Zn hl]at e
   cases e
   rw[if_pos rfl]
   refine⟨f2,nF',λa ha=>?_,λk d'' b hk ek a ha=>?_,apartH⟩
   ·rcases memF a ha with h | h
    ·exact o0 a h
    ·exact(gs a h).1
   ·rw[Zf (Ne.symm hk)]at ek
    rw[if_neg hk]
    exact apart k d'' b hk ek a ha
  ·rw[Zf (Ne.symm hj)]at e
   obtain⟨h1,h2,h3,h4,h5⟩:=relk.own j d' e
   rw[if_neg hj]
   refine⟨h1,h2,h3,λk d'' b hk ek a ha=>?_,h5⟩
   by_cases hki:k=x
   ·subst hki
    rw[if_pos rfl]
    exact λhG=>apart j d' true hj e a hG ha
   ·rw[Zf (Ne.symm hki)]at ek
    rw[if_neg hki]
    exact h4 k d'' b hk ek a ha
 ·by_cases hj:j=x
  ·subst hj
   rw[if_pos rfl]at ha
   rcases memF a ha with h | h
   ·exact .inl (o0 a h)
   ·exact .inl (gs a h).1
  ·rw[Zf (Ne.symm hj)]at e
   rw[if_neg hj]at ha
   exact relk.src j d' b e a ha
 ·have hbq:b≠q:=λz=>by rw[z,o0 q e5]at hb;cases hb
  rw[Qx hbq]
  exact relk.same b o hb
end
noncomputable abbrev DP:=En->Option (List Int)
noncomputable def Qa8:DP:=λ_=>some []
noncomputable def QdK(p:DP)(fb:DE):DP:=λρ=>(p ρ).bind λis=>(fb ρ).bind λr=>match r.d with
 | .int i=>some (is++[i])
 | _=>none
noncomputable def tP(K:PySem.W.Frag)(H0:Hp)(A0:List Addr)(x:Nat)(pf:DP):TE:=λσ H Q=>∃ρ hs F d b is dm,Rel K H0 A0 hs ρ F σ H/\ρ[x]? =some (some (d,b))/\pf ρ=some is/\Qcu d is=some dm∧
 ∀v0 v H' Gm,Qr H H'->σ[x]? =some (some v0)->Focus K H' is d v0 (F x) dm v Gm->Q v H'
def SPa(X:Cx)(e:Expr)(x:Nat)(pf:DP):Prop:=∀H0 A0,PE X e (tP X.K H0 A0 x pf)
section
theorem Qr5(h:PE X (.Name y pos) (QbX x)):SPa X (.Name y pos) x Qa8:=λH0 A0=>h.mono λσ H Q hpt=>by
 obtain⟨ρ,hs,F,d,b,is,dm,rel,hx,hp,hd,q⟩:=hpt
 cases hp
 cases hd
 obtain⟨v,h1,h2⟩:=rel.val x d b hx
 exact⟨v,h1,q v v H (F x) (Qr.refl _) h1 ⟨rfl,rfl,rfl,h2⟩⟩
theorem Qut(ha:SPa X a x pf)(hb:SE X b fb)(hs:Qeh b):SPa X (.Subscript a b pos) x (QdK pf fb):=λH0 A0=>
 (Qlc (Qj7.or QpX) (ha H0 A0) (hb H0 A0) hs).mono λσ H Q hpt=>by
  obtain⟨ρ,hs,F,d,b',is,dm,rel,hx,hp,hd,q⟩:=hpt
  refine Qc hp λis' e1 hp=>?_
  refine Qc hp λr e2 hp=>?_
  cases hr:r.d with
  | int i=>
   rw[hr]at hp
   cases hp
   obtain⟨dn,ds,g1,g2,g3⟩:=QiB hd
   refine⟨ρ,hs,F,d,b',is',dn,rel,hx,e1,g1,λv0 w H1 Gm s1 hv fo=>⟨ρ,hs,F,r,rel.ext s1,e2,λu H2 G p2=>?_⟩⟩
   have rp:=p2.rp
   rw[hr]at rp
   rw[rp.int_inv]
   have fo2:=fo.same p2.same
   obtain⟨c,vs,v',G',rfl,hc,h3,h4⟩:=Focus.one fo2.rp g2 g3
   have fin:=q v0 v' H2 G' (s1.trans p2.same) hv (fo2.snoc h4)
   rcases hc with⟨_,hc⟩ | ⟨_,hc⟩
   ·exact .inl ⟨c,vs,i,v',rfl,rfl,hc,h3,fin⟩
   ·exact .inr ⟨c,vs,i,v',rfl,rfl,hc,h3,fin⟩
  | _=>rw[hr]at hp;cases hp
noncomputable def QeO(x:Nat)(pf:DP)(fi fa:DE):DS:=λρ=>(fa ρ).bind λr0=>match ρ[x]? with
 | some (some (d,true))=>(pf ρ).bind λis=>(fi ρ).bind λri=>match ri.d,Qcu d is with
  | .int k,some (.lst ds)=>(ixN ds.length k).bind λj=>if r0.norm.fr && decide r0.norm.M.Nodup && !r0.norm.M.contains x then some (.nx ((kill r0.norm.M ρ).set x (some (Qbd is d (.lst (ds.set j r0.d)),true))))else
   none
  | _,_=>none
 | _=>none
theorem set_mk(hq:H2 q=some (.lst vsm))(rs:Rps K H2 dsm vsm Gp)(hl:Gp.length=nls dsm)(nq:q∉Gp)(nqn:q∉Gn)(hn:Rp K H2 dn vn Gn)(hnl:Gn.length=dn.nl)(hj:j<dsm.length):
  ∃G',Rps K (upd H2 q (.lst (vsm.set j vn))) (dsm.set j dn) (vsm.set j vn) G'/\G'.length=nls (dsm.set j dn)/\∀a,G'.count a<=Gp.count a+Gn.count a:=by
 obtain⟨F1,G,F2,v,e1,e2,h1,h2,h3⟩:=rs.split (j:=j) (d:=dsm[j]) (by simp[hj])
 subst e1
 have hjv:j<vsm.length:=by rw[← rs.length];exact hj
 have n1:q∉F1:=λh=>nq (Zd _ h)
 have n2:q∉F2:=λh=>nq (Ze _ (Ze _ h))
 refine⟨F1++(Gn++F2),Rps.Qn8 (h1.upd hq n1) (hn.upd hq nqn) (h3.upd hq n2) hj hjv,?_,λa=>?_⟩
 ·have:=Qej (ds:=dsm) (j:=j) (d:=dsm[j]) (e:=dn) (by simp[hj])
  have l1:=h1.QS
  have l2:=h2.QS
  have l3:=h3.QS
  have e1:nls (dsm.take j)+((dsm[j]).nl+nls (dsm.drop (j+1)))=nls dsm:=by
   have e2:=congrArg nls (Zau j dsm)
   rw[Qa0,ZK hj]at e2
   simpa only[nls]using e2
  simp only[Zk]at hl ⊢
  omega
 ·simp only[ZY];omega
theorem QN.Qs5(p:QN K ρ F H H1 r v G)(s:Qr H1 H2):QN K ρ F H H2 r v G:=⟨p.same.trans s,p.rp.same s,p.src,p.cnt,p.own⟩
theorem Qv7(hv:SE X e fa)(ho:SPa X a x pf)(hi:SE X i fi)
  (h:∀te to ti,PE X e te->PE X a to->PE X i ti->PS X (.Assign [.Subscript a i pos'] e pos) (Qj0 te (L2.Qfn to ti Qov))):S1 X (.Assign [.Subscript a i pos'] e pos) (QeO x pf fi fa):=λH0 A0=>
 (h _ _ _ (hv H0 A0) (ho H0 A0) (hi H0 A0)).mono λE σ H=>exK λρ hs F o rel e q=>by
  refine Qc e λr0 e1 e=>?_
  split at e
  ·rename_i d hx
   refine Qc e λis e2 e=>?_
   refine Qc e λri e3 e=>?_
   split at e
   ·rename_i k ds hk hp
    refine Qc e λj e4 e=>?_
    split at e
    ·rename_i hc
     cases e
     simp only[Zg,decide_eq_true_eq,ZO]at hc
     obtain⟨⟨c1,c2⟩,c3⟩:=hc
     have c3:x∉r0.norm.M:=λh=>by rw[ZI.mpr h]at c3;cases c3
     refine⟨ρ,hs,F,r0,rel,e1,λvn H1 Gn p=>⟨ρ,hs,F,d,true,is,.lst ds,rel.ext p.same,hx,e2,hp,λv0 w H2 Gm s2 hv0 fo=>⟨ρ,hs,F,ri,(rel.ext p.same).ext s2,e3,λu H3 Gi pi=>?_⟩⟩⟩
     have p':=(p.norm.Qs5 s2).Qs5 pi.same
     have fo3:=fo.same pi.same
     have rpi:=pi.rp
     rw[hk]at rpi
     rw[rpi.int_inv]
     obtain⟨l,ws,L,rfl,_⟩:=fo3.rp.lst_inv
     obtain⟨ol,on,_,oap,_⟩:=rel.own x d hx
     have hjl:=(Qem e4).2.1
     obtain⟨gn,gs⟩:=p'.fresh rel c1 c2
     have rn:=p'.rp
     rw[r0.QcN]at rn
     have hnl:=(p'.cnt c1).2
     rw[r0.QcN]at hnl
     obtain⟨vsm,_,f1,_⟩:=fo3.mut (vs':=[]) (ds':=[]) (G':=[]) on ol
     obtain⟨_,_,_,_,_,_,zl,_⟩:=fo3.rp.lst_inv
     have key:∃F',Rp X.K (upd H3 l (.lst (vsm.set j vn))) (Qbd is d (.lst (ds.set j r0.d))) v0 F'/\F'.length=(Qbd is d (.lst (ds.set j r0.d))).nl/\l∈F x/\ds.length=vsm.length/\∀a,F'.count a<=(F x).count a+Gn.count a:=by
      have own5:∀G',_:=λG'=>fo3.mut (vs':=vsm.set j vn) (ds':=ds.set j r0.d) (G':=G') on ol
      obtain⟨vs1,Gp,g1,g2,g3,g4,g5,g6,g7,_⟩:=own5 []
      rw[f1]at g1;cases g1
      have hq:l∉Gn:=λh=>by
       rcases(gs l h).2 with z | ⟨k',d',hk',ek,hak⟩
       ·obtain⟨vs,w⟩:=rel.mem hx g5
        rw[z]at w;cases w
       ·exact oap k' d' true (λz=>c3 (z▸hk')) ek l g5 hak
      obtain⟨G',m1,m2,m3⟩:=set_mk f1 g3 g4 g7 hq rn hnl hjl
      obtain⟨vs2,Gp2,k1,k2,k3,k4,k5,k6,k7,k8⟩:=own5 G'
      have eG:Gp2=Gp:=by rw[g2]at k2;exact(List.cons.inj k2).2.symm
      subst eG
      obtain⟨F',h1,h2,h3⟩:=k8 m1 (by rw[Zar];exact zl) m2
      exact⟨F',h1,h2,g5,g3.length,λa=>by have:=h3 a;have:=m3 a;omega⟩
     obtain⟨F',k1,k2,k3,k4,k5⟩:=key
     refine⟨l,vsm,k,j,rfl,rfl,f1,by rw[← k4];exact e4,?_⟩
     obtain⟨F'',rel'⟩:=rel.mut p' c1 c2 (Qr.refl _) hx c3 hv0 f1 k3 k1 k2 k5
     exact q _ _ F'' rel'
    ·
      cases e
   ·cases e
  ·cases e
end
section
variable {K:PySem.W.Frag}{H0 H H1 H2 H3:Hp}{A0:List Addr}{hs:List (V×D×List Addr)}{ρ:En}{F:Nat->List Addr}{σ:L2.St}
theorem Rel.write(rel:Rel K H0 A0 hs ρ F σ H)(p:QN K ρ F H H3 r vn Gn)(hf:r.fr=true)(nd:r.M.Nodup)(hx:ρ[x]? =some (some (d,true)))(hxM:x∉r.M)(hv0:σ[x]? =some (some v0))
  {is:List Int}{ds:List D}{Gm:List Addr}(fo:Focus K H3 is d v0 (F x) (.lst ds) w Gm):
  ∃l vsm Gp,w= .ref l/\H3 l=some (.lst vsm)/\Rps K H3 ds vsm Gp/\Gp.length=nls ds/\l∉Gp/\l∉Gn/\ds.length<=sizeLine∧
   ∀ds' vs' G',Rps K (upd H3 l (.lst vs')) ds' vs' G'->ds'.length<=sizeLine->G'.length=nls ds'->(∀a,G'.count a<=Gp.count a+Gn.count a)→
    ∃F',Rel K H0 A0 hs ((kill r.M ρ).set x (some (Qbd is d (.lst ds'),true))) F' σ (upd H3 l (.lst vs')):=by
 obtain⟨l,ws,L,rfl,_,_,zl,_⟩:=fo.rp.lst_inv
 obtain⟨ol,on,_,oap,_⟩:=rel.own x d hx
 obtain⟨gn,gs⟩:=p.fresh rel hf nd
 obtain⟨vsm,Gp,g1,g2,g3,g4,g5,g6,g7,_⟩:=fo.mut (vs':=[]) (ds':=[]) (G':=[]) on ol
 have hq:l∉Gn:=λh=>by
  rcases(gs l h).2 with z | ⟨k',d',hk',ek,hak⟩
  ·obtain⟨vs,w⟩:=rel.mem hx g5
   rw[z]at w;cases w
  ·exact oap k' d' true (λz=>hxM (z▸hk')) ek l g5 hak
 refine⟨l,vsm,Gp,rfl,g1,g3,g4,g7,hq,zl,λds' vs' G' m1 m2 m3 m4=>?_⟩
 obtain⟨vs2,Gp2,k1,k2,k3,k4,k5,k6,k7,k8⟩:=fo.mut (vs':=vs') (ds':=ds') (G':=G') on ol
 have eG:Gp2=Gp:=by rw[g2]at k2;exact(List.cons.inj k2).2.symm
 subst eG
 obtain⟨F',h1,h2,h3⟩:=k8 m1 m2 m3
 exact rel.mut p hf nd (Qr.refl _) hx hxM hv0 g1 g5 h1 h2 λa=>by have:=h3 a;have:=m4 a;omega
end
section
variable {X:Cx}{a b e:Expr}{fa fb:DE}{pf:DP}{x:Nat}{pos apos:Pos}
noncomputable def Qji(r:R)(x:Nat):Bool:=r.norm.fr && decide r.norm.M.Nodup && !r.norm.M.contains x
theorem QpG(h:Qji r x=true):r.norm.fr=true/\r.norm.M.Nodup/\x∉r.norm.M:=by
 unfold Qji at h
 simp only[Zg,decide_eq_true_eq,ZO]at h
 exact⟨h.1.1,h.1.2,λz=>by rw[ZI.mpr z]at h;cases h.2⟩
noncomputable def Qd4(x:Nat)(pf:DP)(fa:DE):DS:=λρ=>match ρ[x]? with
 | some (some (d,true))=>(pf ρ).bind λis=>(fa ρ).bind λr0=>match Qcu d is with
  | some (.lst ds)=>if Qji r0 x && decide (ds.length<sizeLine)then some (.nx ((kill r0.norm.M ρ).set x (some (Qbd is d (.lst (ds++[r0.d])),true))))else none
  | _=>none
 | _=>none
theorem Qq7{H0:Hp}{A0:List Addr}{E:Ends}{σ:L2.St}{H:Hp}:tS X.K H0 A0 (Qd4 x pf fa) E σ H->Qk4 (tBM X.K "list" QnP (tP X.K H0 A0 x pf) (Qn6 (tV X.K H0 A0 fa) Qo5)) E σ H:=exK λρ hs F o rel e q=>by
 unfold Qd4 at e
 split at e
 ·rename_i d hx
  refine Qc e λis e2 e=>?_
  refine Qc e λr0 e1 e=>?_
  split at e
  ·rename_i ds hp
   split at e
   ·rename_i hc
    simp only[Zg,decide_eq_true_eq]at hc
    obtain⟨c1,c2,c3⟩:=QpG hc.1
    cases e
    refine⟨ρ,hs,F,d,true,is,.lst ds,rel,hx,e2,hp,λv0 w H2 Gm s2 hv0 fo=>?_⟩
    have ty:tyV X.K "list" w H2:=by
     obtain⟨l,ws,L,rfl,hl,_⟩:=fo.rp.lst_inv
     exact .inl ⟨rfl,ws,QP hl⟩
    refine⟨ty,ρ,hs,F,r0,rel.ext s2,e1,λvn H3 Gn p=>?_⟩
    have p':=p.norm
    obtain⟨l,vsm,Gp,rfl,g1,g2,g3,g4,g5,g6,g7⟩:=(rel.ext s2).write p' c1 c2 hx c3 hv0 (fo.same p.same)
    refine⟨l,vsm,vn,rfl,rfl,g1,by rw[← g2.length];exact hc.2,?_⟩
    have rn:=p'.rp
    rw[r0.QcN]at rn
    have hnl:=(p'.cnt c1).2
    rw[r0.QcN]at hnl
    have rw1:Rps X.K (upd H3 l (.lst (vsm++[vn]))) [r0.d] [vn] Gn:=by
     simp only[Rps]
     exact⟨vn,[],Gn,[],rfl,by simp,rn.upd g1 g5,rfl,rfl⟩
    obtain⟨F',rel'⟩:=g7 (ds++[r0.d]) (vsm++[vn]) (Gp++Gn) ((g2.upd g1 g4).append rw1) (by rw[Zk,ZaS];omega) (by rw[Zk,Qa0,g3,hnl];simp[nls]) (λa=>by rw[ZY];omega)
    exact q _ _ F' rel'
   ·cases e
  ·cases e
 ·cases e
open PyProof.Rows in
theorem Qpx:Qvn X (QwX X.K):=by
 intro pins s σ H o i ov iv Q I ro ri h
 obtain⟨p,xs,k,v,rfl,rfl,hq,ha,q⟩:=h
 cases ro
 obtain⟨t,rfl⟩:=ri
 obtain⟨its,r,pl,hz⟩:=I.list hq
 obtain⟨j,h1,h2,h3,h4,h5⟩:=Qjq ha
 obtain⟨w,ew,rw'⟩:=r.get h2
 have hl:=r.length
 have hn:=QfI
 by_cases h0:0<=k
 ·refine wpAny_getItem_list pl.isList h0 (by omega) (x:=w) ?_ ⟨v,H,I,rw',q⟩
  have:k.toNat=j:=by
   rw[seqIndex_of h0 h5]at h1
   exact Option.some.inj h1
  rw[this];simpa using ew
 ·refine wpAny_getItem_list_neg pl.isList (by omega) (by rw[Zx]<;>omega) (by omega) (x:=w) ?_ ⟨v,H,I,rw',q⟩
  have hj:(k+(its.toArray.size:Int)).toNat=j:=by
   rw[seqIndex_neg (by omega) h4]at h1
   rw[Zx,← hl]
   exact Option.some.inj h1
  rw[hj];simpa using ew
noncomputable def Qe5(g:D->D->Option D)(x:Nat)(pf:DP)(fi fa:DE):DS:=λρ=>match ρ[x]? with
 | some (some (d,true))=>(pf ρ).bind λis=>(fi ρ).bind λri=>match ri.d,Qcu d is with
  | .int k,some (.lst ds)=>(ixN ds.length k).bind λj=>(ds[j]?).bind λold=>(fa ρ).bind λr=>(g old r.d).map λnew=> .nx (ρ.set x (some (Qbd is d (.lst (ds.set j new)),true)))
  | _,_=>none
 | _=>none
theorem QuL(ho:OpR X (inplaceOp op) r)(hg:Qb9 X.K g r)(hv:SE X e fa)(hp:SPa X a x pf)(hi:SE X i fi)
  (ha:∀ov iv new,augStore i ov iv new=(do holding [new,ov,iv] (setItem ov iv new);release [new,ov,iv] [];pure .next)):S1 X (.AugAssign (.Subscript a i pos') op e pos) (Qe5 g x pf fi fa):=λH0 A0=>
 (Qto (hp H0 A0) (hi H0 A0) Qpx (hv H0 A0) (λpins s σ H x y v u Q I rx ry q=>Qy3 ho I rx ry q) set_list ha).mono λE σ H=>exK λρ hs F o rel e q=>by
  unfold Qe5 at e
  split at e
  ·rename_i d hx
   refine Qc e λis e2 e=>?_
   refine Qc e λri e3 e=>?_
   split at e
   ·rename_i k ds hk hp'
    refine Qc e λj e4 e=>?_
    refine Qc e λold e5 e=>?_
    refine Qc e λrv e6 e=>?_
    obtain⟨new,e7,e⟩:=Zc.mp e
    subst e
    have hjl:=(Qem e4).2.1
    refine⟨ρ,hs,F,d,true,is,.lst ds,rel,hx,e2,hp',λv0 w H2 Gm s2 hv0 fo=>⟨ρ,hs,F,ri,rel.ext s2,e3,λu H3 Gi pi=>?_⟩⟩
    have fo3:=fo.same pi.same
    have rpi:=pi.rp
    rw[hk]at rpi
    rw[rpi.int_inv]
    have at3:atI ds k=some old:=by unfold atI;rw[e4];exact e5
    obtain⟨l,vs,v',Go,rfl,hc,h3,h4⟩:=Focus.one fo3.rp rfl at3
    have hc:SqL X.K H3 l vs:=by
     rcases hc with⟨_,hc⟩ | ⟨hc,_⟩
     ·exact hc
     ·cases hc
    refine⟨l,vs,k,v',rfl,rfl,hc,h3,ρ,hs,F,rv,(rel.ext s2).ext pi.same,e6,λy H4 G4 p4=>?_⟩
    have fo4:=fo3.same p4.same
    have ro:=h4.rp.same p4.same
    refine(hg _ _ _ e7).2 H4 v' y Go G4 _ ro p4.rp λz hz=>?_
    have rel4:=((rel.ext s2).ext pi.same).ext p4.same
    have pz:QN X.K ρ F H4 H4 ⟨new,true,[]⟩ z []:= .flat (Qr.refl _) (hz H4) (hg _ _ _ e7).1
    obtain⟨l',vsm,Gp,el,g1,g2,g3,g4,g5,g6,g7⟩:=rel4.write pz rfl Zab hx (by simp) hv0 fo4
    cases el
    refine⟨l,vsm,k,j,rfl,rfl,g1,by rw[← g2.length];exact e4,?_⟩
    obtain⟨G',m1,m2,m3⟩:=set_mk g1 g2 g3 g4 g5 (hz H4) (QcV new (hg _ _ _ e7).1).symm hjl
    obtain⟨F',rel'⟩:=g7 _ _ G' m1 (by rw[Zar];exact g6) m2 m3
    exact q _ _ F' rel'
   ·cases e
  ·cases e
end
end HS
namespace HS
open PySem PySem.Spec L2 PyProof.Rows
noncomputable def D.QsN:D->Option Int
 | .int i=>some i
 | _=>none
noncomputable def Qf5:List D->Option (List Int)
 | []=>some []
 | d::ds=>(d.QsN).bind λi=>(Qf5 ds).map λr=>i::r
theorem QgH:∀{ds:List D}{ns:List Int},Qf5 ds=some ns->ds=ns.map .int
 | [],_,h=>by cases h;rfl
 | d::ds,ns,h=>by
  unfold Qf5 at h
  refine Qc h λi h1 h=>?_
  obtain⟨r,h2,rfl⟩:=Zc.mp h
  cases d with
  | int j=>cases h1;rw[QgH h2];rfl
  | _=>cases h1
theorem QmN:∀(ns:List Int),Qf5 (ns.map D.int)=some ns
 | []=>rfl
 | n::ns=>by simp[Qf5,QmN ns,D.QsN]
theorem Rps.ints{K:PySem.W.Frag}{H:Hp}:∀{ns:List Int}{vs:List V}{F:List Addr},Rps K H (ns.map .int) vs F->vs=ns.map .int
 | [],_,_,h=>by simp only[List.map_nil,Rps]at h;rw[h.1];rfl
 | n::ns,_,_,h=>by
  simp only[Zw,Rps]at h
  obtain⟨v,ws,F1,F2,rfl,rfl,r,q⟩:=h
  rw[r.int_inv,Rps.ints q];rfl
theorem QdZ(h:Qq (ns.map V.int) us):IntsAre us ns:=intsAre_of h
section
variable {X:Cx}{a b e:Expr}{es:List Expr}{fa fb:DE}{fs:DA}{pos p2:Pos}
theorem QwQ(he:PE X e te)(hk:PE X k tk):PE X (.Subscript e (.Slice none none (some k) p2) pos)
  (λσ H Q=>te σ H λx H1=>tk σ H1 λy H2=>∃a xs,x= .ref a/\y= .int (-1)/\SqL X.K H2 a xs/\∀p,H2 p=none->Q (.ref p) (upd H2 p (.lst xs.reverse))):=by
 intro pins s σ H Q I h
 refine PyProof.Rows.Subscript_ (thn (he pins s σ H _ I h) λv s1=>exJ λx H1 I1 r1 q1=>?_)
 refine wpAny_Slice ?_
 rw[evalPart_none]
 refine wpAny_pure (wpAny_pure ?_)
 rw[evalPart_some]
 refine thn (hk pins s1 σ H1 _ I1 q1) λvk s3=>exJ λy H3 I3 r3 q3=>?_
 obtain⟨c,xs,rfl,rfl,hq,q⟩:=q3
 cases r1
 obtain⟨t,rfl⟩:=r3
 have I4:Inv X pins σ H3 {s3 with heap:=s3.heap.push {cls:= .type "slice",data:= .fields #[.none,.none,.int (-1) t]}}:=I3.kept (t':=s3.toks) λb ob q=>Zt _ q
 obtain⟨its,r,ht,hz⟩:=I4.list hq
 have hlen:=r.length
 refine tail_any ht.isList.typeIs slot_list_getitem.lookup ?_ (by with_unfolding_all rfl)
 refine wpAny_getItem_list_slice ht.isList (Heap.IsSliceOf.new ..) .none .none (.int (-1) t) (by simp) ?_ (by rw[Zx]<;>omega)
 rw[PySem.W.krv_pick]
 refine⟨.ref _,_,I4.laid (t':=s3.toks) (λb ob q=>Zt _ q) (Zq _) ?_,rfl,q _ (I4.hok.fresh (Zq _))⟩
 exact⟨by rw[Zay];exact hz,its.reverse,0,r.reverse,ZM _ rfl⟩
theorem Rps.rev{K:PySem.W.Frag}{H:Hp}:∀{ds:List D}{vs:List V}{F:List Addr},Rps K H ds vs F->∃G,Rps K H ds.reverse vs.reverse G/\∀a∈G,a∈F
 | [],_,_,h=>by simp only[Rps]at h;rw[h.1,h.2];exact⟨[],by simp[Rps],λ_ h=>h⟩
 | d::ds,_,_,h=>by
  simp only[Rps]at h
  obtain⟨v,ws,F1,F2,rfl,rfl,r,q⟩:=h
  obtain⟨G,h1,h2⟩:=Rps.rev q
  refine⟨G++F1,?_,λa ha=>?_⟩
  ·rw[ZaG,ZaG]
   refine h1.append ?_
   simp only[Rps]
   exact⟨v,[],F1,[],rfl,by simp,r,rfl,rfl⟩
  ·rcases Zm.mp ha with z | z
   ·exact Ze _ (h2 a z)
   ·exact Zd _ z
noncomputable def QgO(fa fk:DE):DE:=λρ=>(fa ρ).bind λra=>(fk ρ).bind λrk=>match ra.d,rk.d with
 | .lst xs,.int (-1)=>some (Qap xs.reverse ra.M)
 | _,_=>none
theorem QvH{k:Expr}{fk:DE}(ha:SE X a fa)(hk:SE X k fk):SE X (.Subscript a (.Slice none none (some k) p2) pos) (QgO fa fk):=λH0 A0=>
 (QwQ (ha H0 A0) (hk H0 A0)).mono λσ H Q=>exK λρ hs F r' rel e q=>by
  refine Qc e λra e1 e=>?_
  refine Qc e λrk e2 e=>?_
  refine two rel e1 e2 λx y H1 H2 G1 G2 p1 p2=>?_
  split at e
  ·rename_i xs hra hrk
   cases e
   have rp:=p1.rp.same p2.same
   have rk':=p2.rp
   rw[hra]at rp
   rw[hrk]at rk'
   obtain⟨c,vs,L,rfl,hc,rl,zl,el⟩:=rp.lst_inv
   refine⟨c,vs,rfl,rk'.int_inv,QP hc,λp hp=>?_⟩
   obtain⟨G,h1,h2⟩:=rl.rev
   refine q _ _ (p::G) (QN.Qap (p1.same.trans p2.same) hp h1 (by rw[Zay];exact zl) (λz hz=>p1.src z ?_) p1.own)
   rcases el with rfl | rfl
   ·exact Zb _ (h2 z hz)
   ·exact h2 z hz
  ·cases e
noncomputable def QwP(K:PySem.W.Frag)(C:List Int->Int->Prop):List V->Hp->VK->Prop:=λxs H Q=>∃(p:Addr) (ns:List Int),xs=[.ref p]/\(SqL K H p (ns.map V.int)∨SqT K H p (ns.map V.int))/\ns≠[]/\∀M,C ns M->Q (.int M) H
def QiL(ns:List Int)(M:Int):Prop:=M∈ns/\∀a∈ns,M<=a
theorem QiS(hi:IntsAre us ns):∃xs:Array (Int×Tok),us.toArray=intItems xs/\ns=xs.toList.map (·.1):=by
 obtain⟨xs,e⟩:=hi.allInts.items
 exact⟨xs,e,by rw[← hi.numsOf,← nums_intItems,← e]⟩
theorem QlB(hh:A.handled=none)(hl:s.heap.IsTuple l (intItems xs))(hne:0<xs.size)
  (h:∀v h' tk,(intItems xs)[argBest (λi j=>decide (numAt xs i<numAt xs j)) (xs.size-1)]? =some v->(∀b o,s.heap.get? b=some o->h'.get? b=some o)->Q v {s with heap:=h',toks:=tk}):
  wpAny (model prog w) A (call (.builtin "min") [.ref l]) Q E s:=by
 have hlt:l<s.heap.objs.size:=by obtain⟨_,e,_⟩:=hl;exact Zv e
 refine call_min_walk (wpAny_pyIter_tuple hl ?_)
 refine⟨_,[_,l],[_],_,_,_,_,rfl,Walks.tuple (A:=A.in1) hh _ l (ZL hlt) (intItems xs),⟨⟨_,ZM _ rfl,rfl,rfl⟩,hl.push _⟩,λb hb=>?_,by simpa[intItems]using hne,CmpOf.ints_lt (numAt xs) (λ_ _=>intItems_at),λv h' tk hP hk=>?_⟩
 ·show b<(s.heap.push _).objs.size
  rw[ZaA]
  rcases Zo.mp hb with rfl | hb
  ·exact ZaJ _
  ·rcases Zo.mp hb with rfl | hb
   ·exact ZaR hlt
   ·cases hb
 ·refine h v h' tk (by simpa[intItems]using hP) λb o e=>?_
  refine hk b o (λhm=>?_) (Zt _ e)
  rcases Zo.mp hm with e1 | hm
  ·exact absurd (e1▸Zv e) (ZZ _)
  ·cases hm
theorem Qqn(hc:X.calm=true):QaY X (.builtin "min") (QwP X.K QiL):=by
 intro pins s σ H xs us Q I r h
 obtain⟨p,ns,rfl,hq,hne,q⟩:=h
 obtain⟨u,rfl,rx⟩:=vals1 r
 cases rx
 rcases hq with hq | hq
 ·obtain⟨its,r',pl,hz⟩:=I.list hq
  obtain⟨ys,e,hns⟩:=QiS (QdZ r')
  have hl:=pl.isList
  rw[e]at hl
  have hsz:0<ys.size:=by
   rcases Nat.eq_zero_or_pos ys.size with z | z
   ·exact absurd (by rw[hns,List.map_eq_nil_iff];exact ZaB (by simpa using z)) hne
   ·exact z
  refine min_intList (I.ok.hd hc) hl hsz λv h' tk hv hk=>?_
  obtain⟨t,rfl⟩:=intItems_at hv
  obtain⟨h1,h2⟩:=argBest_lt (numAt ys) (ys.size-1)
  refine⟨.int _,H,I.kept hk,⟨t,rfl⟩,q _ ⟨?_,λa ha=>?_⟩⟩
  ·rw[hns,numAt_eq];exact getD_mem (by rw[Zp,Zal];omega)
  ·rw[hns]at ha
   obtain⟨j,hj,rfl⟩:=mem_getD ha
   rw[Zp,Zal]at hj
   rw[← numAt_eq];exact h2 j (by omega)
 ·obtain⟨its,r',pl,hz⟩:=I.tuple hq
  obtain⟨ys,e,hns⟩:=QiS (QdZ r')
  have hl:=pl
  rw[e]at hl
  have hsz:0<ys.size:=by
   rcases Nat.eq_zero_or_pos ys.size with z | z
   ·exact absurd (by rw[hns,List.map_eq_nil_iff];exact ZaB (by simpa using z)) hne
   ·exact z
  refine QlB (I.ok.hd hc) hl hsz λv h' tk hv hk=>?_
  obtain⟨t,rfl⟩:=intItems_at hv
  obtain⟨h1,h2⟩:=argBest_lt (numAt ys) (ys.size-1)
  refine⟨.int _,H,I.kept hk,⟨t,rfl⟩,q _ ⟨?_,λa ha=>?_⟩⟩
  ·rw[hns,numAt_eq];exact getD_mem (by rw[Zp,Zal];omega)
  ·rw[hns]at ha
   obtain⟨j,hj,rfl⟩:=mem_getD ha
   rw[Zp,Zal]at hj
   rw[← numAt_eq];exact h2 j (by omega)
noncomputable def Qh4:List Int->Option Int
 | []=>none
 | [n]=>some n
 | n::r=>(Qh4 r).map λm=>if m<n then m else n
theorem Qhl:∀{ns:List Int}{m:Int},Qh4 ns=some m->QiL ns m
 | [],_,h=>by cases h
 | [n],_,h=>by cases h;exact⟨by simp,λa ha=>by simp at ha;omega⟩
 | n::k::r,m,h=>by
  simp only[Qh4]at h
  obtain⟨m',h1,rfl⟩:=Zc.mp h
  obtain⟨h2,h3⟩:=Qhl h1
  constructor
  ·split
   ·exact Zb _ h2
   ·exact Zj
  ·intro a ha
   rcases Zo.mp ha with rfl | ha
   ·split<;>omega
   ·have:=h3 a ha;split<;>omega
theorem Qkt{ns:List Int}{a b:Int}(h:QiL ns a)(g:QiL ns b):a=b:=by have:=h.2 b g.1;have:=g.2 a h.1;omega
noncomputable def QdG:List D->Option D
 | [.lst xs]=>(Qf5 xs).bind λns=>(Qh4 ns).map .int
 | [.tup xs]=>(Qf5 xs).bind λns=>(Qh4 ns).map .int
 | _=>none
theorem QuA{K:PySem.W.Frag}:Qes K QdG (QwP K QiL):=λds d e=>by
 unfold QdG at e
 split at e
 ·refine Qc e λns h1 e=>?_
  obtain⟨m,h2,rfl⟩:=Zc.mp e
  refine⟨rfl,λH vs F Q r q=>?_⟩
  obtain⟨v,rfl,rp⟩:=r.one
  obtain⟨l,ws,L,rfl,hl,rl,zl,el⟩:=rp.lst_inv
  rw[QgH h1]at rl
  rw[rl.ints]at hl
  exact⟨l,ns,rfl,.inl (QP hl),λz=>(by rw[z]at h2;cases h2),λM hM=>by rw[Qkt hM (Qhl h2)];exact q _ λ_=> .int_mk⟩
 ·refine Qc e λns h1 e=>?_
  obtain⟨m,h2,rfl⟩:=Zc.mp e
  refine⟨rfl,λH vs F Q r q=>?_⟩
  obtain⟨v,rfl,rp⟩:=r.one
  obtain⟨l,ws,rfl,hl,rl⟩:=rp.QaQ
  rw[QgH h1]at rl
  rw[rl.ints]at hl
  exact⟨l,ns,rfl,.inr hl,λz=>(by rw[z]at h2;cases h2),λM hM=>by rw[Qkt hM (Qhl h2)];exact q _ λ_=> .int_mk⟩
 ·cases e
noncomputable def Qjm:List D->Option D
 | [.int i]=>some (.int i)
 | [.bl k]=>some (.int (if k then 1 else 0))
 | _=>none
noncomputable def Qvq:List V->Hp->VK->Prop:=λxs H Q=>(∃i,xs=[.int i]/\Q (.int i) H)∨(∃k,xs=[.bl k]/\Q (.int (if k then 1 else 0)) H)
theorem Qqq{X:Cx}:QaY X (.type "int") Qvq:=by
 exact Qo9
theorem QvT{K:PySem.W.Frag}:Qes K Qjm Qvq:=λds d e=>by
 unfold Qjm at e
 split at e
 ·cases e
  refine⟨rfl,λH vs F Q r q=>?_⟩
  obtain⟨v,rfl,rp⟩:=r.one
  exact .inl ⟨_,by rw[rp.int_inv],q _ λ_=> .int_mk⟩
 ·cases e
  refine⟨rfl,λH vs F Q r q=>?_⟩
  obtain⟨v,rfl,rp⟩:=r.one
  exact .inr ⟨_,by rw[rp.QeG],q _ λ_=> .int_mk⟩
 ·cases e
theorem Qww(hc:QaY X (.type T) r)(hk:Qes X.K g r)(hg:Gl X x)(hm:X.mg x=none)(hv:bootBuiltins x=some (.type T))(ha:SA X (e::es) fs)(hn:x≠ "__name__")(hdb:(x == ("__debug__" :Str))=false)
  (he:starEach (e::es) X.env=(false,eval e X.env)::starEach es X.env) (hpl:(backTo pos (starEach es X.env)).any (·.1)=false):SE X (.Call (.Name x p) (e::es) [] pos) (dBf g fs):=λH0 A0=>
 (Qkx hc hg hm hv (ha H0 A0) hn hdb he hpl).mono λσ H Q=>exK λρ hs F r' rel e q=>by
  refine Qc e λra e1 e=>?_
  obtain⟨d,ed,e⟩:=Zc.mp e
  subst e
  exact⟨ρ,hs,F,ra,rel,e1,λvs H1 G p1=>(hk _ _ ed).2 H1 vs G Q p1.rp λv hv=>q v H1 [] (.flat p1.same (hv _) (hk _ _ ed).1)⟩
end
end HS
namespace HS
open PySem PySem.Spec L2 PyProof.Rows
section
variable {X:Cx}{a b c e tg:Expr}{es:List Expr}{fa fb fc:DE}{fs:DA}{pos p2:Pos}
end
end HS
namespace HS
open PySem PySem.Spec L2 PyProof.Rows
section
variable {X:Cx}{e:Expr}{es:List Expr}{fs:DA}{pos:Pos}
theorem Quv{p:Pos}(hcl:X.calm=true)(hg:Gl X "list")(hm:X.mg "list" =none)(ha:SA X (e::es) fs)(he:starEach (e::es) X.env=(false,eval e X.env)::starEach es X.env)(hpl:(backTo pos (starEach es X.env)).any (·.1)=false):
    SE X (.Call (.Name "list" p) (e::es) [] pos) (dList fs):=λH0 A0=>
 (Qkx Qmd hg hm Zbx (ha H0 A0) (by decide) (by decide) he hpl).mono λσ H Q=>exK λρ hs F r' rel e q=>by
    refine Qc e λra e1 e=>?_
    refine⟨ρ,hs,F,ra,rel,e1,λvs H1 G p1=>?_⟩
    have rp:=p1.rp
    have src:=p1.src
    split at e
    · rename_i xs hds
      cases e
      rw[hds]at rp
      obtain⟨v,rfl,rq⟩:=rp.one
      obtain⟨l,ws,L,rfl,hl,rl,zl,el⟩:=rq.lst_inv
      refine⟨l,ws,rfl,.inl (QP hl),λc hc=>q _ _ (c::L) (QN.Qap p1.same hc rl zl (λz hz=>src z ?_) p1.own)⟩
      rcases el with rfl | rfl
      · exact Zb _ hz
      · exact hz
    · rename_i xs hds
      split at e
      · rename_i hz
        cases e
        rw[hds]at rp
        obtain⟨v,rfl,rq⟩:=rp.one
        obtain⟨l,ws,rfl,hl,rl⟩:=rq.QaQ
        exact⟨l,ws,rfl,.inr hl,λc hc=>q _ _ (c::G) (QN.Qap p1.same hc rl hz src p1.own)⟩
      · cases e
    · cases e
end
end HS
namespace HS
open PySem L2
def Inc(xs:Array Nat):Prop:=xs.toList.Pairwise (· < ·)
theorem Inc.get{xs:Array Nat}(h:Inc xs){i j a b:Nat}(hi:xs[i]? =some a)(hj:xs[j]? =some b)(hij:i<j):a<b:=by
 rw[← Array.getElem?_toList]at hi hj
 obtain⟨i1,rfl⟩:=Zh.mp hi
 obtain⟨j1,rfl⟩:=Zh.mp hj
 exact List.pairwise_iff_getElem.mp h i j i1 j1 hij
structure Cut (xs:Array Nat) (j r:Nat):Prop where
 le:r<=xs.size
 lo:∀i a,i<r->xs[i]? =some a->a<j
 hi:∀i a,r<=i->xs[i]? =some a->j<=a
structure TbI (t:SetTable):Prop where
 inc:Inc t.place
 dum:t.dummies= #[]
end HS
namespace HS
open PySem
section
variable {t:SetTable}
end
section
variable {mask:Nat}{owner:Array (Option Nat)}
structure Own (mask:Nat) (owner:Array (Option Nat)) (k:Nat):Prop where
 size:owner.size=mask+1
 perm:(owner.toList.filterMap id).Perm (List.range k)
end
end HS
namespace HS
open PySem L2 PyProof.Rows
section
variable {prog:Program}{w:World}{A:Around}{E:Value->Shared->Prop}{s:Shared}
structure Qx7 (prog:Program) (w:World) (L:Bool) (ob:Obj) (ar:Array (Int×Value)) (tb:SetTable) (S:Int->Bool) (n:Nat):Prop where
 ex:ob.ExactSet
 el:ElemsOf (intKind prog w) ar.toList
 mem:∀k,S k=true↔∃e∈ar.toList,(intKind prog w).is k e.2=true
 lt:ar.size<scanBound
 fit:tb.fits ar.size=true
 num:ar.size=n
 ti:TbI tb
 led:tb.led=L
def Sz(tb:SetTable)(n:Nat):Prop:=tb.plain=true/\(tb.mask=7/\n<=4∨tb.mask=31/\n<=18)
def Qjz(prog:Program)(w:World)(L:Bool)(h:Heap)(a:Addr)(S:Int->Bool)(n:Nat):Prop:=∃ob ar en tb,h.get? a=some ob/\ob.data= .set ar en tb/\Qx7 prog w L ob ar tb S n/\Sz tb n
theorem Qjz.Qey{L:Bool}{h h':Heap}{a:Addr}{S:Int->Bool}{n:Nat}(r:Qjz prog w L h a S n)(k:∀o,h.get? a=some o->h'.get? a=some o):Qjz prog w L h' a S n:=by
 obtain⟨ob,ar,en,tb,h1,h2⟩:=r
 exact⟨ob,ar,en,tb,k _ h1,h2⟩
theorem Qjz.cast{L:Bool}{h:Heap}{a:Addr}{S S':Int->Bool}{n n':Nat}(r:Qjz prog w L h a S n)(e:∀k,S k=S' k)(en:n=n'):Qjz prog w L h a S' n':=by
 have:S=S':=funext e
 subst this;subst en;exact r
end
end HS
namespace HS
open PySem L2 PyProof.Rows
section
variable {prog:Program}{w:World}{A:Around}{R:Result->Shared->Prop}{I:Addr}{fp wr:List Addr}{G:Array GenState->Array GenState->Prop}{n:Nat}{P:Nat->Value->Prop}{St:Nat->Shared->Prop}
end
end HS
namespace HS
open PySem L2 PyProof.Rows
section
variable {prog:Program}{w:World}{A:Around}{E:Value->Shared->Prop}{s:Shared}
noncomputable abbrev QyI(w:World):Bool:= !w.params.followText "set-order"
noncomputable abbrev Qvs(w:World):Obj:={cls:= .type "set",dict:=none,data:= .set #[] 0 (.fresh 0 0 (QyI w))}
end
end HS
namespace HS
open PySem L2 PyProof.Rows
section
variable {prog:Program}{w:World}
structure Qzh (prog:Program) (w:World) (a:Addr) (ob:Obj) (ep:Nat) (wk:Array (Int×Value)) (sl:Nat->Nat):Prop where
 zero:sl 0=0
 next:∀(A:Around) (E:Value->Shared->Prop) (s:Shared) (Q:Option (Value×Nat)->Shared->Prop) (i:Nat) (e:Int×Value),s.heap.get? a=some ob->wk[i]? =some e->Q (some (e.2,sl (i+1))) s->wpAny (model prog w) A (setNext a (sl i) i ep) Q E s
 stop:∀(A:Around) (E:Value->Shared->Prop) (s:Shared) (Q:Option (Value×Nat)->Shared->Prop),s.heap.get? a=some ob->Q none s->wpAny (model prog w) A (setNext a (sl wk.size) wk.size ep) Q E s
end
end HS
namespace HS
open PySem L2 PyProof.Rows
section
variable {prog:Program}{w:World}{A:Around}{E:Value->Shared->Prop}{s:Shared}
end
end HS
namespace HS
open PySem L2 PyProof.Rows
section
variable {prog:Program}{w:World}{A:Around}{E:Value->Shared->Prop}{s:Shared}
end
end HS
namespace HS
open PySem L2 PyProof.Rows
section
variable {prog:Program}{w:World}{A:Around}{E:Value->Shared->Prop}{s:Shared}
end
end HS
namespace HS
open PySem PySem.Spec L2 PyProof.Rows
section
variable {X:Cx}{a:Expr}{fa:DE}{pos:Pos}
end
end HS
namespace HS
open PySem PySem.Spec PyProof.Rows L2
section
variable {X:Cx}{a b c:Expr}{fa fb fc:DE}{pos:Pos}
end
end HS
namespace HS
open PySem PySem.Spec L2
noncomputable abbrev Cn:=Int
noncomputable abbrev cnD(i:Cn):D:= .int i
noncomputable abbrev cnV(i:Cn)(t:Tok):Value:= .int i t
structure FnR where
 n:Nat
 dfl:List D
 den:Den
structure Th where
 N:List Str
 sc:List (Str×NameKind)
 Γ:List (Str×FnR)
 cs:List (Str×Cn)
 tr:Stmt->Option DS:=λ_=>none
 te:Expr->Option DE:=λ_=>none
noncomputable def posOf(x:Str):List Str->Option Nat
 | []=>none
 | y::ys=>if x=y then some 0 else(posOf x ys).map (· +1)
theorem QeX:∀{x:Str}{ys:List Str}{i:Nat},posOf x ys=some i->ys[i]? =some x
 | x,[],i,h=>by cases h
 | x,y::ys,i,h=>by
  unfold posOf at h
  split at h
  ·rename_i e;cases h;subst e;rfl
  ·obtain⟨j,hj,rfl⟩:=Zc.mp h
   simpa using QeX hj
noncomputable def look{α:Type}(x:Str):List (Str×α)->Option α
 | []=>none
 | (y,a)::r=>if x=y then some a else look x r
theorem Qbg{α:Type}:∀{x:Str}{l:List (Str×α)},look x l=l.lookup x
 | x,[]=>rfl
 | x,(y,a)::r=>by
  unfold look
  rw[Zs]
  by_cases h:x=y
  ·subst h;simp
  ·rw[if_neg h,Qbg]
   have:(x == y)=false:=by simpa using h
   rw[this]
noncomputable def Qs3:NameKind->Bool
 | .local =>true | .cell=>true | .free=>true | _=>false
noncomputable def Qs0:NameKind->Bool
 | .local =>true | .cell=>true | _=>false
noncomputable def QyC:NameKind->Bool
 | .globalImplicit=>true | _=>false
noncomputable def isFree:NameKind->Bool
 | .free=>true | _=>false
noncomputable def odd(x:Str):Bool:=decide (x= "__debug__") || decide (x= "__classdict__") || decide (x= "__name__")
noncomputable def Th.slot(Θ:Th)(x:Str):Option Nat:=if((look x Θ.sc).map Qs3).getD false && !odd x then posOf x Θ.N else none
noncomputable def Th.QaX(Θ:Th)(x:Str):Option Nat:=if((look x Θ.sc).map Qs0).getD false && !odd x then posOf x Θ.N else none
noncomputable def Th.gl(Θ:Th)(x:Str):Bool:=((look x Θ.sc).map QyC).getD false && !odd x
def QuI(X:Cx)(x:Str)(r:FnR):Prop:=∃k f fd ps,Q4 X.prog X.w X.K X.mg X.base CX0 k f fd ps (spV X.K r.n r.den)/\QU k X.A/\X.mg x=some (.ref f)/\PySem.W.keepIn X.K (.ref f)=true∧
 ∀m,m<=r.dfl.length->∃ds dvs,Binds X.K fd ps ds/\Qq dvs ds/\∀H,Rps X.K H (r.dfl.drop (r.dfl.length-m)) dvs []
noncomputable def QmF:List Str:=["range","enumerate","zip","len","list","min","max","sum","abs","isinstance","int","bool","tuple","str","divmod","sorted","any","all","set"]
structure CtxB (X:Cx) (Θ:Th):Prop where
 N:X.N=Θ.N
 nd:Θ.N.Nodup
 lc:∀x,look x Θ.sc=some .local ->X.env.scope.names.lookup x=some .local
 ce:∀x,look x Θ.sc=some .cell->X.env.scope.names.lookup x=some .cell/\X.fn x=true
 fe:∀x,look x Θ.sc=some .free->X.env.scope.names.lookup x=some .cell∨X.env.scope.names.lookup x=some .free
 gl:∀x,look x Θ.sc=some .globalImplicit->X.env.scope.names.lookup x=some .globalImplicit
 units:X.A.units+64<cLine
 mg:∀x∈QmF,X.mg x=none
 cs:∀x i,look x Θ.cs=some i->∃t,X.mg x=some (cnV i t)
structure Qt (X:Cx) (Θ:Th):Prop extends CtxB X Θ where
 calm:X.calm=true
 pass:PassesOwn (model X.prog X.w) X.A X.env X.xe
 fns:∀x r,look x Θ.Γ=some r->QuI X x r
 tr:∀st f,Θ.tr st=some f->S1 X st f
 te:∀e f,Θ.te e=some f->SE X e f
section
theorem QnX(h:odd x=false):(x == ("__debug__" :Str))=false/\(x == ("__classdict__" :Str))=false/\x≠ "__name__" :=by
 unfold odd at h
 simp only[Bool.or_eq_false_iff,decide_eq_false_iff_not]at h
 exact⟨by simpa using h.1.1,by simpa using h.1.2,h.2⟩
theorem Qaq(ok:CtxB X Θ)(h:Θ.slot x=some i):PE X (.Name x pos) (QbX i):=by
 unfold Th.slot at h
 split at h
 ·rename_i hc
  simp only[Zg,ZO]at hc
  obtain⟨h1,h2,_⟩:=QnX hc.2
  refine QwD (by rw[ok.N];exact QeX h) ?_ h1 h2
  cases q:look x Θ.sc with
  | none=>rw[q]at hc;cases hc.1
  | some k=>
   rw[q]at hc
   cases k with
   | «local» =>exact .inl (ok.lc x q)
   | cell=>exact .inr (.inl (ok.ce x q).1)
   | free=>exact .inr (ok.fe x q)
   | _=>cases hc.1
 ·cases h
theorem QaU(ok:CtxB X Θ)(h:Θ.QaX x=some i):X.N[i]? =some x/\Loc X.env.scope x/\(X.fn x=true∨X.env.scope.names.lookup x=some .local):=by
 unfold Th.QaX at h
 split at h
 ·rename_i hc
  simp only[Zg,ZO]at hc
  refine⟨by rw[ok.N];exact QeX h,?_⟩
  cases q:look x Θ.sc with
  | none=>rw[q]at hc;cases hc.1
  | some k=>
   rw[q]at hc
   cases k with
   | «local» =>exact⟨.inl (ok.lc x q),.inr (ok.lc x q)⟩
   | cell=>exact⟨.inr (ok.ce x q).1,.inl (ok.ce x q).2⟩
   | _=>cases hc.1
 ·cases h
theorem Qbq(ok:CtxB X Θ)(h:Θ.gl x=true):Gl X x/\(x == ("__debug__" :Str))=false/\x≠ "__name__" :=by
 unfold Th.gl at h
 simp only[Zg,ZO]at h
 obtain⟨h1,h2,h3⟩:=QnX h.2
 refine⟨?_,h1,h3⟩
 cases q:look x Θ.sc with
 | none=>rw[q]at h;cases h.1
 | some k=>
  rw[q]at h
  cases k with
  | globalImplicit=>exact ok.gl x q
  | _=>cases h.1
end
noncomputable def isTup:Expr->Bool
 | .Tuple .. =>true
 | _=>false
noncomputable def QD:Expr->Option Str
 | .Name x _=>some x
 | _=>none
noncomputable def Qif(Θ:Th):Expr->Option Tg
 | .Name x _=>(Θ.QaX x).map .nm
 | .Tuple es _ _=>((es.mapM QD).bind λxs=>xs.mapM Θ.QaX).map .tp
 | _=>none
noncomputable def Qox:CmpOp->Option (D->D->Option D)
 | .Eq=>some gEq | .NotEq=>some gNe | .Lt=>some gLt | .LtE=>some gLe | .Gt=>some gGt | .GtE=>some gGe
 | .Is=>none | .IsNot=>none
 | .In=>none | .NotIn=>none
noncomputable def Qre(x:Str):Option String:=
 if x= "int" then some "int" else if x= "bool" then some "bool" else if x= "list" then some "list" else if x= "tuple" then some "tuple" else if x= "str" then some "str" else none
noncomputable def inner(Θ:Th)(scope:Scope):Th:={N:=(scope.names.filter λy=>Qs3 y.2).map (·.1),sc:=scope.names,Γ:=Θ.Γ,cs:=Θ.cs}
noncomputable def Qhz(Θ:Th)(scope:Scope):List (Option Nat):=(inner Θ scope).N.map λx=>if((look x scope.names).map isFree).getD false then posOf x Θ.N else none
noncomputable def Qi3(Θ:Th)(scope:Scope)(t:Tg):Bool:=(scope.kind == .function) && decide (inner Θ scope).N.Nodup &&
 (scope.names.all λy=>match y.2 with
  | .cell=>decide (look y.1 scope.names=some .cell)
  | .local =>decide (look y.1 scope.names=some .local)
  | .free=>match look y.1 Θ.sc with
   | some .cell=>true
   | some .free=>true
   | _=>false
  | _=>true) &&
 t.slots.all λj=>match (Qhz Θ scope)[j]? with
  | some (some _)=>false
  | _=>true
noncomputable def Qxd:List Expr->Bool
 | []=>true | [_]=>true | _=>false
noncomputable def bf1(x:Str)(fa:DE):Option DE:=
 if x= "len" then some (dBf QaO (Qb fa Qe))else
 if x= "list" then some (dList (Qb fa Qe))else
 if x= "min" then some (dBf QdG (Qb fa Qe))else
 if x= "int" then some (dBf Qjm (Qb fa Qe))else
 none
noncomputable def bf2(x:Str)(fa fb:DE):Option DE:=
 if x= "min" then some (dBf Qi7 (Qb fa (Qb fb Qe)))else
 if x= "max" then some (dBf QiA (Qb fa (Qb fb Qe)))else
 none
mutual
noncomputable def Ql(n:Nat)(Θ:Th)(e:Expr):Option DE:=match n with
 | 0=>none
 | n+1=>match e with
  | .Name x _=>match Θ.slot x with
   | some i=>some (Qa i)
   | none=>if Θ.gl x then(look x Θ.cs).map λi=>dC (cnD i)else none
  | .Constant (.int i) _ _=>some (dC (.int i))
  | .Constant (.bool b) _ _=>some (dC (.bl b))
  | .Constant .none _ _=>some (dC .non)
  | .Constant (.str x) _ _=>some (dC (.str x))
  | .BinOp a op b _=>(Ql n Θ a).bind λfa=>(Ql n Θ b).bind λfb=>match op with
   | .Add=>some (Qy fa fb)
   | .Mult=>some (QaM fa fb)
   | .Sub=>some (dOp Qfn fa fb)
   | .FloorDiv=>some (dOp Qcd fa fb)
   | .Mod=>some (dOp QR fa fb)
   | .Pow=>some (dOp Qm2 fa fb)
   | _=>none
  | .UnaryOp .USub a _=>(Ql n Θ a).map Qff
  | .UnaryOp .Not a _=>(Ql n Θ a).map Qg1
  | .BoolOp .And [a] _=>Ql n Θ a
  | .BoolOp .And (a::b::r) p=>(Ql n Θ a).bind λfa=>(Ql n Θ (.BoolOp .And (b::r) p)).map λfb=>Qb2 fa fb
  | .BoolOp .Or [a] _=>Ql n Θ a
  | .BoolOp .Or (a::b::r) p=>(Ql n Θ a).bind λfa=>(Ql n Θ (.BoolOp .Or (b::r) p)).map λfb=>dOr fa fb
  | .Compare a [op] [b] _=>(Ql n Θ a).bind λfa=>(Ql n Θ b).bind λfb=>(Qox op).map λg=>dOp g fa fb
  | .IfExp c a b _=>(QaK n Θ c).bind λg=>(Ql n Θ a).bind λfa=>(Ql n Θ b).map λfb=>dIf g fa fb
  | .Tuple es _ _=>(QaC n Θ es).map QbY
  | .List es _=>(QaC n Θ es).map QF
  | .Subscript a (.Slice lo hi none _) _=>(Ql n Θ a).bind λfa=>(Qf3 n Θ lo).bind λfl=>(Qf3 n Θ hi).map λfh=>QaV fa fl fh
  | .Subscript a (.Slice none none (some k) _) _=>(Ql n Θ a).bind λfa=>(Ql n Θ k).map λfk=>QgO fa fk
  | .Subscript a b _=>(Ql n Θ a).bind λfa=>(Ql n Θ b).map λfb=>Qu fa fb
  | .Attribute o m p=>Θ.te (.Attribute o m p)
  | .Call (.Name x p) args [] q=>if Θ.gl x then(match look x Θ.Γ with
    | some r=>if r.n<=args.length+r.dfl.length/\args.length<=r.n then(QaC n Θ args).map λfs=>Qz r.n r.den (r.dfl.drop (r.dfl.length-(r.n-args.length))) fs else none
    | none=>match Θ.te (.Call (.Name x p) args [] q)with
     | some f=>some f
     | none=>Qk1 n Θ x args)else none
  | .ListComp elt [⟨tg,iter,ifs,0⟩] scope _=>(Qif (inner Θ scope) tg).bind λt=>if Qi3 Θ scope t && Qxd ifs then
    (Qgi n Θ tg iter).bind λfi=>(QfF n (inner Θ scope) ifs).bind λft=>(Ql n (inner Θ scope) elt).map λfe=>QaE fi t (Qhz Θ scope) ft fe else none
  | _=>none
noncomputable def Qk1(n:Nat)(Θ:Th)(x:Str)(args:List Expr):Option DE:=match n with
  | 0=>none
  | n+1=>match args with
    | [a]=>
         (Ql n Θ a).bind λfa=>bf1 x fa
    | [a,b]=>if x= "isinstance" then(Ql n Θ a).bind λfa=>match b with
        | .Name y _=>if Θ.gl y then(Qre y).map λT=>Qj8 T fa else none
        | _=>none
      else(Ql n Θ a).bind λfa=>(Ql n Θ b).bind λfb=>bf2 x fa fb
    | _=>none
noncomputable def QaK(n:Nat)(Θ:Th)(e:Expr):Option DT:=match n with
 | 0=>none
 | n+1=>match e with
  | .UnaryOp .Not a _=>(QaK n Θ a).map Qca
  | .BoolOp .And [a] _=>QaK n Θ a
  | .BoolOp .And (a::b::r) p=>(QaK n Θ a).bind λfa=>(QaK n Θ (.BoolOp .And (b::r) p)).map λfb=>QeL fa fb
  | .BoolOp .Or [a] _=>QaK n Θ a
  | .BoolOp .Or (a::b::r) p=>(QaK n Θ a).bind λfa=>(QaK n Θ (.BoolOp .Or (b::r) p)).map λfb=>bOr fa fb
  | .Compare a [op] [b] _=>(Ql n Θ a).bind λfa=>(Ql n Θ b).bind λfb=>(Qox op).map λg=>QA (dOp g fa fb)
  | .BoolOp _ _ _=>none
  | .IfExp _ _ _ _=>none
  | .Compare _ _ _ _=>none
  | e=>(Ql n Θ e).map QA
noncomputable def QfF(n:Nat)(Θ:Th)(es:List Expr):Option DT:=match n with
 | 0=>none
 | n+1=>match es with
  | []=>some QdI
  | [c]=>QaK n Θ c
  | _=>none
noncomputable def QaC(n:Nat)(Θ:Th)(es:List Expr):Option DA:=match n with
 | 0=>none
 | n+1=>match es with
  | []=>some Qe
  | e::es=>(Ql n Θ e).bind λfa=>(QaC n Θ es).map λfs=>Qb fa fs
noncomputable def Qf3(n:Nat)(Θ:Th)(e:Option Expr):Option DO:=match n with
 | 0=>none
 | n+1=>match e with
  | none=>some Qbj
  | some e=>(Ql n Θ e).map Qab
noncomputable def Qgi(n:Nat)(Θ:Th)(tg e:Expr):Option DI:=match n with
 | 0=>none
 | n+1=>match e with
  | .Call (.Name x _) args [] _=>if Θ.gl x && (look x Θ.Γ).isNone then(match args with
    | [a]=>if x= "range" then(Ql n Θ a).map QbO else
     if x= "enumerate" then(if isTup tg then(Ql n Θ a).map QdO else none)else
     (Ql n Θ e).map Qaf
    | [a,b,c]=>
     (Ql n Θ e).map Qaf
    | [a,b]=>
     if x= "zip" then(if isTup tg then(Ql n Θ a).bind λfa=>(Ql n Θ b).map λfb=>Qol fa fb else none)else
     (Ql n Θ e).map Qaf
    | _=>(Ql n Θ e).map Qaf)else(Ql n Θ e).map Qaf
  | e=>(Ql n Θ e).map Qaf
end
theorem Qcr{α β γ:Type}{x:Option α}{y:α->Option β}{k:α->β->γ}{r:γ}(e:(x.bind λa=>(y a).map λb=>k a b)=some r):∃a b,x=some a/\y a=some b/\k a b=r:=by
 refine Qc e λa h1 e=>?_
 obtain⟨b,h2,e⟩:=Zc.mp e
 exact⟨a,b,h1,h2,e⟩
theorem bindR{α β γ:Type}{x:Option α}{y:α->Option β}{k:α->β->γ}{r:γ}{M:γ->Prop}(e:(x.bind λa=>(y a).map λb=>k a b)=some r)(g:∀a b,x=some a->y a=some b->M (k a b)):M r:=by
 obtain⟨a,b,h1,h2,rfl⟩:=Qcr e
 exact g a b h1 h2
theorem Qa1(h:Ql n Θ e=some f)(es:List Expr)(env:Env):starEach (e::es) env=(false,eval e env)::starEach es env:=by
 cases n with
 | zero=>exact nomatch (show(none:Option DE)=some _ from h)
 | succ n=>cases e<;>first | rfl | (exact nomatch (show(none:Option DE)=some _ from h))
theorem QfC:∀{n:Nat}{Θ:Th}{es:List Expr}{f:DA},QaC n Θ es=some f->∀(pos:Pos) (env:Env),(backTo pos (starEach es env)).any (·.1)=false
 | 0,_,_,_,h,_,_=>by simp[QaC]at h
 | n+1,_,[],_,h,_,_=>rfl
 | n+1,_,e::es,_,h,pos,env=>by
  simp only[QaC]at h
  obtain⟨fa,fs,h1,h2,_⟩:=Qcr h
  rw[Qa1 h1]
  have:=QfC h2 pos env
  simpa[backTo]using this
theorem Qj2(h:Ql n Θ b=some f):Qeh b:=by
 cases n with
 | zero=>exact nomatch (show(none:Option DE)=some _ from h)
 | succ n=>cases b<;>first | (intro o i;rfl) | (exact nomatch (show(none:Option DE)=some _ from h))
theorem QvN(h:Ql n Θ e=some f)(env:Env):∀x,foldedSetIterable e env x=pure x:=by
 cases n with
 | zero=>exact nomatch (show(none:Option DE)=some _ from h)
 | succ n=>cases e<;>first | (intro x;rfl) | (exact nomatch (show(none:Option DE)=some _ from h))
theorem Qpw(h:Ql n Θ e=some f)(op:CmpOp):behindInMarks op e=false:=by
 cases n with
 | zero=>exact nomatch (show(none:Option DE)=some _ from h)
 | succ n=>cases e<;>first | rfl | (exact nomatch (show(none:Option DE)=some _ from h))
theorem Qdp{env:Env}:∀{names:List (Str×NameKind)}{x:Str},names.lookup x=some .cell→
  (names.map λ(n,k)=>if(k == NameKind.free && env.scope.kind == .function && env.kindOf n == some .cell)then(n,NameKind.cell)else(n,k)).lookup x=some .cell
 | [],_,h=>by simp at h
 | (n,k)::r,x,h=>by
  have ih:= @Qdp env r x
  rw[Zw]
  cases hx:x == n with
  | true=>
   simp only[Zs,hx]at h
   cases h
   dsimp only
   split<;>simp[Zs,hx]
  | false=>
   simp only[Zs,hx]at h
   dsimp only
   split<;>(simp only[Zs,hx];exact ih h)
theorem QmA{X:Cx}{Θ:Th}{scope:Scope}{t:Tg}(ok:Qt X Θ)(h:Qi3 Θ scope t=true):Qd1 X (inner Θ scope).N scope/\Qk9 X (inner Θ scope).N scope (Qhz Θ scope) t.slots/\∀cl C fp s3 H3,Qt (cxc X (inner Θ scope).N scope cl C fp s3 H3) (inner Θ scope):=by
 unfold Qi3 at h
 simp only[Zg,decide_eq_true_eq]at h
 obtain⟨⟨⟨h1,h2⟩,h3⟩,h4⟩:=h
 have hk:scope.kind= .function:=by simpa using h1
 have each:∀y∈scope.names,(y.2= .cell->scope.names.lookup y.1=some .cell)/\(y.2= .local ->scope.names.lookup y.1=some .local)/\(y.2= .free->X.env.kindOf y.1=some .cell∨X.env.kindOf y.1=some .free):=λy hy=>by
  have:=Zac.mp h3 y hy
  obtain⟨y,k⟩:=y
  cases k with
  | cell=>exact⟨λ_=>(by rw[← Qbg];simpa using this),λz=>(by cases z),λz=>(by cases z)⟩
  | «local» =>exact⟨λz=>(by cases z),λ_=>by rw[← Qbg];simpa using this,λz=>by cases z⟩
  | free=>
   refine⟨λz=>(by cases z),λz=>(by cases z),λ_=>?_⟩
   dsimp only at this
   split at this
   ·rename_i q;exact .inl (ok.ce _ q).1
   ·rename_i q;exact ok.fe _ q
   ·cases this
  | _=>exact⟨λz=>(by cases z),λz=>(by cases z),λz=>(by cases z)⟩
 have S:Qd1 X (inner Θ scope).N scope:=⟨hk,λy hy=>(each y hy).1,λy hy=>(each y hy).2.1,λy hy=>(each y hy).2.2⟩
 refine⟨S,⟨by unfold Qhz;simp,λj i e=>?_,λj i e hj=>?_⟩,λcl C fp s3 H3=>⟨⟨rfl,h2,λx e=>?_,λx e=>?_,λx e=>?_,λx e=>?_,ok.units,ok.mg,ok.cs⟩,ok.calm,PassesOwn.never,ok.fns,λ_ _ e=>(nomatch e),λ_ _ e=>(nomatch e)⟩⟩
 ·unfold Qhz at e
  rw[ZA]at e
  cases q:(inner Θ scope).N[j]? with
  | none=>rw[q]at e;cases e
  | some x=>
   rw[q]at e
   simp only[Zap,Option.some.injEq]at e
   split at e
   ·rename_i hf
    cases hl:look x scope.names with
    | none=>rw[hl]at hf;cases hf
    | some k=>
     rw[hl]at hf
     cases k with
     | free=>
      rw[Qbg]at hl
      exact⟨x,rfl,hl,by rw[ok.N];exact QeX e,(each (x,.free) (Zad hl)).2.2 rfl⟩
     | _=>cases hf
   ·cases e
 ·have:=Zac.mp h4 j hj
  rw[e]at this
  cases this
 ·have e':scope.names.lookup x=some .local :=by rw[← Qbg];exact e
  exact lookup_relabel_local e'
 ·have e':scope.names.lookup x=some .cell:=by rw[← Qbg];exact e
  exact⟨Qdp e',decide_eq_true e'⟩
 ·have e':scope.names.lookup x=some .free:=by rw[← Qbg];exact e
  exact Qb1 e'
 ·have e':scope.names.lookup x=some .globalImplicit:=by rw[← Qbg];exact e
  show(relabel scope X.env).names.lookup x=some .globalImplicit
  unfold relabel
  have gen:∀{names:List (Str×NameKind)},names.lookup x=some .globalImplicit→
    (names.map λ(n,k)=>if(k == NameKind.free && X.env.scope.kind == .function && X.env.kindOf n == some .cell)then(n,NameKind.cell)else(n,k)).lookup x=some .globalImplicit:=by
   intro names
   induction names with
   | nil=>intro z;simp at z
   | cons y r ih=>
    intro z
    obtain⟨n,k⟩:=y
    rw[Zw]
    cases hx:x == n with
    | true=>
     simp only[Zs,hx]at z
     cases z
     simp[Zs,hx]
    | false=>
     simp only[Zs,hx]at z
     dsimp only
     split<;>(simp only[Zs,hx];exact ih z)
  exact gen e'
theorem QkY(ok:Qt X Θ)(h:Qif Θ tg=some t):SG X tg t:=by
 have hN:X.N.Nodup:=by rw[ok.N];exact ok.nd
 cases tg with
 | Name x pos=>
  change Option.map _ _=_ at h
  refine mapR h λi hi=>?_
  obtain⟨h1,h2,h3⟩:=QaU ok.toCtxB hi
  exact Qt7 (Qhn hN h1 h2 h3)
 | Tuple es k pos=>
  change Option.map _ _=_ at h
  refine mapR h λis hi=>?_
  refine Qc hi λxs h1 h2=>?_
  have key:∀(es:List Expr) (xs:List Str) (is:List Nat),es.mapM QD=some xs->xs.mapM Θ.QaX=some is->PGs X es (QgB is)/\(assignEach es X.env).length=is.length/\(assignEach es X.env).findIdx? (·.1)=none:=by
   intro es
   induction es with
   | nil=>
    intro xs is h1 h2
    cases h1
    cases h2
    exact⟨QnQ,rfl,rfl⟩
   | cons e es ih=>
    intro xs is h1 h2
    rw[List.mapM_cons]at h1
    refine Qc h1 λx hx h1=>?_
    refine Qc h1 λys hy h1=>?_
    cases h1
    rw[List.mapM_cons]at h2
    refine Qc h2 λi hi h2=>?_
    refine Qc h2 λjs hj h2=>?_
    cases h2
    obtain⟨a1,a2,a3⟩:=ih ys js hy hj
    cases e with
    | Name y p=>
     cases hx
     obtain⟨g1,g2,g3⟩:=QaU ok.toCtxB hi
     refine⟨Qix (Qhn hN g1 g2 g3) a1 rfl,?_,?_⟩
     ·show(assignEach es X.env).length+1=_
      rw[a2];rfl
     ·show List.findIdx? (·.1) ((false,assign (.Name x p) X.env)::assignEach es X.env)=none
      rw[List.findIdx?_cons]
      simp only[a3];rfl
    | _=>cases hx
  obtain⟨a1,a2,a3⟩:=key es xs is h1 h2
  exact QwN ok.calm a1 a2 a3
 | _=>exact nomatch (show(none:Option Tg)=some _ from h)
theorem Qo6{f:Int->Int->Bool}:∀a b d,gI (λi j=>some (.bl (f i j))) a b=some d->∃k,d= .bl k:=λa b d h=>by
 obtain⟨i,j,_,_,e⟩:=QpB h
 cases e
 exact⟨_,rfl⟩
theorem Qpl(ok:Qt X Θ)(h:Qox op=some g):∃r,OpR X (compareOp op) r/\Qb9 X.K g r/\∀a b d,g a b=some d->∃k,d= .bl k:=by
 cases op<;>cases h
 ·exact⟨_,Qvx ok.units,QxL,λa b d h=>by unfold gEq at h;split at h<;>cases h;exact⟨_,rfl⟩⟩
 ·exact⟨_,Qu8 ok.units,QxQ,λa b d h=>by unfold gNe at h;split at h<;>cases h;exact⟨_,rfl⟩⟩
 ·exact⟨_,QxU,QxP,Qo6⟩
 ·exact⟨_,QxH,QxF,Qo6⟩
 ·exact⟨_,Qx1,Qx8,Qo6⟩
 ·exact⟨_,Qx4,Qxt,Qo6⟩
structure Qi2 (n:Nat):Prop where
 E:∀X Θ e f,Qt X Θ->Ql n Θ e=some f->SE X e f
 B:∀X Θ x args f p pos,Qt X Θ->Θ.gl x=true->Qk1 n Θ x args=some f->SE X (.Call (.Name x p) args [] pos) f
 T:∀X Θ e f,Qt X Θ->QaK n Θ e=some f->ST X e f
 Ts:∀X Θ e f,Qt X Θ->QfF n Θ e=some f->QlW X e f
 A:∀X Θ e f,Qt X Θ->QaC n Θ e=some f->SA X e f
 O:∀X Θ e f,Qt X Θ->Qf3 n Θ e=some f->SO X e f
 I:∀X Θ tg e f,Qt X Θ->Qgi n Θ tg e=some f->SI X tg e f/\∀x,foldedSetIterable e X.env x=pure x
theorem callArgs{X:Cx}{n:Nat}{Θ:Th}{es:List Expr}{fs:DA}(h:QaC n Θ es=some fs){e:Expr}{es':List Expr}(he:es=e::es')(pos:Pos):starEach (e::es') X.env=(false,eval e X.env)::starEach es' X.env/\(backTo pos (starEach es' X.env)).any (·.1)=false:=by
 subst he
 cases n with
 | zero=>simp[QaC]at h
 | succ n=>
  simp only[QaC]at h
  obtain⟨fa,fs',h1,h2,_⟩:=Qcr h
  exact⟨Qa1 h1 es' X.env,QfC h2 pos X.env⟩
theorem Qxw(ih:Qi2 n):∀X Θ e f,Qt X Θ->Ql (n+1) Θ e=some f->SE X e f:=by
  intro X Θ e f ok h
  cases e with
  | Name x pos=>
    (conv at h=>lhs;whnf)
    cases q:Θ.slot x with
    | some i=>rw[q]at h;cases h;exact Ql9 (Qaq ok.toCtxB q)
    | none=>
      rw[q]at h
      dsimp only at h
      split at h
      · rename_i hg
        refine mapR h λi hi=>?_
        obtain⟨g1,g2,g3⟩:=Qbq ok.toCtxB hg
        obtain⟨t,hm⟩:=ok.cs x i hi
        exact Qjl (v:= .int i) (Qt0 g1 hm ⟨t,rfl⟩ g2) (λ_ _=> .int_mk) rfl
      · cases h
  | Constant c k pos=>
    cases c with
    | int i=>(conv at h=>lhs;whnf);cases h;exact Qjl Qw8 (λ_ _=> .int_mk) rfl
    | bool b=>(conv at h=>lhs;whnf);cases h;exact Qjl QsI (λ_ _=> .QcO) rfl
    | none=>(conv at h=>lhs;whnf);cases h;exact Qjl Qvz (λ_ _=> .QfN) rfl
    | str x=>(conv at h=>lhs;whnf);cases h;exact Qjl Qw4 (λ_ _=> .str_mk) rfl
    | _=>exact nomatch (show(none:Option DE)=some _ from h)
  | BinOp a op b pos=>
    (conv at h=>lhs;whnf)
    refine Qc h λfa h1 h=>?_
    refine Qc h λfb h2 h=>?_
    have ha:=ih.E X Θ a fa ok h1
    have hb:=ih.E X Θ b fb ok h2
    cases op with
    | Add=>cases h;exact QwS ha hb
    | Mult=>cases h;exact Qvl ha hb
    | Sub=>cases h;exact Qk3 Qvk QpI ha hb
    | FloorDiv=>cases h;exact Qk3 Qti Qu0 ha hb
    | Mod=>cases h;exact Qk3 QuQ QwG ha hb
    | Pow=>cases h;exact Qk3 Qtc Qv3 ha hb
    | _=>cases h
  | UnaryOp op a pos=>
    cases op with
    | USub=>
      (conv at h=>lhs;whnf)
      refine mapR h λfa h1=>?_
      exact Qwi (ih.E X Θ a fa ok h1)
    | Not=>
      (conv at h=>lhs;whnf)
      refine mapR h λfa h1=>?_
      exact QqG (ih.E X Θ a fa ok h1)
    | _=>exact nomatch (show(none:Option DE)=some _ from h)
  | BoolOp op es pos=>
    cases op with
    | And=>
      match es,h with
      | [],h=>exact nomatch (show(none:Option DE)=some _ from h)
      | [a],h=>(conv at h=>lhs;whnf);exact QmQ (ih.E X Θ a f ok h)
      | a::b::r,h=>
        (conv at h=>lhs;whnf)
        refine bindR h λfa fb h1 h2=>?_
        exact Qpd (ih.E X Θ a fa ok h1) (ih.E X Θ _ fb ok h2)
    | Or=>
      match es,h with
      | [],h=>exact nomatch (show(none:Option DE)=some _ from h)
      | [a],h=>(conv at h=>lhs;whnf);exact QmQ (ih.E X Θ a f ok h)
      | a::b::r,h=>
        (conv at h=>lhs;whnf)
        refine bindR h λfa fb h1 h2=>?_
        exact QxW (ih.E X Θ a fa ok h1) (ih.E X Θ _ fb ok h2)
  | Compare a ops bs pos=>
    match ops,bs,h with
    | [op],[b],h=>
      (conv at h=>lhs;whnf)
      refine Qc h λfa h1 h=>?_
      refine bindR h λfb g h2 h3=>?_
      obtain⟨r,o1,o2,_⟩:=Qpl ok h3
      exact Qvo o1 o2 (ih.E X Θ a fa ok h1) (ih.E X Θ b fb ok h2) (Qpw h2 op)
    | [],_,h=>exact nomatch (show(none:Option DE)=some _ from h)
    | [_],[],h=>exact nomatch (show(none:Option DE)=some _ from h)
    | [_],_::_::_,h=>exact nomatch (show(none:Option DE)=some _ from h)
    | _::_::_,_,h=>exact nomatch (show(none:Option DE)=some _ from h)
  | IfExp c a b pos=>
    (conv at h=>lhs;whnf)
    refine Qc h λg h1 h=>?_
    refine bindR h λfa fb h2 h3=>?_
    exact Qxo (ih.T X Θ c g ok h1) (ih.E X Θ a fa ok h2) (ih.E X Θ b fb ok h3)
  | Tuple es k pos=>
    (conv at h=>lhs;whnf)
    refine mapR h λfs h1=>?_
    exact Qwp (ih.A X Θ es fs ok h1)
  | List es pos=>
    (conv at h=>lhs;whnf)
    refine mapR h λfs h1=>?_
    exact Qwz (ih.A X Θ es fs ok h1)
  | Subscript a b pos=>
    by_cases hb:∃lo hi p2,b= .Slice lo hi none p2
    · obtain⟨lo,hi,p2,rfl⟩:=hb
      (conv at h=>lhs;whnf)
      refine Qc h λfa h1 h=>?_
      refine bindR h λfl fh h2 h3=>?_
      exact QwA (ih.E X Θ a fa ok h1) (ih.O X Θ lo fl ok h2) (ih.O X Θ hi fh ok h3)
    · by_cases hk:∃k p2,b= .Slice none none (some k) p2
      · obtain⟨k,p2,rfl⟩:=hk
        (conv at h=>lhs;whnf)
        refine bindR h λfa fk h1 h2=>?_
        exact QvH (ih.E X Θ a fa ok h1) (ih.E X Θ k fk ok h2)
      · have h':((Ql n Θ a).bind λfa=>(Ql n Θ b).map λfb=>Qu fa fb)=some f:=by
          cases b<;>first
            | (exact h)
            | (rename_i lo hi st p2;cases lo<;>cases hi<;>cases st<;>first | (exact absurd ⟨_,_,_,rfl⟩ hb) | (exact absurd ⟨_,_,rfl⟩ hk) | (exact h))
        refine bindR h' λfa fb h1 h2=>?_
        exact Qw1 (ih.E X Θ a fa ok h1) (ih.E X Θ b fb ok h2) (Qj2 h2)
  | Call fn args kws pos=>
    cases fn with
    | Name x p=>
     cases kws with
     | cons k ks=>exact nomatch (show(none:Option DE)=some _ from h)
     | nil=>
      have h:(if Θ.gl x then(match look x Θ.Γ with | some r=>if r.n<=args.length+r.dfl.length/\args.length<=r.n then(QaC n Θ args).map λfs=>Qz r.n r.den (r.dfl.drop (r.dfl.length-(r.n-args.length))) fs else none | none=>match Θ.te (.Call (.Name x p) args [] pos)with | some f=>some f | none=>Qk1 n Θ x args)else none)=some f:=h
      split at h
      · rename_i hg
        obtain⟨g1,g2,g3⟩:=Qbq ok.toCtxB hg
        split at h
        · rename_i r hr
          split at h
          · rename_i hn
            refine mapR h λfs h1=>?_
            obtain⟨k,fa,fd,ps,F1,F2,F3,F4,F5⟩:=ok.fns x r hr
            obtain⟨ds,dvs,b1,b2,b3⟩:=F5 (r.n-args.length) (by omega)
            cases args with
            | nil=>
              cases n with
              | zero=>simp[QaC]at h1
              | succ n=>
                simp only[QaC]at h1
                cases h1
                exact Qrk F1 F2 g1 F3 F4 b1 b2 b3 g2
            | cons e es=>
              obtain⟨s1,s2⟩:=callArgs (X:=X) h1 rfl pos
              exact QtC F1 F2 g1 F3 F4 b1 b2 b3 (ih.A X Θ _ fs ok h1) g2 s1 s2
          · cases h
        · split at h
          · rename_i g hg2
            cases h
            exact ok.te _ _ hg2
          · exact ih.B X Θ x args f p pos ok hg h
      · cases h
    | _=>exact nomatch (show(none:Option DE)=some _ from h)
  | Attribute o m p=>exact ok.te _ _ h
  | ListComp elt gens scope pos=>
    match gens,h with
    | [⟨tg,iter,ifs,k⟩],h=>
      by_cases hk:k=0
      · subst hk
        (conv at h=>lhs;whnf)
        refine Qc h λt ht h=>?_
        split at h
        · rename_i hc
          simp only[Zg]at hc
          refine Qc h λfi h1 h=>?_
          refine bindR h λft fe h2 h3=>?_
          obtain⟨S,cap,inn⟩:=QmA ok hc.1
          obtain⟨i1,i2⟩:=ih.I X Θ tg iter fi ok h1
          exact QtN ok.calm S i1 cap (λcl C fp s3 H3=>⟨QkY (inn cl C fp s3 H3) ht,ih.Ts _ _ ifs ft (inn cl C fp s3 H3) h2,ih.E _ _ elt fe (inn cl C fp s3 H3) h3⟩) i2
        · cases h
      · exfalso
        cases k with
        | ofNat k=>
          cases k with
          | zero=>exact hk rfl
          | succ k=>exact nomatch (show(none:Option DE)=some _ from h)
        | negSucc k=>exact nomatch (show(none:Option DE)=some _ from h)
    | [],h=>exact nomatch (show(none:Option DE)=some _ from h)
    | ⟨_,_,_,.ofNat 0⟩::_::_,h=>exact nomatch (show(none:Option DE)=some _ from h)
    | ⟨_,_,_,.ofNat (k+1)⟩::_::_,h=>exact nomatch (show(none:Option DE)=some _ from h)
    | ⟨_,_,_,.negSucc k⟩::_::_,h=>exact nomatch (show(none:Option DE)=some _ from h)
  | _=>exact nomatch (show(none:Option DE)=some _ from h)
theorem Qu1(ok:Qt X Θ)(g1:Gl X x)(sa:SA X [a] (Qb fa Qe))(st:starEach [a] X.env=(false,eval a X.env)::starEach [] X.env)(h:bf1 x fa=some f):SE X (.Call (.Name x p) [a] [] pos) f:=by
 unfold bf1 at h
 by_cases e:x= "len"
 ·rw[if_pos e]at h;cases h;subst e;have hm:=ok.mg "len" (by decide+kernel)
  exact QkX Qqx Qvf g1 hm PySem.boot_len sa (by decide) (by decide) st rfl
 rw[if_neg e]at h;clear e
 by_cases e:x= "list"
 ·rw[if_pos e]at h;cases h;subst e;have hm:=ok.mg "list" (by decide+kernel)
  exact Quv ok.calm g1 hm sa st rfl
 rw[if_neg e]at h;clear e
 by_cases e:x= "min"
 ·rw[if_pos e]at h;cases h;subst e;have hm:=ok.mg "min" (by decide+kernel)
  exact QkX (Qqn ok.calm) QuA g1 hm PyProof.Rows.boot_min sa (by decide) (by decide) st rfl
 rw[if_neg e]at h;clear e
 by_cases e:x= "int"
 ·rw[if_pos e]at h;cases h;subst e;have hm:=ok.mg "int" (by decide+kernel)
  exact Qww Qqq QvT g1 hm PyProof.Rows.boot_int sa (by decide) (by decide) st rfl
 rw[if_neg e]at h;clear e
 cases h
theorem QvV(ok:Qt X Θ)(g1:Gl X x)(sa:SA X [a,b] (Qb fa (Qb fb Qe)))(st:starEach [a,b] X.env=(false,eval a X.env)::starEach [b] X.env)(pl:(backTo pos (starEach [b] X.env)).any (·.1)=false)(h:bf2 x fa fb=some f):SE X (.Call (.Name x p) [a,b] [] pos) f:=by
 unfold bf2 at h
 by_cases e:x= "min"
 ·rw[if_pos e]at h;cases h;subst e;have hm:=ok.mg "min" (by decide+kernel)
  exact QkX (QqL ok.calm) QuH g1 hm PyProof.Rows.boot_min sa (by decide) (by decide) st pl
 rw[if_neg e]at h;clear e
 by_cases e:x= "max"
 ·rw[if_pos e]at h;cases h;subst e;have hm:=ok.mg "max" (by decide+kernel)
  exact QkX (Qp0 ok.calm) Quc g1 hm PyProof.Rows.boot_max sa (by decide) (by decide) st pl
 rw[if_neg e]at h;clear e
 cases h
theorem Qxg(ih:Qi2 n):∀X Θ x args f p pos,Qt X Θ->Θ.gl x=true->Qk1 (n+1) Θ x args=some f->SE X (.Call (.Name x p) args [] pos) f:=by
 intro X Θ x args f p pos ok hg h
 obtain⟨g1,g2,g3⟩:=Qbq ok.toCtxB hg
 match args,h with
 | [],h=>exact nomatch (show(none:Option DE)=some _ from h)
 | [a],h=>
  change((Ql n Θ a).bind λfa=>bf1 x fa)=some f at h
  refine Qc h λfa h1 h=>?_
  have ha:=ih.E X Θ a fa ok h1
  have st:=Qa1 h1 [] X.env
  exact Qu1 ok g1 (Qhm ha QlD st) st h
 | [a,b],h=>
  change(if x= "isinstance" then(Ql n Θ a).bind λfa=>(match b with | .Name y _=>if Θ.gl y then(Qre y).map λT=>Qj8 T fa else none | _=>none)else(Ql n Θ a).bind λfa=>(Ql n Θ b).bind λfb=>bf2 x fa fb)=some f at h
  split at h
  ·rename_i e
   refine Qc h λfa h1 h=>?_
   have ha:=ih.E X Θ a fa ok h1
   split at h
   ·rename_i y p2
    split at h
    ·rename_i hy
     refine mapR h λT hT=>?_
     obtain⟨y1,y2,y3⟩:=Qbq ok.toCtxB hy
     clear h
     subst e
     refine QvK g1 (ok.mg _ (by decide+kernel)) ha ?_ (Qa1 h1 _ X.env)
     unfold Qre at hT
     split at hT
     ·rename_i e;cases hT;subst e
      exact QfD y1 (ok.mg _ (by decide+kernel)) PyProof.Rows.boot_int rfl
     ·split at hT
      ·rename_i e;cases hT;subst e
       exact QfD y1 (ok.mg _ (by decide+kernel)) PyProof.Rows.boot_bool rfl
      ·split at hT
       ·rename_i e;cases hT;subst e
        exact QfD y1 (ok.mg _ (by decide+kernel)) Zbx rfl
       ·split at hT
        ·rename_i e;cases hT;subst e
         exact QfD y1 (ok.mg _ (by decide+kernel)) PyProof.Rows.boot_tuple rfl
        ·split at hT
         ·rename_i e;cases hT;subst e
          exact QfD y1 (ok.mg _ (by decide+kernel)) PyProof.Rows.boot_str rfl
         ·cases hT
    ·cases h
   ·cases h
  ·refine Qc h λfa h1 h=>?_
   refine Qc h λfb h2 h=>?_
   have ha:=ih.E X Θ a fa ok h1
   have hb:=ih.E X Θ b fb ok h2
   have sb:SA X [b] (Qb fb Qe):=Qhm hb QlD (Qa1 h2 [] X.env)
   have sa:SA X [a,b] (Qb fa (Qb fb Qe)):=Qhm ha sb (Qa1 h1 [b] X.env)
   have pl:(backTo pos (starEach [b] X.env)).any (·.1)=false:=by rw[Qa1 h2 [] X.env];rfl
   exact QvV ok g1 sa (Qa1 h1 [b] X.env) pl h
 | _::_::_::_,h=>exact nomatch (show(none:Option DE)=some _ from h)
theorem Qxu{n:Nat}(ih:Qi2 n):∀X Θ e f,Qt X Θ->QaK (n+1) Θ e=some f->ST X e f:=by
 intro X Θ e f ok h
 have dflt:(Ql n Θ e).map QA=some f->(∀whole,isTrue e X.env whole=(do let v ← whole;standAt e.pos;holding [v] (truthy v)))->ST X e f:=λh he=>by
  refine mapR h λfa h1=>?_
  exact QvO (ih.E X Θ e fa ok h1) he
 cases e with
 | UnaryOp op a pos=>
  cases op with
  | Not=>
   change(QaK n Θ a).map Qca=some f at h
   refine mapR h λfa h1=>?_
   exact Qvu (ih.T X Θ a fa ok h1)
  | _=>exact dflt h λ_=>rfl
 | BoolOp op es pos=>
  cases op with
  | And=>
   match es,h with
   | [],h=>exact nomatch (show(none:Option DT)=some _ from h)
   | [a],h=>exact(Quo (ih.T X Θ a f ok h)).st
   | a::b::r,h=>
    change((QaK n Θ a).bind λfa=>(QaK n Θ (.BoolOp .And (b::r) pos)).map λfb=>QeL fa fb)=some f at h
    refine bindR h λfa fb h1 h2=>?_
    have hb:=ih.T X Θ _ fb ok h2
    exact(Qw9 (ih.T X Θ a fa ok h1) (λH0 A0 wh pins s σ H Q I q=>by have:=hb H0 A0 pins s σ H Q I q;exact this)).st
  | Or=>
   match es,h with
   | [],h=>exact nomatch (show(none:Option DT)=some _ from h)
   | [a],h=>exact(Qwy (ih.T X Θ a f ok h)).st
   | a::b::r,h=>
    change((QaK n Θ a).bind λfa=>(QaK n Θ (.BoolOp .Or (b::r) pos)).map λfb=>bOr fa fb)=some f at h
    refine bindR h λfa fb h1 h2=>?_
    have hb:=ih.T X Θ _ fb ok h2
    exact(QxR (ih.T X Θ a fa ok h1) (λH0 A0 wh pins s σ H Q I q=>by have:=hb H0 A0 pins s σ H Q I q;exact this)).st
 | Compare a ops bs pos=>
  match ops,bs,h with
  | [op],[b],h=>
   change((Ql n Θ a).bind λfa=>(Ql n Θ b).bind λfb=>(Qox op).map λg=>QA (dOp g fa fb))=some f at h
   refine Qc h λfa h1 h=>?_
   refine bindR h λfb g h2 h3=>?_
   obtain⟨r,o1,o2,o3⟩:=Qpl ok h3
   exact QvD o1 o2 o3 (ih.E X Θ a fa ok h1) (ih.E X Θ b fb ok h2) (Qpw h2 op)
  | [],_,h=>exact nomatch (show(none:Option DT)=some _ from h)
  | [_],[],h=>exact nomatch (show(none:Option DT)=some _ from h)
  | [_],_::_::_,h=>exact nomatch (show(none:Option DT)=some _ from h)
  | _::_::_,_,h=>exact nomatch (show(none:Option DT)=some _ from h)
 | IfExp c a b pos=>exact nomatch (show(none:Option DT)=some _ from h)
 | _=>exact dflt h λ_=>rfl
theorem Qyb(ih:Qi2 n):∀X Θ tg e f,Qt X Θ->Qgi (n+1) Θ tg e=some f->SI X tg e f/\∀x,foldedSetIterable e X.env x=pure x:=by
 intro X Θ tg e f ok h
 have dflt:(Ql n Θ e).map Qaf=some f->SI X tg e f/\∀x,foldedSetIterable e X.env x=pure x:=λh=>by
  obtain⟨fa,h1,rfl⟩:=Zc.mp h
  exact⟨QvU (ih.E X Θ e fa ok h1),QvN h1 X.env⟩
 cases e with
 | Call fn args kws pos=>
  cases fn with
  | Name x p=>
   cases kws with
   | cons k ks=>exact dflt h
   | nil=>
    change @ite _ _ _ _ _=_ at h
    split at h
    ·rename_i hg
     simp only[Zg]at hg
     obtain⟨g1,g2,g3⟩:=Qbq ok.toCtxB hg.1
     match args,h with
     | [],h=>exact dflt h
     | [a],h=>
      dsimp only at h
      by_cases er:x= "range"
      ·rw[if_pos er]at h
       obtain⟨fa,h1,rfl⟩:=Zc.mp h
       subst er
       exact⟨Qpo g1 (ok.mg _ (by decide+kernel)) (ih.E X Θ a fa ok h1) (Qa1 h1 [] X.env),λ_=>rfl⟩
      rw[if_neg er]at h
      by_cases ez:x= "enumerate"
      ·rw[if_pos ez]at h
       split at h
       ·rename_i ht
        obtain⟨fa,h1,rfl⟩:=Zc.mp h
        subst ez
        cases tg with
        | Tuple es k tp=>exact⟨Qtz g1 (ok.mg _ (by decide+kernel)) (ih.E X Θ a fa ok h1) (Qa1 h1 [] X.env),λ_=>rfl⟩
        | _=>exact nomatch (show false=true from ht)
       ·cases h
      rw[if_neg ez]at h
      exact dflt h
     | [a,b],h=>
      dsimp only at h
      by_cases ez:x= "zip"
      ·rw[if_pos ez]at h
       split at h
       ·rename_i ht
        obtain⟨fa,fb,h1,h2,rfl⟩:=Qcr h
        subst ez
        cases tg with
        | Tuple es k tp=>exact⟨Qv0 g1 (ok.mg _ (by decide+kernel)) (ih.E X Θ a fa ok h1) (ih.E X Θ b fb ok h2) (by rw[Qa1 h1 [b] X.env,Qa1 h2 [] X.env];rfl) (Qa1 h2 [] X.env),λ_=>rfl⟩
        | _=>exact nomatch (show false=true from ht)
       ·cases h
      rw[if_neg ez]at h
      exact dflt h
     | [a,b,c],h=>
      dsimp only at h
      exact dflt h
     | _::_::_::_::_,h=>exact dflt h
    ·exact dflt h
  | _=>exact dflt h
 | _=>exact dflt h
theorem QT:∀n,Qi2 n
 | 0=>⟨λ_ _ _ _ _ h=>(nomatch (show(none:Option DE)=some _ from h)),λ_ _ _ _ _ _ _ _ _ h=>(nomatch (show(none:Option _)=some _ from h)),λ_ _ _ _ _ h=>(nomatch (show(none:Option _)=some _ from h)),λ_ _ _ _ _ h=>(nomatch (show(none:Option _)=some _ from h)),λ_ _ _ _ _ h=>(nomatch (show(none:Option _)=some _ from h)),
  λ_ _ _ _ _ h=>(nomatch (show(none:Option _)=some _ from h)),λ_ _ _ _ _ _ h=>(nomatch (show(none:Option _)=some _ from h))⟩
 | n+1=>by
  have ih:=QT n
  refine⟨Qxw ih,Qxg ih,Qxu ih,λX Θ e f ok h=>?_,λX Θ e f ok h=>?_,
   λX Θ e f ok h=>?_,Qyb ih⟩
  ·match e,h with
   | [],h=>simp only[QfF]at h;cases h;exact Qrf
   | [c],h=>simp only[QfF]at h;exact QrJ (ih.T X Θ c f ok h)
   | _::_::_,h=>simp only[QfF]at h;cases h
  ·match e,h with
   | [],h=>simp only[QaC]at h;cases h;exact QlD
   | e::es,h=>
    simp only[QaC]at h
    refine bindR h λfa fs h1 h2=>?_
    exact Qhm (ih.E X Θ e fa ok h1) (ih.A X Θ es fs ok h2) (Qa1 h1 es X.env)
  ·match e,h with
   | none,h=>simp only[Qf3]at h;cases h;exact Qs6
   | some e,h=>
    simp only[Qf3]at h
    refine mapR h λfa h1=>?_
    exact Quh (ih.E X Θ e fa ok h1)
section
noncomputable def QE:DS:=λ_=>none
theorem QrC:S1 X st QE:=λH0 A0=>QqV.mono λE σ H ⟨ρ,hs,F,o,rel,e,q⟩=>by cases e
theorem QuJ(hN:X.N.Nodup)(hx1:X.N[i]? =some x)(hx:Loc X.env.scope x)(hf:X.fn x=true∨X.env.scope.names.lookup x=some .local)
  (hcalm:X.calm=true) (S:Qd1 X N' scope) (hi:SI X tg iter fi) (hcap:Qk9 X N' scope cap t.slots)
  (hin:∀cl C fp s3 H3,SG (cxc X N' scope cl C fp s3 H3) tg t/\QlW (cxc X N' scope cl C fp s3 H3) ifs ft/\SE (cxc X N' scope cl C fp s3 H3) elt fe) (hs:∀x,foldedSetIterable iter X.env x=pure x):
  S1 X (.Assign [.Name x pos'] (.ListComp elt [⟨tg,iter,ifs,0⟩] scope pos) spos) (Qs i (QaE fi t cap ft fe)):=
 QgE λH0 A0=>(Quf hN hx1 hx hf hcalm S (hi H0 A0) (λcl C fp s3 H3=>⟨(hin cl C fp s3 H3).1 _ _,(hin cl C fp s3 H3).2.1 _ _,(hin cl C fp s3 H3).2.2 _ _⟩) hs).mono λE σ H h=>Qkw hcap h
end
end HS
namespace HS
open PySem PySem.Spec L2 PyProof.Rows
section
variable {X:Cx}{a b e:Expr}{fa fb:DE}{pf:DP}{x:Nat}{pos apos:Pos}
theorem QuR{X:Cx}{H:Hp}{ds:List D}{w:V}{Gm:List Addr}(h:Rp X.K H (.lst ds) w Gm):tyV X.K "list" w H:=by
 obtain⟨l,ws,L,rfl,hl,_⟩:=h.lst_inv
 exact .inl ⟨rfl,ws,QP hl⟩
theorem QN.unit{K:PySem.W.Frag}{ρ:En}{F:Nat->List Addr}{H:Hp}:QN K ρ F H H ⟨.non,true,[]⟩ .non []:= .flat (Qr.refl _) .QfN
noncomputable def QjF(x:Nat)(pf:DP):DS:=λρ=>match ρ[x]? with
 | some (some (d,true))=>(pf ρ).bind λis=>match Qcu d is with
  | some (.lst _)=>some (.nx (ρ.set x (some (Qbd is d (.lst []),true))))
  | _=>none
 | _=>none
theorem Qsc{H0:Hp}{A0:List Addr}{E:Ends}{σ:L2.St}{H:Hp}:tS X.K H0 A0 (QjF x pf) E σ H->Qk4 (Qwh X.K "list" QpA (tP X.K H0 A0 x pf)) E σ H:=exK λρ hs F o rel e q=>by
 unfold QjF at e
 split at e
 ·rename_i d hx
  refine Qc e λis e2 e=>?_
  split at e
  ·rename_i ds hp
   cases e
   refine⟨ρ,hs,F,d,true,is,.lst ds,rel,hx,e2,hp,λv0 w H2 Gm s2 hv0 fo=>⟨QuR fo.rp,?_⟩⟩
   obtain⟨l,vsm,Gp,rfl,g1,g2,g3,g4,g5,g6,g7⟩:=(rel.ext s2).write .unit rfl Zab hx (by simp) hv0 fo
   refine⟨l,vsm,rfl,rfl,g1,?_⟩
   obtain⟨F',rel'⟩:=g7 [] [] [] (by simp[Rps]) (ZT _) rfl (λa=>by simp)
   exact q _ _ F' rel'
  ·cases e
 ·cases e
theorem Rps.erase{K:PySem.W.Frag}{H:Hp}:∀{ds:List D}{vs:List V}{F:List Addr}(k:Nat),QX ds=true->Rps K H ds vs F->Rps K H (ds.eraseIdx k) (vs.eraseIdx k) []
 | [],vs,F,k,_,h=>by
  simp only[Rps]at h
  obtain⟨rfl,rfl⟩:=h
  simp[Rps]
 | d::ds,vs,F,0,hf,h=>by
  have hF:=h.Qbc hf
  subst hF
  simp only[Rps]at h
  obtain⟨w,ws,F1,F2,rfl,eF,r,q⟩:=h
  have:F2=[]:=(Zby.mp eF.symm).2
  subst this
  simpa using q
 | d::ds,vs,F,k+1,hf,h=>by
  have hF:=h.Qbc hf
  subst hF
  simp only[Rps]at h
  obtain⟨w,ws,F1,F2,rfl,eF,r,q⟩:=h
  obtain⟨rfl,rfl⟩:=Zby.mp eF.symm
  simp only[QX,Zg]at hf
  have ih:=Rps.erase k hf.2 q
  simp only[List.eraseIdx_cons_succ,Rps]
  exact⟨w,_,[],[],rfl,rfl,r,ih⟩
end
noncomputable def QdE:Expr->Bool
 | .ListComp .. =>false
 | .SetComp .. =>false
 | .DictComp .. =>false
 | _=>true
theorem QbC(h:QdE e=true):swapsWith e t l env=pure false:=by
 cases e<;>first | rfl | cases h
noncomputable def QdF(n:Nat)(Θ:Th)(e:Expr):Option (Nat×DP):=match n with
 | 0=>none
 | n+1=>match e with
  | .Name x _=>(Θ.slot x).map λi=>(i,Qa8)
  | .Subscript a b _=>(QdF n Θ a).bind λq=>(Ql n Θ b).map λfb=>(q.1,QdK q.2 fb)
  | _=>none
theorem Qgn:∀(n:Nat) (X:Cx) (Θ:Th) (e:Expr) (q:Nat×DP),Qt X Θ->QdF n Θ e=some q->SPa X e q.1 q.2/\attributeBase e=λ_ env w=>w
 | 0,_,_,_,_,_,h=>(nomatch (show(none:Option _)=some _ from h))
 | n+1,X,Θ,e,q,ok,h=>by
  cases e with
  | Name x pos=>
   change Option.map _ _=_ at h
   obtain⟨i,hi,rfl⟩:=Zc.mp h
   exact⟨Qr5 (Qaq ok.toCtxB hi),by funext a b c;rfl⟩
  | Subscript a b pos=>
   change Option.bind _ _=_ at h
   obtain⟨q',fb,h1,h2,rfl⟩:=Qcr h
   exact⟨Qut (Qgn n X Θ a q' ok h1).1 ((QT n).E X Θ b fb ok h2) (Qj2 h2),by funext a b c;rfl⟩
  | _=>exact nomatch (show(none:Option _)=some _ from h)
noncomputable def Qhx:Expr->Bool
 | .Name .. =>true
 | .Subscript _ (.Slice ..) _=>false
 | .Subscript (.Call ..) _ _=>false
 | .Subscript .. =>true
 | _=>false
noncomputable def QrG:Operator->Option (D->D->Option D)
 | .Add=>some (gI λi j=>some (.int (i+j)))
 | .Sub=>some Qfn
 | _=>none
theorem Qwd(h:QrG op=some g):∃r,OpR X (inplaceOp op) r/\Qb9 X.K g r:=by
 cases op<;>cases h
 ·exact⟨_,QtX,Qgd (λi j d e=>by cases e;rfl) λi j d e H Q q=>by cases e;exact⟨i,j,rfl,rfl,q _ λ_=> .int_mk⟩⟩
 ·exact⟨_,QuB,QpI⟩
noncomputable def Quz:Expr->Bool
 | .Slice .. =>true
 | _=>false
noncomputable def QiP(n:Nat)(Θ:Th)(o:Expr)(m:Str)(args:List Expr):Option DS:=match args with
  | []=>(QdF n Θ o).bind λq=>
    if m= "clear" then some (QjF q.1 q.2)else
    none
  | [e]=>if m= "append" then
     ((QdF n Θ o).bind λq=>(Ql n Θ e).map λfa=>Qd4 q.1 q.2 fa)
    else
    none
  | _=>none
theorem Qsx(ok:Qt X Θ)(h:QiP n Θ o m args=some f)(hl:(apos.endLine == cpos.line)=true):
  S1 X (.Expr (.Call (.Attribute o m apos) args [] cpos) pos) f:=by
 have base:∀{q:Nat×DP},QdF n Θ o=some q->SPa X o q.1 q.2/\attributeBase o m X.env (eval o X.env)=eval o X.env:=λ{q} h1=>by
  obtain⟨sp,ab⟩:=Qgn n X Θ o _ ok h1
  exact⟨sp,by rw[ab]⟩
 have app:∀{e:Expr}{f:DS},m= "append" ->((QdF n Θ o).bind λq=>(Ql n Θ e).map λfa=>Qd4 q.1 q.2 fa)=some f->S1 X (.Expr (.Call (.Attribute o m apos) [e] [] cpos) pos) f:=λ{e f} em h=>by
  obtain⟨q,fa,h1,h2,rfl⟩:=Qcr h
  obtain⟨sp,hb⟩:=base h1
  subst em
  have he:=(QT n).E X Θ e fa ok h2
  have st:=Qa1 h2 [] X.env
  have sa:∀H0 A0,PA X [e] (Qn6 (tV X.K H0 A0 fa) Qo5):=λH0 A0=>Qag (he H0 A0) QbJ st
  exact λH0 A0=>(Qek (QsU ZaO Zbk Zbl Qgy (sp H0 A0) (sa H0 A0) hb (by rw[st];rfl) hl st rfl) rfl).mono λE σ H q=>Qq7 q
 match args,h with
 | [],h=>
  unfold QiP at h
  dsimp only at h
  obtain⟨⟨x,pf⟩,h1,h⟩:=bind1 h
  obtain⟨sp,hb⟩:=base h1
  by_cases e:m= "clear"
  ·rw[if_pos e]at h;cases h;subst e
   exact λH0 A0=>(Qek (Qwk ZaO PySem.F.slot_list_clear PySem.F.type_list_clear Qss (sp H0 A0) hb hl) rfl).mono λE σ H q=>Qsc q
  rw[if_neg e]at h
  clear e
  cases h
 | [e],h=>
  unfold QiP at h
  dsimp only at h
  by_cases em:m= "append"
  ·rw[if_pos em]at h
   exact app em h
  rw[if_neg em]at h
  clear em
  clear app
  cases h
 | _::_::_,h=>exact nomatch (show(none:Option DS)=some _ from h)
end HS
namespace HS
open PySem PySem.Spec L2
end HS
namespace HS
open PySem PySem.Spec L2 PyProof.Rows
section
variable {K:PySem.W.Frag}{H0 H H':Hp}{A0:List Addr}{hs:List (V×D×List Addr)}{ρ:En}{F:Nat->List Addr}{σ:L2.St}{x i j:Nat}{ds es:List D}{a:Addr}{vs:List V}{v vn:V}{dn:D}
end
end HS
namespace HS
open PySem PySem.Spec L2 PyProof.Rows
mutual
noncomputable def QiN(n:Nat)(Θ:Th)(st:Stmt):Option DS:=match n with
 | 0=>none
 | n+1=>match st with
  | .Pass _=>some Qj
  | .Break _=>some Qsl
  | .Continue _=>some Qr4
  | .Raise _ _ _=>some QE
  | .Return (some e) _=>(Ql n Θ e).map Q3
  | .Expr (.Constant (.str _) _ _) _=>some Qj
  | .Expr (.Call (.Attribute o m apos) args [] cpos) _=>if(apos.endLine == cpos.line)=true then QiP n Θ o m args else none
  | .Expr (.Call (.Name x p) args [] cpos) _=>(Ql n Θ (.Call (.Name x p) args [] cpos)).map Qc7
  | .Assign [.Name x _] e _=>(Θ.QaX x).bind λi=>(Ql n Θ e).map λfa=>Qs i (if Qhx e=true then Qcm fa else fa)
  | .Assign [.Subscript a i _] e _=>(QdF n Θ a).bind λq=>(Ql n Θ i).bind λfi=>(Ql n Θ e).map λfa=>QeO q.1 q.2 fi fa
  | .AugAssign (.Subscript a i _) op e _=>(QdF n Θ a).bind λq=>(Ql n Θ i).bind λfi=>(QrG op).bind λg=>(Ql n Θ e).map λfa=>Qe5 g q.1 q.2 fi fa
  | .If c a b _=>(QaK n Θ c).bind λg=>(Q5 n Θ a).bind λf1=>(Q5 n Θ b).map λf2=>sIf g f1 f2
  | .For tg iter body [] _=>(Qif Θ tg).bind λt=>(Qgi n Θ tg iter).bind λfi=>(Q5 n Θ body).map λfb=>QaT fi t fb
  | .Try a b c d p=>Θ.tr (.Try a b c d p)
  | _=>none
noncomputable def Q5(n:Nat)(Θ:Th)(sts:List Stmt):Option DS:=match n with
  | 0=>none
  | n+1=>match sts with
    | []=>some Qj
    | st::r=>
     match Θ.tr st with
     | some f=>(Q5 n Θ r).map λg=>Qf f g
     | none=>
       (QiN n Θ st).bind λf=>(Q5 n Θ r).map λg=>Qf f g
end
theorem QnF(h:Ql n Θ e=some f):Quz e=false:=by
 cases n with
 | zero=>exact nomatch (show(none:Option DE)=some _ from h)
 | succ n=>cases e<;>first | rfl | (exact nomatch (show(none:Option DE)=some _ from h))
theorem Qtl(h:Ql n Θ (.ListComp elt gens scope pos)=some f):∃m tg iter ifs t fi ft fe,n=m+1/\gens=[⟨tg,iter,ifs,0⟩]/\Qif (inner Θ scope) tg=some t/\Qi3 Θ scope t=true∧
  Qgi m Θ tg iter=some fi/\QfF m (inner Θ scope) ifs=some ft/\Ql m (inner Θ scope) elt=some fe/\f=QaE fi t (Qhz Θ scope) ft fe:=by
 cases n with
 | zero=>exact nomatch (show(none:Option DE)=some _ from h)
 | succ n=>
  match gens,h with
  | [⟨tg,iter,ifs,k⟩],h=>
   by_cases hk:k=0
   ·subst hk
    (conv at h=>lhs;whnf)
    refine Qc h λt ht h=>?_
    split at h
    ·rename_i hc
     simp only[Zg]at hc
     refine Qc h λfi h1 h=>?_
     obtain⟨ft,fe,h2,h3,rfl⟩:=Qcr h
     exact⟨n,tg,iter,ifs,t,fi,ft,fe,rfl,rfl,ht,hc.1,h1,h2,h3,rfl⟩
    ·cases h
   ·exfalso
    cases k with
    | ofNat k=>
     cases k with
     | zero=>exact hk rfl
     | succ k=>exact nomatch (show(none:Option DE)=some _ from h)
    | negSucc k=>exact nomatch (show(none:Option DE)=some _ from h)
  | [],h=>exact nomatch (show(none:Option DE)=some _ from h)
  | ⟨_,_,_,.ofNat 0⟩::_::_,h=>exact nomatch (show(none:Option DE)=some _ from h)
  | ⟨_,_,_,.ofNat (k+1)⟩::_::_,h=>exact nomatch (show(none:Option DE)=some _ from h)
  | ⟨_,_,_,.negSucc k⟩::_::_,h=>exact nomatch (show(none:Option DE)=some _ from h)
theorem Qul(ok:Qt X Θ)(hx:Θ.QaX x=some i)(h:Ql n Θ e=some fa):S1 X (.Assign [.Name x p] e pos) (Qs i fa):=by
 have hN:X.N.Nodup:=by rw[ok.N];exact ok.nd
 obtain⟨h1,h2,h3⟩:=QaU ok.toCtxB hx
 by_cases hc:QdE e=true
 ·have he:=(QT n).E X Θ e fa ok h
  exact QgE λH0 A0=>QdV hN h1 h2 (he H0 A0) (QbC hc) h3
 ·cases e with
  | ListComp elt gens scope cpos=>
   obtain⟨m,tg,iter,ifs,t,fi,ft,fe,rfl,rfl,ht,hco,g1,g2,g3,rfl⟩:=Qtl h
   obtain⟨S,cap,inn⟩:=QmA ok hco
   obtain⟨i1,i2⟩:=(QT m).I X Θ tg iter fi ok g1
   exact QuJ hN h1 h2 h3 ok.calm S i1 cap (λcl C fp s3 H3=>⟨QkY (inn cl C fp s3 H3) ht,(QT m).Ts _ _ ifs ft (inn cl C fp s3 H3) g2,(QT m).E _ _ elt fe (inn cl C fp s3 H3) g3⟩) i2
  | SetComp _ _ _ _=>cases n<;>exact nomatch (show(none:Option DE)=some _ from h)
  | DictComp _ _ _ _ _=>cases n<;>exact nomatch (show(none:Option DE)=some _ from h)
  | _=>exact absurd rfl hc
theorem Qsp(ok:Qt X Θ)(hx:Θ.QaX x=some i)(h:Ql n Θ e=some fa)(ha:Qhx e=true):S1 X (.Assign [.Name x p] e pos) (Qs i (Qcm fa)):=by
 have hN:X.N.Nodup:=by rw[ok.N];exact ok.nd
 obtain⟨h1,h2,h3⟩:=QaU ok.toCtxB hx
 have hc:QdE e=true:=by cases e<;>first | rfl | cases ha
 have he:=QlS ((QT n).E X Θ e fa ok h)
 exact QgE λH0 A0=>QdV hN h1 h2 (he H0 A0) (QbC hc) h3
theorem Qkb:swapsWithSole [.Subscript a i p] e l env=pure false:=by
 cases e<;>rfl
structure QwJ (n:Nat):Prop where
 S:∀X Θ st f,Qt X Θ->QiN n Θ st=some f->S1 X st f
 Ss:∀X Θ sts f,Qt X Θ->Q5 n Θ sts=some f->SS X sts f
theorem Qu3(ih:QwJ n):∀X Θ st f,Qt X Θ->QiN (n+1) Θ st=some f->S1 X st f:=by
 intro X Θ st f ok h
 have hN:X.N.Nodup:=by rw[ok.N];exact ok.nd
 have E:=QT n
 cases st with
 | Pass pos=>change some Qj=some f at h;cases h;exact QuK
 | Break pos=>change some Qsl=some f at h;cases h;exact QrH
 | Continue pos=>change some Qr4=some f at h;cases h;exact Qt5
 | Raise a b pos=>change some QE=some f at h;cases h;exact QrC
 | Return e pos=>
  cases e with
  | none=>exact nomatch (show(none:Option DS)=some _ from h)
  | some e=>
   change(Ql n Θ e).map Q3=some f at h
   obtain⟨fa,h1,rfl⟩:=Zc.mp h
   exact Qw2 (E.E X Θ e fa ok h1)
 | Expr e pos=>
  cases e with
  | Constant c k p=>
   cases c with
   | str x=>
    change some Qj=some f at h
    cases h
    exact λH0 A0=>Qwn.mono λE σ H ⟨ρ,hs,F,o,rel,e,q⟩=>by cases e;exact q σ H F rel
   | _=>exact nomatch (show(none:Option DS)=some _ from h)
  | Call fn args kws cpos=>
   cases fn with
   | Attribute o m apos=>
    cases kws with
    | nil=>
     change(if(apos.endLine == cpos.line)=true then QiP n Θ o m args else none)=some f at h
     split at h
     ·rename_i hl
      exact Qsx ok h hl
     ·cases h
    | cons _ _=>exact nomatch (show(none:Option DS)=some _ from h)
   | Name x p=>
    cases kws with
    | nil=>
     change(Ql n Θ (.Call (.Name x p) args [] cpos)).map Qc7=some f at h
     obtain⟨fa,h1,rfl⟩:=Zc.mp h
     exact λH0 A0=>Qts (Qek (E.E X Θ _ fa ok h1 H0 A0) rfl)
    | cons _ _=>exact nomatch (show(none:Option DS)=some _ from h)
   | _=>exact nomatch (show(none:Option DS)=some _ from h)
  | _=>exact nomatch (show(none:Option DS)=some _ from h)
 | Assign ts e pos=>
  match ts,h with
  | [t],h=>
   cases t with
   | Name x p=>
    change((Θ.QaX x).bind λi=>(Ql n Θ e).map λfa=>Qs i (if Qhx e=true then Qcm fa else fa))=some f at h
    obtain⟨i,fa,h1,h2,rfl⟩:=Qcr h
    split
    ·rename_i ha;exact Qsp ok h1 h2 ha
    ·exact Qul ok h1 h2
   | Subscript a i p=>
    change((QdF n Θ a).bind λq=>(Ql n Θ i).bind λfi=>(Ql n Θ e).map λfa=>QeO q.1 q.2 fi fa)=some f at h
    refine Qc h λq h1 h=>?_
    obtain⟨fi,fa,h2,h3,rfl⟩:=Qcr h
    obtain⟨sp,_⟩:=Qgn n X Θ a q ok h1
    have ns:=QnF h2
    refine Qv7 (E.E X Θ e fa ok h3) sp (E.E X Θ i fi ok h2) λte to ti he ho hi=>Qpg he (QqD ho hi set_list ?_) Qkb ?_ rfl
    ·intro v;cases i<;>first | rfl | (cases ns)
    ·cases e<;>rfl
   | _=>exact nomatch (show(none:Option DS)=some _ from h)
  | [],h=>exact nomatch (show(none:Option DS)=some _ from h)
  | t::_::_,h=>cases t<;>exact nomatch (show(none:Option DS)=some _ from h)
 | AugAssign t op e pos=>
  cases t with
  | Subscript a i p=>
   change((QdF n Θ a).bind λq=>(Ql n Θ i).bind λfi=>(QrG op).bind λg=>(Ql n Θ e).map λfa=>Qe5 g q.1 q.2 fi fa)=some f at h
   refine Qc h λq h1 h=>?_
   refine Qc h λfi h2 h=>?_
   obtain⟨g,fa,h3,h4,rfl⟩:=Qcr h
   obtain⟨r,o1,o2⟩:=Qwd (X:=X) h3
   obtain⟨sp,_⟩:=Qgn n X Θ a q ok h1
   have ns:=QnF h2
   exact QuL o1 o2 (E.E X Θ e fa ok h4) sp (E.E X Θ i fi ok h2) λov iv new=>by cases i<;>first | rfl | (cases ns)
  | _=>exact nomatch (show(none:Option DS)=some _ from h)
 | If c a b pos=>
  change((QaK n Θ c).bind λg=>(Q5 n Θ a).bind λf1=>(Q5 n Θ b).map λf2=>sIf g f1 f2)=some f at h
  refine Qc h λg h1 h=>?_
  obtain⟨f1,f2,h2,h3,rfl⟩:=Qcr h
  exact QxJ (E.T X Θ c g ok h1) (ih.Ss X Θ a f1 ok h2) (ih.Ss X Θ b f2 ok h3)
 | For tg iter body els pos=>
  cases els with
  | nil=>
   change((Qif Θ tg).bind λt=>(Qgi n Θ tg iter).bind λfi=>(Q5 n Θ body).map λfb=>QaT fi t fb)=some f at h
   refine Qc h λt h1 h=>?_
   obtain⟨fi,fb,h2,h3,rfl⟩:=Qcr h
   obtain⟨i1,i2⟩:=E.I X Θ tg iter fi ok h2
   exact QvX ok.pass ok.calm i1 (QkY ok h1) (ih.Ss X Θ body fb ok h3) i2
  | cons _ _=>exact nomatch (show(none:Option DS)=some _ from h)
 | Try a b c d pos=>exact ok.tr _ _ h
 | _=>exact nomatch (show(none:Option DS)=some _ from h)
theorem QfT:∀n,QwJ n
 | 0=>⟨λ_ _ _ _ _ h=>(nomatch (show(none:Option DS)=some _ from h)),λ_ _ _ _ _ h=>(nomatch (show(none:Option DS)=some _ from h))⟩
 | n+1=>by
  have ih:=QfT n
  refine⟨Qu3 ih,λX Θ sts f ok h=>?_⟩
  match sts,h with
  | [],h=>change some Qj=some f at h;cases h;exact QpN
  | st::r,h=>
   change(match Θ.tr st with
    | some f=>(Q5 n Θ r).map λg=>Qf f g
    | none=>_)=some f at h
   split at h
   ·rename_i f0 hf0
    exact mapR (M:=λf=>SS X (st::r) f) h λg hg=>QjW (ok.tr st f0 hf0) (ih.Ss X Θ r g ok hg)
   change((QiN n Θ st).bind λf=>(Q5 n Θ r).map λg=>Qf f g)=some f at h
   obtain⟨fs,fr,h1,h2,rfl⟩:=Qcr h
   exact QjW (ih.S X Θ st fs ok h1) (ih.Ss X Θ r fr ok h2)
noncomputable def Qjj(n:Nat)(Θ:Th)(st:Stmt):Option DS:=match Θ.tr st with
 | some f=>some f
 | none=>QiN n Θ st
theorem Qqg{X:Cx}{Θ:Th}{n:Nat}{st:Stmt}{f:DS}(ok:Qt X Θ)(h:Qjj n Θ st=some f):S1 X st f:=by
 unfold Qjj at h
 split at h
 ·rename_i g hg
  cases h
  exact ok.tr st _ hg
 ·exact(QfT n).S X Θ st f ok h
noncomputable def Qad(k:Nat)(ds:List D):En:=ds.map (λd=>some (d,d.flat))++List.replicate (k-ds.length) none
noncomputable def outD:Out->Option (D×Bool)
 | .rt d fr=>some (d,fr)
 | .nx _=>some (.non,true)
 | _=>none
noncomputable def Qw(k:Nat)(f:DS):Den:=λds=>(f (Qad k ds)).bind outD
theorem Rps.parts{K:PySem.W.Frag}{H:Hp}:∀{ds:List D}{vs:List V}{F:List Addr},Rps K H ds vs F→
  ∃Fs:List (List Addr),(∀L∈Fs,∀a∈L,a∈F)/\∀(i:Nat) (d:D),ds[i]? =some d->∃v,vs[i]? =some v/\Rp K H d v (Fs.getD i [])
 | [],_,_,h=>⟨[],λL hL=>by simp at hL,λi d e=>by simp at e⟩
 | d::ds,_,_,h=>by
  simp only[Rps]at h
  obtain⟨v,ws,F1,F2,rfl,rfl,r,q⟩:=h
  obtain⟨Fs,h1,h2⟩:=Rps.parts q
  refine⟨F1::Fs,λL hL a ha=>?_,λi d' e=>?_⟩
  ·rcases Zo.mp hL with rfl | hL
   ·exact Zd _ ha
   ·exact Ze _ (h1 L hL a ha)
  ·cases i with
   | zero=>simp at e;subst e;exact⟨v,by simp,by simpa using r⟩
   | succ i=>obtain⟨w,hw,hr⟩:=h2 i d' (by simpa using e);exact⟨w,by simpa using hw,by simpa using hr⟩
theorem Qfm{k:Nat}{ds:List D}{i:Nat}{d:D}{b:Bool}(h:(Qad k ds)[i]? =some (some (d,b))):ds[i]? =some d/\b=d.flat:=by
 unfold Qad at h
 by_cases hi:i<ds.length
 ·rw[ZW (by simpa using hi),ZA]at h
  cases e:ds[i]? with
  | none=>rw[e]at h;cases h
  | some a=>rw[e]at h;cases h;exact⟨rfl,rfl⟩
 ·rw[ZaH (by simpa using hi),Zbo]at h
  split at h<;>cases h
theorem QdW{K:PySem.W.Frag}{H:Hp}{ds:List D}{vs:List V}{F:List Addr}{N:List Str}(r:Rps K H ds vs F):∃F0,Rel K H F [] (Qad N.length ds) F0 (start N vs) H:=by
 obtain⟨Fs,h1,h2⟩:=r.parts
 have hl:=r.length
 have src:∀i a,a∈Fs.getD i []->a∈F:=λi a ha=>by
  by_cases hi:i<Fs.length
  ·have:Fs.getD i []∈Fs:=by rw[ZC,ZE hi];exact Zbt hi
   exact h1 _ this a ha
  ·rw[ZC,Zr (by omega)]at ha;simp at ha
 refine⟨λi=>Fs.getD i [],?_,λi d b e=>?_,λi d e=>?_,λi d b e a ha=> .inr (src i a ha),λt ht=>absurd ht (by simp),Qr.refl _⟩
 ·unfold Qad L2.start;simp[hl]
 ·obtain⟨e1,_⟩:=Qfm e
  obtain⟨v,hv,hr⟩:=h2 i d e1
  refine⟨v,?_,hr⟩
  have hi:i<vs.length:=(Zh.mp hv).1
  unfold L2.start
  rw[ZW (by simpa using hi),ZA,hv];rfl
 ·obtain⟨e1,e2⟩:=Qfm e
  obtain⟨v,hv,hr⟩:=h2 i d e1
  have z:Fs.getD i []=[]:=hr.Qbc e2.symm
  simp only[z]
  exact⟨(QcV d e2.symm).symm,Zab,λa ha=>by simp at ha,λ_ _ _ _ _ a ha=>by simp at ha,λ_ _ a ha=>by simp at ha⟩
section
variable (P:Program) (w:World) (K:PySem.W.Frag) (mg:Str->Option Value) (base:Heap)
def Known(k:Nat)(x:Str)(r:FnR):Prop:=∃f fd ps,Q4 P w K mg base CX0 k f fd ps (spV K r.n r.den)/\mg x=some (.ref f)/\PySem.W.keepIn K (.ref f)=true∧
 ∀m,m<=r.dfl.length->∃ds dvs,Binds K fd ps ds/\Qq dvs ds/\∀H,Rps K H (r.dfl.drop (r.dfl.length-m)) dvs []
def Qan(k:Nat)(Γ:List (Str×FnR)):Prop:=∀x r,look x Γ=some r->Known P w K mg base k x r
structure Qb5 (cs:List (Str×Cn)):Prop where
 bn:∀x∈QmF,mg x=none
 cs:∀x i,look x cs=some i->∃t,mg x=some (cnV i t)
end
section
variable {P:Program}{w:World}{K:PySem.W.Frag}{mg:Str->Option Value}{base:Heap}
theorem Qan.nil{k:Nat}:Qan P w K mg base k []:=λx r h=>by cases h
theorem Known.mono{j k:Nat}{x:Str}{r:FnR}(h:Known P w K mg base j x r)(hk:j<=k):Known P w K mg base k x r:=by
 obtain⟨f,fd,ps,h1,h2⟩:=h
 exact⟨f,fd,ps,h1.mono hk,h2⟩
theorem Qan.cons{k:Nat}{Γ:List (Str×FnR)}{x:Str}{r:FnR}(t:Qan P w K mg base k Γ)(h:Known P w K mg base (k+1) x r):Qan P w K mg base (k+1) ((x,r)::Γ):=λy q e=>by
 unfold look at e
 split at e
 ·rename_i z;cases e;subst z;exact h
 ·exact(t y q e).mono (Zaw _)
noncomputable def namesOf(sc:Scope):List Str:=(sc.names.filter λy=>Qs0 y.2).map (·.1)
noncomputable def Qbw(st:Stmt)(Γ:List (Str×FnR))(cs:List (Str×Cn)):Th:=⟨namesOf (Qd st),(Qd st).names,Γ,cs,λ_=>none,λ_=>none⟩
theorem Qju{CX:CXT}{xe:Value->Shared->Prop}{st:Stmt}{ps:List Str}{qual:Str}{f:Addr}{cdv:Value}{A:Around}{outer:List Env}{s:Shared}{H:Hp}{E:XK}{k:Nat}{Γ:List (Str×FnR)}{cs:List (Str×Cn)}(S:Qar (namesOf (Qd st)) ps (Qd st))(M:Qb5 mg cs)(tab:Qan P w K mg base k Γ)
  (hr:QU k (A.deeper (envOfC qual (Qd st) s.heap.objs.size f cdv))) (hp:PassesOwn (model P w) (A.deeper (envOfC qual (Qd st) s.heap.objs.size f cdv)) (envOfC qual (Qd st) s.heap.objs.size f cdv) xe):
  Qt ((Qcl CX P w K mg base (namesOf (Qd st)) qual (Qd st) f cdv A outer s H E).QdC xe) (Qbw st Γ cs) where
 N:=rfl
 nd:=S.nd
 lc:=λx h=>by rw[Qbg]at h;exact h
 ce:=λx h=>by rw[Qbg]at h;exact⟨h,rfl⟩
 fe:=λx h=>by rw[Qbg]at h;exact absurd rfl (S.nofree _ (Zad h))
 gl:=λx h=>by rw[Qbg]at h;exact h
 calm:=decide_eq_true hr.hd
 pass:=hp
 tr:=λ_ _ h=>by cases h
 te:=λ_ _ h=>by cases h
 units:=hr.units
 mg:=M.bn
 fns:=λx r h=>by
  obtain⟨f',fd,ps',h1,h2,h3,h4⟩:=tab x r h
  exact⟨k,f',fd,ps',h1,hr,h2,h3,h4⟩
 cs:=M.cs
theorem Qi0{st:Stmt}{ps:List Str}{qual:Str}{f:Addr}{cdv:Value}{A:Around}{outer:List Env}{s:Shared}{H:Hp}{E:XK}{k:Nat}{Γ:List (Str×FnR)}{cs:List (Str×Cn)}(S:Qar (namesOf (Qd st)) ps (Qd st))(M:Qb5 mg cs)(tab:Qan P w K mg base k Γ)
  (hr:QU k (A.deeper (envOfC qual (Qd st) s.heap.objs.size f cdv))):Qt (Qcl CX0 P w K mg base (namesOf (Qd st)) qual (Qd st) f cdv A outer s H E).nox (Qbw st Γ cs):=Qju S M tab hr PassesOwn.never
theorem Qwl{x qual:Str}{st:Stmt}{f:Addr}{fd:FuncData}{ps:List Str}{k n:Nat}{Γ:List (Str×FnR)}{cs:List (Str×Cn)}{g:DS}(F:Fun K x qual st f fd)(S:Qar (namesOf (Qd st)) ps (Qd st))(M:Qb5 mg cs)(tab:Qan P w K mg base k Γ)
  (hc:Q5 n (Qbw st Γ cs) (QM st)=some g):Q4 P w K mg base CX0 (k+1) f fd ps (spV K ps.length (Qw (namesOf (Qd st)).length g)):=by
 refine F.ok S (QjG rfl) λcdv A outer s H vs Q E hr h=>?_
 obtain⟨ds,L,d,fr,rps,hl,hd,q⟩:=h
 refine⟨_,(QfT n).Ss _ _ _ g (Qi0 S M tab hr) hc H L,?_⟩
 obtain⟨F0,rel⟩:=QdW (N:=namesOf (Qd st)) rps
 unfold Qw at hd
 refine Qc hd λo ho hd=>?_
 refine⟨_,[],F0,o,rel,ho,?_⟩
 cases o with
 | nx ρ=>
  cases hd
  exact λσ H' F' rel'=>q .non H' [] ⟨rel'.same,.QfN,λa ha=>by simp at ha,λ_=>⟨Zab,rfl,λa ha=>by simp at ha⟩⟩
 | bk ρ=>cases hd
 | ct ρ=>cases hd
 | rt d' fr'=>
  cases hd
  exact λv H' G r=>q v H' G r
structure Fact (K:PySem.W.Frag) (x:Str) (st:Stmt):Prop where
 ex:∃f fd,Fun K x x st f fd/\PySem.W.nsIn K mainGlobals x=some (some (.ref f))
theorem fact_mk{x:Str}{st:Stmt}{f:Addr}{oc:Value}{od an:Option Addr}{osl:Array (Option Value)}{kV doc pm cdv ct:Value}(a:PySem.W.nsIn K mainGlobals x=some (some (.ref f)))(l:K.lookup f=some ⟨oc,od,.func (PySem.W.fnOf x x (Qc4 st) (QM st) (Qd st) .none kV doc pm an cdv ct),osl⟩)
  (c:PySem.W.codeIn K cdv x=true) (k:PySem.W.keepIn K (.ref f)=true):Fact K x st:=⟨f,_,Qqm l c k,a⟩
theorem l0{α:Type}{P:List α->Prop}(h:P []):∀l:List α,l.length=0->P l:=λl e=>(List.length_eq_zero_iff.mp e).symm▸h
theorem lc{α:Type}{n:Nat}{P:List α->Prop}(h:∀a,∀l:List α,l.length=n->P (a::l)):∀l:List α,l.length=n+1->P l
 | a::l,e=>h a l (Nat.succ.inj e)
def QI(x:Str)(st:Stmt)(ps:List Str):Prop:=∀(kV doc pm:Value) (an:Option Addr) (cdv ct:Value) (us:List Value),us.length=ps.length->bindArgs (PySem.W.fnOf x x (Qc4 st) (QM st) (Qd st) .none kV doc pm an cdv ct) ⟨us,[]⟩=pure (ps.zip us)
theorem Qai{h:Heap}{x:Str}{st:Stmt}{ps:List Str}{k n:Nat}{Γ:List (Str×FnR)}{cs:List (Str×Cn)}{g:DS}(X:K.In h)(G:h.Ns mainGlobals mg)(F:Fact K x st)(S:Qar (namesOf (Qd st)) ps (Qd st))(B:QI x st ps)(M:Qb5 mg cs)(tab:Qan P w K mg base k Γ)
  (hc:Q5 n (Qbw st Γ cs) (QM st)=some g):Known P w K mg base (k+1) x ⟨ps.length,[],Qw (namesOf (Qd st)).length g⟩:=by
 obtain⟨f,fd,Fn,a⟩:=F.ex
 refine⟨f,fd,ps,Qwl Fn S M tab hc,Zat X G a,Fn.kp,λm hm=>⟨[],[],Fn.binds (B ·),.nil,λH=>by simp[Rps]⟩⟩
end
end HS
namespace HS
open PySem PySem.Spec L2 PyProof.Rows
theorem Qru{l:PySem.W.OpenLaw}{k:Nat}{q:Program}{loose:List Str}{XP:(Str->Option Value)->Heap->Prop}{YP:World->Heap->Prop}{d:DefRec}{K:Params->PySem.W.Frag}{den:Den}{x:Str}
  (hn:l.most=some 63) (hdf:d.params.defaults=[]) (hr:QU k callerA) (hY:∀(w:World) (h:Heap),YP w h->(K w.params).In h)
  (hden:∀ns:List Int,ns.length<=63->∃fr,den [.lst (ns.map .int)]=some (.bl true,fr))
  (F:∀(w:World) (mg:Str->Option Value) (fa:Addr) (h:Heap),(K w.params).In h->h.Ns mainGlobals mg->mg d.name=some (.ref fa)→
   ∃fd:FuncData,(∀(s:Shared) (u:Value),BindsTo s fd ⟨[u],[]⟩ [(x,u)])∧
    ∀base:Heap,(K w.params).In base->base.Ns mainGlobals mg->Q4 l.prog w (K w.params) mg base CX0 k fa fd [x] (spV (K w.params) 1 den)):
  PySem.W.WalkO q loose XP YP l.row.toRowW d [] (λf vs=>PySem.call f vs):=by
 refine Att.QhS hn hdf λw s₀ s₁ mg mb fa o pm cd doc a vs ns G Y ho hd hcd hmg hobj hints hlen hg=>?_
 have KX:=hY w _ Y
 obtain⟨fd,hb,hF⟩:=F w mg fa _ KX G.T.g hmg
 have h63:(63:Nat)<=sizeLine:=by decide
 refine QmW KX G.T.g G.T.b G.T.builtins G.T.nolimit hg hobj hints (ZF hlen h63) hr hF hb (λH hO hS=>?_) λH e s' z=>z
 have fx:Fix (K w.params) H a (ns.map V.int):=by
  rcases hS with(h | ⟨o,h⟩) | ⟨o,its,n,hk,hc,hdn,hda,hz,rv⟩
  ·rcases hO a with z | ⟨o,xs,z⟩<;>rw[h]at z<;>cases z
  ·exact .inl ⟨o,h⟩
  ·have e:=KX a o hk
   rw[hobj]at e
   cases e
   cases hda
   exact .inr ⟨vs,_,hk,by rw[Zp];exact ZF hlen h63,by simpa using rv⟩
 obtain⟨fr,hfr⟩:=hden ns hlen
 have rp:Rp (K w.params) H (.lst (ns.map .int)) (.ref a) []:=by
  simp only[Rp]
  refine⟨by rw[Zp];exact ZF hlen h63,a,_,rfl,.inr ⟨fx,?_⟩⟩
  have gen:∀ns:List Int,Rps (K w.params) H (ns.map .int) (ns.map .int) []:=by
   intro ns
   induction ns with
   | nil=>simp[Rps]
   | cons n ns ih=>simp only[Zw,Rps];exact⟨_,_,[],[],rfl,rfl,.int_mk,ih⟩
  exact gen ns
 refine⟨[.lst (ns.map .int)],[],.bl true,fr,?_,rfl,hfr,λv H' G r=>r.rp.QeG⟩
 simp only[Rps]
 exact⟨_,_,[],[],rfl,rfl,rp,rfl,rfl⟩
end HS
namespace HS
open PySem PySem.Spec PyProof.Rows L2
section
variable {P:Program}{w:World}{K:PySem.W.Frag}{mg:Str->Option Value}{base:Heap}
end
end HS
namespace HS
open PySem PySem.Spec L2 PyProof.Rows
noncomputable def hide(H:Hp)(P:List Addr):Hp:=λa=>if a∈P then none else H a
noncomputable def Qci:Option HO->Prop
 | some (.lst _)=>True
 | some (.ins _ _ _)=>True
 | some (.dT _)=>True
 | _=>False
section
variable {K:PySem.W.Frag}{H H':Hp}{P:List Addr}
theorem Qfv{a:Addr}(h:a∈P):hide H P a=none:=if_pos h
theorem QeN{a:Addr}(h:a∉P):hide H P a=H a:=if_neg h
theorem Qkg{a:Addr}(h:hide H P a=none):a∈P∨H a=none:=by
 by_cases q:a∈P
 ·exact .inl q
 ·rw[QeN q]at h;exact .inr h
theorem Qpc:Qr (hide H P) H:=λb o h=>by
 by_cases q:b∈P
 ·rw[Qfv q]at h;cases h
 ·rw[QeN q]at h;exact h
theorem Qak(s:Qr (hide H P) H'){a:Addr}{u:HO}(h:H a=some u)(n:a∉P):H' a=some u:=s a u (by rw[QeN n];exact h)
theorem Qhv(hm:∀a∈P,Qci (H a)){a:Addr}{u:HO}(h:H a=some u)(n:¬Qci (some u)):a∉P:=λz=>n (h▸hm a z)
theorem Qb3.mut{v:V}{vs:List V}{A:List Addr}:∀{o:Ob},Qb3 K H v vs A o->∀a∈A,Qci (H a)
 | .ins _ _,⟨a,C,dx,e1,e2,e3,e4,e5⟩,b,hb=>by rw[e2]at hb;rw[Zl.mp hb,e4];exact True.intro
 | .pin _,⟨_,_,e⟩,b,hb=>by rw[e]at hb;simp at hb
 | .pair,⟨e,_⟩,b,hb=>by rw[e]at hb;simp at hb
theorem Qb3.but(s:Qr (hide H P) H'){v:V}{vs:List V}{A:List Addr}:∀{o:Ob},Qb3 K H v vs A o->(∀a∈A,a∉P)->Qb3 K H' v vs A o
 | .ins _ _,⟨a,C,dx,e1,e2,e3,e4,e5⟩,hn=>⟨a,C,dx,e1,e2,e3,Qak s e4 (hn a (by rw[e2];exact List.mem_singleton_self a)),e5⟩
 | .pin _,h,_=>h
 | .pair,h,_=>h
mutual
theorem Rp.mut:∀{d:D}{v:V}{F:List Addr},Rp K H d v F->∀a∈F,Qci (H a)
 | .non,_,_,h,a,ha=>by simp only[Rp]at h;rw[h.2]at ha;simp at ha
 | .bl _,_,_,h,a,ha=>by simp only[Rp]at h;rw[h.2]at ha;simp at ha
 | .int _,_,_,h,a,ha=>by simp only[Rp]at h;rw[h.2]at ha;simp at ha
 | .str _,_,_,h,a,ha=>by simp only[Rp]at h;rw[h.2]at ha;simp at ha
 | .exc _,_,_,h,a,ha=>by simp only[Rp]at h;rw[h.2]at ha;simp at ha
 | .dk _,_,_,h,a,ha=>by simp only[Rp]at h;obtain⟨b,e,eF,q⟩:=h;subst eF;rw[Zl.mp ha,q];exact True.intro
 | .obj _ _,_,_,h,a,ha=>by
  simp only[Rp]at h
  obtain⟨vs,A,G,eF,q,r⟩:=h
  subst eF
  exact(Zm.mp ha).elim (q.mut a) (Rps.mut r a)
 | .tup ds,_,_,h,a,ha=>by
  simp only[Rp]at h
  obtain⟨_,vs,e,q,r⟩:=h
  exact Rps.mut r a ha
 | .lst ds,_,_,h,a,ha=>by
  simp only[Rp]at h
  obtain⟨_,b,vs,e,⟨G,eF,q,r⟩ | ⟨q,r⟩⟩:=h
  ·subst eF
   rcases Zo.mp ha with z | z
   ·rw[z,q];exact True.intro
   ·exact Rps.mut r a z
  ·exact Rps.mut r a ha
theorem Rps.mut:∀{ds:List D}{vs:List V}{F:List Addr},Rps K H ds vs F->∀a∈F,Qci (H a)
 | [],_,_,h,a,ha=>by simp only[Rps]at h;rw[h.2]at ha;simp at ha
 | d::ds,_,_,h,a,ha=>by
  simp only[Rps]at h
  obtain⟨v,ws,F1,F2,e,eF,r,q⟩:=h
  subst eF
  exact(Zm.mp ha).elim (Rp.mut r a) (Rps.mut q a)
end
theorem QuV(hm:∀a∈P,Qci (H a))(s:Qr (hide H P) H'){a:Addr}{vs:List V}(h:SqT K H a vs):SqT K H' a vs:=by
 rcases h with(h | ⟨o,h⟩) | h
 ·exact .inl (.inl (Qak s h (Qhv hm h λz=>z)))
 ·exact .inl (.inr ⟨o,Qak s h (Qhv hm h λz=>z)⟩)
 ·exact .inr h
theorem QtQ(hm:∀a∈P,Qci (H a))(s:Qr (hide H P) H'){a:Addr}{vs:List V}(h:Fix K H a vs):Fix K H' a vs:=by
 rcases h with⟨o,h⟩ | h
 ·exact .inl ⟨o,Qak s h (Qhv hm h λz=>z)⟩
 ·exact .inr h
mutual
theorem Rp.but(hm:∀a∈P,Qci (H a))(s:Qr (hide H P) H'):∀{d:D}{v:V}{F:List Addr},Rp K H d v F->(∀a∈F,a∉P)->Rp K H' d v F
 | .exc _,_,_,h,_=>by
  simp only[Rp]at h ⊢
  obtain⟨⟨a,e,C,q1,q2⟩,z⟩:=h
  exact⟨⟨a,e,C,q1,Qak s q2 (Qhv hm q2 λz=>z)⟩,z⟩
 | .dk _,_,_,h,hn=>by
  simp only[Rp]at h ⊢
  obtain⟨a,e,eF,q⟩:=h
  subst eF
  exact⟨a,e,rfl,Qak s q (hn a (List.mem_singleton_self a))⟩
 | .obj _ _,_,_,h,hn=>by
  simp only[Rp]at h ⊢
  obtain⟨vs,A,G,eF,q,r⟩:=h
  subst eF
  exact⟨vs,A,G,rfl,q.but s λa z=>hn a (Zd _ z),Rps.but hm s r λa z=>hn a (Ze _ z)⟩
 | .non,_,_,h,_=>h
 | .bl _,_,_,h,_=>h
 | .int _,_,_,h,_=>h
 | .str _,_,_,h,_=>h
 | .tup ds,_,_,h,hn=>by
  simp only[Rp]at h ⊢
  obtain⟨a,vs,e,q,r⟩:=h
  exact⟨a,vs,e,QuV hm s q,Rps.but hm s r hn⟩
 | .lst ds,_,_,h,hn=>by
  simp only[Rp]at h ⊢
  obtain⟨hz,a,vs,e,⟨G,eF,q,r⟩ | ⟨q,r⟩⟩:=h
  ·subst eF
   exact⟨hz,a,vs,e,.inl ⟨G,rfl,Qak s q (hn a Zj),Rps.but hm s r λb z=>hn b (Zb _ z)⟩⟩
  ·exact⟨hz,a,vs,e,.inr ⟨QtQ hm s q,Rps.but hm s r hn⟩⟩
theorem Rps.but(hm:∀a∈P,Qci (H a))(s:Qr (hide H P) H'):∀{ds:List D}{vs:List V}{F:List Addr},Rps K H ds vs F->(∀a∈F,a∉P)->Rps K H' ds vs F
 | [],_,_,h,_=>h
 | d::ds,_,_,h,hn=>by
  simp only[Rps]at h ⊢
  obtain⟨v,ws,F1,F2,e,eF,r,q⟩:=h
  subst eF
  exact⟨v,ws,F1,F2,e,rfl,Rp.but hm s r λb z=>hn b (Zd _ z),Rps.but hm s q λb z=>hn b (Ze _ z)⟩
end
end
def Qih(H0:Hp)(hs:List (V×D×List Addr))(ρ:En)(F:Nat->List Addr)(i:Nat)(a:Addr):Prop:=
 H0 a=none/\(∀(j:Nat) d b,ρ[j]? =some (some (d,b))->j≠i->a∉F j)/\∀t∈hs,a∉t.2.2
section
variable {K:PySem.W.Frag}{H0 H H':Hp}{A0:List Addr}{hs:List (V×D×List Addr)}{ρ:En}{F:Nat->List Addr}{σ:L2.St}{i:Nat}{d d':D}{v:V}{G:List Addr}
theorem Rel.Qjk(r:Rel K H0 A0 hs ρ F σ H)(e:ρ[i]? =some (some (d,true))){a:Addr}(h:a∈F i∨H a=none):Qih H0 hs ρ F i a:=by
 rcases h with h | h
 ·obtain⟨_,_,h3,h4,h5⟩:=r.own i d e
  exact⟨h3 a h,λj d' b' ej hj=>h4 j d' b' hj ej a h,λt ht=>h5 t ht a h⟩
 ·refine⟨r.same.free h,λj d' b' ej hj z=>?_,λt ht z=>?_⟩
  ·obtain⟨u,q⟩:=r.mem ej z
   rw[h]at q;cases q
  ·obtain⟨u,q⟩:=(r.held t ht).1.mem a z
   rw[h]at q;cases q
theorem Rel.io(r:Rel K H0 A0 hs ρ F σ H)(e:ρ[i]? =some (some (d,true)))(hv:σ[i]? =some (some v))(s:Qr (hide H (F i)) H')(rp:Rp K H' d' v G)(nd:G.Nodup)(nl:G.length=d'.nl)(sub:∀a∈G,Qih H0 hs ρ F i a):
  Rel K H0 A0 hs (ρ.set i (some (d',true))) (λj=>if j=i then G else F j) σ H':=by
 obtain⟨o1,o2,o3,o4,o5⟩:=r.own i d e
 obtain⟨w,hw,rpi⟩:=r.val i d true e
 have hm:∀a∈F i,Qci (H a):=rpi.mut
 have hl:i<ρ.length:=(Zh.mp e).1
 refine⟨by rw[Zar];exact r.len,λj d2 b ej=>?_,λj d2 ej=>?_,λj d2 b ej a ha=>?_,λt ht=>⟨(r.held t ht).1.but hm s λa ha z=>o5 t ht a z ha,(r.held t ht).2⟩,λb u hb=>?_⟩
 ·by_cases hj:j=i
  ·subst hj
   rw[Zn hl]at ej
   cases ej
   exact⟨v,hv,by rw[if_pos rfl];exact rp⟩
  ·rw[Zf (Ne.symm hj)]at ej
   obtain⟨v2,h1,h2⟩:=r.val j d2 b ej
   exact⟨v2,h1,by rw[if_neg hj];exact h2.but hm s λa ha z=>o4 j d2 b hj ej a z ha⟩
 ·by_cases hj:j=i
  ·subst hj
   rw[Zn hl]at ej
   cases ej
   rw[if_pos rfl]
   refine⟨nl,nd,λa ha=>(sub a ha).1,λk d3 b3 hk ek a ha=>?_,λt ht a ha=>(sub a ha).2.2 t ht⟩
   rw[Zf (Ne.symm hk)]at ek
   rw[if_neg hk]
   exact(sub a ha).2.1 k d3 b3 ek hk
  ·rw[Zf (Ne.symm hj)]at ej
   obtain⟨p1,p2,p3,p4,p5⟩:=r.own j d2 ej
   rw[if_neg hj]
   refine⟨p1,p2,p3,λk d3 b3 hk ek a ha=>?_,p5⟩
   by_cases hki:k=i
   ·subst hki
    rw[if_pos rfl]
    exact λz=>(sub a z).2.1 j d2 true ej hj ha
   ·rw[Zf (Ne.symm hki)]at ek
    rw[if_neg hki]
    exact p4 k d3 b3 hk ek a ha
 ·by_cases hj:j=i
  ·subst hj
   rw[if_pos rfl]at ha
   exact .inl (sub a ha).1
  ·rw[Zf (Ne.symm hj)]at ej
   rw[if_neg hj]at ha
   exact r.src j d2 b ej a ha
 ·exact Qak s (r.same b u hb) λz=>by rw[o3 b z]at hb;cases hb
theorem Rel.new(r:Rel K H0 A0 hs ρ F σ H)(rp:Rp K H d v G)(nd:G.Nodup)(nl:G.length=d.nl)(sub:∀a∈G,Qih H0 hs ρ F i a):
  Rel K H0 A0 hs (ρ.set i (some (d,true))) (λj=>if j=i then G else F j) (σ.set i (some v)) H:=by
 have lt:∀{y:D×Bool},(ρ.set i (some (d,true)))[i]? =some (some y)->i<ρ.length:=λ{y} e=>by
  by_cases hl:i<ρ.length
  ·exact hl
  ·rw[Zr (by simp;omega)]at e;cases e
 refine⟨by simp[r.len],λj d2 b ej=>?_,λj d2 ej=>?_,λj d2 b ej a ha=>?_,r.held,r.same⟩
 ·by_cases hj:j=i
  ·subst hj
   have hl:=lt ej
   rw[Zn hl]at ej
   cases ej
   exact⟨v,by rw[Zn (by rw[← r.len];exact hl)],by rw[if_pos rfl];exact rp⟩
  ·rw[Zf (Ne.symm hj)]at ej
   obtain⟨v2,h1,h2⟩:=r.val j d2 b ej
   exact⟨v2,by rw[Zf (Ne.symm hj)];exact h1,by rw[if_neg hj];exact h2⟩
 ·by_cases hj:j=i
  ·subst hj
   have hl:=lt ej
   rw[Zn hl]at ej
   cases ej
   rw[if_pos rfl]
   refine⟨nl,nd,λa ha=>(sub a ha).1,λk d3 b3 hk ek a ha=>?_,λt ht a ha=>(sub a ha).2.2 t ht⟩
   rw[Zf (Ne.symm hk)]at ek
   rw[if_neg hk]
   exact(sub a ha).2.1 k d3 b3 ek hk
  ·rw[Zf (Ne.symm hj)]at ej
   obtain⟨p1,p2,p3,p4,p5⟩:=r.own j d2 ej
   rw[if_neg hj]
   refine⟨p1,p2,p3,λk d3 b3 hk ek a ha=>?_,p5⟩
   by_cases hki:k=i
   ·subst hki
    rw[if_pos rfl]
    exact λz=>(sub a z).2.1 j d2 true ej hj ha
   ·rw[Zf (Ne.symm hki)]at ek
    rw[if_neg hki]
    exact p4 k d3 b3 hk ek a ha
 ·by_cases hj:j=i
  ·subst hj
   rw[if_pos rfl]at ha
   exact .inl (sub a ha).1
  ·rw[Zf (Ne.symm hj)]at ej
   rw[if_neg hj]at ha
   exact r.src j d2 b ej a ha
end
end HS
namespace HS
open PySem PySem.Spec L2 PyProof.Rows
inductive QaD (K:PySem.W.Frag) (ρ:En) (F:Nat->List Addr) (σ:L2.St) (i:Nat):Hp->Hp->List (Option R)->List V->List (List Addr)->Prop
 | nil {H:Hp}:QaD K ρ F σ i H H [] [] []
 | val {H H1 H2:Hp}{r:R}{v:V}{G:List Addr}{rs:List (Option R)}{vs:List V}{Gs:List (List Addr)}(p:QN K ρ F H H1 r v G) (t:QaD K ρ F σ i H1 H2 rs vs Gs):QaD K ρ F σ i H H2 (some r::rs) (v::vs) (G::Gs)
 | slot {H H2:Hp}{v:V}{rs:List (Option R)}{vs:List V}{Gs:List (List Addr)}(e:σ[i]? =some (some v)) (t:QaD K ρ F σ i H H2 rs vs Gs):QaD K ρ F σ i H H2 (none::rs) (v::vs) (F i::Gs)
noncomputable def evs:List (Option DE)->En->Option (List (Option R))
 | [],_=>some []
 | some f::fs,ρ=>(f ρ).bind λr=>(evs fs ρ).map λrs=>some r::rs
 | none::fs,ρ=>(evs fs ρ).map λrs=>none::rs
noncomputable def tVL(K:PySem.W.Frag)(H0:Hp)(A0:List Addr)(i:Nat)(fs:List (Option DE)):TA:=λσ H Q=>∃ρ hs F rs,Rel K H0 A0 hs ρ F σ H/\evs fs ρ=some rs/\(none∈fs->∃v,σ[i]? =some (some v))/\∀vs H' Gs,QaD K ρ F σ i H H' rs vs Gs->Q vs H'
noncomputable def QkU(X:Cx)(i:Nat)(e:Expr):Option DE->Prop
 | some f=>SE X e f
 | none=>PE X e (QbX i)
inductive Qa7 (X:Cx) (i:Nat):List Expr->List (Option DE)->Prop
 | nil:Qa7 X i [] []
 | cons {e:Expr}{f:Option DE}{es:List Expr}{fs:List (Option DE)}(h:QkU X i e f) (s:∀es env,starEach (e::es) env=(false,eval e env)::starEach es env) (t:Qa7 X i es fs):Qa7 X i (e::es) (f::fs)
section
variable {X:Cx}{i:Nat}{es:List Expr}{fs:List (Option DE)}
theorem Qa7.any(h:Qa7 X i es fs)(pos:Pos)(env:Env):(backTo pos (starEach es env)).any (·.1)=false:=by
 induction h with
 | nil=>rfl
 | cons h s t ih=>rw[s];simpa[backTo]using ih
theorem QuZ(h:Qa7 X i es fs)(H0:Hp)(A0:List Addr):PA X es (tVL X.K H0 A0 i fs):=by
 induction h with
 | nil=>exact QbJ.mono λσ H Q ⟨ρ,hs,F,rs,rel,e,hv,q⟩=>by cases e;exact q _ _ _ .nil
 | @cons e f es fs h s t ih=>
  cases f with
  | some f=>
   refine(Qag ((show SE X e f from h) H0 A0) ih (s _ _)).mono λσ H Q hpt=>?_
   obtain⟨ρ,hs,F,rs,rel,e,hv,q⟩:=hpt
   refine Qc e λr e1 e=>?_
   obtain⟨rs',e2,rfl⟩:=Zc.mp e
   exact⟨ρ,hs,F,r,rel,e1,λv H1 G p=>⟨ρ,hs,F,rs',rel.ext p.same,e2,λz=>hv (Zb _ z),λvs H' Gs pl=>q _ _ _ (.val p pl)⟩⟩
  | none=>
   refine(Qag (show PE X e (QbX i)from h) ih (s _ _)).mono λσ H Q hpt=>?_
   obtain⟨ρ,hs,F,rs,rel,e,hv,q⟩:=hpt
   obtain⟨rs',e2,rfl⟩:=Zc.mp e
   obtain⟨v,ev⟩:=hv Zj
   exact⟨v,ev,ρ,hs,F,rs',rel,e2,λz=>hv (Zb _ z),λvs H' Gs pl=>q _ _ _ (.slot ev pl)⟩
end
structure QgP (K:PySem.W.Frag) (H:Hp) (Fp:List Addr) (d dp:D) (vp v:V) (H':Hp) (G Gp:List Addr):Prop where
 same:Qr (hide H Fp) H'
 rp:Rp K H' d v G
 rpp:Rp K H' dp vp Gp
 nd:(G++Gp).Nodup
 len:G.length=d.nl
 lenp:Gp.length=dp.nl
 fr:∀a∈G++Gp,a∈Fp∨H a=none
noncomputable abbrev QbZ:=List D->Option (D×D)
noncomputable def Qer(K:PySem.W.Frag)(n p:Nat)(den:QbZ):Sp:=λvs H Q _=>∃(ds:List D) (F:Nat->List Addr) (a:Addr) (d dp:D),ds.length=n/\vs.length=n/\(∀j dj,ds[j]? =some dj->∃v,vs[j]? =some v/\Rp K H dj v (F j))/\p<n/\vs[p]? =some (.ref a)∧
 (F p).Nodup/\(F p).length=(ds.getD p .non).nl/\(∀j,j<n->j≠p->∀b∈F p,b∉F j)/\den ds=some (d,dp)/\∀v H' G Gp,QgP K H (F p) d dp (.ref a) v H' G Gp->Q v H'
noncomputable def Qcv(k p:Nat)(a:Addr)(ds:List D):En:=(Qad k ds).set p (some (.obj (.pin a) [ds.getD p .non],true))
noncomputable def Qhs(p:Nat)(a:Addr):Out->Option (D×D)
 | .rt (.obj .pair [d,.obj (.pin b) [dp]]) true=>if b=a then some (d,dp)else none
 | .nx ρ=>match ρ[p]? with
  | some (some (.obj (.pin b) [dp],true))=>if b=a then some (.non,dp)else none
  | _=>none
 | _=>none
def UIO(k p:Nat)(g:DS)(den:QbZ):Prop:=∀ds q,den ds=some q->∀a,∃o,g (Qcv k p a ds)=some o/\Qhs p a o=some q
section
variable {K:PySem.W.Frag}{H H':Hp}
theorem Rps.QuT{d:D}{v:V}{F:List Addr}(h:Rps K H [d] [v] F):Rp K H d v F:=by
 simp only[Rps]at h
 obtain⟨u,ws,F1,F2,e,eF,r,e2,e3⟩:=h
 cases e
 rw[eF,e3,ZD];exact r
theorem Rps.Ql8{d:D}{v:V}{F:List Addr}(h:Rp K H d v F):Rps K H [d] [v] F:=by
 simp only[Rps]
 exact⟨v,[],F,[],rfl,(ZD F).symm,h,rfl,rfl⟩
theorem Rp.QbK{a:Addr}{d:D}{v:V}{F:List Addr}(h:Rp K H (.obj (.pin a) [d]) v F):v= .ref a/\Rp K H d v F:=by
 simp only[Rp]at h
 obtain⟨vs,A,G,eF,⟨e1,e2,e3⟩,r⟩:=h
 subst e2 e3
 rw[eF,ZaZ]
 exact⟨e1,r.QuT⟩
theorem Rp.Qg9{a:Addr}{d:D}{F:List Addr}(h:Rp K H d (.ref a) F):Rp K H (.obj (.pin a) [d]) (.ref a) F:=by
 simp only[Rp]
 exact⟨[.ref a],[],F,rfl,⟨rfl,rfl,rfl⟩,Rps.Ql8 h⟩
theorem Rp.QrL{d e:D}{v:V}{F:List Addr}(h:Rp K H (.obj .pair [d,e]) v F):∃u F1 F2,F=F1++F2/\Rp K H d v F1/\Rp K H e u F2:=by
 simp only[Rp]at h
 obtain⟨vs,A,G,eF,⟨e1,_,u,e2⟩,r⟩:=h
 subst e1 e2
 simp only[Rps]at r
 obtain⟨v',ws,F1,F2,e1,e2,r1,u',ws',F3,F4,e3,e4,r2,e5,e6⟩:=r
 cases e1
 cases e3
 subst e6
 exact⟨u,F1,F3,by rw[eF,e2,e4,ZD,ZaZ],r1,r2⟩
theorem Rp.QtD{d e:D}{v u:V}{F1 F2:List Addr}(h1:Rp K H d v F1)(h2:Rp K H e u F2)(hn:v≠ .non):Rp K H (.obj .pair [d,e]) v (F1++F2):=by
 simp only[Rp]
 refine⟨[v,u],[],F1++F2,rfl,⟨rfl,hn,u,rfl⟩,?_⟩
 simp only[Rps]
 exact⟨v,[u],F1,F2,rfl,rfl,h1,u,[],F2,[],rfl,(ZD F2).symm,h2,rfl,rfl⟩
theorem QbH(a:Addr)(d:D):(D.obj (.pin a) [d]).nl=d.nl:=by simp only[D.nl,nls,Ob.n];omega
theorem QnJ(d e:D):(D.obj .pair [d,e]).nl=d.nl+e.nl:=by simp only[D.nl,nls,Ob.n];omega
end
section
variable {P:Program}{w:World}{K:PySem.W.Frag}{mg:Str->Option Value}{base:Heap}
theorem QdJ{k p:Nat}{a:Addr}{ds:List D}{j:Nat}{d:D}{b:Bool}(h:(Qcv k p a ds)[j]? =some (some (d,b))):(j=p/\d= .obj (.pin a) [ds.getD p .non]/\b=true)∨(j≠p/\ds[j]? =some d/\b=d.flat):=by
 unfold Qcv at h
 by_cases hj:j=p
 ·subst hj
  by_cases hl:j<(Qad k ds).length
  ·rw[Zn hl]at h
   cases h
   exact .inl ⟨rfl,rfl,rfl⟩
  ·rw[Zr (by simp;omega)]at h;cases h
 ·rw[Zf (Ne.symm hj)]at h
  obtain⟨h1,h2⟩:=Qfm h
  exact .inr ⟨hj,h1,h2⟩
theorem Qng{H:Hp}{ds:List D}{vs:List V}{F:Nat->List Addr}{N:List Str}{n p:Nat}{a:Addr}(hl:ds.length=n)(hvl:vs.length=n)(hv:∀j dj,ds[j]? =some dj->∃v,vs[j]? =some v/\Rp K H dj v (F j))(hp:p<n)(ha:vs[p]? =some (.ref a))
  (nd:(F p).Nodup) (ln:(F p).length=(ds.getD p .non).nl) (ap:∀j,j<n->j≠p->∀b∈F p,b∉F j):Rel K (hide H (F p)) ((List.range n).flatMap F) [] (Qcv N.length p a ds) F (start N vs) H:=by
 have at_:∀{j:Nat}{v:V},vs[j]? =some v->(start N vs)[j]? =some (some v):=λ{j v} e=>by
  have hi:j<vs.length:=(Zh.mp e).1
  unfold L2.start
  rw[ZW (by simpa using hi),ZA,e];rfl
 have hd:ds[p]? =some (ds.getD p .non):=by rw[ZC,ZE (by omega)];rfl
 obtain⟨v0,e0,r0⟩:=hv p _ hd
 rw[ha]at e0
 cases e0
 have inA:∀{j:Nat}{b:Addr},j<n->b∈F j->b∈(List.range n).flatMap F:=λ{j b} h1 h2=>List.mem_flatMap.mpr ⟨j,ZQ.mpr h1,h2⟩
 refine⟨by unfold Qcv Qad L2.start;simp[hl,hvl],λj d b e=>?_,λj d e=>?_,λj d b e c hc=>?_,λt ht=>absurd ht (by simp),Qpc⟩
 ·rcases QdJ e with⟨rfl,rfl,rfl⟩ | ⟨hj,e1,_⟩
  ·exact⟨_,at_ ha,Rp.Qg9 r0⟩
  ·obtain⟨v,h1,h2⟩:=hv j d e1
   exact⟨v,at_ h1,h2⟩
 ·rcases QdJ e with⟨rfl,rfl,_⟩ | ⟨hj,e1,ef⟩
  ·refine⟨by rw[QbH];exact ln,nd,λc hc=>Qfv hc,λk d' b' hk ek c hc=>?_,λt ht=>absurd ht (by simp)⟩
   rcases QdJ ek with⟨z,_⟩ | ⟨_,e2,_⟩
   ·exact absurd z hk
   ·have:k<ds.length:=(Zh.mp e2).1
    exact ap k (by omega) hk c hc
  ·obtain⟨v,h1,h2⟩:=hv j d e1
   have z:F j=[]:=h2.Qbc ef.symm
   rw[z]
   exact⟨(QcV d ef.symm).symm,Zab,λa ha=>by simp at ha,λ_ _ _ _ _ a ha=>by simp at ha,λ_ _ a ha=>by simp at ha⟩
 ·rcases QdJ e with⟨rfl,_⟩ | ⟨_,e1,_⟩
  ·exact .inl (Qfv hc)
  ·have:j<ds.length:=(Zh.mp e1).1
   exact .inr (inA (by omega) hc)
theorem Qse{n p:Nat}{den:QbZ}{ps:List Str}(hn:ps.length=n):∀vs H Q E,Qer K n p den vs H Q E->vs.length=ps.length:=λvs H Q E ⟨ds,F,a,d,dp,h1,h2,_⟩=>by rw[hn,h2]
theorem Quq{H:Hp}{F:Nat->List Addr}{p:Nat}{a:Addr}{A0:List Addr}{o:Out}{d dp:D}{Q:VK}(ho:Qhs p a o=some (d,dp))(q:∀v H' G Gp,QgP K H (F p) d dp (.ref a) v H' G Gp->Q v H'):
  Fits K (hide H (F p)) A0 [] {nx:=λ_ H'=>Q .non H',rt:=Q} o:=by
 unfold Qhs at ho
 split at ho
 ·rename_i d' b dp'
  split at ho
  ·rename_i hb
   cases ho
   subst hb
   refine λv H' G rt=>?_
   obtain⟨u,G1,G2,eG,r1,r2⟩:=rt.rp.QrL
   obtain⟨e,r3⟩:=r2.QbK
   subst e eG
   obtain⟨n1,n2,n3⟩:=rt.cnt rfl
   rw[QnJ,QbH,Zk]at n2
   have l1:=r1.QS
   have l2:=r3.QS
   exact q v H' G1 G2 ⟨rt.same,r1,r3,n1,by omega,by omega,λc hc=>Qkg (n3 c hc)⟩
  ·cases ho
 ·rename_i ρ
  split at ho
  ·rename_i b dp' hρ
   split at ho
   ·rename_i hb
    cases ho
    subst hb
    refine λσ H' F' rel=>?_
    obtain⟨v,e,rp⟩:=rel.val p _ _ hρ
    obtain⟨e,r3⟩:=rp.QbK
    subst e
    obtain⟨o1,o2,o3,_,_⟩:=rel.own p _ hρ
    rw[QbH]at o1
    exact q .non H' [] (F' p) ⟨rel.same,.QfN,r3,by simpa using o2,rfl,o1,λc hc=>Qkg (o3 c (by simpa using hc))⟩
   ·cases ho
  ·cases ho
 ·cases ho
theorem Qxh{x qual:Str}{st:Stmt}{f:Addr}{fd:FuncData}{ps:List Str}{k n p:Nat}{Θ:Th}{g:DS}{den:QbZ}(F:Fun K x qual st f fd)(S:Qar (namesOf (Qd st)) ps (Qd st))
  (hΘ:∀(cdv:Value) (A:Around) (outer:List Env) (s:Shared) (H:Hp) (E:XK),QU k (A.deeper (envOfC qual (Qd st) s.heap.objs.size f cdv))->Qt (Qcl CX0 P w K mg base (namesOf (Qd st)) qual (Qd st) f cdv A outer s H E).nox Θ)
  (hc:Q5 n Θ (QM st)=some g) (hU:UIO (namesOf (Qd st)).length p g den):Q4 P w K mg base CX0 (k+1) f fd ps (Qer K ps.length p den):=by
 refine F.ok S (Qse rfl) λcdv A outer s H vs Q E hr h=>?_
 obtain⟨ds,L,a,d,dp,h1,h2,h3,h4,h5,h6,h7,h8,h9,q⟩:=h
 refine⟨_,(QfT n).Ss _ _ _ g (hΘ cdv A outer s H E hr) hc (hide H (L p)) ((List.range ps.length).flatMap L),?_⟩
 obtain⟨o,e1,e2⟩:=hU ds _ h9 a
 exact⟨_,[],L,o,Qng h1 h2 h3 h4 h5 h6 h7 h8,e1,Quq e2 q⟩
end
noncomputable def Qee(p:Nat)(fa:DE):DS:=λρ=>(fa ρ).bind λr=>match ρ[p]? with
 | some (some (dp,true))=>if(r.norm.fr && decide r.norm.M.Nodup && !r.norm.M.contains p && !r.d.Qof)=true then some (.rt (.obj .pair [r.d,dp]) true)else none
 | _=>none
section
variable {X:Cx}{e:Expr}{fa:DE}{pos:Pos}{p:Nat}
theorem Qs9(he:SE X e fa):S1 X (.Return (some e) pos) (Qee p fa):=λH0 A0=>(QlL (he H0 A0)).mono λE σ H=>exK λρ hs F o rel e q=>by
 refine Qc e λr e1 e=>?_
 split at e
 ·rename_i dp hρ
  split at e
  ·rename_i hc
   cases e
   simp only[Zg,decide_eq_true_eq,ZO]at hc
   obtain⟨⟨⟨c1,c2⟩,c3⟩,c4⟩:=hc
   refine⟨ρ,hs,F,r,rel,e1,λv H' G p1=>q v H' (G++F p) ?_⟩
   have p':=p1.norm
   obtain⟨g1,g2⟩:=p'.fresh rel c1 c2
   have g3:=(p'.cnt c1).2
   rw[r.QcN]at g3
   obtain⟨u,eu,ru⟩:=rel.val p dp true hρ
   obtain⟨o1,o2,o3,o4,o5⟩:=rel.own p dp hρ
   refine⟨rel.same.trans p1.same,Rp.QtD p1.rp (ru.same p1.same) ?_,λa ha=>?_,λ_=>⟨Zy.mpr ⟨g1,o2,λa ha b hb hab=>?_⟩,by rw[QnJ,Zk,g3,o1],λa ha=>?_⟩⟩
   ·have:=QtO p1.rp
    rw[c4]at this
    exact of_decide_eq_false this
   ·rcases Zm.mp ha with z | z
    ·exact .inl (g2 a z).1
    ·exact .inl (o3 a z)
   ·subst hab
    rcases(g2 a ha).2 with z | ⟨i,d,hi,ei,mi⟩
    ·obtain⟨w,hw⟩:=ru.mem a hb
     rw[z]at hw;cases hw
    ·have hne:i≠p:=λz=>by
      subst z
      have:r.norm.M.contains i=true:=ZI.mpr hi
      rw[this]at c3;cases c3
     exact o4 i d true hne ei a hb mi
   ·rcases Zm.mp ha with z | z
    ·exact(g2 a z).1
    ·exact o3 a z
  ·cases e
 ·cases e
end
end HS
namespace HS
open PySem PySem.Spec L2 PyProof.Rows
noncomputable abbrev ClT:=List (Str×List Str)
def QeS(K:PySem.W.Frag)(T:ClT):Prop:=∀x fs,look x T=some fs->∀C,PySem.W.nsIn K mainGlobals x=some (some (.ref C))->Cls K C/\∀f∈fs,Qby K C f
noncomputable def unp:D->D
 | .obj (.pin _) [d]=>d
 | d=>d
noncomputable def Qjw(T:ClT)(f:Str)(d:D):Option D:=match unp d with
 | .obj (.ins x ns) ds=>(look x T).bind λfs=>if fs.contains f=true then(posOf f ns).bind λj=>ds[j]? else none
 | _=>none
noncomputable def Qcf(T:ClT)(f:Str)(fa:DE):DE:=λρ=>(fa ρ).bind λr=>(Qjw T f r.d).map λd=>R.norm ⟨d,r.fr,r.M⟩
section
variable {K:PySem.W.Frag}{H H':Hp}
theorem Rp.unp{d:D}{v:V}{F:List Addr}(h:Rp K H d v F):Rp K H (HS.unp d) v F/\(HS.unp d).nl=d.nl:=by
 unfold HS.unp
 split
 ·exact⟨h.QbK.2,(QbH _ _).symm⟩
 ·exact⟨h,rfl⟩
theorem Rp.Qc2{x:Str}{ns:List Str}{ds:List D}{v:V}{F:List Addr}(h:Rp K H (.obj (.ins x ns) ds) v F):
  ∃a C dx vs G,v= .ref a/\F=a::G/\PySem.W.nsIn K mainGlobals x=some (some (.ref C))/\H a=some (.ins C dx (ns.zip vs))/\ns.length=vs.length/\Rps K H ds vs G:=by
 simp only[Rp]at h
 obtain⟨vs,A,G,eF,⟨a,C,dx,e1,e2,e3,e4,e5⟩,r⟩:=h
 subst e2
 exact⟨a,C,dx,vs,G,e1,eF,e3,e4,e5,r⟩
theorem Rp.Qjb{x:Str}{ns:List Str}{ds:List D}{a C dx:Addr}{vs:List V}{G:List Addr}(e3:PySem.W.nsIn K mainGlobals x=some (some (.ref C)))(e4:H a=some (.ins C dx (ns.zip vs)))(e5:ns.length=vs.length)(r:Rps K H ds vs G):Rp K H (.obj (.ins x ns) ds) (.ref a) (a::G):=by
 simp only[Rp]
 exact⟨vs,[a],G,rfl,⟨a,C,dx,rfl,rfl,e3,e4,e5⟩,r⟩
theorem Qf9{f:Str}:∀{ns:List Str}{vs:List V}{j:Nat}{v:V},posOf f ns=some j->vs[j]? =some v->(ns.zip vs).lookup f=some v
 | [],_,_,_,h,_=>by cases h
 | g::ns,[],_,_,_,e=>by simp at e
 | g::ns,u::vs,j,v,h,e=>by
  unfold posOf at h
  split at h
  ·rename_i hg
   cases h
   subst hg
   simp at e
   subst e
   simp[Zs]
  ·rename_i hg
   obtain⟨k,hk,rfl⟩:=Zc.mp h
   rw[ZaE,Zs,beq_eq_false_iff_ne.mpr hg]
   exact Qf9 hk (by simpa using e)
theorem Qb6{f:Str}:∀{ns:List Str}{vs:List V},f∉ns->(ns.zip vs).lookup f=none
 | [],_,_=>rfl
 | g::ns,[],_=>rfl
 | g::ns,u::vs,h=>by
  have h1:f≠g:=λz=>h (by rw[z];exact Zj)
  rw[ZaE,Zs,beq_eq_false_iff_ne.mpr h1]
  exact Qb6 λz=>h (Zb _ z)
theorem QmM{f:Str}{y:V}:∀{ns:List Str}{vs:List V}{j:Nat},posOf f ns=some j->ns.length=vs.length->QaW f y (ns.zip vs)=ns.zip (vs.set j y)
 | [],_,_,h,_=>by cases h
 | g::ns,[],_,_,e=>by simp at e
 | g::ns,u::vs,j,h,e=>by
  unfold posOf at h
  split at h
  ·rename_i hg
   cases h
   subst hg
   simp[QaW]
  ·rename_i hg
   obtain⟨k,hk,rfl⟩:=Zc.mp h
   rw[ZaE,QaW,if_neg (Ne.symm hg),QmM hk (by simpa using e)]
   rfl
theorem Qmn{f:Str}{y:V}:∀{ns:List Str}{vs:List V},posOf f ns=none->ns.length=vs.length->QaW f y (ns.zip vs)=(ns++[f]).zip (vs++[y])
 | [],[],_,_=>rfl
 | [],_::_,_,e=>by simp at e
 | g::ns,[],_,e=>by simp at e
 | g::ns,u::vs,h,e=>by
  unfold posOf at h
  split at h
  ·cases h
  ·rename_i hg
   have hk:posOf f ns=none:=by
    cases q:posOf f ns with
    | none=>rfl
    | some k=>rw[q]at h;cases h
   rw[ZaE,QaW,if_neg (Ne.symm hg),Qmn hk (by simpa using e)]
   rfl
end
section
variable {X:Cx}{T:ClT}{f:Str}{e:Expr}{fa:DE}{pos:Pos}
theorem QwU(hT:QeS X.K T)(he:SE X e fa)(hb:attributeBase e f X.env (eval e X.env)=eval e X.env):SE X (.Attribute e f pos) (Qcf T f fa):=λH0 A0=>(QwF (he H0 A0) hb).mono λσ H Q=>exK λρ hs F r rel e q=>by
 refine Qc e λra e1 e=>?_
 obtain⟨d,e2,rfl⟩:=Zc.mp e
 refine⟨ρ,hs,F,ra,rel,e1,λv H1 G p=>?_⟩
 unfold Qjw at e2
 obtain⟨ru,rn⟩:=p.rp.unp
 split at e2
 ·rename_i x ns ds hu
  rw[hu]at ru rn
  refine Qc e2 λfs h1 e2=>?_
  split at e2
  ·rename_i hf
   refine Qc e2 λj h2 e2=>?_
   obtain⟨a,C,dx,vs,G0,ev,eG,e3,e4,e5,rs⟩:=ru.Qc2
   obtain⟨c1,c2⟩:=hT x fs h1 C e3
   obtain⟨u,F1,G1,F2,g1,g2,g3,g4⟩:=rs.get e2
   refine⟨a,C,dx,_,u,ev,e4,c1,c2 f (ZI.mp hf),Qf9 h2 g1,q u H1 G1 (p.sub g3 (λb=>?_) λhl=>g4 ?_).norm⟩
   ·rw[eG,g2,Zao,ZY,ZY];omega
   ·rw[eG,Zi]at hl
    rw[← rn]at hl
    simp only[D.nl,Ob.n]at hl
    omega
  ·cases e2
 ·cases e2
end
noncomputable def putD(T:ClT)(f:Str)(y:D)(d:D):Option D:=match d with
 | .obj (.ins x ns) ds=>(look x T).bind λfs=>if(fs.contains f && decide (ns.length<1000))=true then(match posOf f ns with
  | some j=>if j<ds.length then some (.obj (.ins x ns) (ds.set j y))else none
  | none=>some (.obj (.ins x (ns++[f])) (ds++[y])))else none
 | _=>none
noncomputable def QgK(g:D->Option D)(d:D):Option D:=match d with
 | .obj (.pin a) [e]=>(g e).map λz=> .obj (.pin a) [z]
 | d=>g d
section
variable {K:PySem.W.Frag}{H0 H H':Hp}{A0:List Addr}{hs:List (V×D×List Addr)}{ρ:En}{F:Nat->List Addr}{σ:L2.St}{i:Nat}{d d' dy:D}{v y:V}{G:List Addr}{T:ClT}{f:Str}
theorem QdU{a:Addr}{u:HO}{P:List Addr}(h:a∈P):Qr (hide H P) (upd H a u):=λb o e=>by
 by_cases q:b∈P
 ·rw[Qfv q]at e;cases e
 ·rw[QeN q]at e
  rw[Qx (λz:b=a=>q (by rw[z];exact h))];exact e
theorem Qui{a:Addr}{L:List Addr}(hT:QeS K T)(rp:Rp K H d v L)(nd:L.Nodup)(ln:L.length=d.nl)(ry:Rp K H dy y G)(gn:G.Nodup)(gl:G.length=dy.nl)(ap:∀b∈G,b∉L)(e:putD T f dy d=some d'):
  ∃a C dx fs,v= .ref a/\H a=some (.ins C dx fs)/\Cls K C/\Qby K C f/\fs.length<1000/\a∈L/\∃L',Rp K (upd H a (.ins C dx (QaW f y fs))) d' v L'/\L'.Nodup/\L'.length=d'.nl/\∀b∈L',b∈L∨b∈G:=by
 unfold putD at e
 split at e
 ·rename_i x ns ds
  refine Qc e λfs h1 e=>?_
  split at e
  ·rename_i hc
   simp only[Zg,decide_eq_true_eq]at hc
   obtain⟨a,C,dx,vs,G0,ev,eL,e3,e4,e5,rs⟩:=rp.Qc2
   obtain⟨c1,c2⟩:=hT x fs h1 C e3
   subst eL
   obtain⟨na,n0⟩:=ZJ.mp nd
   have hm:∀b∈[a],Qci (H b):=λb hb=>by rw[Zl.mp hb,e4];exact True.intro
   have sm:∀u,Qr (hide H [a]) (upd H a u):=λu=>QdU (List.mem_singleton_self a)
   have keep:∀{b:Addr},b∈G0->b∉[a]:=λ{b} hb z=>na (by rw[Zl.mp z]at hb;exact hb)
   have keepG:∀{b:Addr},b∈G->b∉[a]:=λ{b} hb z=>ap b hb (by rw[Zl.mp z];exact Zj)
   have l0:G0.length=nls ds:=by
    rw[Zi]at ln
    simp only[D.nl,Ob.n]at ln
    omega
   refine⟨a,C,dx,_,ev,e4,c1,c2 f (ZI.mp hc.1),by rw[List.length_zip];omega,Zj,?_⟩
   subst ev
   split at e
   ·rename_i j hj
    split at e
    ·rename_i hlt
     cases e
     have hd:ds[j]? =some ds[j]:=ZE hlt
     obtain⟨F1,Gj,F2,w,eG,ew,r1,r2,r3⟩:=rs.split hd
     have hvl:j<vs.length:=(Zh.mp ew).1
     have i1:∀b∈F1,b∈G0:=λb hb=>by rw[eG];exact Zd _ hb
     have i2:∀b∈F2,b∈G0:=λb hb=>by rw[eG];exact Ze _ (Ze _ hb)
     have ij:∀b∈Gj,b∈G0:=λb hb=>by rw[eG];exact Ze _ (Zd _ hb)
     rw[eG]at n0
     obtain⟨m1,m2,m3⟩:=Zy.mp n0
     obtain⟨m4,m5,m6⟩:=Zy.mp m2
     refine⟨a::(F1++(G++F2)),Rp.Qjb e3 (by rw[QQ,QmM hj e5]) (by rw[Zar];exact e5) (Rps.Qn8 (r1.but hm (sm _) λb hb=>keep (i1 b hb)) (ry.but hm (sm _) λb hb=>keepG hb) (r3.but hm (sm _) λb hb=>keep (i2 b hb)) hlt hvl),?_,?_,λb hb=>?_⟩
     ·refine ZJ.mpr ⟨λz=>?_,Zy.mpr ⟨m1,Zy.mpr ⟨gn,m5,λb hb c hcc hbc=>?_⟩,λb hb c hcc hbc=>?_⟩⟩
      ·rcases Zm.mp z with z | z
       ·exact na (i1 a z)
       ·rcases Zm.mp z with z | z
        ·exact ap a z Zj
        ·exact na (i2 a z)
      ·subst hbc
       exact ap b hb (Zb _ (i2 b hcc))
      ·subst hbc
       rcases Zm.mp hcc with z | z
       ·exact ap b z (Zb _ (i1 b hb))
       ·exact m3 b hb b (Ze _ z) rfl
     ·have k1:=Qej (e:=dy) hd
      have k2:=r2.QS
      have k3:=congrArg List.length eG
      simp only[Zk]at k3
      have k4:=r1.QS
      have k5:=r3.QS
      have k6:nls ds=nls (ds.take j)+(ds[j].nl+nls (ds.drop (j+1))):=by
       have:ds=ds.take j++ds[j]::ds.drop (j+1):=by rw[← ZK hlt,Zau]
       have h':=congrArg nls this
       rw[Qa0]at h'
       exact h'
      simp only[D.nl,Ob.n,Zi,Zk]
      omega
     ·rcases Zo.mp hb with z | z
      ·exact .inl (by rw[z];exact Zj)
      ·rcases Zm.mp z with z | z
       ·exact .inl (Zb _ (i1 b z))
       ·rcases Zm.mp z with z | z
        ·exact .inr z
        ·exact .inl (Zb _ (i2 b z))
    ·cases e
   ·rename_i hj
    cases e
    refine⟨a::(G0++G),Rp.Qjb e3 (by rw[QQ,Qmn hj e5]) (by rw[Zk,Zk,e5];rfl) ((rs.but hm (sm _) λb hb=>keep hb).append (Rps.Ql8 (ry.but hm (sm _) λb hb=>keepG hb))),?_,?_,λb hb=>?_⟩
    ·refine ZJ.mpr ⟨λz=>?_,Zy.mpr ⟨n0,gn,λb hb c hcc hbc=>?_⟩⟩
     ·rcases Zm.mp z with z | z
      ·exact na z
      ·exact ap a z Zj
     ·subst hbc
      exact ap b hcc (Zb _ hb)
    ·simp only[D.nl,Ob.n,Zi,Zk,Qa0,nls]
     omega
    ·rcases Zo.mp hb with z | z
     ·exact .inl (by rw[z];exact Zj)
     ·rcases Zm.mp z with z | z
      ·exact .inl (Zb _ z)
      ·exact .inr z
  ·cases e
 ·cases e
theorem Qr3{g:D->Option D}{d d':D}(h:QgK g d=some d'):(∃a e z,d= .obj (.pin a) [e]/\g e=some z/\d'= .obj (.pin a) [z])∨g d=some d':=by
 unfold QgK at h
 split at h
 ·rename_i a e
  obtain⟨z,h1,h2⟩:=Zc.mp h
  exact .inl ⟨a,e,z,rfl,h1,h2.symm⟩
 ·exact .inr h
theorem Rel.QwW(hT:QeS K T)(r:Rel K H0 A0 hs ρ F σ H)(e:ρ[i]? =some (some (d,true)))(ry:Rp K H dy y G)(gn:G.Nodup)(gl:G.length=dy.nl)(gs:∀b∈G,Qih H0 hs ρ F i b/\b∉F i)(hp:QgK (putD T f dy) d=some d'):
  ∃v a C dx fs,σ[i]? =some (some v)/\v= .ref a/\H a=some (.ins C dx fs)/\Cls K C/\Qby K C f/\fs.length<1000/\∃F',Rel K H0 A0 hs (ρ.set i (some (d',true))) F' σ (upd H a (.ins C dx (QaW f y fs))):=by
 obtain⟨v,hv,rp⟩:=r.val i d true e
 obtain⟨o1,o2,o3,o4,o5⟩:=r.own i d e
 have core:∀{e0 z:D},Rp K H e0 v (F i)->(F i).length=e0.nl->putD T f dy e0=some z->(∀{H'':Hp}{L':List Addr},Rp K H'' z v L'->Rp K H'' d' v L')->z.nl=d'.nl→
   ∃v a C dx fs,σ[i]? =some (some v)/\v= .ref a/\H a=some (.ins C dx fs)/\Cls K C/\Qby K C f/\fs.length<1000/\∃F',Rel K H0 A0 hs (ρ.set i (some (d',true))) F' σ (upd H a (.ins C dx (QaW f y fs))):=λ{e0 z} r0 l0 hz up hn=>by
  obtain⟨a,C,dx,fs,ev,ha,c1,c2,c3,hm,L',rl,nl',ll,sub⟩:=Qui (a:=0) hT r0 o2 l0 ry gn gl (λb hb=>(gs b hb).2) hz
  refine⟨v,a,C,dx,fs,hv,ev,ha,c1,c2,c3,_,r.io e hv (QdU hm) (up rl) nl' (by rw[ll,hn]) λb hb=>?_⟩
  rcases sub b hb with q | q
  ·exact r.Qjk e (.inl q)
  ·exact(gs b q).1
 rcases Qr3 hp with⟨a,e0,z,rfl,hz,rfl⟩ | hz
 ·obtain⟨ea,r0⟩:=rp.QbK
  subst ea
  exact core r0 (by rw[o1,QbH]) hz (λh=>Rp.Qg9 h) (QbH _ _).symm
 ·exact core rp o1 hz (λh=>h) rfl
theorem QgT:∀(M:List Nat) (ρ:En) (i:Nat),i∉M->(kill M ρ)[i]? =ρ[i]?
 | [],ρ,i,_=>rfl
 | j::M,ρ,i,h=>by
  unfold kill
  rw[QgT M _ i (λz=>h (Zb _ z)),Zf (λz=>h (by rw[z];exact Zj))]
theorem QN.Qjk{rr:R}{v:V}(r:Rel K H0 A0 hs ρ F σ H)(p:QN K ρ F H H' rr v G)(hf:rr.fr=true)(nd:rr.M.Nodup)(hi:i∉rr.M)(e:ρ[i]? =some (some (d,true))):∀b∈G,Qih H0 hs (kill rr.M ρ) F i b/\b∉F i:=by
 obtain⟨gn,gs⟩:=p.fresh r hf nd
 have apart:∀(j:Nat) d b,(kill rr.M ρ)[j]? =some (some (d,b))->∀a∈G,a∉F j:=λj d b e a ha hj=>by
  obtain⟨b',e',_⟩:=(Qbk rr.M ρ).2 j d b e
  rcases(gs a ha).2 with q | ⟨k,d',hk,ek,hak⟩
  ·obtain⟨vs,w⟩:=r.mem e' hj
   rw[q]at w;cases w
  ·have hjk:j≠k:=λz=>by subst z;exact QeT rr.M ρ j d b hk e
   exact(r.own k d' ek).2.2.2.1 j d b' hjk e' a hak hj
 refine λb hb=>⟨⟨(gs b hb).1,λj d' b' ej hj=>apart j d' b' ej b hb,λt ht hj=>?_⟩,apart i d true (by rw[QgT _ _ _ hi];exact e) b hb⟩
 rcases(gs b hb).2 with q | ⟨k,d',hk,ek,hak⟩
 ·obtain⟨vs,w⟩:=(r.held t ht).1.mem b hj
  rw[q]at w;cases w
 ·exact(r.own k d' ek).2.2.2.2 t ht b hak hj
end
noncomputable def Qhr(T:ClT)(i:Nat)(f:Str)(fa:DE):DS:=λρ=>(fa ρ).bind λr=>match ρ[i]? with
 | some (some (d,true))=>if(r.norm.fr && decide r.norm.M.Nodup && !r.norm.M.contains i)=true then(QgK (putD T f r.d) d).map λd'=> .nx ((kill r.norm.M ρ).set i (some (d',true)))else none
 | _=>none
noncomputable def Qf6(T:ClT)(i:Nat)(f:Str)(fa:DE):DS:=λρ=>match ρ[i]? with
 | some (some (d,true))=>(Qjw T f d).bind λx=>match x with
  | .int k=>(fa ρ).bind λr=>match r.d with
   | .int m=>(QgK (putD T f (.int (k+m))) d).map λd'=> .nx (ρ.set i (some (d',true)))
   | _=>none
  | _=>none
 | _=>none
section
variable {X:Cx}{T:ClT}{f:Str}{o e:Expr}{fa:DE}{pos pos':Pos}{i:Nat}
theorem Qs8(hT:QeS X.K T)(ho:PE X o (QbX i))(he:SE X e fa)(hs:swapsWith e (some (.Attribute o f pos')) pos.line X.env=pure false):S1 X (.Assign [.Attribute o f pos'] e pos) (Qhr T i f fa):=λH0 A0=>(Qu5 ho (he H0 A0) hs).mono λE σ H=>exK λρ hs F out rel e q=>by
 refine Qc e λr e1 e=>?_
 split at e
 ·rename_i d hρ
  split at e
  ·rename_i hc
   simp only[Zg,decide_eq_true_eq,ZO]at hc
   obtain⟨⟨c1,c2⟩,c3⟩:=hc
   have hi:i∉r.norm.M:=λz=>by rw[ZI.mpr z]at c3;cases c3
   obtain⟨d',e2,rfl⟩:=Zc.mp e
   refine⟨ρ,hs,F,r,rel,e1,λy H1 G p=>?_⟩
   have p':=p.norm
   obtain⟨gn,_⟩:=p'.fresh rel c1 c2
   have gl:=(p'.cnt c1).2
   have lo:=p'.Qjk rel c1 c2 hi hρ
   rw[r.QcN]at gl
   have r1:=(rel.ext p.same).weak (Qbk r.norm.M ρ)
   obtain⟨v,a,C,dx,fs,hv,ev,ha,k1,k2,k3,F',rel'⟩:=r1.QwW hT (by rw[QgT _ _ _ hi];exact hρ) p.rp gn gl lo e2
   exact⟨v,hv,a,C,dx,fs,ev,ha,k1,k2,k3,q _ _ F' rel'⟩
  ·cases e
 ·cases e
theorem Quy(hT:QeS X.K T)(ho:PE X o (QbX i))(he:SE X e fa):S1 X (.AugAssign (.Attribute o f pos') .Add e pos) (Qf6 T i f fa):=λH0 A0=>(Qpv ho (he H0 A0) QwM).mono λE σ H=>exK λρ hs F out rel e q=>by
 unfold Qf6 at e
 split at e
 ·rename_i d hρ
  refine Qc e λx hx e=>?_
  split at e
  ·rename_i k
   refine Qc e λr e1 e=>?_
   split at e
   ·rename_i m hm
    obtain⟨d',e2,rfl⟩:=Zc.mp e
    obtain⟨v,hv,rp⟩:=rel.val i d true hρ
    unfold Qjw at hx
    obtain⟨ru,rn⟩:=rp.unp
    split at hx
    ·rename_i x ns ds hu
     rw[hu]at ru rn
     refine Qc hx λfs h1 hx=>?_
     split at hx
     ·rename_i hf
      refine Qc hx λj h2 hx=>?_
      obtain⟨a,C,dx,vs,G0,ev,eG,e3,e4,e5,rs⟩:=ru.Qc2
      obtain⟨c1,c2⟩:=hT x fs h1 C e3
      obtain⟨u,F1,G1,F2,g1,g2,g3,g4⟩:=rs.get hx
      have eu:=g3.int_inv
      subst eu
      refine⟨v,hv,a,C,dx,_,_,ev,e4,c1,c2 f (ZI.mp hf),Qf9 h2 g1,ρ,hs,F,r,rel,e1,λy H1 G p=>?_⟩
      have ey:=(hm▸p.rp:Rp X.K H1 (.int m) y G).int_inv
      subst ey
      obtain⟨v',a',C',dx',fs',hv',ev',ha',k1,k2,k3,F',rel'⟩:=(rel.ext p.same).QwW (y:= .int (k+m)) (G:=[]) hT hρ .int_mk Zab rfl (λb hb=>by simp at hb) e2
      rw[hv]at hv'
      cases hv'
      subst ev
      cases ev'
      have hh:=p.same _ _ e4
      rw[ha']at hh
      cases hh
      exact⟨k,m,rfl,rfl,dx,_,ha',k3,q _ _ F' rel'⟩
     ·cases hx
    ·cases hx
   ·cases e
  ·cases e
 ·cases e
end
end HS
namespace HS
open PySem PySem.Spec L2 PyProof.Rows
structure IoR where
 n:Nat
 p:Nat
 den:QbZ
noncomputable abbrev MeT:=List (Str×List (Str×IoR))
def QlM(X:Cx)(T:MeT):Prop:=∀x ms m r,look x T=some ms->look m ms=some r->∀C,PySem.W.nsIn X.K mainGlobals x=some (some (.ref C))->∃k f fd ps,Cls X.K C/\Qiu X.K C m f/\Q4 X.prog X.w X.K X.mg X.base CX0 k f fd ps (Qer X.K r.n 0 r.den)/\QU k X.A/\Binds X.K fd ps []
noncomputable def ioM(T:MeT)(m:Str)(ds:List D)(d:D):Option (D×D):=match d with
 | .obj (.ins x ns) es=>(look x T).bind λms=>(look m ms).bind λr=>if(!ns.contains m && decide (r.n=ds.length+1))=true then r.den (.obj (.ins x ns) es::ds)else none
 | _=>none
noncomputable def QcT(g:D->Option (D×D))(d:D):Option (D×D):=match d with
 | .obj (.pin a) [e]=>(g e).map λq=>(q.1,.obj (.pin a) [q.2])
 | d=>g d
section
variable {K:PySem.W.Frag}{H0 H H':Hp}{A0:List Addr}{hs:List (V×D×List Addr)}{ρ:En}{F:Nat->List Addr}{σ:L2.St}{i x:Nat}{d d2 dp:D}{v v2:V}{G Gp:List Addr}
theorem QhY{g:D->Option (D×D)}{d:D}{q:D×D}(h:QcT g d=some q):∃e z,g e=some (q.1,z)/\((∃a,d= .obj (.pin a) [e]/\q.2= .obj (.pin a) [z])∨(d=e/\q.2=z)):=by
 unfold QcT at h
 split at h
 ·rename_i a e
  obtain⟨z,h1,h2⟩:=Zc.mp h
  subst h2
  exact⟨e,z.2,h1,.inl ⟨a,rfl,rfl⟩⟩
 ·exact⟨d,q.2,h,.inr ⟨rfl,rfl⟩⟩
theorem Rel.QsM(r:Rel K H0 A0 hs ρ F σ H)(e:ρ[i]? =some (some (d,true)))(hv:σ[i]? =some (some v))(ip:QgP K H (F i) d2 dp v v2 H' G Gp){dq:D}(up:Rp K H' dp v Gp->Rp K H' dq v Gp)(un:dq.nl=dp.nl)(hx:x≠i):
  ∃F',Rel K H0 A0 hs ((ρ.set i (some (dq,true))).set x (some (d2,true))) F' (σ.set x (some v2)) H':=by
 obtain⟨n1,n2,n3⟩:=Zy.mp ip.nd
 have lo:∀b∈G++Gp,Qih H0 hs ρ F i b:=λb hb=>r.Qjk e (ip.fr b hb)
 have r1:=r.io e hv ip.same (up ip.rpp) n2 (by rw[un];exact ip.lenp) λb hb=>lo b (Ze _ hb)
 refine⟨_,r1.new (i:=x) ip.rp n1 ip.len λb hb=>⟨(lo b (Zd _ hb)).1,λj d' b' ej hj=>?_,(lo b (Zd _ hb)).2.2⟩⟩
 by_cases hji:j=i
 ·subst hji
  dsimp only
  rw[if_pos rfl]
  exact λz=>n3 b hb b z rfl
 ·dsimp only
  rw[if_neg hji]
  rw[Zf (Ne.symm hji)]at ej
  exact(lo b (Zd _ hb)).2.1 j d' b' ej hji
end
noncomputable def QsH(T:MeT)(x i:Nat)(m:Str)(fs:DA):DS:=λρ=>(fs ρ).bind λr=>match ρ[i]? with
 | some (some (d,true))=>if(decide (x≠i) && !r.M.contains i)=true then(QcT (ioM T m r.ds) d).map λq=> .nx ((ρ.set i (some (q.2,true))).set x (some (q.1,true)))else none
 | _=>none
section
variable {X:Cx}{T:MeT}{m nm:Str}{o e:Expr}{es:List Expr}{fs:DA}{pos cpos apos p:Pos}{i x:Nat}
theorem Qir{K:PySem.W.Frag}{H:Hp}{ds:List D}{vs:List V}{G:List Addr}(h:Rps K H ds vs G):∃F:Nat->List Addr,(∀j b,b∈F j->b∈G)/\∀j d,ds[j]? =some d->∃v,vs[j]? =some v/\Rp K H d v (F j):=by
 obtain⟨Fs,h1,h2⟩:=h.parts
 refine⟨λj=>Fs.getD j [],λj b hb=>?_,h2⟩
 dsimp only at hb
 rw[ZC]at hb
 by_cases hj:j<Fs.length
 ·rw[ZE hj]at hb
  exact h1 _ (Zbt hj) b hb
 ·rw[Zr (by omega)]at hb
  simp at hb
theorem QtV{pl:Sem Bool}(hN:X.N.Nodup)(hx1:X.N[x]? =some nm)(hx2:Loc X.env.scope nm)(hx3:X.fn nm=true∨X.env.scope.names.lookup nm=some .local)(hM:QlM X T)(ho:PE X o (QbX i))(ha:SA X (e::es) fs)
  (hst:starEach (e::es) X.env=(false,eval e X.env)::starEach es X.env) (hpl:(backTo cpos (starEach es X.env)).any (·.1)=false)
  (ht:eval (.Call (.Attribute o m apos) (e::es) [] cpos) X.env=(do
   let ov ← eval o X.env
   standAt apos.atName
   let (f,first) ← holding [ov] (getMethod ov m pl)
   callWith cpos f first (backTo cpos (starEach (e::es) X.env)) (backToKw cpos (keywordEach [] X.env)))):
  S1 X (.Assign [.Name nm p] (.Call (.Attribute o m apos) (e::es) [] cpos) pos) (QsH T x i m fs):=by
 intro H0 A0 pins s σ H E I hpt
 obtain⟨ρ,hs,F,out,rel,e,q⟩:=hpt
 refine Qc e λr e1 e=>?_
 split at e
 ·rename_i d hρ
  split at e
  ·rename_i hc
   simp only[Zg,decide_eq_true_eq,ZO]at hc
   obtain⟨hxi,hM0⟩:=hc
   have hi:i∉r.M:=λz=>by rw[ZI.mpr z]at hM0;cases hM0
   obtain⟨qq,e2,rfl⟩:=Zc.mp e
   obtain⟨e0,z,hg,hd⟩:=QhY e2
   obtain⟨v,hv,rp⟩:=rel.val i d true hρ
   obtain⟨o1,o2,o3,o4,o5⟩:=rel.own i d hρ
   have r0:Rp X.K H e0 v (F i)/\e0.nl=d.nl:=by
    rcases hd with⟨a,rfl,_⟩ | ⟨rfl,_⟩
    ·exact⟨rp.QbK.2,(QbH _ _).symm⟩
    ·exact⟨rp,rfl⟩
   have un:qq.2.nl=z.nl:=by
    rcases hd with⟨a,rfl,h2⟩ | ⟨rfl,h2⟩
    ·rw[h2,QbH]
    ·rw[h2]
   have up:∀{H'':Hp}{L:List Addr},Rp X.K H'' z v L->Rp X.K H'' qq.2 v L:=λ{H'' L} h=>by
    rcases hd with⟨a,rfl,h2⟩ | ⟨rfl,h2⟩
    ·obtain⟨ea,_⟩:=rp.QbK
     rw[h2]
     subst ea
     exact Rp.Qg9 h
    ·rw[h2];exact h
   unfold ioM at hg
   split at hg
   ·rename_i cn ns ds0
    refine Qc hg λms h1 hg=>?_
    refine Qc hg λio h2 hg=>?_
    split at hg
    ·rename_i hn
     simp only[Zg,decide_eq_true_eq,ZO]at hn
     obtain⟨hn1,hn2⟩:=hn
     obtain⟨a,C,dx,vs0,G0,ev,eG,k3,k4,k5,rs⟩:=r0.1.Qc2
     obtain⟨k,f,fd,ps,c1,c2,c3,c4,c5⟩:=hM cn ms m io h1 h2 C k3
     subst ev
     refine(QdV hN hx1 hx2 (Qny ho c1 c2 c3 c4 c5 .nil QfV (ha H0 A0) hst hpl ht) (QbC rfl) hx3) pins s σ H E I ⟨_,hv,a,dx,_,rfl,k4,Qb6 λz=>?_,ρ,hs,F,r,rel,e1,λvs H1 G p1=>?_⟩
     ·rw[ZI.mpr z]at hn1;cases hn1
     ·obtain⟨Fs,f1,f2⟩:=Qir p1.rp
      have hlen:=p1.rp.length
      have ap:∀b∈F i,b∉G:=λb hb hbG=>by
       rcases p1.src b hbG with w | ⟨j,d',b',ej,mj,hj⟩
       ·obtain⟨u,hu⟩:=rp.mem b hb
        rw[w]at hu;cases hu
       ·by_cases hji:j=i
        ·subst hji
         rw[hρ]at ej
         cases ej
         exact hi (hj rfl)
        ·exact o4 j d' b' hji ej b hb mj
      refine⟨.obj (.ins cn ns) ds0::r.ds,λj=>match j with | 0=>F i | j+1=>Fs j,a,qq.1,z,by rw[Zi,hn2],by rw[ZD,Zi,← hlen,hn2],λj dj ej=>?_,by omega,rfl,o2,?_,λj hj hj0 b hb=>?_,hg,λv2 H2 G2 Gp ip=>?_⟩
      ·cases j with
       | zero=>simp at ej;subst ej;exact⟨_,rfl,r0.1.same p1.same⟩
       | succ j=>
        obtain⟨u,g1,g2⟩:=f2 j dj (by simpa using ej)
        exact⟨u,by simpa using g1,g2⟩
      ·show(F i).length=_
       rw[o1,← r0.2];rfl
      ·cases j with
       | zero=>exact absurd rfl hj0
       | succ j=>exact λw=>ap b hb (f1 j b w)
      ·obtain⟨F',rel'⟩:=(rel.ext p1.same).QsM hρ hv ip (up (H'':=H2)) un hxi
       exact q _ _ F' rel'
    ·cases hg
   ·cases hg
  ·cases e
 ·cases e
end
noncomputable def rsD:List (Option R)->D->List D
 | [],_=>[]
 | some r::rs,d=>r.d::rsD rs d
 | none::rs,d=>d::rsD rs d
noncomputable def rsM:List (Option R)->List Nat
 | []=>[]
 | some r::rs=>r.M++rsM rs
 | none::rs=>rsM rs
noncomputable def isRef:D->Bool
 | .obj (.ins _ _) _=>true
 | .lst _=>true
 | _=>false
theorem Rp.QpP{K:PySem.W.Frag}{H:Hp}{d:D}{v:V}{L:List Addr}(h:Rp K H d v L)(hr:isRef d=true):∃a,v= .ref a:=by
 unfold isRef at hr
 split at hr
 ·obtain⟨a,C,dx,vs,G,e,_⟩:=h.Qc2
  exact⟨a,e⟩
 ·obtain⟨a,vs,G,e,_⟩:=h.lst_inv
  exact⟨a,e⟩
 ·cases hr
noncomputable def oneAt:List (Option DE)->Nat->Bool
 | [],_=>false
 | none::fs,0=>fs.all Option.isSome
 | some _::fs,p+1=>oneAt fs p
 | _,_=>false
noncomputable def Qj3(r:IoR)(x i:Nat)(fs:List (Option DE)):DS:=λρ=>(evs fs ρ).bind λrs=>match ρ[i]? with
 | some (some (d,true))=>if(decide (x≠i) && !(rsM rs).contains i && oneAt fs r.p && decide (fs.length=r.n))=true then(QcT (λe=>if isRef e=true then r.den (rsD rs e)else none) d).map λq=> .nx ((ρ.set i (some (q.2,true))).set x (some (q.1,true)))else none
 | _=>none
section
variable {K:PySem.W.Frag}{H0 H H':Hp}{A0:List Addr}{hs:List (V×D×List Addr)}{ρ:En}{F:Nat->List Addr}{σ:L2.St}{i:Nat}{rs:List (Option R)}{vs:List V}{Gs:List (List Addr)}
theorem QaD.same(h:QaD K ρ F σ i H H' rs vs Gs):Qr H H':=by
 induction h with
 | nil=>exact Qr.refl _
 | val p t ih=>exact p.same.trans ih
 | slot e t ih=>exact ih
theorem QaD.len(h:QaD K ρ F σ i H H' rs vs Gs):vs.length=rs.length:=by
 induction h with
 | nil=>rfl
 | val p t ih=>rw[Zi,Zi,ih]
 | slot e t ih=>rw[Zi,Zi,ih]
theorem QfE:∀(rs:List (Option R)) (d:D),(rsD rs d).length=rs.length
 | [],_=>rfl
 | some r::rs,d=>by rw[rsD,Zi,Zi,QfE rs d]
 | none::rs,d=>by rw[rsD,Zi,Zi,QfE rs d]
theorem Qhj:∀{fs:List (Option DE)}{ρ:En}{rs:List (Option R)},evs fs ρ=some rs->rs.length=fs.length
 | [],_,_,h=>by cases h;rfl
 | some f::fs,_,_,h=>by
  refine Qc h λr h1 h=>?_
  obtain⟨rs',h2,rfl⟩:=Zc.mp h
  rw[Zi,Zi,Qhj h2]
 | none::fs,_,_,h=>by
  obtain⟨rs',h2,rfl⟩:=Zc.mp h
  rw[Zi,Zi,Qhj h2]
theorem QaD.each(h:QaD K ρ F σ i H H' rs vs Gs){e0:D}{v:V}(hv:σ[i]? =some (some v))(r0:Rp K H e0 v (F i)):∀j dj,(rsD rs e0)[j]? =some dj->∃u,vs[j]? =some u/\Rp K H' dj u (Gs.getD j []):=by
 induction h with
 | nil=>intro j dj e;simp[rsD]at e
 | val p t ih=>
  intro j dj e
  cases j with
  | zero=>simp[rsD]at e;subst e;exact⟨_,rfl,by simpa using p.rp.same t.same⟩
  | succ j=>
   obtain⟨u,g1,g2⟩:=ih (r0.same p.same) j dj (by simpa[rsD]using e)
   exact⟨u,by simpa using g1,by simpa using g2⟩
 | slot e1 t ih=>
  intro j dj e
  cases j with
  | zero=>
   simp[rsD]at e
   subst e
   rw[hv]at e1
   cases e1
   exact⟨_,rfl,by simpa using r0.same t.same⟩
  | succ j=>
   obtain⟨u,g1,g2⟩:=ih r0 j dj (by simpa[rsD]using e)
   exact⟨u,by simpa using g1,by simpa using g2⟩
theorem QaD.apart(rel:Rel K H0 A0 hs ρ F σ H)(h:QaD K ρ F σ i H H' rs vs Gs){d:D}(hρ:ρ[i]? =some (some (d,true)))(hM:i∉rsM rs):∀j,(∃r,rs[j]? =some (some r))->∀b∈F i,b∉Gs.getD j []:=by
 induction h with
 | nil=>intro j ⟨r,e⟩;simp at e
 | val p t ih=>
  intro j hj b hb
  cases j with
  | zero=>
   simp only[List.getD_cons_zero]
   intro hbG
   obtain⟨o1,o2,o3,o4,o5⟩:=rel.own i d hρ
   rcases p.src b hbG with w | ⟨j,d',b',ej,mj,hj'⟩
   ·obtain⟨u,hu⟩:=rel.mem hρ hb
    rw[w]at hu;cases hu
   ·by_cases hji:j=i
    ·subst hji
     rw[hρ]at ej
     cases ej
     exact hM (Zd _ (hj' rfl))
    ·exact o4 j d' b' hji ej b hb mj
  | succ j=>
   obtain⟨r',e⟩:=hj
   simp only[List.getD_cons_succ]
   exact ih (rel.ext p.same) (λz=>hM (Ze _ z)) j ⟨r',by simpa using e⟩ b hb
 | slot e1 t ih=>
  intro j hj b hb
  obtain⟨r',e⟩:=hj
  cases j with
  | zero=>simp at e
  | succ j=>
   simp only[List.getD_cons_succ]
   exact ih rel hM j ⟨r',by simpa using e⟩ b hb
theorem QaD.Qtd(h:QaD K ρ F σ i H H' rs vs Gs):∀j,rs[j]? =some none->Gs.getD j []=F i/\∃v,σ[i]? =some (some v)/\vs[j]? =some v:=by
 induction h with
 | nil=>intro j e;simp at e
 | val p t ih=>
  intro j e
  cases j with
  | zero=>simp at e
  | succ j=>
   obtain⟨g1,v,g2,g3⟩:=ih j (by simpa using e)
   exact⟨by simpa using g1,v,g2,by simpa using g3⟩
 | slot e1 t ih=>
  intro j e
  cases j with
  | zero=>exact⟨by simp,_,e1,by simp⟩
  | succ j=>
   obtain⟨g1,v,g2,g3⟩:=ih j (by simpa using e)
   exact⟨by simpa using g1,v,g2,by simpa using g3⟩
theorem Qed:∀{fs:List (Option DE)}{ρ:En}{rs:List (Option R)},evs fs ρ=some rs->fs.all Option.isSome=true->∀j,j<rs.length->∃r,rs[j]? =some (some r)
 | [],_,_,h,_,j,hj=>by cases h;simp at hj
 | some f::fs,_,_,h,ha,j,hj=>by
  refine Qc h λr h1 h=>?_
  obtain⟨rs',h2,rfl⟩:=Zc.mp h
  cases j with
  | zero=>exact⟨r,rfl⟩
  | succ j=>
   obtain⟨r',e⟩:=Qed h2 (by simpa using ha) j (by simpa using hj)
   exact⟨r',by simpa using e⟩
 | none::fs,_,_,h,ha,j,hj=>by simp at ha
theorem QkL:∀{fs:List (Option DE)}{p:Nat}{ρ:En}{rs:List (Option R)},oneAt fs p=true->evs fs ρ=some rs->rs[p]? =some none/\none∈fs/\∀j,j<rs.length->j≠p->∃r,rs[j]? =some (some r)
 | [],_,_,_,h,_=>by cases h
 | none::fs,0,_,_,h,e=>by
  obtain⟨rs',h2,rfl⟩:=Zc.mp e
  refine⟨rfl,Zj,λj hj h0=>?_⟩
  cases j with
  | zero=>exact absurd rfl h0
  | succ j=>
   obtain⟨r,e⟩:=Qed h2 h j (by simpa using hj)
   exact⟨r,by simpa using e⟩
 | none::fs,p+1,_,_,h,_=>by cases h
 | some f::fs,0,_,_,h,_=>by cases h
 | some f::fs,p+1,_,_,h,e=>by
  refine Qc e λr h1 e=>?_
  obtain⟨rs',h2,rfl⟩:=Zc.mp e
  obtain⟨g1,g2,g3⟩:=QkL (fs:=fs) (p:=p) h h2
  refine⟨by simpa using g1,Zb _ g2,λj hj h0=>?_⟩
  cases j with
  | zero=>exact⟨r,rfl⟩
  | succ j=>
   obtain⟨r',e⟩:=g3 j (by simpa using hj) (λz=>h0 (by rw[z]))
   exact⟨r',by simpa using e⟩
theorem QmE:∀{rs:List (Option R)}{p:Nat}{e:D},rs[p]? =some none->(rsD rs e).getD p .non=e
 | [],_,_,h=>by simp at h
 | none::rs,0,e,h=>rfl
 | some r::rs,0,e,h=>by simp at h
 | none::rs,p+1,e,h=>by rw[rsD,List.getD_cons_succ];exact QmE (by simpa using h)
 | some r::rs,p+1,e,h=>by rw[rsD,List.getD_cons_succ];exact QmE (by simpa using h)
end
def Qq6(X:Cx)(x:Str)(r:IoR):Prop:=∃k f fd ps,Q4 X.prog X.w X.K X.mg X.base CX0 k f fd ps (Qer X.K r.n r.p r.den)/\QU k X.A/\X.mg x=some (.ref f)/\PySem.W.keepIn X.K (.ref f)=true/\Binds X.K fd ps []
section
variable {X:Cx}{nm g:Str}{e:Expr}{es:List Expr}{f:Option DE}{fs:List (Option DE)}{pos cpos np p:Pos}{i x:Nat}{r:IoR}
theorem QvA(hN:X.N.Nodup)(hx1:X.N[x]? =some nm)(hx2:Loc X.env.scope nm)(hx3:X.fn nm=true∨X.env.scope.names.lookup nm=some .local)(hF:Qq6 X g r)(hg:Gl X g)(hdb:(g == ("__debug__" :Str))=false)
  (ha:Qa7 X i (e::es) fs) (hst:starEach (e::es) X.env=(false,eval e X.env)::starEach es X.env) (hpl:(backTo cpos (starEach es X.env)).any (·.1)=false):
  S1 X (.Assign [.Name nm p] (.Call (.Name g np) (e::es) [] cpos) pos) (Qj3 r x i fs):=by
 intro H0 A0 pins s σ H E I hpt
 obtain⟨ρ,hs,F,out,rel,e,q⟩:=hpt
 refine Qc e λrs e1 e=>?_
 split at e
 ·rename_i d hρ
  split at e
  ·rename_i hc
   simp only[Zg,decide_eq_true_eq,ZO]at hc
   obtain⟨⟨⟨hxi,hM0⟩,hone⟩,hlen⟩:=hc
   have hi:i∉rsM rs:=λz=>by rw[ZI.mpr z]at hM0;cases hM0
   obtain⟨qq,e2,rfl⟩:=Zc.mp e
   obtain⟨e0,z,hgd,hd⟩:=QhY e2
   obtain⟨v,hv,rp⟩:=rel.val i d true hρ
   obtain⟨o1,o2,o3,o4,o5⟩:=rel.own i d hρ
   have r0:Rp X.K H e0 v (F i)/\e0.nl=d.nl:=by
    rcases hd with⟨a,rfl,_⟩ | ⟨rfl,_⟩
    ·exact⟨rp.QbK.2,(QbH _ _).symm⟩
    ·exact⟨rp,rfl⟩
   have un:qq.2.nl=z.nl:=by
    rcases hd with⟨a,rfl,h2⟩ | ⟨rfl,h2⟩
    ·rw[h2,QbH]
    ·rw[h2]
   have up:∀{H'':Hp}{L:List Addr},Rp X.K H'' z v L->Rp X.K H'' qq.2 v L:=λ{H'' L} h=>by
    rcases hd with⟨a,rfl,h2⟩ | ⟨rfl,h2⟩
    ·obtain⟨ea,_⟩:=rp.QbK
     rw[h2]
     subst ea
     exact Rp.Qg9 h
    ·rw[h2];exact h
   obtain⟨k,f,fd,ps,c3,c4,c6,c7,c5⟩:=hF
   obtain⟨s1,s2,s3⟩:=QkL hone e1
   refine(QdV hN hx1 hx2 (Qjr c3 c4 hg c6 c7 c5 .nil QfV (QuZ ha H0 A0) hdb hst hpl) (QbC rfl) hx3) pins s σ H E I ⟨ρ,hs,F,rs,rel,e1,λ_=>⟨v,hv⟩,λvs H1 Gs pl=>?_⟩
   obtain⟨gs1,v',gv,gv2⟩:=pl.Qtd r.p s1
   rw[hv]at gv
   cases gv
   split at hgd
   case isFalse=>cases hgd
   rename_i hir
   obtain⟨a,rfl⟩:=r0.1.QpP hir
   have hrl:rs.length=r.n:=by rw[Qhj e1,hlen]
   refine⟨rsD rs e0,λj=>Gs.getD j [],a,qq.1,z,by rw[QfE,hrl],by rw[ZD,pl.len,hrl],λj dj ej=>?_,?_,by rw[ZD];exact gv2,(show(Gs.getD r.p []).Nodup by rw[gs1];exact o2),?_,λj hj hj0 b hb=>?_,hgd,λv2 H2 G2 Gp ip=>?_⟩
   ·rw[ZD]
    exact pl.each hv r0.1 j dj ej
   ·have:=(Zh.mp s1).1
    omega
   ·dsimp only
    rw[gs1,o1,QmE s1,r0.2]
   ·dsimp only at hb ⊢
    rw[gs1]at hb
    exact pl.apart rel hρ hi j (s3 j (by omega) hj0) b hb
   ·dsimp only at ip
    rw[gs1]at ip
    obtain⟨F',rel'⟩:=(rel.ext pl.same).QsM hρ hv ip (up (H'':=H2)) un hxi
    exact q _ _ F' rel'
  ·cases e
 ·cases e
end
end HS
namespace HS
open PySem PySem.Spec L2 PyProof.Rows
section
variable {K:PySem.W.Frag}{H0 H H':Hp}{A0:List Addr}{hs:List (V×D×List Addr)}{ρ:En}{F:Nat->List Addr}{σ:L2.St}{i:Nat}{rs:List (Option R)}{vs:List V}{Gs:List (List Addr)}
theorem QaD.later(rel:Rel K H0 A0 hs ρ F σ H)(h:QaD K ρ F σ i H H' rs vs Gs){b:Addr}(hb:∃u,H b=some u)(hf:∀(j:Nat) d c,ρ[j]? =some (some (d,c))->b∉F j):∀j,(∃r,rs[j]? =some (some r))->b∉Gs.getD j []:=by
 induction h with
 | nil=>intro j ⟨r,e⟩;simp at e
 | val p t ih=>
  intro j hj
  cases j with
  | zero=>
   simp only[List.getD_cons_zero]
   intro hbG
   rcases p.src b hbG with w | ⟨j,d',b',ej,mj,_⟩
   ·obtain⟨u,hu⟩:=hb
    rw[w]at hu;cases hu
   ·exact hf j d' b' ej mj
  | succ j=>
   obtain⟨r',e⟩:=hj
   simp only[List.getD_cons_succ]
   obtain⟨u,hu⟩:=hb
   exact ih (rel.ext p.same) ⟨u,p.same _ _ hu⟩ j ⟨r',by simpa using e⟩
 | slot e1 t ih=>
  intro j hj
  obtain⟨r',e⟩:=hj
  cases j with
  | zero=>simp at e
  | succ j=>
   simp only[List.getD_cons_succ]
   exact ih rel hb j ⟨r',by simpa using e⟩
theorem QaD.QyS(rel:Rel K H0 A0 hs ρ F σ H)(h:QaD K ρ F σ i H H' rs vs Gs):∀p r,rs[p]? =some (some r)->r.fr=true->r.M=[]->(Gs.getD p []).Nodup/\(Gs.getD p []).length=r.d.nl/\(∀b∈Gs.getD p [],H b=none)/\∀j,j≠p->(∃r',rs[j]? =some (some r'))->∀b∈Gs.getD p [],b∉Gs.getD j []:=by
 induction h with
 | nil=>intro p r e;simp at e
 | @val H H1 H2 r0 v G rs vs Gs p t ih=>
  intro k r e hf hM
  cases k with
  | zero=>
   simp at e
   subst e
   obtain⟨c,ln⟩:=p.cnt hf
   rw[hM]at c
   have c1:∀b,G.count b<=nw H b:=λb=>by have:=c b;simpa using this
   have fr:∀b∈G,H b=none:=λb hb=>by
    cases q:H b with
    | none=>rfl
    | some u=>
     have h1:=c1 b
     rw[QcU q]at h1
     have h2:0<G.count b:=ZS.mpr hb
     omega
   simp only[List.getD_cons_zero]
   refine⟨ZR.mpr λb=>?_,ln,fr,λj hj hj' b hb=>?_⟩
   ·have h1:=c1 b
    have h2:nw H b<=1:=by unfold nw;split<;>omega
    omega
   ·cases j with
    | zero=>exact absurd rfl hj
    | succ j=>
     obtain⟨r',e'⟩:=hj'
     simp only[List.getD_cons_succ]
     refine t.later (rel.ext p.same) (p.rp.mem b hb) (λk d c ek hk=>?_) j ⟨r',by simpa using e'⟩
     obtain⟨u,hu⟩:=rel.mem ek hk
     rw[fr b hb]at hu;cases hu
  | succ k=>
   obtain⟨g1,g2,g3,g4⟩:=ih (rel.ext p.same) k r (by simpa using e) hf hM
   simp only[List.getD_cons_succ]
   refine⟨g1,g2,λb hb=>p.same.free (g3 b hb),λj hj hj' b hb=>?_⟩
   cases j with
   | zero=>
    simp only[List.getD_cons_zero]
    intro z
    obtain⟨u,hu⟩:=p.rp.mem b z
    rw[g3 b hb]at hu;cases hu
   | succ j=>
    obtain⟨r',e'⟩:=hj'
    simp only[List.getD_cons_succ]
    exact g4 j (λz=>hj (by rw[z])) ⟨r',by simpa using e'⟩ b hb
 | slot e1 t ih=>
  intro k r e hf hM
  cases k with
  | zero=>simp at e
  | succ k=>
   obtain⟨g1,g2,g3,g4⟩:=ih rel k r (by simpa using e) hf hM
   simp only[List.getD_cons_succ]
   refine⟨g1,g2,g3,λj hj hj' b hb=>?_⟩
   obtain⟨r',e'⟩:=hj'
   cases j with
   | zero=>simp at e'
   | succ j=>
    simp only[List.getD_cons_succ]
    exact g4 j (λz=>hj (by rw[z])) ⟨r',by simpa using e'⟩ b hb
theorem QaD.QsV(h:QaD K ρ F σ i H H' rs vs Gs):∀j r,rs[j]? =some (some r)->∃u,vs[j]? =some u/\Rp K H' r.d u (Gs.getD j []):=by
 induction h with
 | nil=>intro j r e;simp at e
 | val p t ih=>
  intro j r e
  cases j with
  | zero=>simp at e;subst e;exact⟨_,rfl,by simpa using p.rp.same t.same⟩
  | succ j=>
   obtain⟨u,g1,g2⟩:=ih j r (by simpa using e)
   exact⟨u,by simpa using g1,by simpa using g2⟩
 | slot e1 t ih=>
  intro j r e
  cases j with
  | zero=>simp at e
  | succ j=>
   obtain⟨u,g1,g2⟩:=ih j r (by simpa using e)
   exact⟨u,by simpa using g1,by simpa using g2⟩
theorem Qf8:∀{rs:List (Option R)}{d:D}{j:Nat}{r:R},rs[j]? =some (some r)->(rsD rs d)[j]? =some r.d
 | [],_,_,_,h=>by simp at h
 | some r0::rs,d,0,r,h=>by simp at h;subst h;rfl
 | none::rs,d,0,r,h=>by simp at h
 | some r0::rs,d,j+1,r,h=>by rw[rsD,List.getElem?_cons_succ];exact Qf8 (by simpa using h)
 | none::rs,d,j+1,r,h=>by rw[rsD,List.getElem?_cons_succ];exact Qf8 (by simpa using h)
theorem Qur{H1:Hp}{Fp G Gp:List Addr}{d dp:D}{vp v:V}(s:Qr H H1)(fr:∀b∈Fp,H b=none)(ip:QgP K H1 Fp d dp vp v H' G Gp):QN K ρ F H H' ⟨d,true,[]⟩ v G where
 same:=λb u e=>Qak ip.same (s b u e) λz=>by rw[fr b z]at e;cases e
 rp:=ip.rp
 src:=λa ha=>by
  rcases ip.fr a (Zd _ ha)with z | z
  ·exact .inl (fr a z)
  ·exact .inl (s.free z)
 cnt:=λ_=>by
  refine⟨λa=>?_,ip.len⟩
  have n1:=(Zy.mp ip.nd).1
  by_cases ha:a∈G
  ·have z:H a=none:=by
    rcases ip.fr a (Zd _ ha)with z | z
    ·exact fr a z
    ·exact s.free z
   rw[Qaz z]
   have:=ZR.mp n1 a
   omega
  ·rw[Zz.mpr ha];exact ZT _
 own:=QaZ.nil
end
noncomputable def QwC(r:IoR)(fs:List (Option DE)):DE:=λρ=>(evs fs ρ).bind λrs=>match rs[r.p]? with
 | some (some rp)=>if(rp.fr && rp.M.isEmpty && isRef rp.d && fs.all Option.isSome && decide (fs.length=r.n))=true then(r.den (rsD rs .non)).map λq=>⟨q.1,true,[]⟩else none
 | _=>none
section
variable {X:Cx}{g:Str}{e:Expr}{es:List Expr}{fs:List (Option DE)}{cpos np:Pos}{r:IoR}
theorem QlA{fs:List (Option DE)}(h:fs.all Option.isSome=true):none∉fs:=λz=>by
 have:=Zac.mp h none z
 cases this
theorem QvC(hF:Qq6 X g r)(hg:Gl X g)(hdb:(g == ("__debug__" :Str))=false)(ha:Qa7 X 0 (e::es) fs)(hst:starEach (e::es) X.env=(false,eval e X.env)::starEach es X.env)(hpl:(backTo cpos (starEach es X.env)).any (·.1)=false):
  SE X (.Call (.Name g np) (e::es) [] cpos) (QwC r fs):=by
 intro H0 A0
 obtain⟨k,f,fd,ps,c3,c4,c6,c7,c5⟩:=hF
 refine(Qjr c3 c4 hg c6 c7 c5 .nil QfV (QuZ ha H0 A0) hdb hst hpl).mono λσ H Q=>exK λρ hs F out rel e q=>?_
 refine Qc e λrs e1 e=>?_
 split at e
 ·rename_i rp hp
  split at e
  ·rename_i hc
   simp only[Zg,decide_eq_true_eq]at hc
   obtain⟨⟨⟨⟨c1,c2⟩,c8⟩,c9⟩,c10⟩:=hc
   have hM:rp.M=[]:=ZaV.mp c2
   obtain⟨qq,e2,rfl⟩:=Zc.mp e
   refine⟨ρ,hs,F,rs,rel,e1,λz=>absurd z (QlA c9),λvs H1 Gs pl=>?_⟩
   have hrl:rs.length=r.n:=by rw[Qhj e1,c10]
   obtain⟨t1,t2,t3,t4⟩:=pl.QyS rel r.p rp hp c1 hM
   obtain⟨u,u1,u2⟩:=pl.QsV r.p rp hp
   obtain⟨a,rfl⟩:=u2.QpP c8
   have hpl:r.p<rs.length:=(Zh.mp hp).1
   refine⟨rsD rs .non,λj=>Gs.getD j [],a,qq.1,qq.2,by rw[QfE,hrl],by rw[ZD,pl.len,hrl],λj dj ej=>?_,by omega,by rw[ZD];exact u1,t1,?_,λj hj hj0 b hb=>?_,e2,λv2 H2 G2 Gp ip=>?_⟩
   ·have hj:j<rs.length:=by have:=(Zh.mp ej).1;rw[QfE]at this;exact this
    obtain⟨r',er⟩:=Qed e1 c9 j hj
    rw[Qf8 er]at ej
    cases ej
    obtain⟨w,w1,w2⟩:=pl.QsV j r' er
    exact⟨w,by rw[ZD];exact w1,w2⟩
   ·dsimp only
    rw[t2,ZC,Qf8 hp];rfl
   ·exact t4 j hj0 (Qed e1 c9 j (by omega)) b hb
   ·exact q v2 H2 G2 (Qur pl.same t3 ip)
  ·cases e
 ·cases e
end
noncomputable def QhD(cn:Str)(r:IoR)(fs:DA):DE:=λρ=>(fs ρ).bind λra=>if r.n=ra.ds.length+1 then(r.den (.obj (.ins cn []) []::ra.ds)).bind λq=>match q.1 with
 | .non=>some ⟨q.2,true,[]⟩
 | _=>none
 else none
noncomputable def Qjf(cn:Str):DE:=λ_=>some ⟨.obj (.ins cn []) [],true,[]⟩
def Qvm(X:Cx)(cn:Str)(r:IoR):Prop:=∃k C f fd ps,PySem.W.nsIn X.K mainGlobals cn=some (some (.ref C))/\Mk X.K C f/\Q4 X.prog X.w X.K X.mg X.base CX0 k f fd ps (Qer X.K r.n 0 r.den)/\QU (k+1) X.A/\X.mg cn=some (.ref C)/\Binds X.K fd ps []
def QsQ(X:Cx)(cn:Str):Prop:=∃C,PySem.W.nsIn X.K mainGlobals cn=some (some (.ref C))/\PySem.W.makesIn X.K C=true/\PySem.W.findIn X.K (.ref C) "__init__" =some (some (.builtin "object.__init__"))/\PySem.W.keepIn X.K (.ref C)=true/\X.mg cn=some (.ref C)
section
variable {X:Cx}{g:Str}{e:Expr}{es:List Expr}{fs:DA}{cpos np:Pos}{r:IoR}
theorem Qt3(hF:Qvm X g r)(hg:Gl X g)(hdb:(g == ("__debug__" :Str))=false)(ha:SA X (e::es) fs)(hst:starEach (e::es) X.env=(false,eval e X.env)::starEach es X.env)(hpl:(backTo cpos (starEach es X.env)).any (·.1)=false):
  SE X (.Call (.Name g np) (e::es) [] cpos) (QhD g r fs):=by
 intro H0 A0
 obtain⟨k,C,f,fd,ps,cn,c2,c3,c4,c6,c5⟩:=hF
 refine(QtW c2 c3 c4 hg c6 c5 .nil QfV (ha H0 A0) hdb hst hpl).mono λσ H Q=>exK λρ hs F out rel e q=>?_
 refine Qc e λra e1 e=>?_
 split at e
 ·rename_i hn
  refine Qc e λqq e2 e=>?_
  split at e
  ·rename_i hq1
   cases e
   refine⟨ρ,hs,F,ra,rel,e1,λvs H1 G p1 x dx hx hdx hne=>?_⟩
   obtain⟨Fs,f1,f2⟩:=Qir p1.rp
   have hlen:=p1.rp.length
   have sm:Qr H1 (upd (upd H1 dx (.own x)) x (.ins C dx [])):=(Qay hdx).trans (Qay (by rw[Qx (Ne.symm hne)];exact hx))
   have hxx:(upd (upd H1 dx (.own x)) x (.ins C dx [])) x=some (.ins C dx []):=QQ ..
   refine⟨.obj (.ins g []) []::ra.ds,λj=>match j with | 0=>[x] | j+1=>Fs j,x,qq.1,qq.2,by rw[Zi,hn],by rw[ZD,Zi,← hlen,hn],λj dj ej=>?_,by omega,rfl,(by simp),rfl,λj hj hj0 b hb=>?_,e2,λv2 H2 G2 Gp ip=>?_⟩
   ·cases j with
    | zero=>
     simp at ej
     subst ej
     refine⟨_,rfl,Rp.Qjb (ns:=[]) (vs:=[]) (G:=[]) cn hxx rfl ?_⟩
     simp[Rps]
    | succ j=>
     obtain⟨u,g1,g2⟩:=f2 j dj (by simpa using ej)
     exact⟨u,by simpa using g1,g2.same sm⟩
   ·cases j with
    | zero=>exact absurd rfl hj0
    | succ j=>
     intro z
     rw[Zl.mp hb]at z
     obtain⟨u,hu⟩:=p1.rp.mem x (f1 j x z)
     rw[hx]at hu;cases hu
   ·have hv:v2= .non:=by
     have:=ip.rp
     rw[hq1]at this
     exact this.Qfz
    refine⟨hv,q _ H2 Gp ?_⟩
    have fr:∀a∈Gp,H a=none:=λa ha=>by
     rcases ip.fr a (Ze _ ha)with z | z
     ·rw[Zl.mp z];exact p1.same.free hx
     ·exact p1.same.free (sm.free z)
    refine⟨λb u eb=>Qak ip.same (sm b u (p1.same b u eb)) λz=>?_,ip.rpp,λa ha=> .inl (fr a ha),λ_=>⟨λa=>?_,ip.lenp⟩,QaZ.nil⟩
    ·rw[Zl.mp z]at eb
     rw[p1.same.free hx]at eb;cases eb
    ·by_cases ha:a∈Gp
     ·rw[Qaz (fr a ha)]
      have:=ZR.mp (Zy.mp ip.nd).2.1 a
      omega
     ·rw[Zz.mpr ha];exact ZT _
  ·cases e
 ·cases e
theorem Qsz(hF:QsQ X g)(hg:Gl X g)(hdb:(g == ("__debug__" :Str))=false):SE X (.Call (.Name g np) [] [] cpos) (Qjf g):=by
 intro H0 A0 pins s σ H Q I hpt
 obtain⟨ρ,hs,F,out,rel,e,q⟩:=hpt
 cases e
 obtain⟨C,cn,h1,h2,h3,h4⟩:=hF
 refine wpAny_Call_Name_kw (QcY I hg h4 ?_ hdb)
 refine PySem.W.callWith_K0 I.kIn h3 ?_
 have hx:=I.hok.fresh (Zaw s.heap.objs.size)
 have hdx:=I.hok.fresh (Zq s.heap.objs.size)
 have hne:s.heap.objs.size≠s.heap.objs.size+1:=ZL (ZaJ _)
 have I2:=Inv.made (C:=C) I
 have sm:Qr H (upd (upd H s.heap.objs.size (.own (s.heap.objs.size+1))) (s.heap.objs.size+1) (.ins C s.heap.objs.size [])):=(Qay hdx).trans (Qay (by rw[Qx (Ne.symm hne)];exact hx))
 have hq:EP X pins σ Q (.ref (s.heap.objs.size+1)) {s with heap:=(s.heap.push PySem.W.emptyDict).push (PySem.W.instObj C s.heap.objs.size)}:=by
  refine⟨V.ref (s.heap.objs.size+1),_,I2,rfl,q _ _ [s.heap.objs.size+1] ⟨sm,Rp.Qjb (ns:=[]) (vs:=[]) (G:=[]) cn (QQ ..) rfl (by simp[Rps]),λa ha=> .inl (by rw[Zl.mp ha];exact hx),λ_=>⟨λa=>?_,rfl⟩,QaZ.nil⟩⟩
  by_cases ha:a=s.heap.objs.size+1
  ·rw[ha,Qaz hx];simp
  ·rw[Zz.mpr (by simpa using ha)];exact ZT _
 have Y:=Zbn (M:=model X.prog X.w) I.kIn h1
 refine wpAny_call ?_
 refine QpZ I.kIn h1 h2 (λself=>PySem.W.Looks.of_pure (PySem.W.oi_bind self)) ?_
 have e2:((s.heap.push PySem.W.emptyDict).push (PySem.W.instObj C s.heap.objs.size)).get? (s.heap.objs.size+1)=some (PySem.W.instObj C s.heap.objs.size):=by
  have:=ZM (s.heap.push PySem.W.emptyDict) (o:=PySem.W.instObj C s.heap.objs.size) rfl
  rwa[ZaA]at this
 have t1:PySem.W.Looks (model X.prog X.w) ((s.heap.push PySem.W.emptyDict).push (PySem.W.instObj C s.heap.objs.size)) (typeOf (.ref (s.heap.objs.size+1))) (.ref C):=(PySem.W.Looks.ld e2).andThen .now
 have t2:PySem.W.Looks (model X.prog X.w) ((s.heap.push PySem.W.emptyDict).push (PySem.W.instObj C s.heap.objs.size)) (isInstance (.ref (s.heap.objs.size+1)) (.type "object")) true:=t1.andThen (Y.top.keeps λb o e=>Zt _ (Zt _ e))
 refine codeAny_call_builtin PySem.W.oi_plain PySem.W.entry_oi (@PySem.W.check_slot (model X.prog X.w) _ _ _ "object.__init__" "object" "__init__" (.ref (s.heap.objs.size+1)) [] [] _ PySem.W.oi_kind PySem.W.oi_split t2 (PySem.W.oi_args (.ref (s.heap.objs.size+1))) ?_)
 rw[PySem.W.oi_run]
 exact wpAny_pure (And.intro rfl hq)
end
end HS
namespace HS
open PySem PySem.Spec L2 PyProof.Rows
noncomputable def Qh8(T:MeT)(m:Str)(ds:List D)(k:Int)(d:D):Option (D×D):=match d with
 | .lst es=>(ixN es.length k).bind λj=>(es[j]?).bind λe=>(ioM T m ds e).map λq=>(q.1,.lst (es.set j q.2))
 | _=>none
noncomputable def Qdk(T:MeT)(x i kk:Nat)(m:Str)(fs:DA):DS:=λρ=>(fs ρ).bind λr=>match ρ[kk]? with
 | some (some (.int k,_))=>match ρ[i]? with
  | some (some (d,true))=>match ρ[x]? with
   | some (some (.lst es,true))=>if(decide (x≠i) && decide (kk≠i) && decide (kk≠x) && !r.M.contains i && !r.M.contains x)=true then
     (QcT (Qh8 T m r.ds k) d).bind λq=>(ixN es.length k).map λj=> .nx ((ρ.set i (some (q.2,true))).set x (some (.lst (es.set j q.1),true)))else none
   | _=>none
  | _=>none
 | _=>none
section
variable {K:PySem.W.Frag}{H0 H H':Hp}{A0:List Addr}{hs:List (V×D×List Addr)}{ρ:En}{F:Nat->List Addr}{σ:L2.St}{i x:Nat}{d d2 dp:D}{v v2:V}{G Gp:List Addr}
theorem QrT{P Q:List Addr}(h:∀a∈P,a∈Q)(s:Qr (hide H P) H'):Qr (hide H Q) H':=λb o e=>by
 by_cases hb:b∈Q
 ·rw[Qfv hb]at e;cases e
 ·rw[QeN hb]at e
  exact Qak s e λz=>hb (h b z)
theorem Qvb{α:Type}{xs:List α}{k:Int}{j:Nat}{y:α}(h:ixN xs.length k=some j)(e:xs[j]? =some y):atI xs k=some y:=by
 unfold atI
 rw[h]
 exact e
theorem Rps.Qrr{P:List Addr}{ds:List D}{vs:List V}{L:List Addr}(hm:∀a∈P,Qci (H a))(s:Qr (hide H P) H')(h:Rps K H ds vs L)(hn:∀a∈L,a∉P):Rps K H' ds vs L:=Rps.but hm s h hn
theorem Qus{l:Addr}{es:List D}{vs:List V}{Gs:List Addr}{j:Nat}{e z:D}{ve:V}{F1 Fe F2:List Addr}(hl:H l=some (.lst vs))(hz:es.length<=sizeLine)(hlen:es.length=vs.length)(hj:j<es.length)(ev:vs[j]? =some ve)(nd:(l::(F1++(Fe++F2))).Nodup)
  (r1:Rps K H (es.take j) (vs.take j) F1) (re:Rp K H e ve Fe) (r2:Rps K H (es.drop (j+1)) (vs.drop (j+1)) F2) (ip:QgP K H Fe d2 z ve v2 H' G Gp):
  Rp K H' (.lst (es.set j z)) (.ref l) (l::(F1++(Gp++F2)))/\H' l=some (.lst vs)/\(G++(l::(F1++(Gp++F2)))).Nodup/\∀b∈G++(l::(F1++(Gp++F2))),b∈l::(F1++(Fe++F2))∨H b=none:=by
 have hm:∀a∈Fe,Qci (H a):=re.mut
 obtain⟨nl,nd'⟩:=ZJ.mp nd
 obtain⟨n1,n23,n4⟩:=Zy.mp nd'
 obtain⟨n2,n3,n5⟩:=Zy.mp n23
 have lFe:l∉Fe:=λh=>nl (Ze _ (Zd _ h))
 have d1:∀a∈F1,a∉Fe:=λa h1 h2=>n4 a h1 a (Zd _ h2) rfl
 have d2':∀a∈F2,a∉Fe:=λa h1 h2=>n5 a h2 a h1 rfl
 have hl':H' l=some (.lst vs):=Qak ip.same hl lFe
 have q1:=Rps.but hm ip.same r1 d1
 have q2:=Rps.but hm ip.same r2 d2'
 have hv:j<vs.length:=by omega
 have hset:vs.set j ve=vs:=by
  apply Zax
  intro k
  by_cases hk:j=k
  ·subst hk;rw[Zn hv,ev]
  ·rw[Zf hk]
 have q:=Rps.Qn8 q1 ip.rpp q2 hj hv
 rw[hset]at q
 have there:∀b∈l::(F1++F2),∃u,H b=some u:=λb hb=>by
  rcases Zo.mp hb with rfl | hb
  ·exact⟨_,hl⟩
  ·rcases Zm.mp hb with hb | hb
   ·exact r1.mem b hb
   ·exact r2.mem b hb
 have apart:∀b∈l::(F1++F2),b∉G++Gp:=λb hb hg=>by
  obtain⟨u,hu⟩:=there b hb
  rcases ip.fr b hg with z | z
  ·rcases Zo.mp hb with rfl | hb
   ·exact lFe z
   ·rcases Zm.mp hb with hb | hb
    ·exact d1 b hb z
    ·exact d2' b hb z
  ·rw[z]at hu;cases hu
 obtain⟨g1,g2,g3⟩:=Zy.mp ip.nd
 refine⟨Rp.Qdo hl' q (by rw[Zar];exact hz),hl',?_,λb hb=>?_⟩
 ·refine Zy.mpr ⟨g1,ZJ.mpr ⟨λh=>?_,Zy.mpr ⟨n1,Zy.mpr ⟨g2,n3,λa ha b hb hab=>?_⟩,λa ha b hb hab=>?_⟩⟩,λa ha b hb hab=>?_⟩
  ·rcases Zm.mp h with h | h
   ·exact nl (Zd _ h)
   ·rcases Zm.mp h with h | h
    ·exact apart l (by simp) (Ze _ h)
    ·exact nl (Ze _ (Ze _ h))
  ·subst hab;exact apart a (by simp[hb]) (Ze _ ha)
  ·subst hab
   rcases Zm.mp hb with h | h
   ·exact apart a (by simp[ha]) (Ze _ h)
   ·exact n4 a ha a (Ze _ h) rfl
  ·subst hab
   rcases Zo.mp hb with h | h
   ·exact apart a (by simp[h]) (Zd _ ha)
   ·rcases Zm.mp h with h | h
    ·exact apart a (by simp[h]) (Zd _ ha)
    ·rcases Zm.mp h with h | h
     ·exact g3 a ha a h rfl
     ·exact apart a (by simp[h]) (Zd _ ha)
 ·rcases Zm.mp hb with h | h
  ·rcases ip.fr b (Zd _ h)with z | z
   ·exact .inl (by simp[z])
   ·exact .inr z
  ·rcases Zo.mp h with h | h
   ·exact .inl (by simp[h])
   ·rcases Zm.mp h with h | h
    ·exact .inl (by simp[h])
    ·rcases Zm.mp h with h | h
     ·rcases ip.fr b (Ze _ h)with z | z
      ·exact .inl (by simp[z])
      ·exact .inr z
     ·exact .inl (by simp[h])
end
theorem Qhy{l:List Addr}(h:l.Nodup)(a:Addr):l.count a<=1:=ZR.mp h a
section
variable {X:Cx}{T:MeT}{m:Str}{oL ok1 ox ok2 e:Expr}{es:List Expr}{fs:DA}{pos cpos apos p3 p6:Pos}{i x kk:Nat}
theorem Qum{pl:Sem Bool}(hM:QlM X T)(hL:PE X oL (QbX i))(hk1:PE X ok1 (QbX kk))(hk1p:Qeh ok1)(hx:PE X ox (QbX x))(hk2:PE X ok2 (QbX kk))(ha:SA X (e::es) fs)
  (hst:starEach (e::es) X.env=(false,eval e X.env)::starEach es X.env) (hpl:(backTo cpos (starEach es X.env)).any (·.1)=false)
  (ht:eval (.Call (.Attribute (.Subscript oL ok1 p6) m apos) (e::es) [] cpos) X.env=(do
   let ov ← eval (.Subscript oL ok1 p6) X.env
   standAt apos.atName
   let (f,first) ← holding [ov] (getMethod ov m pl)
   callWith cpos f first (backTo cpos (starEach (e::es) X.env)) (backToKw cpos (keywordEach [] X.env))))
  (hps:∀te to ti,PE X (.Call (.Attribute (.Subscript oL ok1 p6) m apos) (e::es) [] cpos) te->PE X ox to->PE X ok2 ti->PS X (.Assign [.Subscript ox ok2 p3] (.Call (.Attribute (.Subscript oL ok1 p6) m apos) (e::es) [] cpos) pos) (Qj0 te (L2.Qfn to ti Qov))):
  S1 X (.Assign [.Subscript ox ok2 p3] (.Call (.Attribute (.Subscript oL ok1 p6) m apos) (e::es) [] cpos) pos) (Qdk T x i kk m fs):=by
 intro H0 A0 pins s σ H E I hpt
 obtain⟨ρ,hs,F,out,rel,ee,q⟩:=hpt
 refine Qc ee λr e1 ee=>?_
 split at ee
 case h_2=>cases ee
 rename_i k bk hkρ
 split at ee
 case h_2=>cases ee
 rename_i d hρ
 split at ee
 case h_2=>cases ee
 rename_i eX hρx
 split at ee
 case isFalse=>cases ee
 rename_i hc
 simp only[Zg,decide_eq_true_eq,ZO]at hc
 obtain⟨⟨⟨⟨hxi,hki⟩,hkx⟩,hM0⟩,hM1⟩:=hc
 have hi:i∉r.M:=λz=>by rw[ZI.mpr z]at hM0;cases hM0
 refine Qc ee λqq e2 ee=>?_
 obtain⟨j,e3,rfl⟩:=Zc.mp ee
 obtain⟨e0,z,hg,hd⟩:=QhY e2
 obtain⟨v,hv,rp⟩:=rel.val i d true hρ
 obtain⟨o1,o2,o3,o4,o5⟩:=rel.own i d hρ
 obtain⟨vx,hvx,rpx⟩:=rel.val x _ true hρx
 obtain⟨x1,x2,x3,x4,x5⟩:=rel.own x _ hρx
 obtain⟨vk,hvk,rpk⟩:=rel.val kk _ _ hkρ
 have evk:=rpk.int_inv
 subst evk
 have r0:Rp X.K H e0 v (F i)/\e0.nl=d.nl:=by
  rcases hd with⟨a,rfl,_⟩ | ⟨rfl,_⟩
  ·exact⟨rp.QbK.2,(QbH _ _).symm⟩
  ·exact⟨rp,rfl⟩
 have un:qq.2.nl=z.nl:=by
  rcases hd with⟨a,rfl,h2⟩ | ⟨rfl,h2⟩
  ·rw[h2,QbH]
  ·rw[h2]
 have up:∀{H'':Hp}{L:List Addr},Rp X.K H'' z v L->Rp X.K H'' qq.2 v L:=λ{H'' L} h=>by
  rcases hd with⟨a,rfl,h2⟩ | ⟨rfl,h2⟩
  ·obtain⟨ea,_⟩:=rp.QbK
   rw[h2]
   subst ea
   exact Rp.Qg9 h
  ·rw[h2];exact h
 obtain⟨rpe,nle⟩:=r0
 unfold Qh8 at hg
 split at hg
 case h_2=>cases hg
 rename_i eL
 refine Qc hg λjL f1 hg=>?_
 refine Qc hg λob f2 hg=>?_
 obtain⟨q',f3,f4⟩:=Zc.mp hg
 have f5:q'.1=qq.1:=(Prod.mk.inj f4).1
 have f6:D.lst (eL.set jL q'.2)=z:=(Prod.mk.inj f4).2
 obtain⟨l,_,_,evl,_⟩:=rpe.lst_inv
 subst evl
 have on1:(F i).length=(D.lst eL).nl:=by rw[o1,nle]
 obtain⟨vsL,GL,g1,g2,g3,g4,g5,g6,g7,_⟩:=(show Focus X.K H [] (.lst eL) (.ref l) (F i) (.lst eL) (.ref l) (F i)from⟨rfl,rfl,rfl,rpe⟩).mut (vs':=[]) (ds':=[]) (G':=[]) o2 on1
 obtain⟨lx,_,_,evx,_,_,zx,_⟩:=rpx.lst_inv
 subst evx
 obtain⟨vsX,GX,y1,y2,y3,y4,y5,y6,y7,_⟩:=(show Focus X.K H [] (.lst eX) (.ref lx) (F x) (.lst eX) (.ref lx) (F x)from⟨rfl,rfl,rfl,rpx⟩).mut (vs':=[]) (ds':=[]) (G':=[]) x2 x1
 obtain⟨_,_,_,_,_,_,zL,_⟩:=rpe.lst_inv
 have hjL:=(Qem f1).2.1
 have hjX:=(Qem e3).2.1
 obtain⟨F1,Fe,F2,ve,eF,ev,r1,re,r2⟩:=g3.split f2
 have eFi:F i=l::(F1++(Fe++F2)):=by rw[g2,eF]
 have subFe:∀b∈Fe,b∈F i:=λb hb=>by rw[eFi];simp[hb]
 have ndi:(l::(F1++(Fe++F2))).Nodup:=eFi▸o2
 unfold ioM at f3
 split at f3
 case h_2=>cases f3
 rename_i cn ns ds0
 refine Qc f3 λms h1 f3=>?_
 refine Qc f3 λio h2 f3=>?_
 split at f3
 case isFalse=>cases f3
 rename_i hn
 simp only[Zg,decide_eq_true_eq,ZO]at hn
 obtain⟨hn1,hn2⟩:=hn
 obtain⟨a,C,dx,vs0,G0,eva,eG,k3,k4,k5,rs⟩:=re.Qc2
 obtain⟨kd,f,fd,ps,c1,c2,c3,c4,c5⟩:=hM cn ms m io h1 h2 C k3
 subst eva
 have ndFe:Fe.Nodup:=by
  obtain⟨_,nd'⟩:=ZJ.mp ndi
  exact(Zy.mp (Zy.mp nd').2.1).1
 have lens:F1.length+(Fe.length+F2.length)=nls eL:=by
  have:=g4
  rw[eF,Zk,Zk]at this
  exact this
 have le1:=r1.QS
 have le2:=re.QS
 have le3:=r2.QS
 have nsum:nls (eL.take jL)+((D.obj (.ins cn ns) ds0).nl+nls (eL.drop (jL+1)))=nls eL:=by
  have e2:=congrArg nls (Zau jL eL)
  rw[Qa0,ZK hjL]at e2
  have e4:eL[jL]= .obj (.ins cn ns) ds0:=by
   rw[ZE hjL]at f2
   exact Option.some.inj f2
  rw[e4]at e2
  simpa only[nls]using e2
 have lenFe:Fe.length=(D.obj (.ins cn ns) ds0).nl:=by omega
 refine hps _ _ _ (Qny (Qlc Qj7 hL hk1 hk1p) c1 c2 c3 c4 c5 .nil QfV (ha H0 A0) hst hpl ht) hx hk2 pins s σ H E I ⟨_,hv,_,hvk,l,vsL,k,.ref a,rfl,rfl,.inl (.inl g1),Qvb (by rw[← g3.length];exact f1) ev,a,dx,_,rfl,k4,Qb6 λz=>?_,ρ,hs,F,r,rel,e1,λvs H1 G p1=>?_⟩
 ·rw[ZI.mpr z]at hn1;cases hn1
 obtain⟨Fs,w1,w2⟩:=Qir p1.rp
 have hlen:=p1.rp.length
 have ap:∀b∈F i,b∉G:=λb hb hbG=>by
  rcases p1.src b hbG with w | ⟨j',d',b',ej,mj,hj⟩
  ·obtain⟨u,hu⟩:=rp.mem b hb
   rw[w]at hu;cases hu
  ·by_cases hji:j'=i
   ·subst hji
    rw[hρ]at ej
    cases ej
    exact hi (hj rfl)
   ·exact o4 j' d' b' hji ej b hb mj
 refine⟨.obj (.ins cn ns) ds0::r.ds,λj=>match j with | 0=>Fe | j+1=>Fs j,a,q'.1,q'.2,by rw[Zi,hn2],by rw[ZD,Zi,← hlen,hn2],λj dj ej=>?_,by omega,rfl,ndFe,?_,λj hj hj0 b hb=>?_,f3,λv2 H2 G2 Gp ip=>?_⟩
 ·cases j with
  | zero=>simp at ej;subst ej;exact⟨_,rfl,re.same p1.same⟩
  | succ j=>
   obtain⟨u,g1,g2⟩:=w2 j dj (by simpa using ej)
   exact⟨u,by simpa using g1,g2⟩
 ·show Fe.length=_
  rw[lenFe];rfl
 ·cases j with
  | zero=>exact absurd rfl hj0
  | succ j=>exact λw=>ap b (subFe b hb) (w1 j b w)
 have relE:=rel.ext p1.same
 obtain⟨t1,t2,t3,t4⟩:=Qus (es:=eL) (Gs:=GL) (p1.same _ _ g1) zL g3.length hjL ev ndi (r1.same p1.same) (re.same p1.same) (r2.same p1.same) ip
 have fri:∀b∈G2++(l::(F1++(Gp++F2))),b∈F i∨H1 b=none:=λb hb=>by rw[eFi];exact t4 b hb
 have lo:∀b∈G2++(l::(F1++(Gp++F2))),Qih H0 hs ρ F i b:=λb hb=>relE.Qjk hρ (fri b hb)
 obtain⟨m1,m2,m3⟩:=Zy.mp t3
 have lenN:(l::(F1++(Gp++F2))).length=qq.2.nl:=by
  rw[un,← f6]
  have:=Qej (ds:=eL) (j:=jL) (d:= .obj (.ins cn ns) ds0) (e:=q'.2) f2
  have lp:=ip.lenp
  have e5:(D.lst (eL.set jL q'.2)).nl=nls (eL.set jL q'.2)+1:=by simp only[D.nl]
  rw[e5,Zi,Zk,Zk]
  omega
 have relI:=relE.io hρ hv (QrT subFe ip.same) (up (f6▸t1)) m2 lenN λb hb=>lo b (Ze _ hb)
 have notFe:∀b∈F x,b∉Fe:=λb hb hb2=>x4 i d true (Ne.symm hxi) hρ b hb (subFe b hb2)
 have hmFe:∀a∈Fe,Qci (H1 a):=(re.same p1.same).mut
 have hlx2:H2 lx=some (.lst vsX):=Qak ip.same (p1.same _ _ y1) (notFe lx y5)
 have y3':Rps X.K H2 eX vsX GX:=Rps.but hmFe ip.same (y3.same p1.same) λb hb=>notFe b (by rw[y2];exact Zb _ hb)
 have gX:∀b∈F x,b∉G2:=λb hb hb2=>by
  rcases ip.fr b (Zd _ hb2)with z | z
  ·exact notFe b hb z
  ·obtain⟨u,hu⟩:=rpx.mem b hb
   rw[p1.same _ _ hu]at z;cases z
 obtain⟨GX',u1,u2,u3⟩:=set_mk (j:=j) hlx2 y3' y4 y7 (gX lx y5) ip.rp ip.len hjX
 have ndX:(lx::GX).Nodup:=y2▸x2
 have cnt:∀b,(lx::GX').count b<=1:=λb=>by
  have h3:=u3 b
  have c1:=Qhy ndX b
  have c2:=Qhy m1 b
  rw[Zao]at c1 ⊢
  by_cases hb:b∈F x
  ·have:G2.count b=0:=Zz.mpr (gX b hb)
   omega
  ·have h0:GX.count b=0:=Zz.mpr λz=>hb (by rw[y2];exact Zb _ z)
   have hl:(lx == b)=false:=beq_eq_false_iff_ne.mpr λz=>hb (by rw[y2,z];simp)
   rw[hl]at c1 ⊢
   simp only[Zbe,if_false]at c1 ⊢
   omega
 have hxx:(ρ.set i (some (qq.2,true)))[x]? =some (some (.lst eX,true)):=by rw[Zf (Ne.symm hxi)];exact hρx
 have mem':∀b∈lx::GX',b∈F x∨b∈G2:=λb hb=>by
  rcases Zo.mp hb with h | h
  ·exact .inl (h▸y5)
  ·have h0:0<GX'.count b:=ZS.mpr h
   have:=u3 b
   by_cases hg:b∈GX
   ·exact .inl (by rw[y2];exact Zb _ hg)
   ·rw[Zz.mpr hg]at this
    exact .inr (ZS.mp (by omega))
 have relX:=relI.io (i:=x) hxx hvx (H':=upd H2 lx (.lst (vsX.set j v2))) (QdU (by rw[if_neg hxi];exact y5)) (Rp.Qdo (QQ) u1 (by rw[Zar];exact zx)) (ZR.mpr cnt) (by simp only[D.nl,Zi,u2]) λb hb=>?_
 ·refine⟨_,hvx,_,hvk,lx,vsX,k,j,rfl,rfl,hlx2,by rw[← y3.length];exact e3,?_⟩
  rw[f5]at relX
  exact q _ _ _ relX
 ·rcases mem' b hb with h | h
  ·exact relI.Qjk hxx (.inl (by rw[if_neg hxi];exact h))
  ·obtain⟨a1,a2,a3⟩:=lo b (Zd _ h)
   refine⟨a1,λj' d' b' ej hj'=>?_,a3⟩
   by_cases hji:j'=i
   ·subst hji
    dsimp only
    rw[if_pos rfl]
    exact λw=>m3 b h b w rfl
   ·dsimp only
    rw[if_neg hji]
    rw[Zf (Ne.symm hji)]at ej
    exact a2 j' d' b' ej hji
end
end HS
namespace HS
open PySem PySem.Spec L2 PyProof.Rows
structure ObT where
 cl:ClT
 me:MeT
 io:List (Str×IoR)
 ma:List (Str×IoR)
 mk0:List Str
structure QfW (X:Cx) (T:ObT):Prop where
 cl:QeS X.K T.cl
 me:QlM X T.me
 io:∀g r,look g T.io=some r->Qq6 X g r
 ma:∀g r,look g T.ma=some r->Qvm X g r
 mk0:∀g∈T.mk0,QsQ X g
noncomputable def te1(n:Nat)(Θ:Th)(T:ObT)(e:Expr):Option DE:=match e with
 | .Attribute o f _=>(QD o).bind λx=>(Θ.slot x).map λi=>Qcf T.cl f (Qa i)
 | .Call fn args kw _=>match kw with
  | _::_=>none
  | []=>(QD fn).bind λx=>if Θ.gl x=true then(match args with
   | []=>if T.mk0.contains x=true then some (Qjf x)else none
   | a::as=>(look x T.ma).bind λr=>(QaC n Θ (a::as)).map λfs=>QhD x r fs)else none
 | _=>none
noncomputable def QkZ(n:Nat)(Θ:Th):List Expr->Option (List (Option DE))
 | []=>some []
 | e::es=>(Ql n Θ e).bind λf=>(QkZ n Θ es).map λfs=>some f::fs
noncomputable def QoO(n:Nat)(Θ:Th):Nat->List Expr->Option (Nat×List (Option DE))
 | _,[]=>none
 | 0,e::es=>(QD e).bind λx=>(Θ.slot x).bind λi=>(QkZ n Θ es).map λfs=>(i,none::fs)
 | p+1,e::es=>(Ql n Θ e).bind λf=>(QoO n Θ p es).map λq=>(q.1,some f::q.2)
noncomputable def te2(n:Nat)(Θ:Th)(T:ObT)(e:Expr):Option DE:=match te1 n Θ T e with
 | some f=>some f
 | none=>match e with
  | .Call fn args kw _=>match kw with
   | _::_=>none
   | []=>match args with
    | []=>none
    | a::as=>(QD fn).bind λx=>if Θ.gl x=true then(look x T.io).bind λr=>(QkZ n {Θ with te:=te1 n Θ T} (a::as)).map λfs=>QwC r fs else none
  | _=>none
noncomputable def QqH:Expr->Bool
 | .Subscript a i _=>match a with
  | .Name _ _=>match i with
   | .Constant _ _ _=>true
   | _=>false
  | _=>false
 | _=>false
noncomputable def Qn7(T:MeT)(m:Str):Bool:=T.any λq=>(look m q.2).isSome
noncomputable def atP(n:Nat)(Θ:Th)(T:ObT)(ta ti e:Expr):Option DS:=match e with
 | .Call fn args kw cp=>match kw with
  | _::_=>none
  | []=>match args with
   | []=>none
   | a::as=>match fn with
    | .Attribute o m ap=>match o with
     | .Subscript oL ok _=>if(Qn7 T.me m && (ap.endLine == cp.line) && decide (as.length<20))=true then(QD ta).bind λnx=>(QD ti).bind λnk=>(QD oL).bind λnL=>(QD ok).bind λnk'=>if nk'=nk then(Θ.slot nx).bind λx=>(Θ.slot nk).bind λkk=>(Θ.slot nL).bind λi=>(QaC n Θ (a::as)).map λfs=>Qdk T.me x i kk m fs else none else none
     | _=>none
    | _=>none
 | _=>none
noncomputable def Qq0(n:Nat)(Θ:Th)(T:ObT)(p:Option Nat)(st:Stmt):Option DS:=match st with
 | .Assign ts e _=>match ts with
  | []=>none
  | t::ts=>match ts with
   | _::_=>none
   | []=>match t with
    | .Name x _=>match e with
     | .Call fn args kw cp=>match kw with
      | _::_=>none
      | []=>match args with
       | []=>none
       | a::as=>match fn with
        | .Attribute o m ap=>if(Qn7 T.me m && (ap.endLine == cp.line) && decide (as.length<20))=true then(QD o).bind λy=>(Θ.QaX x).bind λix=>(Θ.slot y).bind λi=>(QaC n Θ (a::as)).map λfs=>QsH T.me ix i m fs else none
        | .Name g _=>if Θ.gl g=true then(look g T.io).bind λr=>(Θ.QaX x).bind λix=>(QoO n Θ r.p (a::as)).map λq=>Qj3 r ix q.1 q.2 else none
        | _=>none
     | .Tuple es k q=>if es.any QqH=true then(Θ.QaX x).bind λix=>(Ql n Θ (.Tuple es k q)).map λfa=>Qs ix (Qcm fa)else none
     | _=>none
    | .Attribute o f _=>if QdE e=true then(QD o).bind λy=>(Θ.slot y).bind λi=>(Ql n Θ e).map λfa=>Qhr T.cl i f fa else none
    | .Subscript ta ti _=>atP n Θ T ta ti e
    | _=>none
 | .AugAssign t op e _=>match t with
  | .Attribute o f _=>match op with
   | .Add=>(QD o).bind λy=>(Θ.slot y).bind λi=>(Ql n Θ e).map λfa=>Qf6 T.cl i f fa
   | _=>none
  | _=>none
 | .Return v _=>v.bind λe=>p.bind λp=>(Ql n Θ e).map λfa=>Qee p fa
 | _=>none
theorem QgZ{o:Expr}{m:Str}{apos cpos:Pos}{es:List Expr}{env:Env}(hb:attributeBase o m env (eval o env)=eval o env)(hl:(apos.endLine == cpos.line)=true)(ha:(backTo cpos (starEach es env)).all (λx=> !x.1)=true)(hn:es.length<29):
  eval (.Call (.Attribute o m apos) es [] cpos) env=(do
   let ov ← eval o env
   standAt apos.atName
   let (f,first) ← holding [ov] (getMethod ov m (do return (← importBound o env).getD true))
   callWith cpos f first (backTo cpos (starEach es env)) (backToKw cpos (keywordEach [] env))):=by
 rw[arm_eval_Call,hb]
 have hform:methodCallForm (es.length+([]:List Keyword).length) (backTo cpos (starEach es env)) (backToKw cpos (keywordEach [] env))=true:=by
  unfold methodCallForm
  rw[ha]
  have:es.length+([]:List Keyword).length+(if(backToKw cpos (keywordEach [] env)).isEmpty=true then 0 else 1)<30:=by
   split<;>(simp only[List.length_nil];omega)
  simp only[Bool.true_and,Zg,decide_eq_true_eq]
  exact⟨rfl,this⟩
 have hpos:methodCallPos true o env apos cpos=pure cpos:=by unfold methodCallPos;simp[hl]
 have key:∀ov,methodCall o m apos cpos env ov (es.length+([]:List Keyword).length) (backTo cpos (starEach es env)) (backToKw cpos (keywordEach [] env))=(do
   let (f,first) ← holding [ov] (getMethod ov m (do return (← importBound o env).getD true))
   callWith cpos f first (backTo cpos (starEach es env)) (backToKw cpos (keywordEach [] env))):=by
  intro ov
  unfold methodCall
  rw[hform,hpos]
  rfl
 simp only[key]
section
variable {X:Cx}{Θ:Th}{T:ObT}{n:Nat}
theorem Qt.QgC{f:Expr->Option DE}(ok:Qt X Θ)(h:∀e g,f e=some g->SE X e g):Qt X {Θ with te:=f}:=
 ⟨⟨ok.N,ok.nd,ok.lc,ok.ce,ok.fe,ok.gl,ok.units,ok.mg,ok.cs⟩,ok.calm,ok.pass,ok.fns,ok.tr,h⟩
theorem Qt.QpH{f:Stmt->Option DS}(ok:Qt X Θ)(h:∀st g,f st=some g->S1 X st g):Qt X {Θ with tr:=f}:=
 ⟨⟨ok.N,ok.nd,ok.lc,ok.ce,ok.fe,ok.gl,ok.units,ok.mg,ok.cs⟩,ok.calm,ok.pass,ok.fns,h,ok.te⟩
theorem QH{e:Expr}{x:Str}(h:QD e=some x):∃p,e= .Name x p:=by
 cases e with
 | Name z p=>cases h;exact⟨p,rfl⟩
 | _=>exact nomatch (show(none:Option Str)=some _ from h)
theorem Qpn(ok:Qt X Θ)(ob:QfW X T):∀e f,te1 n Θ T e=some f->SE X e f:=by
 intro e f h
 cases e with
 | Attribute o fl p=>
  refine Qc (show(QD o).bind _=some f from h) λx hx h=>?_
  refine mapR h λi hi=>?_
  obtain⟨np,rfl⟩:=QH hx
  exact QwU ob.cl (Ql9 (Qaq ok.toCtxB hi)) rfl
 | Call fn args kw p=>
  cases kw with
  | cons _ _=>exact nomatch (show(none:Option DE)=some _ from h)
  | nil=>
   refine Qc (show(QD fn).bind _=some f from h) λx hx h'=>?_
   clear h
   obtain⟨np,rfl⟩:=QH hx
   have h:=h'
   clear h'
   split at h
   ·rename_i hg
    obtain⟨g1,g2,g3⟩:=Qbq ok.toCtxB hg
    cases args with
    | nil=>
     dsimp only at h
     split at h
     ·rename_i hc
      cases h
      exact Qsz (ob.mk0 x (ZI.mp hc)) g1 g2
     ·cases h
    | cons a as=>
     refine Qc h λr hr h=>?_
     refine mapR h λfs hfs=>?_
     obtain⟨s1,s2⟩:=callArgs (X:=X) hfs rfl p
     exact Qt3 (ob.ma x r hr) g1 g2 ((QT n).A X Θ _ fs ok hfs) s1 s2
   ·cases h
 | _=>exact nomatch (show(none:Option DE)=some _ from h)
theorem Qh7(ok:Qt X Θ)(i:Nat):∀{es:List Expr}{fs:List (Option DE)},QkZ n Θ es=some fs->Qa7 X i es fs
 | [],fs,h=>by cases h;exact .nil
 | e::es,fs,h=>by
  refine Qc h λf h1 h=>?_
  exact mapR (M:=λfs=>Qa7 X i (e::es) fs) h λfs' h2=> .cons (show QkU X i e (some f)from(QT n).E X Θ e f ok h1) (λes env=>Qa1 h1 es env) (Qh7 ok i h2)
theorem Qm4(ok:Qt X Θ):∀{p:Nat}{es:List Expr}{q:Nat×List (Option DE)},QoO n Θ p es=some q->Qa7 X q.1 es q.2
 | p,[],q,h=>by cases p<;>cases h
 | 0,e::es,q,h=>by
  refine Qc (show(QD e).bind _=some q from h) λx hx h1=>?_
  clear h
  refine Qc h1 λi hi h=>?_
  clear h1
  obtain⟨np,rfl⟩:=QH hx
  exact mapR (M:=λq=>Qa7 X q.1 (Expr.Name x np::es) q.2) h λfs hf=> .cons (show QkU X i (.Name x np) none from Qaq ok.toCtxB hi) (λ_ _=>rfl) (Qh7 ok i hf)
 | p+1,e::es,q,h=>by
  refine Qc (show(Ql n Θ e).bind _=some q from h) λf h1 h=>?_
  exact mapR (M:=λq=>Qa7 X q.1 (e::es) q.2) h λq' hq=> .cons (show QkU X q'.1 e (some f)from(QT n).E X Θ e f ok h1) (λes env=>Qa1 h1 es env) (Qm4 ok hq)
theorem Qa7.star{i:Nat}{e:Expr}{es:List Expr}{fs:List (Option DE)}(h:Qa7 X i (e::es) fs)(pos:Pos):starEach (e::es) X.env=(false,eval e X.env)::starEach es X.env/\(backTo pos (starEach es X.env)).any (·.1)=false:=by
 cases h with
 | cons h s t=>exact⟨s _ _,t.any pos X.env⟩
theorem Ql4(ok:Qt X Θ)(ob:QfW X T):∀e f,te2 n Θ T e=some f->SE X e f:=by
 intro e f h
 unfold te2 at h
 split at h
 ·rename_i g hg
  cases h
  exact Qpn ok ob e _ hg
 ·cases e with
  | Call fn args kw p=>
   cases kw with
   | cons _ _=>exact nomatch (show(none:Option DE)=some _ from h)
   | nil=>
    cases args with
    | nil=>exact nomatch (show(none:Option DE)=some _ from h)
    | cons a as=>
     refine Qc (show(QD fn).bind _=some f from h) λx hx h'=>?_
     clear h
     obtain⟨np,rfl⟩:=QH hx
     have h:=h'
     clear h'
     split at h
     ·rename_i hg
      obtain⟨g1,g2,g3⟩:=Qbq ok.toCtxB hg
      refine Qc h λr hr h=>?_
      refine mapR h λfs hfs=>?_
      have ha:=Qh7 (ok.QgC (Qpn ok ob)) 0 hfs
      obtain⟨s1,s2⟩:=ha.star p
      exact QvC (ob.io x r hr) g1 g2 ha s1 s2
     ·cases h
  | _=>exact nomatch (show(none:Option DE)=some _ from h)
theorem Qw3(ok:Qt X Θ)(ob:QfW X T){ta ti e:Expr}{p3 pos:Pos}{f:DS}(h:atP n Θ T ta ti e=some f):S1 X (.Assign [.Subscript ta ti p3] e pos) f:=by
 cases e with
 | Call fn args kw cp=>
  cases kw with
  | cons _ _=>exact nomatch (show(none:Option DS)=some _ from h)
  | nil=>
   cases args with
   | nil=>exact nomatch (show(none:Option DS)=some _ from h)
   | cons a as=>
    cases fn with
    | Attribute o m ap=>
     cases o with
     | Subscript oL okk p6=>
      change(if(Qn7 T.me m && (ap.endLine == cp.line) && decide (as.length<20))=true then _ else none)=some f at h
      split at h
      ·rename_i hcc
       simp only[Zg,decide_eq_true_eq]at hcc
       refine Qc h λnx hx h=>?_
       refine Qc h λnk hk h=>?_
       refine Qc h λnL hL h=>?_
       refine Qc h λnk' hk' h=>?_
       split at h
       ·rename_i ek
        subst ek
        refine Qc h λx sx h=>?_
        refine Qc h λkk sk h=>?_
        refine Qc h λi si h=>?_
        refine mapR h λfs hfs=>?_
        obtain⟨q1,rfl⟩:=QH hx
        obtain⟨q2,rfl⟩:=QH hk
        obtain⟨q3,rfl⟩:=QH hL
        obtain⟨q4,rfl⟩:=QH hk'
        have B:=ok.toCtxB
        obtain⟨s1,s2⟩:=callArgs (X:=X) hfs rfl cp
        exact Qum ob.me (Qaq B si) (Qaq B sk) (λ_ _=>rfl) (Qaq B sx) (Qaq B sk) ((QT n).A X Θ _ fs ok hfs) s1 s2 (QgZ rfl hcc.1.2 (by
         have:=QfC hfs cp X.env
         rw[List.all_eq_not_any_not]
         simpa using this) (by rw[Zi];omega)) λte to ti h1 h2 h3=>Qpg h1 (QqD h2 h3 set_list λ_=>rfl) Qkb rfl rfl
       ·cases h
      ·cases h
     | _=>exact nomatch (show(none:Option DS)=some _ from h)
    | _=>exact nomatch (show(none:Option DS)=some _ from h)
 | _=>exact nomatch (show(none:Option DS)=some _ from h)
theorem QnH(ok:Qt X Θ)(ob:QfW X T)(p:Option Nat):∀st f,Qq0 n Θ T p st=some f->S1 X st f:=by
 intro st f h
 have hN:X.N.Nodup:=by rw[ok.N];exact ok.nd
 cases st with
 | Assign ts e pos=>
  rcases ts with _ | ⟨t,_ | ⟨t2,ts⟩⟩
  ·exact nomatch (show(none:Option DS)=some _ from h)
  ·cases t with
   | Name x xp=>
    cases e with
    | Call fn args kw cp=>
     cases kw with
     | cons _ _=>exact nomatch (show(none:Option DS)=some _ from h)
     | nil=>
      cases args with
      | nil=>exact nomatch (show(none:Option DS)=some _ from h)
      | cons a as=>
       cases fn with
       | Attribute o m ap=>
        change(if(Qn7 T.me m && (ap.endLine == cp.line) && decide (as.length<20))=true then _ else none)=some f at h
        split at h
        ·rename_i hcc
         simp only[Zg,decide_eq_true_eq]at hcc
         refine Qc h λy hy h=>?_
         refine Qc h λix hx h=>?_
         refine Qc h λi hi h=>?_
         refine mapR h λfs hfs=>?_
         obtain⟨np,rfl⟩:=QH hy
         obtain⟨x1,x2,x3⟩:=QaU ok.toCtxB hx
         obtain⟨s1,s2⟩:=callArgs (X:=X) hfs rfl cp
         exact QtV hN x1 x2 x3 ob.me (Qaq ok.toCtxB hi) ((QT n).A X Θ _ fs ok hfs) s1 s2 (QgZ rfl hcc.1.2 (by
          have:=QfC hfs cp X.env
          rw[List.all_eq_not_any_not]
          simpa using this) (by rw[Zi];omega))
        ·cases h
       | Name g gp=>
        change(if Θ.gl g=true then _ else none)=some f at h
        split at h
        ·rename_i hg
         refine Qc h λr hr h=>?_
         refine Qc h λix hx h=>?_
         refine mapR h λq hq=>?_
         obtain⟨g1,g2,g3⟩:=Qbq ok.toCtxB hg
         obtain⟨x1,x2,x3⟩:=QaU ok.toCtxB hx
         have ha:=Qm4 ok hq
         obtain⟨s1,s2⟩:=ha.star cp
         exact QvA hN x1 x2 x3 (ob.io g r hr) g1 g2 ha s1 s2
        ·cases h
       | _=>exact nomatch (show(none:Option DS)=some _ from h)
    | Tuple es k q=>
     change(if es.any QqH=true then _ else none)=some f at h
     split at h
     ·refine Qc h λix hx h=>?_
      refine mapR h λfa hfa=>?_
      obtain⟨x1,x2,x3⟩:=QaU ok.toCtxB hx
      exact QgE λH0 A0=>QdV hN x1 x2 (QlS ((QT n).E X Θ _ fa ok hfa) H0 A0) (QbC rfl) x3
     ·cases h
    | _=>exact nomatch (show(none:Option DS)=some _ from h)
   | Subscript ta ti p3=>exact Qw3 ok ob (show atP n Θ T ta ti e=some f from h)
   | Attribute o fl ap=>
    change(if QdE e=true then _ else none)=some f at h
    split at h
    ·rename_i hc
     refine Qc h λy hy h=>?_
     refine Qc h λi hi h=>?_
     refine mapR h λfa hfa=>?_
     obtain⟨np,rfl⟩:=QH hy
     exact Qs8 ob.cl (Qaq ok.toCtxB hi) ((QT n).E X Θ e fa ok hfa) (QbC hc)
    ·cases h
   | _=>exact nomatch (show(none:Option DS)=some _ from h)
  ·exact nomatch (show(none:Option DS)=some _ from h)
 | AugAssign t op e pos=>
  cases t with
  | Attribute o fl ap=>
   cases op with
   | Add=>
    refine Qc (show(QD o).bind _=some f from h) λy hy h=>?_
    refine Qc h λi hi h=>?_
    refine mapR h λfa hfa=>?_
    obtain⟨np,rfl⟩:=QH hy
    exact Quy ob.cl (Qaq ok.toCtxB hi) ((QT n).E X Θ e fa ok hfa)
   | _=>exact nomatch (show(none:Option DS)=some _ from h)
  | _=>exact nomatch (show(none:Option DS)=some _ from h)
 | Return v pos=>
  refine Qc (show v.bind _=some f from h) λe he h=>?_
  cases he
  refine Qc h λp hp h=>?_
  exact mapR (M:=λf=>S1 X (.Return (some e) pos) f) h λfa hfa=>Qs9 ((QT n).E X Θ e fa ok hfa)
 | _=>exact nomatch (show(none:Option DS)=some _ from h)
noncomputable def thO(n:Nat)(Θ:Th)(T:ObT)(p:Option Nat):Th:={Θ with te:=te2 n Θ T,tr:=Qq0 n {Θ with te:=te2 n Θ T} T p}
theorem Qqv(ok:Qt X Θ)(ob:QfW X T)(p:Option Nat):Qt X (thO n Θ T p):=
 (ok.QgC (Ql4 ok ob)).QpH (QnH (ok.QgC (Ql4 ok ob)) ob p)
end
section
variable (P:Program) (w:World) (K:PySem.W.Frag) (mg:Str->Option Value) (base:Heap)
structure Qb0 (k:Nat) (T:ObT):Prop where
 cl:QeS K T.cl
 me:∀x ms m r,look x T.me=some ms->look m ms=some r->∀C,PySem.W.nsIn K mainGlobals x=some (some (.ref C))->∃f fd ps,Cls K C/\Qiu K C m f/\Q4 P w K mg base CX0 k f fd ps (Qer K r.n 0 r.den)/\Binds K fd ps []
 io:∀g r,look g T.io=some r->∃f fd ps,Q4 P w K mg base CX0 k f fd ps (Qer K r.n r.p r.den)/\mg g=some (.ref f)/\PySem.W.keepIn K (.ref f)=true/\Binds K fd ps []
 ma:∀g r,look g T.ma=some r->∃C f fd ps,PySem.W.nsIn K mainGlobals g=some (some (.ref C))/\Mk K C f/\Q4 P w K mg base CX0 k f fd ps (Qer K r.n 0 r.den)/\mg g=some (.ref C)/\Binds K fd ps []
 mk0:∀g∈T.mk0,∃C,PySem.W.nsIn K mainGlobals g=some (some (.ref C))/\PySem.W.makesIn K C=true/\PySem.W.findIn K (.ref C) "__init__" =some (some (.builtin "object.__init__"))/\PySem.W.keepIn K (.ref C)=true/\mg g=some (.ref C)
end
section
variable {P:Program}{w:World}{K:PySem.W.Frag}{mg:Str->Option Value}{base:Heap}
theorem Qb0.mono{j k:Nat}{T:ObT}(t:Qb0 P w K mg base j T)(h:j<=k):Qb0 P w K mg base k T where
 cl:=t.cl
 me:=λx ms m r h1 h2 C h3=>let ⟨f,fd,ps,c1,c2,c3,c4⟩:=t.me x ms m r h1 h2 C h3;⟨f,fd,ps,c1,c2,c3.mono h,c4⟩
 io:=λg r h1=>let ⟨f,fd,ps,c1,c2⟩:=t.io g r h1;⟨f,fd,ps,c1.mono h,c2⟩
 ma:=λg r h1=>let ⟨C,f,fd,ps,c1,c2,c3,c4⟩:=t.ma g r h1;⟨C,f,fd,ps,c1,c2,c3.mono h,c4⟩
 mk0:=t.mk0
theorem Qb0.ob{k:Nat}{T:ObT}{X:Cx}(t:Qb0 X.prog X.w X.K X.mg X.base k T)(hr:QU (k+1) X.A):QfW X T where
 cl:=t.cl
 me:=λx ms m r h1 h2 C h3=>let ⟨f,fd,ps,c1,c2,c3,c4⟩:=t.me x ms m r h1 h2 C h3;⟨k,f,fd,ps,c1,c2,c3,hr.mono (Zaw k),c4⟩
 io:=λg r h1=>let ⟨f,fd,ps,c1,c2,c3,c4⟩:=t.io g r h1;⟨k,f,fd,ps,c1,hr.mono (Zaw k),c2,c3,c4⟩
 ma:=λg r h1=>let ⟨C,f,fd,ps,c1,c2,c3,c4,c5⟩:=t.ma g r h1;⟨k,C,f,fd,ps,c1,c2,c3,hr,c4,c5⟩
 mk0:=t.mk0
theorem QsX{x qual:Str}{st:Stmt}{f:Addr}{fd:FuncData}{ps:List Str}{k n n' p:Nat}{Γ:List (Str×FnR)}{cs:List (Str×Cn)}{T:ObT}{g:DS}{den:QbZ}(F:Fun K x qual st f fd)(S:Qar (namesOf (Qd st)) ps (Qd st))(M:Qb5 mg cs)(tab:Qan P w K mg base (k+1) Γ)(tabo:Qb0 P w K mg base k T)
  (hc:Q5 n (thO n' (Qbw st Γ cs) T (some p)) (QM st)=some g) (hU:UIO (namesOf (Qd st)).length p g den):Q4 P w K mg base CX0 (k+2) f fd ps (Qer K ps.length p den):=by
 refine Qxh F S (λcdv A outer s H E hr=>?_) hc hU
 have ok:=Qi0 (P:=P) (w:=w) (K:=K) (base:=base) (qual:=qual) (f:=f) (cdv:=cdv) (outer:=outer) (s:=s) (H:=H) (E:=E) S M tab hr
 exact Qqv ok (Qb0.ob (X:=(Qcl CX0 P w K mg base (namesOf (Qd st)) qual (Qd st) f cdv A outer s H E).nox) tabo hr) (some p)
structure QfQ (K:PySem.W.Frag) (c m qual:Str) (st:Stmt):Prop where
 ex:∃C f fd,PySem.W.nsIn K mainGlobals c=some (some (.ref C))/\Cls K C/\Qiu K C m f/\Fun K m qual st f fd
theorem QfU{c m qual:Str}{st:Stmt}{C f:Addr}{oc:Value}{od an:Option Addr}{osl:Array (Option Value)}{kV doc pm cdv ct:Value}(a:PySem.W.nsIn K mainGlobals c=some (some (.ref C)))
  (c1:PySem.W.plainGet K C Str.empty=true) (c2:PySem.W.hasDictIn K C=true) (c3:PySem.W.plainOver K C=true) (c4:PySem.W.findIn K (.ref C) "__setattr__" =some (some (.builtin "object.__setattr__")))
  (m1:PySem.W.findIn K (.ref C) m=some (some (.ref f))) (m2:PySem.W.isFn K (.ref f)=true) (k:PySem.W.keepIn K (.ref f)=true)
  (l:K.lookup f=some ⟨oc,od,.func (PySem.W.fnOf m qual (Qc4 st) (QM st) (Qd st) .none kV doc pm an cdv ct),osl⟩) (cd:PySem.W.codeIn K cdv qual=true):QfQ K c m qual st:=
 ⟨C,f,_,a,⟨c1,c2,c3,c4⟩,⟨m1,m2,k⟩,Qqm l cd k⟩
end
end HS
namespace HS
open PySem PySem.Spec L2 PyProof.Rows
noncomputable def QeP(k p:Nat)(g:DS):QbZ:=λds=>open Classical in if h:∃q,∀a,∃o,g (Qcv k p a ds)=some o/\Qhs p a o=some q then some h.choose else none
theorem QeI{k p:Nat}{g:DS}:UIO k p g (QeP k p g):=λds q e a=>by
 unfold QeP at e
 split at e
 ·rename_i h
  cases e
  exact h.choose_spec a
 ·cases e
theorem Qt4{k p:Nat}{g:DS}{ds:List D}{q:D×D}(h:∀a,∃o,g (Qcv k p a ds)=some o/\Qhs p a o=some q):QeP k p g ds=some q:=by
 have hx:∃q,∀a,∃o,g (Qcv k p a ds)=some o/\Qhs p a o=some q:=⟨q,h⟩
 unfold QeP
 rw[dif_pos hx]
 obtain⟨o,h1,h2⟩:=h 0
 obtain⟨o',h3,h4⟩:=hx.choose_spec 0
 rw[h1]at h3
 cases h3
 rw[h2]at h4
 exact h4.symm
section
variable (P:Program) (w:World) (K:PySem.W.Frag) (mg:Str->Option Value) (base:Heap)
noncomputable def Qk2(C:Addr):List Str->Prop
 | []=>True
 | f::r=>Qby K C f/\Qk2 C r
def QiO(x:Str)(fs:List Str):Prop:=∃C,PySem.W.nsIn K mainGlobals x=some (some (.ref C))/\Cls K C/\Qk2 K C fs
noncomputable def Qot:ClT->Prop
 | []=>True
 | (x,fs)::r=>QiO K x fs/\Qot r
def QkV(x:Str):Prop:=∃C,PySem.W.nsIn K mainGlobals x=some (some (.ref C))/\PySem.W.makesIn K C=true/\PySem.W.findIn K (.ref C) "__init__" =some (some (.builtin "object.__init__"))/\PySem.W.keepIn K (.ref C)=true
def Qk6(x:Str):Prop:=∃C,PySem.W.nsIn K mainGlobals x=some (some (.ref C))/\PySem.W.makesIn K C=true/\PySem.W.keepIn K (.ref C)=true
noncomputable def Qsi:List Str->Prop
 | []=>True
 | x::r=>QkV K x/\Qsi r
def Qf2(k:Nat)(x m:Str)(r:IoR):Prop:=∃C f fd ps,PySem.W.nsIn K mainGlobals x=some (some (.ref C))/\Cls K C/\Qiu K C m f/\Q4 P w K mg base CX0 k f fd ps (Qer K r.n 0 r.den)/\Binds K fd ps []
noncomputable def Qo0(k:Nat)(x:Str):List (Str×IoR)->Prop
 | []=>True
 | (m,r)::l=>Qf2 P w K mg base k x m r/\Qo0 k x l
noncomputable def QoZ(k:Nat):MeT->Prop
 | []=>True
 | (x,ms)::l=>Qo0 P w K mg base k x ms/\QoZ k l
def Qjv(k:Nat)(g:Str)(r:IoR):Prop:=∃f fd ps,Q4 P w K mg base CX0 k f fd ps (Qer K r.n r.p r.den)/\mg g=some (.ref f)/\PySem.W.keepIn K (.ref f)=true/\Binds K fd ps []
noncomputable def QoS(k:Nat):List (Str×IoR)->Prop
 | []=>True
 | (g,r)::l=>Qjv P w K mg base k g r/\QoS k l
noncomputable def QoI(k:Nat):List (Str×IoR)->Prop
 | []=>True
 | (g,r)::l=>(Qk6 K g/\Qf2 P w K mg base k g "__init__" r)/\QoI k l
def Qfo(x qual:Str)(st:Stmt)(ps:List Str):Prop:=∀(kV doc pm:Value) (an:Option Addr) (cdv ct:Value) (us:List Value),us.length=ps.length->bindArgs (PySem.W.fnOf x qual (Qc4 st) (QM st) (Qd st) .none kV doc pm an cdv ct) ⟨us,[]⟩=pure (ps.zip us)
end
section
variable {P:Program}{w:World}{K:PySem.W.Frag}{mg:Str->Option Value}{base:Heap}
theorem Qmj{C:Addr}:∀{fs:List Str},Qk2 K C fs->∀f∈fs,Qby K C f
 | [],_,f,hf=>by simp at hf
 | g::r,h,f,hf=>by
  rcases Zo.mp hf with rfl | hf
  ·exact h.1
  ·exact Qmj h.2 f hf
theorem QlP:∀{T:ClT},Qot K T->QeS K T
 | [],_,x,fs,h,_,_=>by cases h
 | (y,gs)::r,hc,x,fs,h,C,hC=>by
  unfold look at h
  split at h
  ·rename_i e
   cases h
   subst e
   obtain⟨C',h1,h2,h3⟩:=hc.1
   rw[hC]at h1
   cases h1
   exact⟨h2,Qmj h3⟩
  ·exact QlP hc.2 x fs h C hC
theorem QnI{h:Heap}(X:K.In h)(G:h.Ns mainGlobals mg):∀{l:List Str},Qsi K l->∀g∈l,∃C,PySem.W.nsIn K mainGlobals g=some (some (.ref C))/\PySem.W.makesIn K C=true/\PySem.W.findIn K (.ref C) "__init__" =some (some (.builtin "object.__init__"))/\PySem.W.keepIn K (.ref C)=true/\mg g=some (.ref C)
 | [],_,f,hf=>by simp at hf
 | g::r,hh,f,hf=>by
  rcases Zo.mp hf with rfl | hf
  ·obtain⟨C,h1,h2,h3,h4⟩:=hh.1
   exact⟨C,h1,h2,h3,h4,Zat X G h1⟩
  ·exact QnI X G hh.2 f hf
theorem Qlv{k:Nat}{x:Str}:∀{l:List (Str×IoR)},Qo0 P w K mg base k x l->∀m r,look m l=some r->Qf2 P w K mg base k x m r
 | [],_,m,r,h=>by cases h
 | (y,q)::l,hh,m,r,h=>by
  unfold look at h
  split at h
  ·rename_i e
   cases h
   subst e
   exact hh.1
  ·exact Qlv hh.2 m r h
theorem Qmx{k:Nat}:∀{T:MeT},QoZ P w K mg base k T->∀x ms m r,look x T=some ms->look m ms=some r->Qf2 P w K mg base k x m r
 | [],_,x,ms,m,r,h,_=>by cases h
 | (y,q)::l,hh,x,ms,m,r,h,h2=>by
  unfold look at h
  split at h
  ·rename_i e
   cases h
   subst e
   exact Qlv hh.1 m r h2
  ·exact Qmx hh.2 x ms m r h h2
theorem Qlk{k:Nat}:∀{l:List (Str×IoR)},QoS P w K mg base k l->∀g r,look g l=some r->Qjv P w K mg base k g r
 | [],_,m,r,h=>by cases h
 | (y,q)::l,hh,m,r,h=>by
  unfold look at h
  split at h
  ·rename_i e
   cases h
   subst e
   exact hh.1
  ·exact Qlk hh.2 m r h
theorem Qmh{k:Nat}:∀{l:List (Str×IoR)},QoI P w K mg base k l->∀g r,look g l=some r->Qk6 K g/\Qf2 P w K mg base k g "__init__" r
 | [],_,m,r,h=>by cases h
 | (y,q)::l,hh,m,r,h=>by
  unfold look at h
  split at h
  ·rename_i e
   cases h
   subst e
   exact hh.1
  ·exact Qmh hh.2 m r h
theorem Qf2.mono{j k:Nat}{x m:Str}{r:IoR}(h:Qf2 P w K mg base j x m r)(hk:j<=k):Qf2 P w K mg base k x m r:=by
 obtain⟨C,f,fd,ps,c1,c2,c3,c4,c5⟩:=h
 exact⟨C,f,fd,ps,c1,c2,c3,c4.mono hk,c5⟩
theorem Qjv.mono{j k:Nat}{g:Str}{r:IoR}(h:Qjv P w K mg base j g r)(hk:j<=k):Qjv P w K mg base k g r:=by
 obtain⟨f,fd,ps,c1,c2⟩:=h
 exact⟨f,fd,ps,c1.mono hk,c2⟩
theorem Qan.rise{j k:Nat}{Γ:List (Str×FnR)}(t:Qan P w K mg base j Γ)(hk:j<=k):Qan P w K mg base k Γ:=λx r e=>(t x r e).mono hk
theorem Qjx{h:Heap}{k:Nat}{T:ObT}(X:K.In h)(G:h.Ns mainGlobals mg)(h1:Qot K T.cl)(h2:QoZ P w K mg base k T.me)(h3:QoS P w K mg base k T.io)(h4:QoI P w K mg base k T.ma)(h5:Qsi K T.mk0):Qb0 P w K mg base k T where
 cl:=QlP h1
 me:=λx ms m r e1 e2 C hC=>by
  obtain⟨C',f,fd,ps,c1,c2,c3,c4,c5⟩:=Qmx h2 x ms m r e1 e2
  rw[hC]at c1
  cases c1
  exact⟨f,fd,ps,c2,c3,c4,c5⟩
 io:=λg r e=>Qlk h3 g r e
 ma:=λg r e=>by
  obtain⟨⟨C,b1,b2,b3⟩,C',f,fd,ps,c1,c2,c3,c4,c5⟩:=Qmh h4 g r e
  rw[b1]at c1
  cases c1
  exact⟨C,f,fd,ps,b1,⟨b2,c3.at_,c3.fn,b3⟩,c4,Zat X G b1,c5⟩
 mk0:=QnI X G h5
theorem Qld{c m qual:Str}{st:Stmt}{ps:List Str}{k n n':Nat}{Γ:List (Str×FnR)}{cs:List (Str×Cn)}{T:ObT}{g:DS}{den:QbZ}(F:QfQ K c m qual st)(S:Qar (namesOf (Qd st)) ps (Qd st))(B:Qfo m qual st ps)(M:Qb5 mg cs)(tab:Qan P w K mg base (k+1) Γ)(tabo:Qb0 P w K mg base k T)
  (hc:Q5 n (thO n' (Qbw st Γ cs) T (some 0)) (QM st)=some g) (hU:UIO (namesOf (Qd st)).length 0 g den):Qf2 P w K mg base (k+2) c m ⟨ps.length,0,den⟩:=by
 obtain⟨C,f,fd,c1,c2,c3,Fn⟩:=F.ex
 exact⟨C,f,fd,ps,c1,c2,c3,QsX Fn S M tab tabo hc hU,Fn.binds (B ·)⟩
theorem Qxl{h:Heap}{x:Str}{st:Stmt}{ps:List Str}{k n n' p:Nat}{Γ:List (Str×FnR)}{cs:List (Str×Cn)}{T:ObT}{g:DS}{den:QbZ}(X:K.In h)(G:h.Ns mainGlobals mg)(F:Fact K x st)(S:Qar (namesOf (Qd st)) ps (Qd st))(B:QI x st ps)(M:Qb5 mg cs)(tab:Qan P w K mg base (k+1) Γ)(tabo:Qb0 P w K mg base k T)
  (hc:Q5 n (thO n' (Qbw st Γ cs) T (some p)) (QM st)=some g) (hU:UIO (namesOf (Qd st)).length p g den):Qjv P w K mg base (k+2) x ⟨ps.length,p,den⟩:=by
 obtain⟨f,fd,Fn,a⟩:=F.ex
 exact⟨f,fd,ps,QsX Fn S M tab tabo hc hU,Zat X G a,Fn.kp,Fn.binds (B ·)⟩
theorem Qiv{x:Str}{fs:List Str}{C:Addr}(a:PySem.W.nsIn K mainGlobals x=some (some (.ref C)))(c1:PySem.W.plainGet K C Str.empty=true)(c2:PySem.W.hasDictIn K C=true)(c3:PySem.W.plainOver K C=true)(c4:PySem.W.findIn K (.ref C) "__setattr__" =some (some (.builtin "object.__setattr__")))(n:Qk2 K C fs):QiO K x fs:=
 ⟨C,a,⟨c1,c2,c3,c4⟩,n⟩
theorem QlN{x:Str}{C:Addr}(a:PySem.W.nsIn K mainGlobals x=some (some (.ref C)))(c1:PySem.W.makesIn K C=true)(c2:PySem.W.findIn K (.ref C) "__init__" =some (some (.builtin "object.__init__")))(c3:PySem.W.keepIn K (.ref C)=true):QkV K x:=⟨C,a,c1,c2,c3⟩
theorem QrK{x:Str}{C:Addr}(a:PySem.W.nsIn K mainGlobals x=some (some (.ref C)))(c1:PySem.W.makesIn K C=true)(c3:PySem.W.keepIn K (.ref C)=true):Qk6 K x:=⟨C,a,c1,c3⟩
end
end HS
namespace HS
open PySem L2
noncomputable def pairD(p:Int×Int):D:= .tup [.int p.1,.int p.2]
noncomputable def QbW(p:Int×Int×Bool):D:= .tup [.int p.1,.int p.2.1,.bl p.2.2]
noncomputable def Qo(ns:List Int):D:= .lst (ns.map .int)
noncomputable def Q1(ps:List (Int×Int)):D:= .lst (ps.map pairD)
noncomputable def Qi(m:Int)(R L:List (Int×Int)):D:= .tup [.int m,Q1 R,Q1 L]
theorem Qa2{α:Type}{f:α->D}(h:∀a,(f a).flat=true):∀l:List α,QX (l.map f)=true
 | []=>rfl
 | a::l=>by simp[QX,h a,Qa2 h l]
@[simp] theorem Qy1(i:Int):(D.int i).flat=true:=rfl
@[simp] theorem Qzc(i:Bool):(D.bl i).flat=true:=rfl
@[simp] theorem Qyt:D.non.flat=true:=rfl
@[simp] theorem Qyu(x:Str):(D.str x).flat=true:=rfl
@[simp] theorem QyY(xs:List D):(D.lst xs).flat=false:=rfl
@[simp] theorem Qyo(xs:List D):(D.tup xs).flat=QX xs:=rfl
@[simp] theorem Qyh:QX []=true:=rfl
@[simp] theorem QxV(d:D)(ds:List D):QX (d::ds)=(d.flat && QX ds):=rfl
@[simp] theorem Qyg(p:Int×Int):(pairD p).flat=true:=rfl
@[simp] theorem Qym(p:Int×Int×Bool):(QbW p).flat=true:=rfl
@[simp] theorem Qyf(ns:List Int):(Qo ns).flat=false:=rfl
@[simp] theorem QxI(ns:List (Int×Int)):(Q1 ns).flat=false:=rfl
@[simp] theorem Qxa(ps:List (Int×Int)):QX (ps.map pairD)=true:=Qa2 (λ_=>rfl) _
@[simp] theorem Qn9(ps:List (Int×Int×Bool)):QX (ps.map QbW)=true:=Qa2 (λ_=>rfl) _
@[simp] theorem Qgl(ns:List Int):QX (ns.map .int)=true:=Qa2 (λ_=>rfl) _
@[simp] theorem Qye(xs ys:List D):QX (xs++ys)=(QX xs && QX ys):=Qcj xs ys
def Run(f:DS)(ρ:En)(Q:Out->Prop):Prop:=∃o,f ρ=some o/\Q o
noncomputable def Nx(Q:En->Prop):Out->Prop
 | .nx ρ=>Q ρ
 | _=>False
noncomputable def Rt(Q:D->Bool->Prop):Out->Prop
 | .rt d fr=>Q d fr
 | _=>False
theorem Run.mono(h:Run f ρ Q)(m:∀o,Q o->Q' o):Run f ρ Q':=let ⟨o,h1,h2⟩:=h;⟨o,h1,m o h2⟩
theorem Qp(h:Q (.nx ρ)):Run Qj ρ Q:=⟨_,rfl,h⟩
theorem run_seq(h:Run f ρ (Nx λρ'=>Run g ρ' Q)):Run (Qf f g) ρ Q:=by
 obtain⟨o,h1,h2⟩:=h
 cases o with
 | nx ρ'=>
  obtain⟨o',h3,h4⟩:=h2
  exact⟨o',by simp[Qf,h1,h3],h4⟩
 | _=>exact False.elim h2
theorem QW(h:Run f ρ λo=>match o with | .nx ρ'=>Run g ρ' Q | o=>Q o):Run (Qf f g) ρ Q:=by
 obtain⟨o,h1,h2⟩:=h
 cases o with
 | nx ρ'=>
  obtain⟨o',h3,h4⟩:=h2
  exact⟨o',by simp[Qf,h1,h3],h4⟩
 | bk ρ'=>exact⟨_,by simp[Qf,h1],h2⟩
 | ct ρ'=>exact⟨_,by simp[Qf,h1],h2⟩
 | rt d fr=>exact⟨_,by simp[Qf,h1],h2⟩
theorem Qn(h:fa ρ=some r)(q:Q (.nx (asg i r ρ))):Run (Qs i fa) ρ Q:=⟨_,by simp[Qs,h],q⟩
theorem QjQ(h:fa ρ=some r)(q:Q (.rt r.d (r.norm.fr && decide r.norm.M.Nodup))):Run (Q3 fa) ρ Q:=⟨_,by simp[Q3,h],q⟩
theorem Qac(h:g ρ=some b)(q1:b=true->Run f1 ρ Q)(q2:b=false->Run f2 ρ Q):Run (sIf g f1 f2) ρ Q:=by
 cases b with
 | true=>obtain⟨o,h1,h2⟩:=q1 rfl;exact⟨o,by simp[sIf,h,h1],h2⟩
 | false=>obtain⟨o,h1,h2⟩:=q2 rfl;exact⟨o,by simp[sIf,h,h1],h2⟩
theorem Qbi(h:Run f (Qad k ds) (Rt λd' fr'=>d'=d/\fr'=fr)):Qw k f ds=some (d,fr):=by
 obtain⟨o,h1,h2⟩:=h
 unfold Qw
 cases o with
 | rt d' fr'=>obtain⟨rfl,rfl⟩:=h2;rw[h1];rfl
 | _=>exact False.elim h2
theorem QlK{α:Type}{t:Tg}{fb:DS}{toD:α->D}{Q:Out->Prop}(I:Nat->En->Prop):∀(xs ys:List α) (ρ:En),I ys.length ρ→
  (∀i x ρ,(ys++xs)[i]? =some x->ys.length<=i->I i ρ->∃ρ1,QaS t (toD x) ρ=some ρ1/\Run fb ρ1 λo=>match o with | .nx ρ2=>I (i+1) ρ2 | .ct ρ2=>I (i+1) ρ2 | .bk ρ2=>Q (.nx ρ2) | .rt d fr=>Q (.rt d fr))→
  (∀ρ,I (ys++xs).length ρ->Q (.nx ρ))->Run (Qbb t fb (xs.map toD)) ρ Q
 | [],ys,ρ,h0,_,fin=>⟨_,rfl,fin ρ (by simpa using h0)⟩
 | x::xs,ys,ρ,h0,turn,fin=>by
  obtain⟨ρ1,h1,o,h2,h3⟩:=turn ys.length x ρ (by simp) (Zq _) h0
  have next:∀ρ2,I (ys.length+1) ρ2->Run (Qbb t fb (xs.map toD)) ρ2 Q:=λρ2 hi=>
   QlK I xs (ys++[x]) ρ2 (by simpa using hi) (λi y ρ' e hl=>turn i y ρ' (by simpa using e) (by simp at hl;omega)) (λρ' h=>fin ρ' (by simpa using h))
  cases o with
  | nx ρ2=>obtain⟨o',e1,e2⟩:=next ρ2 h3;exact⟨o',by simp[Qbb,h1,h2,e1],e2⟩
  | ct ρ2=>obtain⟨o',e1,e2⟩:=next ρ2 h3;exact⟨o',by simp[Qbb,h1,h2,e1],e2⟩
  | bk ρ2=>exact⟨_,by simp[Qbb,h1,h2],h3⟩
  | rt d fr=>exact⟨_,by simp[Qbb,h1,h2],h3⟩
theorem Qa5{α:Type}{fi:DI}{t:Tg}{fb:DS}{toD:α->D}{ρ:En}{ir:IR}{Q:Out->Prop}(xs:List α)(I:Nat->En->Prop)(h:fi ρ=some ir)(hx:ir.items=xs.map toD)(h0:I 0 (Qba ir.M ρ))
  (turn:∀i x ρ,xs[i]? =some x->I i ρ->∃ρ1,QaS t (toD x) ρ=some ρ1/\Run fb ρ1 λo=>match o with | .nx ρ2=>I (i+1) ρ2 | .ct ρ2=>I (i+1) ρ2 | .bk ρ2=>Q (.nx ρ2) | .rt d fr=>Q (.rt d fr))
  (fin:∀ρ,I xs.length ρ->Q (.nx ρ)):Run (QaT fi t fb) ρ Q:=by
 obtain⟨o,h1,h2⟩:=QlK (t:=t) (fb:=fb) (toD:=toD) (Q:=Q) I xs [] (Qba ir.M ρ) h0 (λi x ρ e _=>turn i x ρ (by simpa using e)) (λρ h=>fin ρ (by simpa using h))
 exact⟨o,by simp[QaT,h,hx,h1],h2⟩
theorem Qkz{α:Type}{t:Tg}{ft:DT}{fe:DE}{ρc:En}{toD:α->D}{keep:α->Bool}{out:α->D}:∀(xs:List α) (acc:List D),
  (∀x∈xs,∃ρ1,QaS t (toD x) ρc=some ρ1/\ft ρ1=some (keep x)/\(keep x=true->∃r,fe ρ1=some r/\r.d=out x/\r.norm.fr=true))→
  (xs.map toD).foldlM (QeZ t ft fe ρc) (acc,true)=some (acc++(xs.filter keep).map out,true)
 | [],acc,_=>by simp
 | x::xs,acc,h=>by
  obtain⟨ρ1,h1,h2,h3⟩:=h x Zj
  have ih:=λacc=>Qkz xs acc (λy hy=>h y (Zb _ hy))
  cases hk:keep x with
  | false=>
   have e:QeZ t ft fe ρc (acc,true) (toD x)=some (acc,true):=by simp[QeZ,h1,h2,hk]
   simp[Zbr,e,ih,hk]
  | true=>
   obtain⟨r,h4,h5,h6⟩:=h3 hk
   have e:QeZ t ft fe ρc (acc,true) (toD x)=some (acc++[out x],true):=by simp[QeZ,h1,h2,hk,h4,h5,h6]
   simp[Zbr,e,ih,hk]
theorem QfG{α:Type}{fi:DI}{t:Tg}{cap:List (Option Nat)}{ft:DT}{fe:DE}{ρ:En}{ir:IR}{toD:α->D}{keep:α->Bool}{out:α->D}(xs:List α)(h:fi ρ=some ir)(hx:ir.items=xs.map toD)
  (turn:∀x∈xs,∃ρ1,QaS t (toD x) (Qef cap ρ)=some ρ1/\ft ρ1=some (keep x)/\(keep x=true->∃r,fe ρ1=some r/\r.d=out x/\r.norm.fr=true)):
  QaE fi t cap ft fe ρ=some ⟨.lst ((xs.filter keep).map out),true,[]⟩:=by
 unfold QaE
 rw[h,Za,hx,Qkz xs [] turn]
 simp
theorem Qdv{α:Type}{fi:DI}{t:Tg}{cap:List (Option Nat)}{fe:DE}{ρ:En}{ir:IR}{toD:α->D}{out:α->D}(xs:List α)(h:fi ρ=some ir)(hx:ir.items=xs.map toD)
  (turn:∀x∈xs,∃ρ1,QaS t (toD x) (Qef cap ρ)=some ρ1/\∃r,fe ρ1=some r/\r.d=out x/\r.norm.fr=true):
  QaE fi t cap QdI fe ρ=some ⟨.lst (xs.map out),true,[]⟩:=by
 have:=QfG (keep:=λ_=>true) (ft:=QdI) xs h hx (cap:=cap) (t:=t) (fe:=fe) (out:=out) λx hx=>by
  obtain⟨ρ1,h1,h2⟩:=turn x hx
  exact⟨ρ1,h1,rfl,λ_=>h2⟩
 rw[this,List.filter_eq_self.mpr λ_ _=>rfl]
@[simp] theorem Qrj(d:D):R.norm ⟨d,true,[]⟩=⟨d,true,[]⟩:=by unfold R.norm;split<;>rfl
@[simp] theorem QB(i:Nat)(d:D)(ρ:En):asg i ⟨d,true,[]⟩ ρ=ρ.set i (some (d,true)):=by unfold asg;simp[kill]
theorem QqX{i:Nat}{d:D}{fr:Bool}{M:List Nat}{ρ:En}(h:d.flat=true):asg i ⟨d,fr,M⟩ ρ=ρ.set i (some (d,true)):=by
 unfold asg R.norm;simp[h,kill]
theorem QcK{i:Nat}{ρ:En}{d:D}{b:Bool}(h:ρ[i]? =some (some (d,b))):Qa i ρ=some (if d.flat then⟨d,true,[]⟩else if b then⟨d,true,[i]⟩else⟨d,false,[]⟩):=by
 unfold Qa
 rw[h]
 dsimp only
 split
 ·simp_all
 ·split<;>simp_all
theorem Qwg{i:Nat}{ρ:En}{n:Int}{b:Bool}(h:ρ[i]? =some (some (.int n,b))):Qa i ρ=some ⟨.int n,true,[]⟩:=by rw[QcK h];rfl
@[simp] theorem QgW(d:D)(ρ:En):dC d ρ=some ⟨d,true,[]⟩:=rfl
theorem QaI{g:D->D->Option D}{fa fb:DE}{ρ:En}{ra rb:R}{d:D}(ha:fa ρ=some ra)(hb:fb ρ=some rb)(h:g ra.d rb.d=some d):dOp g fa fb ρ=some ⟨d,true,[]⟩:=by simp[dOp,ha,hb,h]
theorem Qm{fa:DE}{fs:DA}{ρ:En}{r:R}{rs:RA}(ha:fa ρ=some r)(hs:fs ρ=some rs):Qb fa fs ρ=some ⟨r.d::rs.ds,r.fr && rs.fr,r.M++rs.M⟩:=by simp[Qb,ha,hs]
@[simp] theorem QZ(ρ:En):Qe ρ=some ⟨[],true,[]⟩:=rfl
noncomputable def vf(d:D)(b:Bool)(i:Nat):R:=if d.flat then⟨d,true,[]⟩else if b then⟨d,true,[i]⟩else⟨d,false,[]⟩
@[simp] theorem Qzm(d:D)(b:Bool)(i:Nat):(vf d b i).d=d:=by unfold vf;split;rfl;split<;>rfl
@[simp] theorem Qq4(i j:Int)(h:0<=j):Qha i j=i % j:=by unfold Qha;rw[if_pos h]
@[simp] theorem QqO(i j:Int)(h:0<=j):QgV i j=i / j:=by unfold QgV;rw[if_pos h]
theorem Qdq{i j:Int}(h:i.natAbs<2^64):Qeg i j=true:=by unfold Qeg;simp[h]
theorem Qdw{i j:Int}(h:j.natAbs<2^64):Qeg i j=true:=by unfold Qeg;simp[h]
theorem QhB:(sizeLine:Nat)=16777216:=sizeLine_eq
noncomputable def Qg(m:Nat)(f:Nat->Int):D:= .lst ((List.range m).map λi=> .int (f i))
noncomputable def Qdy(m n:Nat)(f:Nat->Nat->Int):D:= .lst ((List.range m).map λi=>Qg n (f i))
@[simp] theorem Qyx(m:Nat)(f:Nat->Int):(Qg m f).flat=false:=rfl
@[simp] theorem Qyp(m n:Nat)(f:Nat->Nat->Int):(Qdy m n f).flat=false:=rfl
@[simp] theorem Qpy(m:Nat)(f:Nat->Int):QX ((List.range m).map λi=>D.int (f i))=true:=Qa2 (f:=λi=>D.int (f i)) (λ_=>rfl) _
noncomputable def up(f:Nat->Int)(i:Nat)(v:Int):Nat->Int:=λj=>if j=i then v else f j
noncomputable def up2(f:Nat->Nat->Int)(i j:Nat)(v:Int):Nat->Nat->Int:=λk=>if k=i then up (f k) j v else f k
theorem Qhk{n:Nat}{i:Int}(h0:0<=i)(h:i<n):ixN n i=some i.toNat:=by
 unfold ixN;rw[if_pos (by omega),if_pos (by omega)]
theorem QjI{α:Type}{xs:List α}{i:Int}(h0:0<=i)(h:i<xs.length):atI xs i=xs[i.toNat]? :=by
 unfold atI;rw[Qhk h0 h];rfl
theorem Qgu{α:Type}{m:Nat}{f:Nat->α}{i:Nat}{v:α}:((List.range m).map f).set i v=(List.range m).map λj=>if j=i then v else f j:=by
 apply Zax
 intro k
 rw[List.getElem?_set]
 simp only[Zp,ZP,ZA]
 by_cases hk:k<m
 ·rw[Zaf hk]
  by_cases e:i=k
  ·subst e;simp[hk]
  ·simp[e,Ne.symm e]
 ·rw[Zr (by simp;omega)]
  by_cases e:i=k
  ·subst e;simp[hk]
  ·simp[e]
theorem QnO{m:Nat}{f:Nat->Int}{i:Nat}{v:Int}:((List.range m).map λj=>D.int (f j)).set i (.int v)=(List.range m).map λj=>D.int (up f i v j):=by
 rw[Qgu]
 congr 1;funext j;unfold up;split<;>rfl
theorem QnK{m:Nat}{f:Nat->Int}{i:Int}(h0:0<=i)(h:i<m):atI ((List.range m).map λj=>D.int (f j)) i=some (.int (f i.toNat)):=by
 rw[QjI h0 (by simpa using h),ZA,Zaf (by omega)];rfl
theorem Qtp{m n:Nat}{f:Nat->Nat->Int}{i:Int}(h0:0<=i)(h:i<m):atI ((List.range m).map λj=>Qg n (f j)) i=some (Qg n (f i.toNat)):=by
 rw[QjI h0 (by simpa using h),ZA,Zaf (by omega)];rfl
theorem QrA{x m:Nat}{f:Nat->Int}{fi fa:DE}{ρ:En}{i:Int}{v:Int}{ri ra:R}{Q:Out->Prop}(hx:ρ[x]? =some (some (Qg m f,true)))(hi:fi ρ=some ri)(ei:ri.d= .int i)(ha:fa ρ=some ra)(ea:ra.d= .int v)(h0:0<=i)(h:i<m)
  (q:Q (.nx (ρ.set x (some (Qg m (up f i.toNat v),true))))):Run (QeO x Qa8 fi fa) ρ Q:=by
 refine⟨_,?_,q⟩
 have hn:ra.norm=⟨.int v,true,[]⟩:=by unfold R.norm;rw[ea];rfl
 unfold QeO
 rw[ha,Za,hx]
 simp only[Qa8,Za,hi,ei,Qcu,Qg,Zp,ZP,Qhk h0 h,hn,ea,Qbd,QnO]
 simp[kill]
theorem Qme{g:D->D->Option D}{x m n:Nat}{f:Nat->Nat->Int}{fp fi fa:DE}{ρ:En}{i j w:Int}{rp ri ra:R}{Q:Out->Prop}(hx:ρ[x]? =some (some (Qdy m n f,true)))(hp:fp ρ=some rp)(ep:rp.d= .int i)(hi:fi ρ=some ri)(ei:ri.d= .int j)(ha:fa ρ=some ra)
  (h0:0<=i) (h:i<m) (k0:0<=j) (k:j<n) (hg:g (.int (f i.toNat j.toNat)) ra.d=some (.int w)) (q:Q (.nx (ρ.set x (some (Qdy m n (up2 f i.toNat j.toNat w),true))))):Run (Qe5 g x (QdK Qa8 fp) fi fa) ρ Q:=by
 refine⟨_,?_,q⟩
 have hj:((List.range n).map λk=>D.int (f i.toNat k))[j.toNat]? =some (.int (f i.toNat j.toNat)):=by rw[ZA,Zaf (by omega)];rfl
 have hd:Qcu (Qdy m n f) [i]=some (Qg n (f i.toNat)):=by
  simp only[Qcu,Qdy,D.items,Za,Qtp h0 h]
 have hu:Qbd [i] (Qdy m n f) (.lst (((List.range n).map λk=>D.int (f i.toNat k)).set j.toNat (.int w)))=Qdy m n (up2 f i.toNat j.toNat w):=by
  simp only[Qbd,Qdy,Zp,ZP,Qhk h0 h,QnO]
  rw[Qgu]
  congr 2;funext k
  unfold up2
  split
  ·rename_i e;subst e;rfl
  ·rfl
 unfold Qe5
 rw[hx]
 simp only[QdK,Qa8,Za,hp,ep,ZaZ,hi,ei,hd,Qg,Zp,ZP,Qhk k0 k,hj,ha,hg,Zap]
 rw[hu]
theorem QeH{n:Nat}(h:fa ρ=some r)(e:r.d= .int n)(hn:n<=16777216):QbO fa ρ=some ⟨(List.range n).map λ(k:Nat)=> .int (k:Int),[]⟩:=by
 unfold QbO
 rw[h,Za,e]
 dsimp only
 rw[if_pos ⟨by omega,by omega⟩]
 simp[Qib]
theorem QnL{α:Type}(x:α):∀n:Nat,(List.replicate n [x]).flatten=(List.range n).map λ_=>x
 | 0=>rfl
 | n+1=>by
  rw[Zae,Zai,QnL x n,List.range_succ_eq_map,Zw,Zak];rfl
theorem Ql2{n:Nat}(h:fb ρ=some r)(e:r.d= .int n)(hn:n<=16777216):QaM (QF (Qb (dC (.int z)) Qe)) fb ρ=some ⟨Qg n (λ_=>z),true,[]⟩:=by
 have h1:QF (Qb (dC (.int z)) Qe) ρ=some ⟨.lst [.int z],true,[]⟩:=rfl
 unfold QaM
 rw[h1,Za,h,Za,e]
 dsimp only
 rw[if_pos ⟨by simp[QhB];omega,by omega,by omega,rfl⟩]
 simp only[Zaa,QnL]
 rfl
noncomputable def QjV:DS:=(Qf (Qs 2 (QaE (Qaf (Qa 0)) (.tp [1,2]) [none,none,none] QdI (QbY (Qb (Qa 1) (Qb (Qa 2) Qe))))) (Qf (Qs 3 (QaE (Qaf (Qa 0)) (.tp [1,2]) [none,none,none] QdI (QbY (Qb (Qa 2) (Qb (Qa 1) Qe))))) (Qf (Q3 (Qy (Qy (Qa 2) (Qa 3)) (dList (Qb (Qa 1) Qe)))) Qj)))
theorem Qn2(ha:fa ρ=some ra)(ea:ra.d=Q1 A)(hb:fb ρ=some rb)(eb:rb.d=Q1 B)(hl:A.length+B.length<=16777216):Qy fa fb ρ=some ⟨Q1 (A++B),true,[]⟩:=by
 unfold Qy
 rw[ha,Za,hb,Za,ea,eb]
 simp only[Q1,Zp,QhB,if_pos hl,Qap]
 simp
theorem Qis(h:fs ρ=some rs)(e:rs.ds=[Q1 A])(_:True=True):dList fs ρ=some ⟨Q1 A,true,[]⟩:=by
 unfold dList
 rw[h,Za,e]
 simp[Q1,Qap]
theorem Qaj(h:fa ρ=some r)(q:Q r.d (r.norm.fr && decide r.norm.M.Nodup)):Run (Qf (Q3 fa) g) ρ (Rt Q):=QW (QjQ h q)
theorem Qqy{R L:List (Int×Int)}(hl:R.length+R.length+L.length<=16777216):Qw 4 QjV [Q1 R,Q1 L]=some (Q1 (R++R.map Prod.swap++L),true):=by
 refine Qbi ?_
 refine run_seq (Qn (Qdv R rfl rfl λx _=>⟨[none,some (.int x.1,true),some (.int x.2,true)],rfl,⟨pairD x,true,[]⟩,rfl,rfl,rfl⟩) ?_)
 refine run_seq (Qn (Qdv R rfl rfl λx _=>⟨[none,some (.int x.1,true),some (.int x.2,true)],rfl,⟨pairD x.swap,true,[]⟩,rfl,rfl,rfl⟩) ?_)
 have e1:(R.map λx=>pairD x.swap)=(R.map Prod.swap).map pairD:=by simp[Zak,Function.comp_def]
 rw[e1]
 exact Qaj (Qn2 (Qn2 rfl rfl rfl rfl (by simpa using(by omega:R.length+R.length<=16777216))) rfl (Qis rfl rfl rfl) rfl (by simpa using hl)) ⟨rfl,rfl⟩
theorem Q2(h:fs ρ=some r)(hd:den (r.ds++dfl)=some (d,true))(hl:r.ds.length+dfl.length=n):Qz n den dfl fs ρ=some ⟨d,true,[]⟩:=by
 unfold Qz
 rw[h,Za,if_pos hl,hd]
 simp
theorem Qei(h:fa ρ=some r)(e:r.d= .lst xs):Qaf fa ρ=some ⟨xs,r.M⟩:=by
 unfold Qaf
 rw[h,Za,e]
noncomputable def stepT(m:Nat)(f:Nat->Nat->Int)(s:Int×Int):Nat->Nat->Int:=
 let f1:=if s.1<m then up2 f s.1.toNat s.1.toNat (f s.1.toNat s.1.toNat-1)else f
 if s.1<m/\s.2<m then up2 f1 s.1.toNat s.2.toNat (f1 s.1.toNat s.2.toNat+1)else f1
noncomputable def Q6(m:Nat)(S:List (Int×Int)):Nat->Nat->Int:=S.foldl (stepT m) λ_ _=>0
noncomputable def Qez(Qc0:Den):DS:=(Qf (Qs 1 (Qcm (Qu (Qa 0) (dC (.int 0))))) (Qf (Qs 2 (QaE (QbO (Qa 1)) (.nm 1) [none,none,some 1] QdI (QaM (QF (Qb (dC (.int 0)) Qe)) (Qa 2)))) (Qf (QaT (Qaf (Qz 2 Qc0 [] (Qb (Qu (Qa 0) (dC (.int 1))) (Qb (Qu (Qa 0) (dC (.int 2))) Qe)))) (.tp [3,4]) (Qf (sIf (QA (dOp gLt (Qa 3) (Qa 1))) (Qf (Qe5 Qfn 2 (QdK Qa8 (Qa 3)) (Qa 3) (dC (.int 1))) Qj) Qj) (Qf (sIf (QeL (QA (dOp gLt (Qa 3) (Qa 1))) (QA (dOp gLt (Qa 4) (Qa 1)))) (Qf (Qe5 (gI λi j=>some (.int (i+j))) 2 (QdK Qa8 (Qa 3)) (Qa 4) (dC (.int 1))) Qj) Qj) Qj))) (Qf (Q3 (Qa 2)) Qj))))
theorem QrP{Qc0:Den}{m:Nat}{R L S:List (Int×Int)}(hm:m<=16777216)(hs:Qc0 [Q1 R,Q1 L]=some (Q1 S,true))(hS:∀s∈S,0<=s.1/\0<=s.2):Qw 5 (Qez Qc0) [Qi m R L]=some (Qdy m m (Q6 m S),true):=by
 refine Qbi ?_
 refine run_seq (Qn rfl ?_)
 refine run_seq (Qn (Qdv (List.range m) (QeH rfl rfl hm) rfl λx _=>⟨[none,some (.int x,true),some (.int m,true)],rfl,_,Ql2 rfl rfl hm,rfl,rfl⟩) ?_)
 refine run_seq (Qa5 S (λi ρ=>∃j1 j2,ρ=[some (Qi m R L,false),some (.int m,true),some (Qdy m m (Q6 m (S.take i)),true),j1,j2]) (ir:=⟨S.map pairD,[]⟩) ?_ rfl ⟨none,none,rfl⟩ ?_ ?_)
 ·exact Qei (Q2 (r:=⟨[Q1 R,Q1 L],false,[]⟩) rfl hs rfl) rfl
 ·rintro i s ρ hi ⟨j1,j2,rfl⟩
  refine⟨_,rfl,?_⟩
  obtain⟨s1,s2⟩:=hS s (Zag hi)
  refine run_seq (Run.mono (Q:=Nx λρ=>ρ=[some (Qi m R L,false),some (.int m,true),some (Qdy m m (if s.1<m then up2 (Q6 m (S.take i)) s.1.toNat s.1.toNat (Q6 m (S.take i) s.1.toNat s.1.toNat-1)else Q6 m (S.take i)),true),some (.int s.1,true),some (.int s.2,true)]) ?_ ?_)
  ·refine Qac rfl (λh=>?_) (λh=>?_)
   ·have h:=of_decide_eq_true h
    rw[if_pos h]
    exact run_seq (Qme rfl rfl rfl rfl rfl rfl s1 h s1 h rfl (Qp rfl))
   ·have h:=of_decide_eq_false h
    rw[if_neg h]
    exact Qp rfl
  ·intro o ho
   cases o with
   | nx ρ=>
    subst ho
    have fin:Q6 m (S.take (i+1))=stepT m (Q6 m (S.take i)) s:=by
     unfold Q6
     rw[Zbi,hi,List.foldl_append];rfl
    refine run_seq (Run.mono (Q:=Nx λρ=>ρ=[some (Qi m R L,false),some (.int m,true),some (Qdy m m (stepT m (Q6 m (S.take i)) s),true),some (.int s.1,true),some (.int s.2,true)]) ?_ ?_)
    ·refine Qac (b:=decide (s.1<m/\s.2<m)) ?_ (λh=>?_) (λh=>?_)
     ·by_cases h:s.1<(m:Int)
      ·simp[QeL,QA,dOp,Qa,gLt,gI,D.tru,h]
      ·simp[QeL,QA,dOp,Qa,gLt,gI,D.tru,h]
     ·have h:=of_decide_eq_true h
      refine run_seq (Qme rfl rfl rfl rfl rfl rfl s1 h.1 s2 h.2 rfl (Qp ?_))
      unfold stepT
      rw[if_pos h];rfl
     ·have h:=of_decide_eq_false h
      refine Qp ?_
      unfold stepT
      rw[if_neg h];rfl
    ·intro o ho
     cases o with
     | nx ρ=>
      subst ho
      exact Qp ⟨_,_,by rw[fin]⟩
     | _=>exact False.elim ho
   | _=>exact False.elim ho
 ·rintro ρ ⟨j1,j2,rfl⟩
  rw[ZaL]
  exact Qaj rfl ⟨rfl,rfl⟩
noncomputable def hit(i j:Nat)(s:Int×Int):Int:=(if s.1=i/\s.2=j then 1 else 0)-(if s.1=i/\i=j then 1 else 0)
theorem Qn0:up2 f a b v i j=if i=a/\j=b then v else f i j:=by
 unfold up2 up
 by_cases h1:i=a
 ·by_cases h2:j=b
  ·simp[h1,h2]
  ·simp[h1,h2]
 ·simp[h1]
theorem QqM(hi:i<m)(hj:j<m)(h1:0<=s.1)(h2:0<=s.2):stepT m f s i j=f i j+hit i j s:=by
 unfold stepT hit
 have e1:(s.1=(i:Int))↔(i=s.1.toNat):=by omega
 have e2:(s.2=(j:Int))↔(j=s.2.toNat):=by omega
 simp only[e1,e2]
 by_cases c1:s.1<(m:Int)
 ·by_cases c2:s.2<(m:Int)
  ·simp only[c1,c2,and_self,if_true,Qn0]
   generalize s.1.toNat=a
   generalize s.2.toNat=b
   by_cases d1:i=a
   ·subst d1
    by_cases d2:j=b
    ·subst d2
     by_cases d3:i=j
     ·subst d3;simp
     ·have d4:¬j=i:=λz=>d3 z.symm
      simp[d3,d4]
    ·by_cases d3:i=j
     ·subst d3;simp[d2];omega
     ·have d4:¬j=i:=λz=>d3 z.symm
      simp[d2,d3,d4]
   ·simp[d1]
  ·have d2:¬(j=s.2.toNat):=by omega
   simp only[c1,c2,and_false,if_false,if_true,Qn0,d2]
   generalize s.1.toNat=a
   by_cases d1:i=a
   ·subst d1
    by_cases d3:i=j
    ·subst d3;simp;omega
    ·have d4:¬j=i:=λz=>d3 z.symm
     simp[d3,d4]
   ·simp[d1]
 ·have d1:¬(i=s.1.toNat):=by omega
  simp[c1,d1]
theorem Qkl(hi:i<m)(hj:j<m):∀(S:List (Int×Int)) (f:Nat->Nat->Int),(∀s∈S,0<=s.1/\0<=s.2)->S.foldl (stepT m) f i j=f i j+(S.map (hit i j)).sum
 | [],f,_=>by simp
 | s::S,f,h=>by
  obtain⟨h1,h2⟩:=h s Zj
  rw[ZbC,Qkl hi hj S _ (λt ht=>h t (Zb _ ht)),QqM hi hj h1 h2,Zw,Zah]
  omega
theorem QeK(hi:i<m)(hj:j<m)(h:∀s∈S,0<=s.1/\0<=s.2):Q6 m S i j=(S.map (hit i j)).sum:=by
 unfold Q6
 rw[Qkl hi hj S _ h];simp
noncomputable def isI(i:Nat)(a:Int):Int:=if a=i then 1 else 0
noncomputable def QC(R L:List (Int×Int))(i:Nat):Int:=(R.map λr=>isI i r.1+isI i r.2).sum+(L.map λl=>isI i l.1).sum
theorem sum_neg(S:List (Int×Int))(i:Nat)(h:∀s∈S,s.1≠s.2):(S.map (hit i i)).sum= -(S.map λs=>isI i s.1).sum:=by
 induction S with
 | nil=>rfl
 | cons s S ih=>
  rw[Zw,Zah,ih λt ht=>h t (Zb _ ht),Zw,Zah]
  have hn:=h s Zj
  unfold hit isI
  by_cases e:s.1=(i:Int)
  ·have:¬(s.2=(i:Int)):=λz=>hn (e.trans z.symm)
   simp[e,this];omega
  ·simp[e]
noncomputable def Qas(R L:List (Int×Int)):List (Int×Int):=R++R.map Prod.swap++L
theorem Qkv(R L:List (Int×Int))(i:Nat):((Qas R L).map λs=>isI i s.1).sum=QC R L i:=by
 unfold Qas QC
 rw[ZU,ZU,Zaz,Zaz]
 have:(R.map λr=>isI i r.1+isI i r.2).sum=(R.map λs=>isI i s.1).sum+((R.map Prod.swap).map λs=>isI i s.1).sum:=by
  induction R with
  | nil=>rfl
  | cons r R ih=>simp only[Zw,Zah,ih,Prod.fst_swap];omega
 omega
def Good(m:Nat)(s:Int×Int):Prop:=0<=s.1/\0<=s.2/\s.1<=m/\s.2<=m/\s.1≠s.2
theorem Qdn{m:Nat}{R L:List (Int×Int)}(hR:∀s∈R,Good m s)(hL:∀s∈L,Good m s):∀s∈Qas R L,Good m s:=λs hs=>by
 unfold Qas at hs
 rcases Zm.mp hs with hs | hs
 ·rcases Zm.mp hs with hs | hs
  ·exact hR s hs
  ·obtain⟨t,ht,rfl⟩:=ZX.mp hs
   obtain⟨h1,h2,h3,h4,h5⟩:=hR t ht
   exact⟨h2,h1,h4,h3,λz=>h5 z.symm⟩
 ·exact hL s hs
def QiH(d:Den):Prop:=∀(m:Nat) (R L:List (Int×Int)),m<=1000->R.length+R.length+L.length<=1000000->(∀s∈R,Good m s)->(∀s∈L,Good m s)->d [Qi m R L]=some (Qdy m m (Q6 m (Qas R L)),true)
theorem Qux:QiH (Qw 5 (Qez (Qw 4 QjV))):=λm R L hm hl hR hL=>by
 refine QrP (by omega) (Qqy (by omega)) λs hs=>?_
 obtain⟨h1,h2,_⟩:=Qdn hR hL s hs
 exact⟨h1,h2⟩
noncomputable def Qfd(Qbt:Den):DS:=(Qf (Q3 (QaE (QdO (Qz 1 Qbt [] (Qb (Qa 0) Qe))) (.tp [1,2]) [none,none,none] QdI (dOp Qfn (dC (.int 0)) (Qu (Qa 2) (Qa 1))))) Qj)
theorem Qob{α:Type}(m:Nat)(f:Nat->D):Qdh ((List.range m).map f)=(List.range m).map λi=> .tup [.int i,f i]:=by
 apply Zax
 intro k
 unfold Qdh
 simp only[ZA,ZaY,Nat.zero_add]
 by_cases hk:k<m
 ·rw[Zaf hk];rfl
 ·rw[Zr (by simp;omega)];rfl
theorem Qry{d:Den}(hd:QiH d){m:Nat}{R L:List (Int×Int)}(hm:m<=1000)(hl:R.length+R.length+L.length<=1000000)(hR:∀s∈R,Good m s)(hL:∀s∈L,Good m s):Qw 1 (Qfd d) [Qi m R L]=some (Qg m (QC R L),true):=by
 refine Qbi ?_
 refine Qaj (Qdv (toD:=λ(i:Nat)=> .tup [.int i,Qg m (Q6 m (Qas R L) i)]) (out:=λ(i:Nat)=> .int (QC R L i)) (ir:=⟨Qdh ((List.range m).map λi=>Qg m (Q6 m (Qas R L) i)),[]⟩) (List.range m) ?_ ?_ λi hi=>?_) ⟨rfl,rfl⟩
 ·unfold QdO
  rw[Q2 (n:=1) (fs:=Qb (Qa 0) Qe) (ρ:=Qad 1 [Qi m R L]) (dfl:=[]) (r:=⟨[Qi m R L],false,[]⟩) rfl (hd m R L hm hl hR hL) rfl];rfl
 ·exact Qob (α:=Nat) m _
 ·have hi:=ZQ.mp hi
  refine⟨[none,some (.int i,true),some (Qg m (Q6 m (Qas R L) i),false)],rfl,⟨.int (0-Q6 m (Qas R L) i i),true,[]⟩,?_,?_,rfl⟩
  ·have e:Qu (Qa 2) (Qa 1) [none,some (.int (i:Int),true),some (Qg m (Q6 m (Qas R L) i),false)]=some ⟨.int (Q6 m (Qas R L) i i),true,[]⟩:=by
    show((D.items (Qg m (Q6 m (Qas R L) i))).bind λxs=>(atI xs (i:Int)).map λd=>(HS.R.norm ⟨d,false,[]⟩))=_
    unfold Qg
    rw[show D.items (.lst ((List.range m).map λj=>D.int (Q6 m (Qas R L) i j)))=some ((List.range m).map λj=>D.int (Q6 m (Qas R L) i j))from rfl,Za,QnK (by omega) (by omega)]
    rfl
   exact QaI (rfl) e rfl
  ·have g:=Qdn hR hL
   rw[QeK hi hi λs hs=>⟨(g s hs).1,(g s hs).2.1⟩,sum_neg _ i λs hs=>(g s hs).2.2.2.2,Qkv]
   show D.int (0- -(QC R L i))=_
   rw[show(0:Int)- -(QC R L i)=QC R L i by omega]
theorem Qn1(a b:Int):deq (.int a) (.int b)=decide (a=b):=by
 show PyData.eqv (.int a) (.int b)=_
 unfold PyData.eqv
 exact Bool.beq_eq_decide_eq a b
theorem Qcb(ha:fa ρ=some ra)(ea:ra.d= .int a)(hb:fb ρ=some rb)(eb:rb.d= .int b):dOp gEq fa fb ρ=some ⟨.bl (decide (a=b)),true,[]⟩:=by
 refine QaI ha hb ?_
 rw[ea,eb]
 show some (D.bl (deq (.int a) (.int b)))=_
 rw[Qn1]
theorem Qgx(ha:fa ρ=some ra)(ea:ra.d= .int a)(hb:fb ρ=some rb)(eb:rb.d= .int b):dOp gNe fa fb ρ=some ⟨.bl (!decide (a=b)),true,[]⟩:=by
 refine QaI ha hb ?_
 rw[ea,eb]
 show some (D.bl (!deq (.int a) (.int b)))=_
 rw[Qn1]
theorem QsJ(ha:fa ρ=some ⟨.bl a,true,[]⟩)(hb:fb ρ=some ⟨.bl b,true,[]⟩):dOr fa fb ρ=some ⟨.bl (a || b),true,[]⟩:=by
 unfold dOr
 rw[ha]
 cases a<;>simp[D.tru,hb]
theorem Qfr(ha:fa ρ=some ⟨.bl a,true,[]⟩)(hb:fb ρ=some ⟨.bl b,true,[]⟩):Qb2 fa fb ρ=some ⟨.bl (a && b),true,[]⟩:=by
 unfold Qb2
 rw[ha]
 cases a<;>simp[D.tru,hb]
theorem QG(ha:fa ρ=some r)(e:r.d= .bl b):QA fa ρ=some b:=by
 unfold QA
 rw[ha,Za,e];rfl
theorem Qda(h:g ρ=some b):Qca g ρ=some (!b):=by unfold Qca;rw[h];rfl
theorem Qhb(ha:g1 ρ=some a)(hb:g2 ρ=some b):bOr g1 g2 ρ=some (a || b):=by
 unfold bOr;rw[ha];cases a<;>simp[hb]
theorem Qbl(ha:fa ρ=some ra)(ea:ra.d= .int a)(hb:fb ρ=some rb)(eb:rb.d= .int b)(h:Qeg a b=true):QaM fa fb ρ=some ⟨.int (a*b),true,[]⟩:=by
 unfold QaM
 rw[ha,Za,hb,Za,ea,eb]
 simp[h]
theorem Q0(ha:fa ρ=some ra)(ea:ra.d= .int a)(hb:fb ρ=some rb)(eb:rb.d= .int b):Qy fa fb ρ=some ⟨.int (a+b),true,[]⟩:=by
 unfold Qy
 rw[ha,Za,hb,Za,ea,eb]
theorem QJ(ha:fa ρ=some ra)(ea:ra.d= .int a)(hb:fb ρ=some rb)(eb:rb.d= .int b)(h:0<b):dOp QR fa fb ρ=some ⟨.int (a % b),true,[]⟩:=by
 refine QaI ha hb ?_
 rw[ea,eb]
 show(if b≠0 then some (D.int (Qha a b))else none)=_
 rw[if_pos (by omega),Qq4 _ _ (by omega)]
theorem QcI(ha:fa ρ=some ra)(ea:ra.d= .int a)(hb:fb ρ=some rb)(eb:rb.d= .int b)(h:0<b)(h2:b<2^64):dOp Qcd fa fb ρ=some ⟨.int (a / b),true,[]⟩:=by
 refine QaI ha hb ?_
 rw[ea,eb]
 have:Qf0 b=true:=by
  unfold Qf0
  have h3:b.natAbs<2^8000:=Zu (by omega:b.natAbs<2^64) (ZaI (by decide) (by decide))
  simp only[Zg,decide_eq_true_eq]
  exact⟨by omega,h3⟩
 show(if Qf0 b=true then some (D.int (QgV a b))else none)=_
 rw[if_pos this,QqO _ _ (by omega)]
theorem Qm1(h:fa ρ=some r):Qcm fa ρ=some ⟨r.d,false,r.M⟩:=by unfold Qcm;rw[h];rfl
theorem QnC{fa fb:DE}{ρ:En}{ra rb:R}{m:Nat}{f:Nat->Int}{i:Int}(ha:fa ρ=some ra)(ea:ra.d=Qg m f)(hb:fb ρ=some rb)(eb:rb.d= .int i)(h0:0<=i)(h:i<m):Qu fa fb ρ=some ⟨.int (f i.toNat),true,[]⟩:=by
 unfold Qu
 rw[ha,Za,hb,Za,ea,eb]
 simp only[Qg,D.items,Za,QnK h0 h,Zap]
 rfl
theorem QfL{fa fb:DE}{ρ:En}{ra rb:R}{ns:List Int}{i:Int}{v:Int}(ha:fa ρ=some ra)(ea:ra.d= .lst (ns.map .int))(hb:fb ρ=some rb)(eb:rb.d= .int i)(h0:0<=i)(h:ns[i.toNat]? =some v):Qu fa fb ρ=some ⟨.int v,true,[]⟩:=by
 have hl:i<ns.length:=by have:=(Zh.mp h).1;omega
 unfold Qu
 rw[ha,Za,hb,Za,ea,eb]
 simp only[D.items,Za]
 rw[QjI h0 (by simpa using hl),ZA,h]
 rfl
theorem QpJ{m n:Nat}{f:Nat->Int}(h:n<=m):cutD ((List.range m).map λi=>D.int (f i)) none (some (n:Int))=(List.range n).map λi=>D.int (f i):=by
 unfold cutD
 simp only[Zp,ZP,HT.Qio,HT.QjY,List.drop_zero,Nat.sub_zero,ZbD h]
 rw[← Zbm,List.take_range,ZbD h]
theorem QjB{fa fb:DE}{ρ:En}{ra rb:R}{m n:Nat}{f:Nat->Int}(ha:fa ρ=some ra)(ea:ra.d=Qg m f)(hb:fb ρ=some rb)(eb:rb.d= .int n)(h:n<=m):QaV fa Qbj (Qab fb) ρ=some ⟨Qg n f,true,[]⟩:=by
 unfold QaV Qbj Qab
 rw[ha,Za,hb,ea]
 simp only[Za,eb,Qg,QpJ h,Qap,Qpy,if_true]
theorem Qh3(h:fs ρ=some r)(hd:den (r.ds++dfl)=some (d,fr))(hl:r.ds.length+dfl.length=n):Qz n den dfl fs ρ=some (if fr=true then⟨d,true,[]⟩else HS.R.norm ⟨d,false,r.M⟩):=by
 unfold Qz
 rw[h,Za,if_pos hl,hd]
 rfl
noncomputable def QfH:DS:=(Qf (sIf (QA (dOp gLt (Qa 1) (dBf QaO (Qb (Qa 0) Qe)))) (Qf (Q3 (Qu (Qa 0) (Qa 1))) Qj) Qj) (Qf (Q3 (dC (.int 0))) Qj))
def Qgz(d:Den):Prop:=∀(ns:List Int) (k:Nat),d [.lst (ns.map .int),.int k]=some (.int (ns.getD k 0),true)
theorem QtH:Qgz (Qw 2 QfH):=λns k=>by
 refine Qbi ?_
 refine QW (Qac (b:=decide ((k:Int)<ns.length)) ?_ (λh=>?_) (λh=>?_))
 ·refine QG (QaI (rb:=⟨.int ns.length,true,[]⟩) rfl ?_ rfl) rfl
  show some (HS.R.mk (.int ((ns.map D.int).length:Int)) true [])=_
  rw[Zp]
 ·have h:=of_decide_eq_true h
  have hk:k<ns.length:=by omega
  have e:ns[k]? =some (ns.getD k 0):=by rw[ZC,ZE hk];rfl
  exact QW (QjQ (QfL rfl rfl rfl rfl (by omega) (by simpa using e)) ⟨rfl,rfl⟩)
 ·have h:=of_decide_eq_false h
  have e:ns.getD k 0=0:=by rw[ZC,Zr (by omega)];rfl
  rw[e]
  exact Qp (Qaj rfl ⟨rfl,rfl⟩)
noncomputable def Qa9(t k:Int):Int:=(t+17)*(k*k+7*k+11)*69621 % 2147483647
noncomputable def Qep(m t k:Int):Int:=if Qa9 t k % (k+1)<k then(Qa9 t k % (k+1)+t) % m else m
noncomputable def Qd7(m t kind:Int)(k:Int):Int×Int×Bool:=((k+t) % m,Qep m t k,decide (kind=2) || (decide (kind=3) && decide (Qa9 t k / 64 % 2=1)))
noncomputable def QbE(m:Nat)(t kind:Int):List (Int×Int×Bool):=(List.range m).map λ(k:Nat)=>Qd7 m t kind k
def GoodW(m:Nat)(w:Int×Int×Bool):Prop:=Good m (w.1,w.2.1)/\(w.2.2=true->w.1<m)
noncomputable def Q9(W:List (Int×Int×Bool)):D:= .lst (W.map QbW)
@[simp] theorem Qxy(W:List (Int×Int×Bool)):(Q9 W).flat=false:=rfl
theorem QpQ{a x n:Int}(h1:0<x)(h2:x<n):(a+x) % n≠a % n:=λh=>by
 have h3:(a+x-a) % n=0:=Int.emod_eq_emod_iff_emod_sub_eq_zero.mp h
 rw[show a+x-a=x by omega,Zbj (by omega) h2]at h3
 omega
theorem QpC{m:Nat}{t kind:Int}{k:Nat}(hk:k<m):GoodW m (Qd7 m t kind k):=by
 have hm:(0:Int)<m:=by omega
 have h1:=ZG ((k:Int)+t) (by omega:(m:Int)≠0)
 have h2:=ZH ((k:Int)+t) hm
 unfold Qd7 Qep
 split
 ·rename_i hlt
  have h3:=ZG (Qa9 t k) (by omega:((k:Int)+1)≠0)
  have h4:=ZG (Qa9 t k % (k+1)+t) (by omega:(m:Int)≠0)
  have h5:=ZH (Qa9 t k % (k+1)+t) hm
  refine⟨⟨h1,h4,by dsimp only;omega,by dsimp only;omega,?_⟩,λ_=>by dsimp only;omega⟩
  dsimp only
  have h6:=QpQ (a:=Qa9 t k % (k+1)+t) (x:=k-Qa9 t k % (k+1)) (n:=m) (by omega) (by omega)
  rw[show Qa9 t k % (k+1)+t+(k-Qa9 t k % (k+1))=k+t by omega]at h6
  exact h6
 ·exact⟨⟨h1,by dsimp only;omega,by dsimp only;omega,by dsimp only;omega,by dsimp only;omega⟩,λ_=>by dsimp only;omega⟩
noncomputable def QhR:DS:=(Qf (Qs 3 (QF Qe)) (Qf (QaT (QbO (Qa 0)) (.nm 4) (Qf (Qs 5 (dOp QR (QaM (QaM (Qy (Qa 1) (dC (.int 17))) (Qy (Qy (QaM (Qa 4) (Qa 4)) (QaM (dC (.int 7)) (Qa 4))) (dC (.int 11)))) (dC (.int 69621))) (dC (.int 2147483647)))) (Qf (Qs 6 (Qcm (Qa 0))) (Qf (sIf (QA (dOp gLt (dOp QR (Qa 5) (Qy (Qa 4) (dC (.int 1)))) (Qa 4))) (Qf (Qs 6 (dOp QR (Qy (dOp QR (Qa 5) (Qy (Qa 4) (dC (.int 1)))) (Qa 1)) (Qa 0))) Qj) Qj) (Qf (Qd4 3 Qa8 (QbY (Qb (dOp QR (Qy (Qa 4) (Qa 1)) (Qa 0)) (Qb (Qa 6) (Qb (dOr (dOp gEq (Qa 2) (dC (.int 2))) (Qb2 (dOp gEq (Qa 2) (dC (.int 3))) (dOp gEq (dOp QR (dOp Qcd (Qa 5) (dC (.int 64))) (dC (.int 2))) (dC (.int 1))))) Qe))))) Qj))))) (Qf (Q3 (Qa 3)) Qj)))
theorem QnW(hx:ρ[x]? =some (some (.lst xs,true)))(ha:fa ρ=some r)(hf:r.d.flat=true)(hl:xs.length<16777216)(q:Q (.nx (ρ.set x (some (.lst (xs++[r.d]),true))))):Run (Qd4 x Qa8 fa) ρ Q:=by
 refine⟨_,?_,q⟩
 have hn:r.norm=⟨r.d,true,[]⟩:=by unfold HS.R.norm;rw[if_pos hf]
 unfold Qd4
 rw[hx]
 simp only[Qa8,Za,ha,Qcu,Qji,hn,Qbd,kill,QhB]
 simp[hl]
def Qlt(d:Den):Prop:=∀(m:Nat) (t kind:Int),0<m->m<=1000->0<=t->t<2000000->d [.int m,.int t,.int kind]=some (Q9 (QbE m t kind),true)
theorem Qup:Qlt (Qw 7 QhR):=λm t kind h0 hm ht ht2=>by
 refine Qbi ?_
 refine run_seq (Qn (r:=⟨.lst [],true,[]⟩) rfl ?_)
 rw[QB]
 refine run_seq (Qa5 (List.range m) (λi ρ=>∃j4 j5 j6,ρ=[some (.int m,true),some (.int t,true),some (.int kind,true),some (.lst (((List.range i).map λ(k:Nat)=>Qd7 m t kind k).map QbW),true),j4,j5,j6]) (QeH (n:=m) (r:=⟨.int m,true,[]⟩) rfl rfl (by omega)) rfl ⟨none,none,none,rfl⟩ ?_ ?_)
 ·rintro i k ρ hi ⟨j4,j5,j6,rfl⟩
  have hk:i<m/\i=k:=by
   obtain⟨h1,h2⟩:=Zh.mp hi
   simp at h1 h2;exact⟨h1,h2⟩
  obtain⟨hk,rfl⟩:=hk
  refine⟨_,rfl,?_⟩
  have n1:(t+17).natAbs<2^64:=by omega
  have n2:(69621:Int).natAbs<2^64:=by decide
  refine run_seq (Qn (r:=⟨.int (Qa9 t i),true,[]⟩) ?_ ?_)
  ·exact QJ (Qbl (Qbl (Q0 (a:=t) (b:=17) rfl rfl rfl rfl) rfl (Q0 (Q0 (Qbl (a:=(i:Int)) (b:=i) rfl rfl rfl rfl (Qdq (by omega))) rfl (Qbl (a:=7) (b:=(i:Int)) rfl rfl rfl rfl (Qdq (by decide))) rfl) rfl (QgW (.int 11) _) rfl) rfl (Qdq n1)) rfl (QgW (.int 69621) _) rfl (Qdw n2)) rfl (QgW (.int 2147483647) _) rfl (by decide)
  ·rw[QB]
   refine run_seq (Qn (r:=⟨.int m,false,[]⟩) rfl ?_)
   rw[QqX rfl]
   refine run_seq (f:=sIf _ _ _) (Run.mono (Q:=Nx λρ=>ρ=[some (.int m,true),some (.int t,true),some (.int kind,true),some (.lst (((List.range i).map λ(k:Nat)=>Qd7 m t kind k).map QbW),true),some (.int i,true),some (.int (Qa9 t i),true),some (.int (Qep m t i),true)]) ?_ ?_)
   ·have e1:∀(ρ:En),ρ=[some (.int m,true),some (.int t,true),some (.int kind,true),some (.lst (((List.range i).map λ(k:Nat)=>Qd7 m t kind k).map QbW),true),some (.int i,true),some (.int (Qa9 t i),true),some (.int m,true)]->dOp QR (Qa 5) (Qy (Qa 4) (dC (.int 1))) ρ=some ⟨.int (Qa9 t i % (i+1)),true,[]⟩:=by
     rintro ρ rfl
     exact QJ (a:=Qa9 t i) (b:=(i:Int)+1) rfl rfl (Q0 (a:=(i:Int)) (b:=1) rfl rfl rfl rfl) rfl (by omega)
    refine Qac (b:=decide (Qa9 t i % (i+1)<i)) (QG (QaI (e1 _ rfl) rfl rfl) rfl) (λh=>?_) (λh=>?_)
    ·have h:=of_decide_eq_true h
     refine run_seq (Qn (QJ (a:=Qa9 t i % (i+1)+t) (b:=m) (Q0 (a:=Qa9 t i % (i+1)) (b:=t) (e1 _ rfl) rfl rfl rfl) rfl rfl rfl (by omega)) (Qp ?_))
     rw[QB]
     unfold Qep
     rw[if_pos h];rfl
    ·have h:=of_decide_eq_false h
     refine Qp ?_
     unfold Qep
     rw[if_neg h];rfl
   ·intro o ho
    cases o with
    | nx ρ=>
     subst ho
     refine run_seq (QnW (r:=⟨QbW (Qd7 m t kind i),true,[]⟩) rfl ?_ rfl (by simp;omega) ?_)
     ·have e:=QsJ (Qcb (a:=kind) (b:=2) (fa:=Qa 2) (fb:=dC (.int 2)) (ρ:=[some (.int m,true),some (.int t,true),some (.int kind,true),some (.lst (((List.range i).map λ(k:Nat)=>Qd7 m t kind k).map QbW),true),some (.int i,true),some (.int (Qa9 t i),true),some (.int (Qep m t i),true)]) rfl rfl rfl rfl)
       (Qfr (Qcb (fa:=Qa 2) (fb:=dC (.int 3)) rfl rfl rfl rfl) (Qcb (fb:=dC (.int 1)) (QJ (fb:=dC (.int 2)) (QcI (fa:=Qa 5) (fb:=dC (.int 64)) rfl rfl rfl rfl (by decide) (by decide)) rfl rfl rfl (by decide)) rfl rfl rfl))
      have e2:dOp QR (Qy (Qa 4) (Qa 1)) (Qa 0) [some (.int m,true),some (.int t,true),some (.int kind,true),some (.lst (((List.range i).map λ(k:Nat)=>Qd7 m t kind k).map QbW),true),some (.int i,true),some (.int (Qa9 t i),true),some (.int (Qep m t i),true)]=some ⟨.int ((i+t) % m),true,[]⟩:=
       QJ (Q0 rfl rfl rfl rfl) rfl rfl rfl (by omega)
      unfold QbY
      rw[Qm e2 (Qm rfl (Qm e (QZ _)))]
      rfl
     ·refine Qp ⟨some (.int i,true),some (.int (Qa9 t i),true),some (.int (Qep m t i),true),?_⟩
      show [some (D.int m,true),some (D.int t,true),some (D.int kind,true),some (D.lst (((List.range i).map λ(k:Nat)=>Qd7 m t kind k).map QbW++[QbW (Qd7 m t kind i)]),true),_,_,_]=_
      rw[Zba,ZU,ZU];rfl
    | _=>exact False.elim ho
 ·rintro ρ ⟨j4,j5,j6,rfl⟩
  rw[ZP]
  exact Qaj rfl ⟨rfl,rfl⟩
theorem QfA{x y m:Nat}{f:Nat->Int}{ρ:En}{i:Int}{b:Bool}{Q:Out->Prop}(hx:ρ[x]? =some (some (Qg m f,true)))(hy:ρ[y]? =some (some (.int i,b)))(h0:0<=i)(h:i<m)
  (q:Q (.nx (ρ.set x (some (Qg m (up f i.toNat (f i.toNat+1)),true))))):Run (QeO x Qa8 (Qa y) (Qy (Qu (Qa x) (Qa y)) (dC (.int 1)))) ρ Q:=by
 have e1:Qa y ρ=some ⟨.int i,true,[]⟩:=Qwg hy
 have e2:=QcK hx
 exact QrA hx e1 rfl (Q0 (QnC e2 (by simp) e1 rfl h0 h) rfl (QgW (.int 1) _) rfl) rfl h0 h q
theorem Run.nx(h:Run f ρ (Nx Q))(m:∀ρ,Q ρ->Q' ρ):Run f ρ (Nx Q'):=h.mono λo ho=>by
 cases o with
 | nx ρ=>exact m ρ ho
 | _=>exact ho.elim
theorem QbF(h:Run f ρ (Nx P))(k:∀ρ',P ρ'->Run g ρ' Q):Run (Qf f g) ρ Q:=run_seq (h.nx k)
noncomputable def Qbe(c:Int):Int:=c*48271 % 2147483647
noncomputable def mStart(m c:Int):Int:=Qbe c % (m+1)
noncomputable def QgM(m c:Int):Int:=(mStart m c+1+Qbe c / 9 % m) % (m+1)
noncomputable def QcS(m kind c:Int):Int×Int×Bool:=(mStart m c,QgM m c,decide (mStart m c<m) && (decide (kind=2) || (decide (kind=3) && decide (Qbe c / 72 % 3=1))))
theorem Qpb{m:Nat}(hm:0<m)(kind c:Int):GoodW m (QcS m kind c):=by
 have h1:=ZG (Qbe c) (by omega:(m:Int)+1≠0)
 have h2:=ZH (Qbe c) (by omega:(0:Int)<m+1)
 have h3:=ZG (Qbe c / 9) (by omega:(m:Int)≠0)
 have h4:=ZH (Qbe c / 9) (by omega:(0:Int)<m)
 have h5:=ZG (mStart m c+1+Qbe c / 9 % m) (by omega:(m:Int)+1≠0)
 have h6:=ZH (mStart m c+1+Qbe c / 9 % m) (by omega:(0:Int)<m+1)
 have h7:=QpQ (a:=mStart m c) (x:=1+Qbe c / 9 % m) (n:=(m:Int)+1) (by omega) (by omega)
 rw[← Int.add_assoc,show mStart m c % ((m:Int)+1)=mStart m c from Zbj h1 h2]at h7
 refine⟨⟨h1,h5,?_,?_,λz=>h7 z.symm⟩,λh=>?_⟩
 ·show mStart m c<=m;unfold mStart;omega
 ·show QgM m c<=m;unfold QgM;omega
 ·have:(QcS m kind c).2.2=(decide (mStart m c<m) && (decide (kind=2) || (decide (kind=3) && decide (Qbe c / 72 % 3=1)))):=rfl
  rw[this,Zg,decide_eq_true_eq]at h
  exact h.1
theorem QuY{fa fb:DE}{ρ:En}{ra rb:R}{A B:List (Int×Int×Bool)}(ha:fa ρ=some ra)(ea:ra.d=Q9 A)(hb:fb ρ=some rb)(eb:rb.d=Q9 B)(hl:A.length+B.length<=16777216):Qy fa fb ρ=some ⟨Q9 (A++B),true,[]⟩:=by
 unfold Qy
 rw[ha,Za,hb,Za,ea,eb]
 simp only[Q9,Zp,QhB,if_pos hl,Qap]
 simp
noncomputable def Qdc(w:Int×Int×Bool):Int×Int:=(if w.2.1<w.1 then w.2.1 else w.1,if w.2.1>w.1 then w.2.1 else w.1)
noncomputable def Qi4(w:Int×Int×Bool):Int×Int:=(w.1,w.2.1)
noncomputable def Qal(W:List (Int×Int×Bool)):List (Int×Int):=(W.filter λw=> !w.2.2).map Qdc
noncomputable def Q7(W:List (Int×Int×Bool)):List (Int×Int):=(W.filter λw=>w.2.2).map Qi4
theorem Qdi{m:Nat}{W:List (Int×Int×Bool)}(h:∀w∈W,GoodW m w):∀s∈Qal W,Good m s/\s.1<s.2:=λs hs=>by
 obtain⟨w,hw,rfl⟩:=ZX.mp hs
 obtain⟨⟨h1,h2,h3,h4,h5⟩,_⟩:=h w (Zan.mp hw).1
 simp only at h1 h2 h3 h4 h5
 unfold Qdc Good
 simp only
 split<;>split<;>omega
theorem Qcq{m:Nat}{W:List (Int×Int×Bool)}(h:∀w∈W,GoodW m w):∀s∈Q7 W,Good m s/\s.1<m:=λs hs=>by
 obtain⟨w,hw,rfl⟩:=ZX.mp hs
 obtain⟨h1,h2⟩:=h w (Zan.mp hw).1
 exact⟨h1,h2 (by simpa using(Zan.mp hw).2)⟩
theorem QkC(W:List (Int×Int×Bool)):(Qal W).length<=W.length:=by unfold Qal;rw[Zp];exact List.length_filter_le _ _
theorem Qkk(W:List (Int×Int×Bool)):(Q7 W).length<=W.length:=by unfold Q7;rw[Zp];exact List.length_filter_le _ _
structure Qvi (m:Nat) (t kind:Int) (R L:List (Int×Int)):Prop where
 ex:∃W,(∀w∈QbE m t kind,w∈W)/\(∀w∈W,GoodW m w)/\W.length<=100/\R=Qal W/\L=Q7 W
theorem Qvi.good{m:Nat}{t kind:Int}{R L:List (Int×Int)}(h:Qvi m t kind R L):(∀s∈R,Good m s)/\(∀s∈L,Good m s)/\R.length<=100/\L.length<=100:=by
 obtain⟨W,_,h2,h3,rfl,rfl⟩:=h.ex
 exact⟨λs hs=>(Qdi h2 s hs).1,λs hs=>(Qcq h2 s hs).1,ZF (QkC W) h3,ZF (Qkk W) h3⟩
theorem QrR{fa:DE}{ρ:En}{r:R}{W:List (Int×Int×Bool)}(h:fa ρ=some r)(e:r.d=Q9 W):QaE (Qaf fa) (.tp [1,2,3]) [none,none,none,none] (Qca (QA (Qa 3))) (QbY (Qb (dBf Qi7 (Qb (Qa 1) (Qb (Qa 2) Qe))) (Qb (dBf QiA (Qb (Qa 1) (Qb (Qa 2) Qe))) Qe))) ρ=some ⟨Q1 (Qal W),true,[]⟩:=by
 rw[QfG W (Qei h e) rfl λw _=>⟨[none,some (.int w.1,true),some (.int w.2.1,true),some (.bl w.2.2,true)],rfl,Qda (QG rfl rfl),λ_=>⟨⟨pairD (Qdc w),true,[]⟩,rfl,rfl,rfl⟩⟩]
 unfold Q1 Qal
 rw[Zak];rfl
theorem QsC{fa:DE}{ρ:En}{r:R}{W:List (Int×Int×Bool)}(h:fa ρ=some r)(e:r.d=Q9 W):QaE (Qaf fa) (.tp [1,2,3]) [none,none,none,none] (QA (Qa 3)) (QbY (Qb (Qa 1) (Qb (Qa 2) Qe))) ρ=some ⟨Q1 (Q7 W),true,[]⟩:=by
 rw[QfG W (Qei h e) rfl λw _=>⟨[none,some (.int w.1,true),some (.int w.2.1,true),some (.bl w.2.2,true)],rfl,QG rfl rfl,λ_=>⟨⟨pairD (Qi4 w),true,[]⟩,rfl,rfl,rfl⟩⟩]
 unfold Q1 Q7
 rw[Zak];rfl
theorem Qij{fa:DE}{ρ:En}{r:R}{ns:List Int}{a b:Int}(h:fa ρ=some r)(e:r.d= .lst (ns.map .int)):∃cs:List Int,cs.length<=ns.length/\QaV fa (Qab (dC (.int a))) (Qab (dC (.int b))) ρ=some ⟨.lst (cs.map .int),true,[]⟩:=by
 refine⟨(ns.drop (HT.sIx ns.length 0 (some a))).take (HT.sIx ns.length ns.length (some b)-HT.sIx ns.length 0 (some a)),by rw[ZaK,Zbp];omega,?_⟩
 unfold QaV Qab
 rw[h,Za,e]
 simp only[QgW,Za,cutD,Qap,Zp,← List.map_drop,← Zbm,Qgl,if_true]
theorem Ql6{m:Nat}{t kind:Int}:∀w∈QbE m t kind,GoodW m w:=λw hw=>by
 obtain⟨k,hk,rfl⟩:=ZX.mp hw
 exact QpC (ZQ.mp hk)
theorem Qil(m:Nat)(t kind:Int):(QbE m t kind).length=m:=by simp[QbE]
theorem QiJ:up f i v k=if k=i then v else f k:=rfl
theorem QcZ{fa:DE}{ρ:En}{r:R}{m:Int}{R L:List (Int×Int)}(h:fa ρ=some r)(e:r.d=Qi m R L):
  Qu fa (dC (.int 0)) ρ=some ⟨.int m,true,[]⟩/\Qu fa (dC (.int 1)) ρ=some ⟨Q1 R,r.fr,r.M⟩/\Qu fa (dC (.int 2)) ρ=some ⟨Q1 L,r.fr,r.M⟩:=by
 unfold Qu
 rw[h]
 simp only[Za,e,QgW]
 exact⟨rfl,rfl,rfl⟩
noncomputable def QiW:DS:=(Qf (Qs 1 (QaM (QF (Qb (dC (.int 0)) Qe)) (Qy (Qu (Qa 0) (dC (.int 0))) (dC (.int 1))))) (Qf (QaT (Qaf (Qu (Qa 0) (dC (.int 1)))) (.tp [2,3]) (Qf (QeO 1 Qa8 (Qa 2) (Qy (Qu (Qa 1) (Qa 2)) (dC (.int 1)))) (Qf (QeO 1 Qa8 (Qa 3) (Qy (Qu (Qa 1) (Qa 3)) (dC (.int 1)))) Qj))) (Qf (QaT (Qaf (Qu (Qa 0) (dC (.int 2)))) (.tp [2,3]) (Qf (QeO 1 Qa8 (Qa 2) (Qy (Qu (Qa 1) (Qa 2)) (dC (.int 1)))) Qj)) (Qf (Q3 (QaV (Qa 1) Qbj (Qab (Qu (Qa 0) (dC (.int 0)))))) Qj))))
theorem Qlq{α:Type}{g:α->Int}{xs:List α}{i:Nat}{x:α}(h:xs[i]? =some x):((xs.take (i+1)).map g).sum=((xs.take i).map g).sum+g x:=by
 rw[Zbi,h,ZU,Zaz];simp
def QjX(d:Den):Prop:=∀(m:Nat) (R L:List (Int×Int)),m<=1000->(∀s∈R,Good m s)->(∀s∈L,Good m s)->d [Qi m R L]=some (Qg m (QC R L),true)
theorem QvF:QjX (Qw 4 QiW):=λm R L hm hR hL=>by
 refine Qbi ?_
 have it:∀{ρ:En},ρ[0]? =some (some (Qi m R L,false))->Qa 0 ρ=some ⟨Qi m R L,false,[]⟩:=λh=>QcK h
 refine run_seq (Qn (Ql2 (n:=m+1) (Q0 (QcZ (it rfl) rfl).1 rfl rfl rfl) rfl (by omega)) ?_)
 rw[QB]
 refine QbF (P:=λρ=>∃j2 j3,ρ=[some (Qi m R L,false),some (Qg (m+1) (λk=>(R.map λr=>isI k r.1+isI k r.2).sum),true),j2,j3]) ?_ ?_
 ·refine Qa5 R (λi ρ=>∃f j2 j3,(∀k,f k=((R.take i).map λr=>isI k r.1+isI k r.2).sum)/\ρ=[some (Qi m R L,false),some (Qg (m+1) f,true),j2,j3]) (Qei (QcZ (it rfl) rfl).2.1 rfl) rfl ⟨λ_=>0,none,none,λk=>by simp,rfl⟩ ?_ ?_
  ·rintro i s ρ hi ⟨f,j2,j3,hf,rfl⟩
   obtain⟨h1,h2,h3,h4,h5⟩:=hR s (Zag hi)
   refine⟨_,rfl,?_⟩
   refine run_seq (QfA rfl rfl h1 (by omega) ?_)
   refine run_seq (QfA rfl rfl h2 (by omega) (Qp ⟨_,_,_,λk=>?_,rfl⟩))
   rw[Qlq hi,← hf k]
   unfold isI
   simp only[QiJ]
   have n1:¬s.1.toNat=s.2.toNat:=by omega
   by_cases c1:k=s.1.toNat
   ·have c2:¬k=s.2.toNat:=by omega
    have c3:s.1=(k:Int):=by omega
    have c4:¬s.2=(k:Int):=by omega
    rw[if_neg c2,if_pos c1,if_pos c3,if_neg c4,c1];omega
   ·have c3:¬s.1=(k:Int):=by omega
    by_cases c2:k=s.2.toNat
    ·have c4:s.2=(k:Int):=by omega
     rw[if_pos c2,if_neg (λz=>n1 z.symm),if_neg c3,if_pos c4,c2];omega
    ·have c4:¬s.2=(k:Int):=by omega
     rw[if_neg c2,if_neg c1,if_neg c3,if_neg c4];omega
  ·rintro ρ ⟨f,j2,j3,hf,rfl⟩
   rw[ZaL]at hf
   have:f=λk=>(R.map λr=>isI k r.1+isI k r.2).sum:=funext hf
   subst this
   exact⟨j2,j3,rfl⟩
 rintro ρ ⟨j2,j3,rfl⟩
 refine QbF (P:=λρ=>∃j2 j3,ρ=[some (Qi m R L,false),some (Qg (m+1) (QC R L),true),j2,j3]) ?_ ?_
 ·refine Qa5 L (λi ρ=>∃f j2 j3,(∀k,f k=(R.map λr=>isI k r.1+isI k r.2).sum+((L.take i).map λl=>isI k l.1).sum)/\ρ=[some (Qi m R L,false),some (Qg (m+1) f,true),j2,j3]) (Qei (QcZ (it rfl) rfl).2.2 rfl) rfl ⟨_,j2,j3,λk=>by simp,rfl⟩ ?_ ?_
  ·rintro i s ρ hi ⟨f,j2,j3,hf,rfl⟩
   obtain⟨h1,h2,h3,h4,h5⟩:=hL s (Zag hi)
   refine⟨_,rfl,?_⟩
   refine run_seq (QfA rfl rfl h1 (by omega) (Qp ⟨_,_,_,λk=>?_,rfl⟩))
   rw[Qlq hi,← Int.add_assoc,← hf k]
   unfold isI
   simp only[QiJ]
   by_cases c1:k=s.1.toNat
   ·have c3:s.1=(k:Int):=by omega
    rw[if_pos c1,if_pos c3,c1]
   ·have c3:¬s.1=(k:Int):=by omega
    rw[if_neg c1,if_neg c3];omega
  ·rintro ρ ⟨f,j2,j3,hf,rfl⟩
   rw[ZaL]at hf
   have:f=QC R L:=funext hf
   subst this
   exact⟨j2,j3,rfl⟩
 rintro ρ ⟨j2,j3,rfl⟩
 exact Qaj (QjB (QcK rfl) rfl (QcZ (it rfl) rfl).1 rfl (by omega)) ⟨rfl,rfl⟩
def QiE(d:Den):Prop:=∀ns:List Int,d [.lst (ns.map .int),.lst (ns.map .int)]=some (.bl true,true)
theorem Qr6(ns:List Int):Qgh (ns.map D.int) (ns.map D.int)=ns.map λn=> .tup [.int n,.int n]:=by
 induction ns with
 | nil=>rfl
 | cons n ns ih=>unfold Qgh at ih ⊢;simp only[Zw,ZaE,ih]
theorem QcH(h:fa ρ=some r)(e:r.d= .lst xs):dBf QaO (Qb fa Qe) ρ=some ⟨.int xs.length,true,[]⟩:=by
 unfold dBf
 rw[Qm h (QZ _),Za]
 simp[e,QaO]
theorem Qkd(n:Nat)(ps:List (Int×Int)):(Q1 ps).sim (n+2)=true:=by
 unfold Q1
 simp only[D.sim,List.all_map,Zac]
 intro p _
 cases n<;>rfl
theorem Qs7(m:Int)(R L:List (Int×Int)):(Qi m R L).sim 8=true:=by
 unfold Qi
 simp only[D.sim,List.all_cons,List.all_nil,Bool.and_true,Bool.true_and,Zg]
 exact⟨Qkd 5 R,Qkd 5 L⟩
theorem Qlx(ha:fa ρ=some ra)(ea:ra.d=d)(hb:fb ρ=some rb)(eb:rb.d=d)(hs:d.sim 8=true):dOp gNe fa fb ρ=some ⟨.bl false,true,[]⟩:=by
 refine QaI ha hb ?_
 rw[ea,eb]
 unfold gNe
 rw[hs,Qsh hs];rfl
def QlF(d:Den):Prop:=∀(m:Nat) (R L:List (Int×Int)),m<=1000->R.length+R.length+L.length<=1000000->(∀s∈R,Good m s)->(∀s∈L,Good m s)->d [Qi m R L]=some (Qg m (QC R L),true)
theorem QtS(h:QiH d):QlF (Qw 1 (Qfd d)):=λm R L h1 h2 h3 h4=>Qry h h1 h2 h3 h4
theorem Qph{fa:DE}{ρ:En}{r:R}{m:Int}{R L:List (Int×Int)}(h:fa ρ=some r)(e:r.d=Qi m R L):QbY (Qb (Qu fa (dC (.int 0))) (Qb (dList (Qb (Qu fa (dC (.int 1))) Qe)) (Qb (dList (Qb (Qu fa (dC (.int 2))) Qe)) Qe))) ρ=some ⟨Qi m R L,true,[]⟩:=by
 obtain⟨e0,e1,e2⟩:=QcZ h e
 unfold QbY
 rw[Qm e0 (Qm (Qis (A:=R) (Qm e1 (QZ _)) rfl rfl) (Qm (Qis (A:=L) (Qm e2 (QZ _)) rfl rfl) (QZ _)))]
 rfl
theorem QyV(n:Nat)(ns:List Int):(Qo ns).sim (n+1)=true:=by
 unfold Qo
 simp only[D.sim,List.all_map,Zac]
 intro p _
 cases n<;>rfl
def Esc(m:Nat)(W:List (Int×Int×Bool)):Prop:=∀A:Nat->Prop,(∃p,p<m/\A p)->∃w∈W,w.1<m/\A w.1.toNat/\(w.2.1=m∨¬A w.2.1.toNat)
theorem Esc.mono{m:Nat}{W W':List (Int×Int×Bool)}(h:Esc m W)(s:∀w∈W,w∈W'):Esc m W':=λA hA=>let ⟨w,hw,r⟩:=h A hA;⟨w,s w hw,r⟩
def QrD(m:Nat)(O:List Int)(w:Int×Int×Bool)(j:Nat):Prop:=O[j]? =some w.1/\(w.2.1=m∨∃i,i<j/\O[i]? =some w.2.1)
theorem QrD.app{m:Nat}{O O':List Int}{w:Int×Int×Bool}{j:Nat}(h:QrD m O w j):QrD m (O++O') w j:=by
 obtain⟨h1,h2⟩:=h
 have hj:j<O.length:=(Zh.mp h1).1
 refine⟨by rw[ZW hj];exact h1,?_⟩
 rcases h2 with h2 | ⟨i,hi,h2⟩
 ·exact .inl h2
 ·exact .inr ⟨i,hi,by rw[ZW (by omega)];exact h2⟩
noncomputable def Qgq:DS:=(Qf (Qs 3 (QaM (QF (Qb (dC (.int 0)) Qe)) (Qy (Qa 0) (dC (.int 1))))) (Qf (QaT (Qaf (Qa 1)) (.tp [4,5,6]) (Qf (QeO 3 Qa8 (Qa 4) (Qy (Qu (Qa 3) (Qa 4)) (dC (.int 1)))) (Qf (sIf (Qca (QA (Qa 6))) (Qf (QeO 3 Qa8 (Qa 5) (Qy (Qu (Qa 3) (Qa 5)) (dC (.int 1)))) Qj) Qj) Qj))) (Qf (Qs 7 (dC (.int 1))) (Qf (QaT (Qaf (QaV (Qa 3) Qbj (Qab (Qa 0)))) (.nm 8) (Qf (Qs 7 (QaM (Qa 7) (Qa 8))) Qj)) (Qf (Q3 (dOp gLe (Qa 7) (Qa 2))) Qj)))))
noncomputable def Qao(m:Nat)(g:Nat->Int):Int:=((List.range m).map g).sum
theorem Qce(m:Nat)(g:Nat->Int):Qao (m+1) g=Qao m g+g m:=by
 unfold Qao;rw[Zba,ZU,Zaz];simp
theorem Qdd(h:∀i,i<m->f i=g i):Qao m f=Qao m g:=by
 unfold Qao;rw[Zam λi hi=>h i (ZQ.mp hi)]
theorem Qgj(m:Nat)(f g:Nat->Int):Qao m (λi=>f i+g i)=Qao m f+Qao m g:=by
 induction m with
 | zero=>rfl
 | succ m ih=>rw[Qce,Qce,Qce,ih];omega
theorem QcW(m:Nat):Qao m (λ_=>0)=0:=by
 induction m with
 | zero=>rfl
 | succ m ih=>rw[Qce,ih];rfl
theorem Qfb(hp:p<m)(v:Int)(f:Nat->Int):Qao m (λi=>(if i=p then v else 0)*f i)=v*f p:=by
 induction m with
 | zero=>omega
 | succ m ih=>
  rw[Qce]
  by_cases h:p=m
  ·subst h
   rw[if_pos rfl,Qdd (g:=λ_=>0) λi hi=>by rw[if_neg (by omega)];simp,QcW];simp
  ·rw[ih (by omega),if_neg (λz=>h z.symm)];simp
noncomputable def Qcg(m:Nat)(T:Nat->Nat->Int)(f c:Nat->Int):Nat->Int:=λj=>f j+Qao m λi=>c i*T i j
noncomputable def QcG:DS:=(Qf (QaT (Qaf (Qa 1)) (.nm 2) (Qf (sIf (QA (dOp gNe (dBf QaO (Qb (Qa 2) Qe)) (Qu (Qa 0) (dC (.int 0))))) (Qf QE Qj) Qj) Qj)) Qj)
def Qjg(d:Den):Prop:=∀(m:Nat) (R L:List (Int×Int)) (fs:List (Nat->Int)),d [Qi m R L,.lst (fs.map λf=>Qg m f)]=some (.non,true)
theorem QtY:Qjg (Qw 3 QcG):=λm R L fs=>by
 have key:Run QcG (Qad 3 [Qi m R L,.lst (fs.map λf=>Qg m f)]) (Nx λ_=>True):=by
  refine run_seq (Qa5 fs (λ_ ρ=>∃j2,ρ=[some (Qi m R L,false),some (.lst (fs.map λf=>Qg m f),false),j2]) rfl rfl ⟨none,rfl⟩ ?_ ?_)
  ·rintro i f ρ _ ⟨j2,rfl⟩
   refine⟨_,rfl,?_⟩
   refine run_seq (Qac (b:=false) (QG (Qgx (QcH rfl rfl) rfl (QcZ rfl rfl).1 rfl) (by simp)) (λh=>by cases h) (λ_=>Qp (Qp ⟨_,rfl⟩)))
  ·rintro ρ ⟨j2,rfl⟩
   exact Qp trivial
 obtain⟨o,h1,h2⟩:=key
 unfold Qw
 rw[h1]
 cases o with
 | nx ρ=>rfl
 | _=>exact h2.elim
theorem Qig(h:fa ρ=some r)(q:Q (.nx ρ)):Run (Qc7 fa) ρ Q:=⟨_,by simp[Qc7,h],q⟩
theorem QrO(h:fs ρ=some rs)(e:rs.ds=[Qg m f]):dList fs ρ=some ⟨Qg m f,true,[]⟩:=by
 unfold dList
 rw[h,Za,e]
 simp[Qg,Qap]
theorem Qtm(i j:Nat)(s:Int×Int):(hit i j s).natAbs<=1:=by unfold hit;split<;>split<;>decide
theorem QhM(i j:Nat):∀S:List (Int×Int),((S.map (hit i j)).sum).natAbs<=S.length
 | []=>by simp
 | s::S=>by
  have:=QhM i j S
  have:=Qtm i j s
  rw[Zw,Zah,Zi]
  omega
structure Qcy (m:Nat) (R L:List (Int×Int)):Prop where
 ex:∃W,Esc m W/\(∀w∈W,GoodW m w)/\W.length<=200/\R=Qal W/\L=Q7 W
theorem Qcy.good{m:Nat}{R L:List (Int×Int)}(h:Qcy m R L):(∀s∈R,Good m s)/\(∀s∈L,Good m s)/\R.length<=200/\L.length<=200/\(∀s∈R,s.1<s.2)/\∀s∈L,s.1<m:=by
 obtain⟨W,_,h2,h3,rfl,rfl⟩:=h.ex
 exact⟨λs hs=>(Qdi h2 s hs).1,λs hs=>(Qcq h2 s hs).1,ZF (QkC W) h3,ZF (Qkk W) h3,λs hs=>(Qdi h2 s hs).2,λs hs=>(Qcq h2 s hs).2⟩
theorem QqI(h:d.flat=false):asg i (if fr=true then⟨d,true,[]⟩else HS.R.norm ⟨d,false,M⟩) ρ=(if fr=true then ρ else Qba M ρ).set i (some (d,fr)):=by
 cases fr
 ·simp[HS.R.norm,h,asg]
 ·simp
theorem QkG{α:Type}(m:Nat)(g:Nat->α->Int):∀S:List α,Qao m (λj=>(S.map (g j)).sum)=(S.map λs=>Qao m λj=>g j s).sum
 | []=>by simp[QcW]
 | s::S=>by
  simp only[Zw,Zah]
  rw[Qgj,QkG m g S]
theorem QnV{α:Type}(c:Int)(f:α->Int):∀S:List α,c*(S.map f).sum=(S.map λs=>c*f s).sum
 | []=>by simp
 | s::S=>by simp only[Zw,Zah,Int.mul_add,QnV c f S]
theorem Qyw(n m:Nat)(f:Nat->Int):(Qg m f).sim (n+1)=true:=by
 have:Qg m f=Qo ((List.range m).map f):=by unfold Qg Qo;rw[Zak];rfl
 rw[this];exact QyV n _
structure TP (m:Nat) (T:Nat->Nat->Int):Prop where
 neg:∀p,p<m->T p p<0
 pos:∀i j,i<m->j<m->i≠j->0<=T i j
 bnd:∀i j,i<m->j<m->(T i j).natAbs<2^64
 wt:∃w:Nat->Int,(∀j,0<=w j)/\∀i,i<m->Qao m (λj=>T i j*w j)<= -1
inductive Leg (m:Nat) (T:Nat->Nat->Int) (f:Nat->Int):(Nat->Int)->Prop where
 | nil:Leg m T f λ_=>0
 | step {c:Nat->Int}{p:Nat}{t:Int}:Leg m T f c->p<m->0<=t->t*(0-T p p)<=Qcg m T f c p->Leg m T f (up c p (c p+t))
def Stb(m:Nat)(T:Nat->Nat->Int)(g:Nat->Int):Prop:=∀p,p<m->g p<0-T p p
theorem Leg.nonneg(h:Leg m T f c):∀i,0<=c i:=by
 induction h with
 | nil=>intro i;exact ZbE _
 | step _ _ ht _ ih=>
  intro i
  unfold up
  split
  ·have:=ih ‹Nat›;rename_i p _ _ _ _ _;have:=ih p;omega
  ·exact ih i
theorem QjO(h:∀i,i<m->f i<=g i):Qao m f<=Qao m g:=by
 induction m with
 | zero=>exact ZbE _
 | succ m ih=>
  rw[Qce,Qce]
  have:=ih λi hi=>h i (by omega)
  have:=h m (by omega)
  omega
theorem Leg.least(tp:TP m T)(h:Leg m T f c)(h0:∀i,i<m->0<=c' i)(hs:Stb m T (Qcg m T f c')):∀i,i<m->c i<=c' i:=by
 induction h with
 | nil=>exact h0
 | @step c p t _ hp ht hle ih=>
  intro i hi
  unfold up
  split
  ·rename_i e
   subst e
   have key:Qcg m T f c i+(c' i-c i)*T i i<=Qcg m T f c' i:=by
    unfold Qcg
    have e1:Qao m (λk=>c k*T k i)+(c' i-c i)*T i i=Qao m (λk=>c k*T k i+(if k=i then c' i-c i else 0)*T k i):=by rw[Qgj,Qfb hi]
    have e2:Qao m (λk=>c k*T k i+(if k=i then c' i-c i else 0)*T k i)<=Qao m (λk=>c' k*T k i):=by
     refine QjO λk hk=>?_
     by_cases hki:k=i
     ·subst hki;rw[if_pos rfl,← ZaP];rw[show c k+(c' k-c k)=c' k by omega];exact ZbE _
     ·rw[if_neg hki,Zbz,Int.add_zero]
      exact ZaW (ih k hk) (tp.pos k i hk hi hki)
    omega
   have h1:=hs i hi
   have h2:=tp.neg i hi
   by_cases hlt:c i+t<=c' i
   ·exact hlt
   ·exfalso
    have h3:(c' i-c i+1)<=t:=by omega
    have h4:(c' i-c i+1)*(0-T i i)<=t*(0-T i i):=ZaW h3 (by omega)
    have h5:(c' i-c i+1)*(0-T i i)=(0-T i i)-(c' i-c i)*T i i:=by rw[ZaP,Int.one_mul,Int.mul_sub,Int.mul_zero];omega
    omega
  ·exact ih i hi
theorem Leg.unique(tp:TP m T)(hc:Leg m T f c)(hd:Leg m T f d)(sc:Stb m T (Qcg m T f c))(sd:Stb m T (Qcg m T f d)):∀i,i<m->c i=d i:=λi hi=>by
 have h1:=hc.least tp (λi _=>hd.nonneg i) sd i hi
 have h2:=hd.least tp (λi _=>hc.nonneg i) sc i hi
 omega
theorem Leg.cast(h:Leg m T f c)(e:∀i,c i=d i):Leg m T f d:=by
 have:c=d:=funext e
 rw[← this];exact h
theorem Qgc{i:Nat}(ha:fa ρ=some ra)(ea:ra.d=Qg m f)(hb:fb ρ=some rb)(eb:rb.d= .int i)(h:i<m):Qu fa fb ρ=some ⟨.int (f i),true,[]⟩:=by
 have:=QnC ha ea hb eb (by omega) (by omega)
 rw[Zaa]at this
 exact this
def Qly(m:Nat)(S:List (Int×Int)):Prop:=∀A:Nat->Prop,(∃p,p<m/\A p)->∃s∈S,s.1<m/\A s.1.toNat/\(s.2=m∨¬A s.2.toNat)
theorem QkM(h:Esc m W):Qly m (Qas (Qal W) (Q7 W)):=λA hA=>by
 obtain⟨w,hw,h1,h2,h3⟩:=h A hA
 refine⟨(w.1,w.2.1),?_,h1,h2,h3⟩
 unfold Qas
 cases e:w.2.2 with
 | true=>exact Ze _ (ZX.mpr ⟨w,Zan.mpr ⟨hw,e⟩,rfl⟩)
 | false=>
  have hr:Qdc w∈Qal W:=ZX.mpr ⟨w,Zan.mpr ⟨hw,by simp[e]⟩,rfl⟩
  by_cases hlt:w.2.1<w.1
  ·refine Zd _ (Ze _ (ZX.mpr ⟨Qdc w,hr,?_⟩))
   unfold Qdc
   rw[if_pos hlt,if_neg (by omega)];rfl
  ·refine Zd _ (Zd _ ?_)
   have:Qdc w=(w.1,w.2.1):=by
    unfold Qdc
    rw[if_neg hlt]
    by_cases hgt:w.2.1>w.1
    ·rw[if_pos hgt]
    ·rw[if_neg hgt];rw[show w.2.1=w.1 by omega]
   rw[← this];exact hr
inductive Rk (m:Nat) (S:List (Int×Int)):Nat->Nat->Prop where
 | pit {s:Int×Int}{n:Nat}:s∈S->s.2=m->Rk m S (n+1) s.1.toNat
 | step {s:Int×Int}{k n:Nat}:s∈S->s.2≠m->Rk m S k s.2.toNat->k<n->Rk m S n s.1.toNat
theorem Qlr{P:Nat->Prop}(h:∃n,P n):∃n,P n/\∀k,k<n->¬P k:=by
 obtain⟨n,hn⟩:=h
 induction n using Nat.strongRecOn with
 | _ n ih=>
  by_cases h:∃k,k<n/\P k
  ·obtain⟨k,hk,h⟩:=h;exact ih k hk h
  ·exact⟨n,hn,λk hk hx=>h ⟨k,hk,hx⟩⟩
theorem Qxe(he:Qly m S):∀p,p<m->∃n,Rk m S n p:=λp hp=>by
 by_cases h:∃n,Rk m S n p
 ·exact h
 ·exfalso
  obtain⟨s,hs,h1,h2,h3⟩:=he (λp=>¬ ∃n,Rk m S n p) ⟨p,hp,h⟩
  by_cases e:s.2=m
  ·exact h2 ⟨1,.pit hs e⟩
  ·rcases h3 with h3 | h3
   ·exact e h3
   ·have:∃n,Rk m S n s.2.toNat:=Classical.byContradiction λz=>h3 z
    obtain⟨k,hk⟩:=this
    exact h2 ⟨k+1,.step hs e hk (by omega)⟩
theorem Qtj{m:Nat}{S:List (Int×Int)}(hg:∀s∈S,Good m s)(he:Qly m S):∃r:Nat->Nat,r m=0/\∀p,p<m->∃s∈S,s.1=p/\r s.2.toNat<r p:=by
 have h:∀p,∃n,(p<m->Rk m S n p/\∀k,k<n->¬Rk m S k p)/\(p=m->n=0):=λp=>by
  by_cases hp:p<m
  ·obtain⟨n,hn⟩:=Qlr (Qxe he p hp)
   exact⟨n,λ_=>hn,λz=>by omega⟩
  ·exact⟨0,λz=>absurd z hp,λ_=>rfl⟩
 obtain⟨r,hr⟩:=Zbu h
 refine⟨r,(hr m).2 rfl,λp hp=>?_⟩
 have h1:=((hr p).1 hp).1
 generalize r p=n at h1
 cases h1 with
 | @pit s n hs e=>
  obtain⟨g1,g2,g3,g4,g5⟩:=hg s hs
  exact⟨s,hs,by omega,by rw[e,Zaa,(hr m).2 rfl];omega⟩
 | @step s k n hs e hk hkn=>
  obtain⟨g1,g2,g3,g4,g5⟩:=hg s hs
  refine⟨s,hs,by omega,?_⟩
  have hl:s.2.toNat<m:=by omega
  have:=((hr s.2.toNat).1 hl).2 k
  have:¬k<r s.2.toNat:=λz=>this z hk
  omega
theorem QmX(r:Nat->Nat):∀m:Nat,∃N,∀p,p<=m->r p<=N
 | 0=>⟨r 0,λp hp=>by rw[show p=0 by omega];exact Zq _⟩
 | m+1=>by
  obtain⟨N,hN⟩:=QmX r m
  refine⟨N+r (m+1),λp hp=>?_⟩
  by_cases e:p=m+1
  ·subst e;omega
  ·have:=hN p (by omega);omega
theorem QpE(hi:i<m)(g:Good m s)(w:Nat->Int)(hw:w m=0):Qao m (λj=>hit i j s*w j)=if s.1=i then w s.2.toNat-w i else 0:=by
 obtain⟨g1,g2,g3,g4,g5⟩:=g
 by_cases h:s.1=i
 ·rw[if_pos h]
  have e:Qao m (λj=>hit i j s*w j)=Qao m (λj=>(if j=s.2.toNat then 1 else 0)*w j+(if j=i then-1 else 0)*w j):=Qdd λj _=>by
   have:hit i j s=(if j=s.2.toNat then 1 else 0)+(if j=i then-1 else 0):=by
    unfold hit
    by_cases a:s.2=j
    ·by_cases b:i=j
     ·rw[if_pos ⟨h,a⟩,if_pos ⟨h,b⟩,if_pos (by omega),if_pos b.symm];omega
     ·rw[if_pos ⟨h,a⟩,if_neg (λz=>b z.2),if_pos (by omega),if_neg (λz=>b z.symm)];omega
    ·by_cases b:i=j
     ·rw[if_neg (λz=>a z.2),if_pos ⟨h,b⟩,if_neg (by omega),if_pos b.symm];omega
     ·rw[if_neg (λz=>a z.2),if_neg (λz=>b z.2),if_neg (by omega),if_neg (λz=>b z.symm)];omega
   rw[this,ZaP]
  rw[e,Qgj,Qfb hi]
  by_cases hm:s.2.toNat<m
  ·rw[Qfb hm];omega
  ·have e2:Qao m (λj=>(if j=s.2.toNat then 1 else 0)*w j)=0:=by
    rw[Qdd λj hj=>by rw[if_neg (by omega),Zbz],QcW]
   rw[e2,show s.2.toNat=m by omega,hw];omega
 ·rw[if_neg h]
  rw[Qdd (g:=λ_=>0) λj hj=>by
   unfold hit
   rw[if_neg (λz=>h z.1),if_neg (λz=>h z.1)];rw[Int.sub_self,Zbz],QcW]
theorem QiV{α:Type}{g:α->Int}{X:Int}:∀S:List α,(∀s∈S,g s<=X)->(S.map g).sum<=S.length*X
 | [],_=>by simp
 | a::S,h=>by
  have h1:=h a (by simp)
  have h2:=QiV S λs hs=>h s (by simp[hs])
  simp only[Zw,Zah,Zi,Int.natCast_add,ZaP]
  rw[show((1:Nat):Int)*X=X by simp]
  omega
theorem QiC{α:Type}{g:α->Int}{X Y:Int}:∀(S:List α),(∀s∈S,g s<=X)->(∃s∈S,g s<=Y)->(S.map g).sum<=S.length*X-X+Y
 | [],_,h=>by obtain⟨s,hs,_⟩:=h;exact absurd hs (by simp)
 | a::S,h,h2=>by
  obtain⟨s,hs,hy⟩:=h2
  have hb:∀s∈S,g s<=X:=λs hs=>h s (by simp[hs])
  simp only[Zw,Zah,Zi,Int.natCast_add,ZaP]
  rw[show((1:Nat):Int)*X=X by simp]
  rcases Zo.mp hs with e | hs
  ·subst e
   have:=QiV S hb
   omega
  ·have:=QiC S hb ⟨s,hs,hy⟩
   have:=h a (by simp)
   omega
theorem Qi8{α:Type}{g:α->Int}:∀S:List α,(∀s∈S,0<=g s)->0<=(S.map g).sum
 | [],_=>by simp
 | a::S,h=>by
  have h1:=h a (by simp)
  have h2:=Qi8 S λs hs=>h s (by simp[hs])
  simp only[Zw,Zah]
  omega
theorem QqZ{m:Nat}{S:List (Int×Int)}(hg:∀s∈S,Good m s)(he:Qly m S)(hl:S.length<2^60):TP m (Q6 m S):=by
 have hn:∀s∈S,0<=s.1/\0<=s.2:=λs hs=>⟨(hg s hs).1,(hg s hs).2.1⟩
 have pos:∀i j,i<m->j<m->i≠j->0<=Q6 m S i j:=λi j hi hj hij=>by
  rw[QeK hi hj hn]
  refine Qi8 S λs _=>?_
  unfold hit
  rw[if_neg (λz=>hij z.2) (c:=s.1=i/\i=j)]
  split<;>omega
 obtain⟨r,r0,hr⟩:=Qtj hg he
 obtain⟨N,hN⟩:=QmX r m
 have M1:1<=S.length+1:=by omega
 have wt:∃w:Nat->Int,(∀j,0<=w j)/\∀i,i<m->Qao m (λj=>Q6 m S i j*w j)<= -1:=by
  refine⟨λv=>(((S.length+1)^N:Nat):Int)-(((S.length+1)^(N-r v):Nat):Int),λj=>?_,λi hi=>?_⟩
  ·have:=ZaI M1 (Nat.sub_le N (r j))
   show(0:Int)<=(((S.length+1)^N:Nat):Int)-(((S.length+1)^(N-r j):Nat):Int)
   omega
  ·generalize hw:(λv=>(((S.length+1)^N:Nat):Int)-(((S.length+1)^(N-r v):Nat):Int))=w
   have hw':∀v,w v=(((S.length+1)^N:Nat):Int)-(((S.length+1)^(N-r v):Nat):Int):=λv=>by rw[← hw]
   have wm:w m=0:=by rw[hw',r0,Nat.sub_zero];omega
   have e:Qao m (λj=>Q6 m S i j*w j)=(S.map λs=>if s.1=(i:Int)then w s.2.toNat-w i else 0).sum:=by
    rw[Qdd (g:=λj=>(S.map λs=>hit i j s*w j).sum) λj hj=>by
     rw[QeK hi hj hn,Int.mul_comm,QnV]
     congr 1
     exact Zam λs _=>Int.mul_comm _ _]
    rw[QkG m (λj s=>hit i j s*w j) S]
    congr 1
    exact Zam λs hs=>QpE hi (hg s hs) w wm
   rw[e]
   obtain⟨s0,hs0,e0,hlt⟩:=hr i hi
   generalize hX:(((S.length+1)^(N-r i):Nat):Int)=X
   have X1:1<=X:=by
    have:0<(S.length+1)^(N-r i):=Nat.pow_pos (by omega)
    omega
   have key:=QiC (Y:=X-(S.length+1)*X) S (λs _=>by
    show(if s.1=i then w s.2.toNat-w i else 0)<=X
    split
    ·rw[hw',hw' i,hX]
     have:0<=(((S.length+1)^(N-r s.2.toNat):Nat):Int):=Int.natCast_nonneg _
     omega
    ·omega) ⟨s0,hs0,by
    show(if s0.1=i then w s0.2.toNat-w i else 0)<=_
    rw[if_pos e0,hw',hw' i,hX]
    have hb:=hN i (by omega)
    have h1:(S.length+1)^(N-r i+1)<=(S.length+1)^(N-r s0.2.toNat):=ZaI M1 (by omega)
    rw[Nat.pow_succ]at h1
    have h2:((((S.length+1)^(N-r i)*(S.length+1):Nat)):Int)<=(((S.length+1)^(N-r s0.2.toNat):Nat):Int):=by exact_mod_cast h1
    rw[Int.natCast_mul,hX,Int.mul_comm]at h2
    rw[show((S.length+1:Nat):Int)=(S.length:Int)+1 by omega]at h2
    omega⟩
   have:((S.length:Int)+1)*X=S.length*X+X:=by rw[ZaP,Int.one_mul]
   omega
 refine⟨λp hp=>?_,pos,λi j hi hj=>?_,wt⟩
 ·obtain⟨w,w0,hw⟩:=wt
  have h1:=hw p hp
  by_cases hneg:Q6 m S p p<0
  ·exact hneg
  ·exfalso
   have:0<=Qao m (λj=>Q6 m S p j*w j):=by
    have:=QjO (f:=λ_=>0) (g:=λj=>Q6 m S p j*w j) λj hj=>by
     by_cases e:p=j
     ·subst e;exact ZbF (by omega) (w0 _)
     ·exact ZbF (pos p j hp hj e) (w0 _)
    rw[QcW]at this
    exact this
   omega
 ·rw[QeK hi hj hn]
  have:=QhM i j S
  omega
theorem Qcy.tp{m:Nat}{R L:List (Int×Int)}(h:Qcy m R L):TP m (Q6 m (Qas R L)):=by
 have hg:=h.good
 refine QqZ (Qdn hg.1 hg.2.1) ?_ ?_
 ·obtain⟨W,h1,_,_,rfl,rfl⟩:=h.ex
  exact QkM h1
 ·unfold Qas
  simp only[Zk,Zp]
  omega
theorem Qcy.neg{m:Nat}{R L:List (Int×Int)}(h:Qcy m R L){i:Nat}(hi:i<m):0-Q6 m (Qas R L) i i=QC R L i:=by
 have hg:=h.good
 have hs:=Qdn hg.1 hg.2.1
 rw[QeK hi hi (λs z=>⟨(hs s z).1,(hs s z).2.1⟩),sum_neg _ _ (λs z=>(hs s z).2.2.2.2),Qkv]
 omega
theorem Qcy.Qq1{m:Nat}{R L:List (Int×Int)}(h:Qcy m R L){i:Nat}(hi:i<m):0<QC R L i:=by
 have:=h.neg hi
 have:=h.tp.neg i hi
 omega
theorem QpL(m:Nat)(f:Nat->Int):Qg m f= .lst (((List.range m).map f).map D.int):=by
 unfold Qg;rw[Zak];rfl
theorem QnA:∀{ns:List Int},ns≠[]->∃m,Qh4 ns=some m
 | [],h=>absurd rfl h
 | [n],_=>⟨n,rfl⟩
 | n::k::r,_=>by
  obtain⟨m,hm⟩:=QnA (ns:=k::r) (by simp)
  exact⟨if m<n then m else n,by simp only[Qh4,hm,Zap]⟩
theorem QwO(h:0<m)(f:Nat->Int):(List.range m).map f≠[]:=by
 intro z
 have:=congrArg List.length z
 simp at this
 omega
theorem QnB(m0:0<m)(f:Nat->Int):∃v,(∃i,i<m/\v=f i)/\(∀i,i<m->v<=f i)/\∀{fa:DE}{ρ:En}{r:R},fa ρ=some r->r.d=Qg m f->dBf QdG (Qb fa Qe) ρ=some ⟨.int v,true,[]⟩:=by
 obtain⟨v,hv⟩:=QnA (QwO m0 f)
 obtain⟨h1,h2⟩:=Qhl hv
 refine⟨v,?_,λi hi=>h2 _ (ZX.mpr ⟨i,ZQ.mpr hi,rfl⟩),λ{fa ρ r} h e=>?_⟩
 ·obtain⟨i,hi,e⟩:=ZX.mp h1
  exact⟨i,ZQ.mp hi,e.symm⟩
 ·unfold dBf
  rw[Qm h (QZ _),Za]
  simp only[e,QpL,QdG,QmN,Za,hv,Zap]
noncomputable def Qb8(Qau:Den):DS:=(Qf (Qc7 (Qz 2 Qau [] (Qb (Qa 0) (Qb (Qa 1) Qe)))) (Qf (QaT (Qaf (Qa 1)) (.nm 2) (Qf (sIf (QA (dOp gLt (dBf QdG (Qb (Qa 2) Qe)) (dC (.int 0)))) (Qf QE Qj) Qj) Qj)) Qj))
def QjH(d:Den):Prop:=∀(m:Nat) (R L:List (Int×Int)) (fs:List (Nat->Int)),0<m->(∀f∈fs,∀j,j<m->0<=f j)->d [Qi m R L,.lst (fs.map λf=>Qg m f)]=some (.non,true)
theorem Qrp(hn:Qjg dn):QjH (Qw 3 (Qb8 dn)):=λm R L fs m0 hf=>by
 have key:Run (Qb8 dn) (Qad 3 [Qi m R L,.lst (fs.map λf=>Qg m f)]) (Nx λ_=>True):=by
  refine run_seq (Qig (Q2 rfl (hn m R L fs) rfl) ?_)
  refine run_seq (Qa5 fs (λ_ ρ=>∃j2,ρ=[some (Qi m R L,false),some (.lst (fs.map λf=>Qg m f),false),j2]) rfl rfl ⟨none,rfl⟩ ?_ ?_)
  ·rintro i f ρ hi ⟨j2,rfl⟩
   refine⟨_,rfl,?_⟩
   obtain⟨v,⟨q,hq,e⟩,_,hv⟩:=QnB m0 f
   have h0:=hf f (Zag hi) q hq
   refine run_seq (Qac (b:=false) (QG (QaI (hv rfl rfl) rfl rfl) ?_) (λh=>by cases h) (λ_=>Qp (Qp ⟨_,rfl⟩)))
   show D.bl _=_
   rw[decide_eq_false (by omega)]
  ·rintro ρ ⟨j2,rfl⟩
   exact Qp trivial
 obtain⟨o,h1,h2⟩:=key
 unfold Qw
 rw[h1]
 cases o with
 | nx ρ=>rfl
 | _=>exact h2.elim
structure Told (m:Nat) (T:Nat->Nat->Int) (f c:Nat->Int):Prop where
 leg:Leg m T f c
 pos:∀j,j<m->0<=Qcg m T f c j
 stb:Stb m T (Qcg m T f c)
theorem Qko{x:Nat}{W:List (Int×Int×Bool)}{ρ:En}{b:Bool}(h:ρ[x]? =some (some (Q9 W,b))):QgO (Qa x) (Qff (dC (.int 1))) ρ=some ⟨Q9 W.reverse,true,[]⟩:=by
 unfold QgO
 rw[QcK h,Za]
 have e:(if(Q9 W).flat=true then HS.R.mk (Q9 W) true []else if b=true then HS.R.mk (Q9 W) true [x]else HS.R.mk (Q9 W) false []).d=Q9 W:=by cases b<;>rfl
 rw[e]
 show some (Qap (W.map QbW).reverse _)=_
 rw[← List.map_reverse]
 unfold Qap
 rw[if_pos (Qn9 _)];rfl
theorem Ql0{m:Nat}{t kind:Int}:Esc m (QbE m t kind):=λA hpt=>by
 obtain⟨p,hp,hA⟩:=hpt
 have ex:∃j:Nat,j<m/\A (((j:Int)+t) % m).toNat:=by
  have h1:=ZG ((p:Int)-t) (by omega:(m:Int)≠0)
  have h2:=ZH ((p:Int)-t) (by omega:(0:Int)<m)
  refine⟨(((p:Int)-t) % m).toNat,by omega,?_⟩
  have e:(((((p:Int)-t) % m).toNat:Int)+t) % m=p:=by
   rw[Int.toNat_of_nonneg h1,Int.emod_add_emod,Int.sub_add_cancel]
   exact Zbj (by omega) (by omega)
  rw[e,Zaa];exact hA
 obtain⟨j,⟨hj,hAj⟩,hmin⟩:=Qlr ex
 have s1:=ZG ((j:Int)+t) (by omega:(m:Int)≠0)
 have s2:=ZH ((j:Int)+t) (by omega:(0:Int)<m)
 refine⟨Qd7 m t kind j,ZX.mpr ⟨j,ZQ.mpr hj,rfl⟩,?_,hAj,?_⟩
 ·exact s2
 ·show Qep m t j=m∨¬A (Qep m t j).toNat
  unfold Qep
  split
  ·rename_i h
   have n1:=ZG (Qa9 t j) (by omega:(j:Int)+1≠0)
   right
   intro z
   refine hmin (Qa9 t j % ((j:Int)+1)).toNat (by omega) ⟨by omega,?_⟩
   rw[Int.toNat_of_nonneg n1]
   exact z
  ·exact .inl rfl
noncomputable def Qd3(Qat:Den):DS:=(Qf (QaT (Qaf (Qa 1)) (.nm 5) (Qf (Qs 6 (dOp QR (QaM (Qa 5) (dC (.int 48271))) (dC (.int 2147483647)))) (Qf (Qs 7 (dOp QR (Qa 6) (Qy (Qa 2) (dC (.int 1))))) (Qf (Qs 8 (dOp QR (Qy (Qy (Qa 7) (dC (.int 1))) (dOp QR (dOp Qcd (Qa 6) (dC (.int 9))) (Qa 2))) (Qy (Qa 2) (dC (.int 1))))) (Qf (Qs 9 (QbY (Qb (Qa 7) (Qb (Qa 8) (Qb (Qb2 (dOp gLt (Qa 7) (Qa 2)) (dOr (dOp gEq (Qa 3) (dC (.int 2))) (Qb2 (dOp gEq (Qa 3) (dC (.int 3))) (dOp gEq (dOp QR (dOp Qcd (Qa 6) (dC (.int 72))) (dC (.int 3))) (dC (.int 1)))))) Qe))))) (Qf (sIf (QA (Qz 3 Qat [] (Qb (Qa 2) (Qb (Qy (Qa 0) (QF (Qb (Qa 9) Qe))) (Qb (Qa 4) Qe))))) (Qf (Qs 0 (Qy (Qa 0) (QF (Qb (Qa 9) Qe)))) Qj) Qj) Qj)))))) (Qf (Q3 (Qa 0)) Qj))
theorem Qqw{m:Nat}{kind c:Int}{s0 s1 s4 s5 s6 s7 s8:Option (D×Bool)}{g:DS}{Q:Out->Prop}(hm:0<m)
  (k:Run g [s0,s1,some (.int m,true),some (.int kind,true),s4,some (.int c,true),some (.int (Qbe c),true),some (.int (mStart m c),true),some (.int (QgM m c),true),some (QbW (QcS m kind c),true)] Q):
  Run (Qf (Qs 6 (dOp QR (QaM (Qa 5) (dC (.int 48271))) (dC (.int 2147483647)))) (Qf (Qs 7 (dOp QR (Qa 6) (Qy (Qa 2) (dC (.int 1))))) (Qf (Qs 8 (dOp QR (Qy (Qy (Qa 7) (dC (.int 1))) (dOp QR (dOp Qcd (Qa 6) (dC (.int 9))) (Qa 2))) (Qy (Qa 2) (dC (.int 1))))) (Qf (Qs 9 (QbY (Qb (Qa 7) (Qb (Qa 8) (Qb (Qb2 (dOp gLt (Qa 7) (Qa 2)) (dOr (dOp gEq (Qa 3) (dC (.int 2))) (Qb2 (dOp gEq (Qa 3) (dC (.int 3))) (dOp gEq (dOp QR (dOp Qcd (Qa 6) (dC (.int 72))) (dC (.int 3))) (dC (.int 1)))))) Qe))))) g))))
   [s0,s1,some (.int m,true),some (.int kind,true),s4,some (.int c,true),s5,s6,s7,s8] Q:=by
 refine run_seq (Qn (QJ (b:=2147483647) (Qbl (a:=c) (b:=48271) rfl rfl rfl rfl (Qdw (by decide))) rfl rfl rfl (by decide)) ?_)
 rw[QB]
 refine run_seq (Qn (QJ (a:=Qbe c) (b:=(m:Int)+1) rfl rfl (Q0 (a:=(m:Int)) (b:=1) rfl rfl rfl rfl) rfl (by omega)) ?_)
 rw[QB]
 refine run_seq (Qn (QJ (a:=mStart m c+1+Qbe c / 9 % m) (b:=(m:Int)+1) (Q0 (Q0 (a:=mStart m c) (b:=1) rfl rfl rfl rfl) rfl (QJ (a:=Qbe c / 9) (b:=m) (QcI (a:=Qbe c) (b:=9) rfl rfl rfl rfl (by decide) (by decide)) rfl rfl rfl (by omega)) rfl) rfl (Q0 (a:=(m:Int)) (b:=1) rfl rfl rfl rfl) rfl (by omega)) ?_)
 rw[QB]
 refine run_seq (Qn (r:=⟨QbW (QcS m kind c),true,[]⟩) ?_ ?_)
 ·have e:=Qfr (ρ:=[s0,s1,some (.int m,true),some (.int kind,true),s4,some (.int c,true),some (.int (Qbe c),true),some (.int (mStart m c),true),some (.int (QgM m c),true),s8])
   (QaI (g:=gLt) (fa:=Qa 7) (fb:=Qa 2) (ra:=⟨.int (mStart m c),true,[]⟩) (rb:=⟨.int m,true,[]⟩) rfl rfl rfl)
   (QsJ (Qcb (a:=kind) (b:=2) (fa:=Qa 3) (fb:=dC (.int 2)) rfl rfl rfl rfl)
    (Qfr (Qcb (a:=kind) (b:=3) (fa:=Qa 3) (fb:=dC (.int 3)) rfl rfl rfl rfl) (Qcb (a:=Qbe c / 72 % 3) (b:=1) (fb:=dC (.int 1)) (QJ (a:=Qbe c / 72) (b:=3) (fb:=dC (.int 3)) (QcI (a:=Qbe c) (b:=72) (fa:=Qa 6) (fb:=dC (.int 72)) rfl rfl rfl rfl (by decide) (by decide)) rfl rfl rfl (by decide)) rfl rfl rfl)))
  have t:QbY (Qb (Qa 7) (Qb (Qa 8) (Qb (Qb2 (dOp gLt (Qa 7) (Qa 2)) (dOr (dOp gEq (Qa 3) (dC (.int 2))) (Qb2 (dOp gEq (Qa 3) (dC (.int 3))) (dOp gEq (dOp QR (dOp Qcd (Qa 6) (dC (.int 72))) (dC (.int 3))) (dC (.int 1)))))) Qe))) [s0,s1,some (.int m,true),some (.int kind,true),s4,some (.int c,true),some (.int (Qbe c),true),some (.int (mStart m c),true),some (.int (QgM m c),true),s8]=some ⟨QbW (QcS m kind c),true,[]⟩:=by
   unfold QbY
   rw[Qm (r:=⟨.int (mStart m c),true,[]⟩) rfl (Qm (r:=⟨.int (QgM m c),true,[]⟩) rfl (Qm e (QZ _)))]
   rfl
  exact t
 ·rw[QB]
  exact k
noncomputable def QhW:DS:=(Qf (sIf (bOr (Qca (QA (Qj8 "list" (Qa 0)))) (QA (dOp gNe (dBf QaO (Qb (Qa 0) Qe)) (dBf QaO (Qb (Qa 1) Qe))))) (Qf (Q3 (dC (.bl false))) Qj) Qj) (Qf (QaT (Qol (Qa 0) (Qa 1)) (.tp [2,3]) (Qf (sIf (bOr (Qca (QA (Qj8 "int" (Qa 2)))) (bOr (QA (Qj8 "bool" (Qa 2))) (QA (dOp gNe (Qa 2) (Qa 3))))) (Qf (Q3 (dC (.bl false))) Qj) Qj) Qj)) (Qf (Q3 (dC (.bl true))) Qj)))
theorem QxN:QiE (Qw 4 QhW):=λns=>by
 refine Qbi ?_
 refine QW (Qac (b:=false) (Qhb (a:=false) (b:=false) (Qda (b:=true) (QG (b:=true) rfl rfl)) (QG (b:=false) (r:=⟨.bl false,true,[]⟩) ?_ rfl)) (λh=>by cases h) (λ_=>Qp ?_))
 ·rw[Qgx (QcH (xs:=ns.map D.int) rfl rfl) rfl (QcH (xs:=ns.map D.int) rfl rfl) rfl];simp
 refine QW (Qa5 (toD:=λn=> .tup [.int n,.int n]) ns (λ_ ρ=>∃j2 j3,ρ=[some (.lst (ns.map .int),false),some (.lst (ns.map .int),false),j2,j3]) (ir:=⟨Qgh (ns.map D.int) (ns.map D.int),[]⟩) rfl (Qr6 ns) ⟨none,none,rfl⟩ ?_ ?_)
 ·rintro i n ρ _ ⟨j2,j3,rfl⟩
  refine⟨_,rfl,?_⟩
  refine QW (Qac (b:=false) (Qhb (a:=false) (b:=false) (Qda (b:=true) (QG (b:=true) rfl rfl)) (Qhb (a:=false) (b:=false) (QG (b:=false) rfl rfl) (QG (b:=false) (r:=⟨.bl false,true,[]⟩) ?_ rfl))) (λh=>by cases h) (λ_=>Qp (Qp ⟨_,_,rfl⟩)))
  rw[Qgx (a:=n) (b:=n) rfl rfl rfl rfl];simp
 ·rintro ρ ⟨j2,j3,rfl⟩
  exact Qaj rfl ⟨rfl,rfl⟩
theorem QnR{a:Int}{k:Nat}{ρ:En}(h1:a.natAbs<2^200)(h2:k<=1000):dOp Qm2 (dC (.int a)) (dC (.int k)) ρ=some ⟨.int (a^k),true,[]⟩:=by
 refine QaI (ra:=⟨.int a,true,[]⟩) (rb:=⟨.int k,true,[]⟩) rfl rfl ?_
 show(if 0<=(k:Int)/\(k:Int)<=1000/\a.natAbs<2^200 then some (D.int (a^(k:Int).toNat))else none)=_
 rw[if_pos ⟨by omega,by omega,h1⟩,Zaa]
theorem Qsa:((List.range i).map λk=>D.int (g k))++[.int v]=(List.range (i+1)).map λk=>D.int (up g i v k):=by
 rw[Zba,ZU]
 congr 1
 ·refine Zam λk hk=>?_
  have:=ZQ.mp hk
  unfold up
  rw[if_neg (by omega)]
 ·show _=[D.int (up g i v i)]
  unfold up
  rw[if_pos rfl]
theorem Qso(hx:ρ[x]? =some (some (Qg i g,true)))(ha:fa ρ=some r)(e:r.d= .int v)(hl:i<16777216)(q:Q (.nx (ρ.set x (some (Qg (i+1) (up g i v),true))))):Run (Qd4 x Qa8 fa) ρ Q:=by
 refine QnW (xs:=(List.range i).map λk=>D.int (g k)) hx ha (by rw[e];rfl) (by simpa using hl) ?_
 rw[e,Qsa]
 exact q
theorem QtI{m:Nat}(h:fa ρ=some r)(e:r.d=Qg m f):dBf QaO (Qb fa Qe) ρ=some ⟨.int m,true,[]⟩:=by
 rw[QcH h e];simp
theorem Qdl(h:fs ρ=some rs)(hl:rs.ds.length<=64):QF fs ρ=some ⟨.lst rs.ds,rs.fr,rs.M⟩:=by
 unfold QF
 rw[h,Za,if_pos hl]
noncomputable def Qh(l:List Nat):D:= .lst (l.map λ(p:Nat)=> .int (p:Int))
theorem Qo8(l:List Nat):QX (l.map λ(p:Nat)=>D.int (p:Int))=true:=Qa2 (λ_=>rfl) l
theorem Qc3(l:List Nat):Qh l= .lst ((l.map λ(p:Nat)=>(p:Int)).map D.int):=by unfold Qh;rw[Zak];rfl
noncomputable def Qo1:Option Int->D
 | none=> .non
 | some i=> .int i
@[simp] theorem Qrz(o:Option Int):(Qo1 o).flat=true:=by cases o<;>rfl
noncomputable def QyJ(m:Nat)(F:Nat->Option Int):D:= .lst ((List.range m).map λi=>Qo1 (F i))
@[simp] theorem QyN(m:Nat)(F:Nat->Option Int):(QyJ m F).flat=false:=rfl
@[simp] theorem Qyi(m:Nat)(F:Nat->Option Int):QX ((List.range m).map λi=>Qo1 (F i))=true:=Qa2 (f:=λi=>Qo1 (F i)) (λ_=>Qrz _) _
noncomputable def upO(F:Nat->Option Int)(i:Nat)(v:Option Int):Nat->Option Int:=λj=>if j=i then v else F j
noncomputable def QcQ(t:Int)(F:Nat->Option Int)(s:Int×Int):Nat->Option Int:=if F s.1.toNat=none/\F s.2.toNat=some t then upO F s.1.toNat (some (t+1))else F
noncomputable def Qbp(S:List (Int×Int))(F:Nat->Option Int):Nat->Nat->Option Int
 | 0=>F
 | t+1=>S.foldl (QcQ t) (Qbp S F t)
noncomputable def QbG(m:Nat):Nat->Option Int:=λi=>if i=m then some 0 else none
theorem QnS{fa fb:DE}{ρ:En}{ra rb:R}{l:List Nat}{i:Int}{v:Nat}(ha:fa ρ=some ra)(ea:ra.d=Qh l)(hb:fb ρ=some rb)(eb:rb.d= .int i)(h0:0<=i)(h:l[i.toNat]? =some v):Qu fa fb ρ=some ⟨.int v,true,[]⟩:=by
 refine QfL (ns:=l.map λ(p:Nat)=>(p:Int)) ha (by rw[ea,Qc3]) hb eb h0 ?_
 rw[ZA,h];rfl
theorem QnT{fa:DE}{ρ:En}{r:R}{l:List Nat}(h:fa ρ=some r)(e:r.d=Qh l):dBf QaO (Qb fa Qe) ρ=some ⟨.int l.length,true,[]⟩:=by
 rw[QcH h e,Zp]
noncomputable abbrev wCl:ClT:=[("Way",[]),("Together",[]),("Picked",["picks","used"])]
inductive Wk where
 | plain | both | pick (ps:List Int)
noncomputable def wkD(k:Wk)(u:Nat):D:=match k with
 | .plain=> .obj (.ins "Way" []) []
 | .both=> .obj (.ins "Together" []) []
 | .pick ps=> .obj (.ins "Picked" ["picks","used"]) [Qo ps,.int u]
noncomputable def QO(a:Addr)(d:D):D:= .obj (.pin a) [d]
noncomputable def Qah(m:Nat)(s f:Nat->Int):List Nat:=(List.range m).filter λp=>decide (s p<=f p)
noncomputable def sel(k:Wk)(u:Nat)(l:List Nat):List Nat:=match k with
 | .plain=>l.take 1
 | .both=>l
 | .pick ps=>if l=[]then []else [l.getD (ps.getD u 0 % (l.length:Int)).toNat 0]
noncomputable def nxt(u:Nat)(l:List Nat):Nat:=if l=[]then u else u+1
noncomputable def Qdx(t:List Nat):Nat->Int:=λp=>if p∈t then 1 else 0
noncomputable def Qgb(ts:List (List Nat)):Nat->Int:=λp=>(ts.map λt=>Qdx t p).sum
noncomputable def QjS:Wk->Prop
 | .pick ps=>ps.length<=1000
 | _=>True
noncomputable def IoE(p:Nat)(a:Addr)(d dp:D):Out->Prop
 | .rt d' fr=>d'= .obj .pair [d,QO a dp]/\fr=true
 | .nx ρ=>d= .non/\ρ[p]? =some (some (QO a dp,true))
 | _=>False
theorem QfJ{k p:Nat}{g:DS}{ds:List D}{d dp:D}(h:∀a,Run g (Qcv k p a ds) (IoE p a d dp)):QeP k p g ds=some (d,dp):=Qt4 λa=>by
 obtain⟨o,h1,h2⟩:=h a
 refine⟨o,h1,?_⟩
 cases o with
 | rt d' fr=>
  obtain⟨rfl,rfl⟩:=h2
  show(if a=a then some (d,dp)else none)=_
  rw[if_pos rfl]
 | nx ρ=>
  obtain⟨rfl,e⟩:=h2
  show(match ρ[p]? with | some (some (.obj (.pin b) [dp],true))=>if b=a then some (D.non,dp)else none | _=>none)=_
  rw[e]
  show(if a=a then some (D.non,dp)else none)=_
  rw[if_pos rfl]
 | _=>exact False.elim h2
theorem Qdt{fa:DE}{ρ:En}{r:HS.R}{p:Nat}{dp:D}{Q:Out->Prop}(h:fa ρ=some r)(hp:ρ[p]? =some (some (dp,true)))(c:(r.norm.fr && decide r.norm.M.Nodup && !r.norm.M.contains p && !r.d.Qof)=true)(q:Q (.rt (.obj .pair [r.d,dp]) true)):Run (Qee p fa) ρ Q:=by
 refine⟨_,?_,q⟩
 unfold Qee
 rw[h,Za,hp]
 show(if _ then _ else _)=_
 rw[if_pos c]
theorem Qmu{T:ClT}{i:Nat}{f:Str}{fa:DE}{ρ:En}{d d' y:D}{Q:Out->Prop}(h:fa ρ=some ⟨y,true,[]⟩)(hp:ρ[i]? =some (some (d,true)))(e:QgK (putD T f y) d=some d')(q:Q (.nx (ρ.set i (some (d',true))))):Run (Qhr T i f fa) ρ Q:=by
 refine⟨_,?_,q⟩
 unfold Qhr
 rw[h,Za,hp,Qrj]
 show(if _ then _ else _)=_
 rw[if_pos (show(true && decide ([]:List Nat).Nodup && !([]:List Nat).contains i)=true from rfl),e]
 rfl
theorem Qsb{T:ClT}{i:Nat}{f:Str}{fa:DE}{ρ:En}{d d':D}{k m:Int}{Q:Out->Prop}(hp:ρ[i]? =some (some (d,true)))(h1:Qjw T f d=some (.int k))(h:fa ρ=some ⟨.int m,true,[]⟩)(e:QgK (putD T f (.int (k+m))) d=some d')(q:Q (.nx (ρ.set i (some (d',true))))):Run (Qf6 T i f fa) ρ Q:=by
 refine⟨_,?_,q⟩
 unfold Qf6
 rw[hp]
 show(Qjw T f d).bind _=_
 rw[h1,Za]
 show(fa ρ).bind _=_
 rw[h,Za]
 show(QgK _ _).map _=_
 rw[e];rfl
noncomputable def Qdz(Qam:Den)(QaL:Den):DS:=(Qf (Qc7 (Qz 2 Qam [] (Qb (Qa 0) (Qb (QF (Qb (Qa 1) Qe)) Qe)))) (Qf (Q3 (QaE (QdO (Qz 1 QaL [] (Qb (Qa 0) Qe))) (.tp [1,2]) [none,none,none,some 1] (QA (dOp gGe (Qu (Qa 3) (Qa 1)) (Qa 2))) (Qa 1))) Qj))
def Qfx(d:Den):Prop:=∀(m:Nat) (R L:List (Int×Int)) (f:Nat->Int),0<m->m<=1000->Qcy m R L->(∀j,j<m->0<=f j)->d [Qi m R L,Qg m f]=some (Qh (Qah m (QC R L) f),true)
theorem Qpe{fa:DE}{ρ:En}{ra:HS.R}{n:Nat}{f:Nat->Int}(ha:fa ρ=some ra)(ea:ra.d=Qg n f):QdO fa ρ=some ⟨(List.range n).map λ(i:Nat)=> .tup [.int i,.int (f i)],ra.M⟩:=by
 unfold QdO
 rw[ha,Za,ea]
 show some (IR.mk (Qdh ((List.range n).map λi=>D.int (f i))) ra.M)=_
 congr 2
 unfold Qdh
 refine Zax λi=>?_
 rw[ZA,ZA,ZaY,ZA]
 by_cases z:i<n
 ·rw[Zaf z];simp
 ·rw[Zr (by simp;omega)];rfl
theorem QqP{dn ds:Den}(hn:QjH dn)(hs:QlF ds):Qfx (Qw 2 (Qdz dn ds)):=λm R L f m0 hm hw hf=>by
 obtain⟨g1,g2,g3,g4,_⟩:=hw.good
 refine Qbi ?_
 refine run_seq (Qig (Q2 rfl (hn m R L [f] m0 λg hg=>by rw[Zl.mp hg];exact hf) rfl) ?_)
 refine Qaj (QfG (keep:=λp=>decide (QC R L p<=f p)) (out:=λ(p:Nat)=>D.int p) (List.range m) (Qpe (Q2 rfl (hs m R L hm (by omega) g1 g2) rfl) rfl) rfl λp hp=>?_) ⟨rfl,rfl⟩
 have hp:=ZQ.mp hp
 refine⟨[none,some (.int p,true),some (.int (QC R L p),true),some (Qg m f,false)],rfl,?_,λ_=>⟨_,rfl,rfl,rfl⟩⟩
 exact QG (QaI (d:= .bl (decide (QC R L p<=f p))) (rb:=⟨.int (QC R L p),true,[]⟩) (Qgc (m:=m) (f:=f) (i:=p) (ra:=⟨Qg m f,false,[]⟩) (rb:=⟨.int p,true,[]⟩) rfl rfl rfl rfl hp) rfl rfl) rfl
theorem Qks{m:Nat}{s f:Nat->Int}{p:Nat}:p∈Qah m s f↔p<m/\s p<=f p:=by
 unfold Qah
 rw[Zan,ZQ,decide_eq_true_eq]
theorem Qnn{m:Nat}{s f:Nat->Int}:(Qah m s f).Nodup:=List.nodup_range.filter _
theorem Qma{fa:DE}{ρ:En}{ra:HS.R}{l:List Nat}(ha:fa ρ=some ra)(ea:ra.d=Qh l):QaV fa Qbj (Qab (dC (.int 1))) ρ=some ⟨Qh (l.take 1),true,[]⟩:=by
 have hc:cutD (l.map λ(p:Nat)=>D.int (p:Int)) none (some 1)=(l.take 1).map λ(p:Nat)=>D.int (p:Int):=by
  unfold cutD
  rw[show(1:Int)=((1:Nat):Int)from rfl]
  simp only[Zp,HT.Qio,HT.QjY,Nat.sub_zero,List.drop_zero]
  rw[← Zbm]
  congr 1
  cases l with
  | nil=>rfl
  | cons a l=>simp
 unfold QaV Qbj Qab
 simp only[ha,QgW,Za,ea,Qh,hc,Qap,Qo8,if_true]
noncomputable def QgJ(Qv:Den):DS:=(Qf (Qee 0 (QaV (Qz 2 Qv [] (Qb (Qa 1) (Qb (Qa 2) Qe))) Qbj (Qab (dC (.int 1))))) Qj)
noncomputable def Qd8(Qv:Den):DS:=(Qf (Qee 0 (Qz 2 Qv [] (Qb (Qa 1) (Qb (Qa 2) Qe)))) Qj)
noncomputable def Qe2(Qv:Den):DS:=(Qf (Qs 3 (Qz 2 Qv [] (Qb (Qa 1) (Qb (Qa 2) Qe)))) (Qf (sIf (Qca (QA (Qa 3))) (Qf (Qee 0 (QF Qe)) Qj) Qj) (Qf (Qs 4 (dIf (QA (dOp gLt (Qcf wCl "used" (Qa 0)) (dBf QaO (Qb (Qcf wCl "picks" (Qa 0)) Qe)))) (Qu (Qcf wCl "picks" (Qa 0)) (Qcf wCl "used" (Qa 0))) (dC (.int 0)))) (Qf (Qf6 wCl 0 "used" (dC (.int 1))) (Qf (Qee 0 (QF (Qb (Qu (Qa 3) (dOp QR (Qa 4) (dBf QaO (Qb (Qa 3) Qe)))) Qe))) Qj)))))
noncomputable def Qea:DS:=(Qf (Qhr wCl 0 "picks" (dList (Qb (Qa 1) Qe))) (Qf (Qhr wCl 0 "used" (dC (.int 0))) Qj))
def QfY(k:Wk)(e:QbZ):Prop:=∀(u m:Nat) (R L:List (Int×Int)) (f:Nat->Int),0<m->m<=1000->Qcy m R L->(∀j,j<m->0<=f j)->e [wkD k u,Qi m R L,Qg m f]=some (Qh (sel k u (Qah m (QC R L) f)),wkD k (nxt u (Qah m (QC R L) f)))
theorem QwL{dr:Den}(hr:Qfx dr):QfY .plain (QeP 3 0 (QgJ dr)):=λu m R L f m0 hm hw hf=>QfJ λa=>by
 refine QW (Qdt (Qma (Q2 (r:=⟨[Qi m R L,Qg m f],false,[]⟩) rfl (hr m R L f m0 hm hw hf) rfl) rfl) (dp:=QO a (wkD .plain u)) rfl rfl ?_)
 exact⟨rfl,rfl⟩
theorem Qnv{dr:Den}(hr:Qfx dr):QfY .both (QeP 3 0 (Qd8 dr)):=λu m R L f m0 hm hw hf=>QfJ λa=>by
 refine QW (Qdt (Q2 (r:=⟨[Qi m R L,Qg m f],false,[]⟩) rfl (hr m R L f m0 hm hw hf) rfl) (dp:=QO a (wkD .both u)) rfl rfl ?_)
 exact⟨rfl,rfl⟩
theorem Qe6{fa:DE}{ρ:En}{r:HS.R}{cs:List Int}(h:fa ρ=some r)(e:r.d=Qo cs):dList (Qb fa Qe) ρ=some ⟨Qo cs,true,[]⟩:=by
 unfold dList
 rw[Qm h (QZ ρ)]
 simp[e,Qo,Qap]
theorem QtZ:∀ps:List Int,QeP 2 0 Qea [.obj (.ins "Picked" []) [],Qo ps]=some (.non,wkD (.pick ps) 0):=λps=>QfJ λa=>by
 refine run_seq (Qmu (y:=Qo ps) (d:=QO a (.obj (.ins "Picked" []) [])) (d':=QO a (.obj (.ins "Picked" ["picks"]) [Qo ps])) ?_ rfl rfl ?_)
 ·exact Qe6 (cs:=ps) (r:=⟨Qo ps,false,[]⟩) rfl rfl
 refine run_seq (Qmu (y:= .int 0) (d:=QO a (.obj (.ins "Picked" ["picks"]) [Qo ps])) (d':=QO a (wkD (.pick ps) 0)) rfl rfl rfl ?_)
 exact Qp ⟨rfl,rfl⟩
theorem QpR{dr:Den}(hr:Qfx dr){ps:List Int}(hp:ps.length<=1000):QfY (.pick ps) (QeP 5 0 (Qe2 dr)):=λu m R L f m0 hm hw hf=>QfJ λa=>by
 obtain⟨l,hl⟩:∃l,l=Qah m (QC R L) f:=⟨_,rfl⟩
 have el:=hr m R L f m0 hm hw hf
 rw[← hl]at el ⊢
 refine run_seq (Qn (Q2 (r:=⟨[Qi m R L,Qg m f],false,[]⟩) rfl el rfl) ?_)
 change Nx _ (.nx [some (QO a (wkD (.pick ps) u),true),some (Qi m R L,false),some (Qg m f,false),some (Qh l,true),none])
 refine QW (Qac (b:=l.isEmpty) ?_ (λhe=>?_) (λhe=>?_))
 ·refine(Qda (b:= !l.isEmpty) ?_).trans (by rw[Bool.not_not])
  show(D.lst (l.map λ(p:Nat)=>D.int (p:Int))).tru=_
  cases l<;>rfl
 ·have he:l=[]:=ZaV.mp he
  subst he
  exact QW (Qdt (r:=⟨.lst [],true,[]⟩) rfl (dp:=QO a (wkD (.pick ps) u)) rfl rfl ⟨rfl,rfl⟩)
 ·have hne:l≠[]:=λz=>by rw[z]at he;cases he
  have hpos:0<l.length:=Zbd.mpr hne
  have fu:Qcf wCl "used" (Qa 0) [some (QO a (wkD (.pick ps) u),true),some (Qi m R L,false),some (Qg m f,false),some (Qh l,true),none]=some ⟨.int u,true,[]⟩:=rfl
  have fp:Qcf wCl "picks" (Qa 0) [some (QO a (wkD (.pick ps) u),true),some (Qi m R L,false),some (Qg m f,false),some (Qh l,true),none]=some ⟨Qo ps,true,[0]⟩:=rfl
  refine Qp ?_
  refine run_seq (Qn (r:=⟨.int (ps.getD u 0),true,[]⟩) ?_ ?_)
  ·have fl:=QcH (fa:=Qcf wCl "picks" (Qa 0)) (xs:=ps.map D.int) fp rfl
   by_cases hlt:u<ps.length
   ·have hg:QA (dOp gLt (Qcf wCl "used" (Qa 0)) (dBf QaO (Qb (Qcf wCl "picks" (Qa 0)) Qe))) _=some true:=QG (b:=true) (QaI (d:= .bl true) fu fl (by show some (D.bl (decide ((u:Int)<((ps.map D.int).length:Nat))))=_;rw[Zp,decide_eq_true (by omega)])) rfl
    unfold dIf
    rw[hg,Za,if_pos rfl]
    exact QfL (ns:=ps) fp rfl fu rfl (by omega) (by rw[Zaa,ZC,ZE hlt];rfl)
   ·have hg:QA (dOp gLt (Qcf wCl "used" (Qa 0)) (dBf QaO (Qb (Qcf wCl "picks" (Qa 0)) Qe))) _=some false:=QG (b:=false) (QaI (d:= .bl false) fu fl (by show some (D.bl (decide ((u:Int)<((ps.map D.int).length:Nat))))=_;rw[Zp,decide_eq_false (by omega)])) rfl
    unfold dIf
    rw[hg,Za,if_neg ZV,ZC,Zr (by omega)]
    rfl
  change Nx _ (.nx [some (QO a (wkD (.pick ps) u),true),some (Qi m R L,false),some (Qg m f,false),some (Qh l,true),some (.int (ps.getD u 0),true)])
  refine run_seq (Qsb (d:=QO a (wkD (.pick ps) u)) (d':=QO a (wkD (.pick ps) (u+1))) (k:=u) (m:=1) rfl rfl rfl rfl ?_)
  change Nx _ (.nx [some (QO a (wkD (.pick ps) (u+1)),true),some (Qi m R L,false),some (Qg m f,false),some (Qh l,true),some (.int (ps.getD u 0),true)])
  have hm0:0<=ps.getD u 0 % (l.length:Int):=ZG _ (by omega)
  have hm1:ps.getD u 0 % (l.length:Int)<l.length:=ZH _ (by omega)
  have hlt:(ps.getD u 0 % (l.length:Int)).toNat<l.length:=by omega
  have es:sel (.pick ps) u l=[l.getD (ps.getD u 0 % (l.length:Int)).toNat 0]:=by unfold sel;dsimp only;rw[if_neg hne]
  have en:nxt u l=u+1:=by unfold nxt;rw[if_neg hne]
  rw[es,en]
  refine QW (Qdt (r:=⟨.lst [.int (l.getD (ps.getD u 0 % (l.length:Int)).toNat 0:Nat)],true,[]⟩) ?_ (dp:=QO a (wkD (.pick ps) (u+1))) rfl rfl ⟨rfl,rfl⟩)
  refine(Qdl (rs:=⟨[.int (l.getD (ps.getD u 0 % (l.length:Int)).toNat 0:Nat)],true,[]⟩) ?_ (show 1<=64 by decide)).trans rfl
  refine(Qm (r:=⟨.int (l.getD (ps.getD u 0 % (l.length:Int)).toNat 0:Nat),true,[]⟩) ?_ (QZ _)).trans rfl
  exact QnS (l:=l) (ra:=⟨Qh l,true,[3]⟩) rfl rfl (QJ (b:=l.length) (ra:=⟨.int (ps.getD u 0),true,[]⟩) rfl rfl (QnT (l:=l) (r:=⟨Qh l,true,[3]⟩) rfl rfl) rfl (by omega)) rfl hm0 (by rw[ZE hlt,ZC (l:=l),ZE hlt];rfl)
noncomputable def wMe(e1 e2 e3:QbZ):MeT:=[("Way",[("chosen",⟨3,0,e1⟩)]),("Together",[("chosen",⟨3,0,e2⟩)]),("Picked",[("chosen",⟨3,0,e3⟩)])]
def QqW(T:MeT):Prop:=∀(k:Wk) (u m:Nat) (R L:List (Int×Int)) (f:Nat->Int),QjS k->0<m->m<=1000->Qcy m R L->(∀j,j<m->0<=f j)->ioM T "chosen" [Qi m R L,Qg m f] (wkD k u)=some (Qh (sel k u (Qah m (QC R L) f)),wkD k (nxt u (Qah m (QC R L) f)))
theorem QxG{e1 e2 e3:QbZ}(h1:QfY .plain e1)(h2:QfY .both e2)(h3:∀ps:List Int,ps.length<=1000->QfY (.pick ps) e3):QqW (wMe e1 e2 e3):=λk u m R L f hk m0 hm hw hf=>by
 cases k with
 | plain=>exact h1 u m R L f m0 hm hw hf
 | both=>exact h2 u m R L f m0 hm hw hf
 | pick ps=>exact h3 ps hk u m R L f m0 hm hw hf
noncomputable def hpA(m:Nat)(T:Nat->Nat->Int)(f:Nat->Int)(ts:List (List Nat)):Nat->Int:=Qcg m T f (Qgb ts)
structure Qdf (k:Wk) (u m:Nat) (T:Nat->Nat->Int) (s f:Nat->Int) (ts:List (List Nat)):Prop where
 st:∀i t,ts[i]? =some t->Qah m s (hpA m T f (ts.take i))≠[]/\t=sel k (u+i) (Qah m s (hpA m T f (ts.take i)))
theorem Qr7(ts:List (List Nat))(t:List Nat)(p:Nat):Qgb (ts++[t]) p=Qgb ts p+Qdx t p:=by
 unfold Qgb
 rw[ZU,List.sum_append]
 simp
theorem Qrv{ts:List (List Nat)}{i:Nat}{t:List Nat}(h:ts[i]? =some t)(p:Nat):Qgb (ts.take (i+1)) p=Qgb (ts.take i) p+Qdx t p:=by
 rw[List.take_succ,h]
 exact Qr7 _ _ _
theorem Qtu{k:Wk}{u:Nat}{l:List Nat}:∀p∈sel k u l,p∈l:=λp hp=>by
 cases k with
 | plain=>exact List.mem_of_mem_take hp
 | both=>exact hp
 | pick ps=>
  unfold sel at hp
  dsimp only at hp
  split at hp
  ·simp at hp
  ·rename_i hne
   have hpos:0<l.length:=Zbd.mpr hne
   have hm0:0<=ps.getD u 0 % (l.length:Int):=ZG _ (by omega)
   have hm1:ps.getD u 0 % (l.length:Int)<l.length:=ZH _ (by omega)
   rw[Zl.mp hp,ZC (l:=l),ZE (by omega)]
   exact Zbt _
theorem Qp6{k:Wk}{u:Nat}{l:List Nat}(h:l.Nodup):(sel k u l).Nodup:=by
 cases k with
 | plain=>exact h.sublist (List.take_sublist 1 l)
 | both=>exact h
 | pick ps=>
  unfold sel
  dsimp only
  split<;>simp
theorem QuU{k:Wk}{u:Nat}{l:List Nat}:sel k u l=[]↔l=[]:=by
 cases k with
 | plain=>unfold sel;dsimp only;cases l<;>simp
 | both=>exact Iff.rfl
 | pick ps=>
  unfold sel
  dsimp only
  by_cases h:l=[]
  ·rw[if_pos h];simp[h]
  ·rw[if_neg h];simp[h]
theorem Qrw{m:Nat}{T:Nat->Nat->Int}{f c d:Nat->Int}(j:Nat):Qcg m T f (λp=>c p+d p) j=Qcg m T f c j+Qao m (λi=>d i*T i j):=by
 unfold Qcg
 have:(λi=>(c i+d i)*T i j)=λi=>c i*T i j+d i*T i j:=by funext i;rw[ZaP]
 rw[this,Qgj];omega
theorem Qrb{p q:Nat}{l:List Nat}(h:p∉l):Qdx (p::l) q=if q=p then 1 else Qdx l q:=by
 unfold Qdx
 by_cases e:q=p
 ·subst e;simp
 ·simp[e]
theorem QmI{m:Nat}{T:Nat->Nat->Int}{f c:Nat->Int}(tp:TP m T)(h:Leg m T f c):∀t:List Nat,t.Nodup->(∀p∈t,p<m/\0-T p p<=Qcg m T f c p)->Leg m T f (λp=>c p+Qdx t p)
 | [],_,_=>h.cast λp=>by unfold Qdx;simp
 | p::l,nd,hp=>by
  obtain⟨h1,h2⟩:=ZJ.mp nd
  have ih:=QmI tp h l h2 λq hq=>hp q (Zb _ hq)
  obtain⟨pm,pl⟩:=hp p Zj
  have ge:Qcg m T f c p<=Qcg m T f (λq=>c q+Qdx l q) p:=by
   rw[Qrw]
   have:Qao m (λ_=>(0:Int))<=Qao m (λi=>Qdx l i*T i p):=QjO λi hi=>by
    by_cases e:i=p
    ·subst e;unfold Qdx;rw[if_neg h1,Zbz];exact ZbE _
    ·refine ZbF ?_ (tp.pos i p hi pm e)
     unfold Qdx;split<;>omega
   rw[QcW]at this
   omega
  refine(Leg.step (p:=p) (t:=1) ih pm (by omega) (by rw[Int.one_mul];omega)).cast λq=>?_
  unfold up
  rw[Qrb h1]
  by_cases e:q=p
  ·subst e
   rw[if_pos rfl,if_pos rfl]
   unfold Qdx
   rw[if_neg h1];omega
  ·rw[if_neg e,if_neg e]
section
variable {k:Wk}{u m:Nat}{T:Nat->Nat->Int}{s f:Nat->Int}{ts:List (List Nat)}
theorem Qdf.nil:Qdf k u m T s f []:=⟨λi t e=>by simp at e⟩
theorem Qdf.snoc(w:Qdf k u m T s f ts)(h:Qah m s (hpA m T f ts)≠[]):Qdf k u m T s f (ts++[sel k (u+ts.length) (Qah m s (hpA m T f ts))]):=⟨λi t e=>by
 by_cases hi:i<ts.length
 ·rw[ZW hi]at e
  rw[List.take_append_of_le_length (by omega)]
  exact w.st i t e
 ·by_cases h2:i=ts.length
  ·subst h2
   rw[ZaH (Zq _),Nat.sub_self]at e
   cases e
   rw[List.take_left']
   ·exact⟨h,rfl⟩
   ·rfl
  ·rw[Zr (by simp;omega)]at e
   cases e⟩
theorem Qdf.mem(w:Qdf k u m T s f ts){i:Nat}{t:List Nat}(e:ts[i]? =some t):t.Nodup/\t≠[]/\∀p∈t,p<m/\s p<=hpA m T f (ts.take i) p:=by
 obtain⟨h1,h2⟩:=w.st i t e
 subst h2
 exact⟨Qp6 Qnn,λz=>h1 (QuU.mp z),λp hp=>Qks.mp (Qtu p hp)⟩
theorem Qdf.leg(tp:TP m T)(hs:∀p,p<m->s p=0-T p p)(w:Qdf k u m T s f ts):∀i,i<=ts.length->Leg m T f (Qgb (ts.take i))
 | 0,_=>Leg.nil.cast λp=>by simp[Qgb]
 | i+1,h=>by
  have e:ts[i]? =some (ts[i]'(by omega)):=ZE (by omega)
  obtain⟨n1,n2,n3⟩:=w.mem e
  refine(QmI tp (w.leg tp hs i (by omega)) _ n1 λp hp=>⟨(n3 p hp).1,?_⟩).cast λp=>(Qrv e p).symm
  rw[← hs p (n3 p hp).1]
  exact(n3 p hp).2
theorem QvS{h:Nat->Int}(hs:∀p,p<m->s p=0-T p p)(e:Qah m s h=[]):Stb m T h:=λp hp=>by
 rw[← hs p hp]
 have:p∉Qah m s h:=by rw[e];simp
 rw[Qks]at this
 omega
theorem Qdf.Qzl(tp:TP m T)(hs:∀p,p<m->s p=0-T p p)(w:Qdf k u m T s f ts)(e:Qah m s (hpA m T f ts)=[]){c:Nat->Int}(lc:Leg m T f c)(st:Stb m T (Qcg m T f c)):∀p,p<m->Qgb ts p=c p:=by
 have l1:=w.leg tp hs ts.length (Zq _)
 rw[ZaL]at l1
 exact l1.unique tp lc (QvS hs e) st
end
end HS
namespace HS
open PySem PySem.Spec L2 PyProof.Rows PySem.NumText
noncomputable def cp(x:Str):List Nat:=x.cps.toList
noncomputable def tx(l:List Nat):Str:=⟨l.toArray⟩
theorem Qxj(l:List Nat):cp (tx l)=l:=rfl
theorem QsS(x:Str):tx (cp x)=x:=by cases x;rfl
theorem Qqj{x y:Str}(h:cp x=cp y):x=y:=by rw[← QsS x,← QsS y,h]
theorem Qqf(x:Str):x.length=(cp x).length:=by unfold cp Str.length;exact Zal.symm
noncomputable def dig(n:Nat):List Nat:=(Nat.toDigits 10 n).map Char.toNat
theorem QnZ:∀d:Nat,d<10->(Nat.digitChar d).toNat=48+d:=by decide
theorem Qwj{n:Nat}(h:n<10):dig n=[48+n]:=by
 unfold dig
 rw[Nat.toDigits_of_lt_base h,Zw,QnZ n h];rfl
theorem QtP{n:Nat}(h:10<=n):dig n=dig (n / 10)++[48+n % 10]:=by
 have e:n=10*(n / 10)+n % 10:=by omega
 have:=Nat.toDigits_append_toDigits (b:=10) (n:=n / 10) (d:=n % 10) (by decide) (by omega) (by omega)
 rw[← e]at this
 unfold dig
 rw[← this,ZU,Nat.toDigits_of_lt_base (show n % 10<10 by omega),Zw,QnZ _ (by omega)];rfl
theorem QuG{P:Nat->Prop}(h1:∀n,n<10->P n)(h2:∀n,10<=n->P (n / 10)->P n)(n:Nat):P n:=by
 induction n using Nat.strongRecOn with
 | ind n ih=>
  by_cases h:n<10
  ·exact h1 n h
  ·exact h2 n (by omega) (ih _ (by omega))
theorem Qt1(n:Nat):AllDigits (dig n):=by
 refine QuG (P:=λn=>AllDigits (dig n)) (λn h=>?_) (λn h ih=>?_) n
 ·rw[Qwj h];intro c hc;rw[Zl]at hc;omega
 ·rw[QtP h];intro c hc
  rcases Zm.mp hc with hc | hc
  ·exact ih c hc
  ·rw[Zl]at hc;omega
theorem Qt8{n k:Nat}(hk:0<k)(h:n<10^k):(dig n).length<=k:=by
 unfold dig
 rw[Zp,← Nat.toList_repr,String.length_toList]
 exact(Nat.length_repr_le_iff hk).mpr h
section
variable {fa fb:DE}{ρ:En}{ra rb r:R}
end
def Small(k:Nat)(ns:List Int):Prop:=ns.length<=63/\∀n∈ns,n.natAbs<10^k
theorem Small.up{ns:List Int}{k l:Nat}(h:Small k ns)(hk:k<=l):Small l ns:=⟨h.1,λn hn=>Zu (h.2 n hn) (ZaI (by decide) hk)⟩
theorem Small.take{ns:List Int}{k i:Nat}(h:Small k ns):Small k (ns.take i):=⟨by have:=h.1;rw[ZaK];omega,λn hn=>h.2 n (List.mem_of_mem_take hn)⟩
end HS
namespace HS
open PySem PySem.Spec L2 PyProof.Rows
theorem Qsg(x:QaB P w H h a o):∃u,h.get? a=some u:=by
 cases o with
 | lst xs=>obtain⟨_,_,_,_,e⟩:=x;exact⟨_,e⟩
 | tup xs=>obtain⟨_,_,_,ob,e,_⟩:=x;exact⟨_,e⟩
 | dK kvs=>obtain⟨_,_,_,_,o,_,_,e,_⟩:=x;exact⟨_,e⟩
 | dT kvs=>obtain⟨_,_,_,_,o,_,_,e,_⟩:=x;exact⟨_,e⟩
 | set S n=>obtain⟨o,_,_,_,e,_⟩:=x;exact⟨_,e⟩
 | ins C dx fs=>obtain⟨_,_,_,e,_⟩:=x;exact⟨_,e⟩
 | own y=>exact x
 | xd fs=>obtain⟨_,⟨_,_,_,e,_⟩,_⟩:=x;exact⟨_,e⟩
 | rng lo hi=>obtain⟨_,_,_,e⟩:=x;exact⟨_,e⟩
 | frz ob u=>obtain⟨e,_⟩:=x;exact⟨_,e⟩
 | tbl ps=>exact⟨_,show h.get? a=some _ from x⟩
 | met f y=>exact⟨_,show h.get? a=some _ from x⟩
 | ext φ=>obtain⟨_,e,_⟩:=x;exact e
section
variable {P:Program}{w:World}{H H':Hp}{h0 h h' B:Heap}{fs:List Addr}
def Cov(H:Hp)(B:Heap):Prop:=∀b u,H b=some u->∃o,B.get? b=some o
theorem QjJ(hok:HOk P w H h)(hB:B.StaysIn h)(hB':B.StaysIn h')(cov:Cov H B):HOk P w H h':=λa o e=>
 (hok a o e).Qey (λc v hc q=>by
  have:∃u,H c=some u:=by
   rcases hc with rfl | hc
   ·exact⟨_,e⟩
   ·exact⟨_,hc⟩
  obtain⟨u,hu⟩:=this
  obtain⟨o',ho'⟩:=cov c u hu
  have:=hB _ _ ho'
  rw[q]at this
  cases this
  exact hB' _ _ ho') (λ_ q=>q) λ_ _ q=>q
theorem QmZ(u:Un fs [] H H' h0 h)(hB:B.StaysIn h)(hB':B.StaysIn h')(up:h.UpToSlots h')(old:∀b o,h0.get? b=some o->b∉fs->∃o',B.get? b=some o')
  (dat:∀b o,h0.get? b=some o->b∈fs->∀vs,o.data≠ .fields vs) (frf:∀b∈fs,H b=none):Un fs [] H H' h0 h' where
 keep:=λb o e n hb hx=>by
  obtain⟨o',e1⟩:=old b o e hb
  have:=hB _ _ e1
  rw[u.keep b o e n hb hx]at this
  cases this
  exact hB' _ _ e1
 slot:=λb o e n hb hx=>by
  obtain⟨sl,e1⟩:=u.slot b o e n hb hx
  obtain⟨sl',e2⟩:=up b _ e1 (dat b o e hb)
  exact⟨sl',e2⟩
 free:=u.free
 there:=λb o e hx=>by
  by_cases hb:b∈fs
  ·obtain⟨sl,e1⟩:=u.slot b o e (frf b hb) hb hx
   obtain⟨sl',e2⟩:=up b _ e1 (dat b o e hb)
   exact⟨_,e2⟩
  ·obtain⟨o',e1⟩:=old b o e hb
   exact⟨_,hB' _ _ e1⟩
 tups:=u.tups
 frzs:=u.frzs
 tbls:=u.tbls
end
noncomputable def CXR(P:Program)(w:World):CXT:=λouter H s E e s'=>∃ea C H' B a0,e=Value.ref ea/\s'.os=s.os/\AllBare s'.gens/\Un (frs outer) [] H H' s.heap s'.heap/\HOk P w H' s'.heap/\Heap.FlyingW B outer ea C a0 s'.heap∧
 Cov H' B/\(∀b o,s.heap.get? b=some o->b∉frs outer->∃o',B.get? b=some o')/\E C none H'
def Qoe(B:Heap)(l:List Env)(e:Addr)(cls a0 fl:Value)(h:Heap):Prop:=B.StaysIn h/\B.get? e=none/\h.FunFrames B l/\h.TracedAtW B e cls a0 fl
section
variable {M:Model}{A:Around}{E:Value->Shared->Prop}{s:Shared}{B:Heap}{env:Env}{outer:List Env}{L e:Addr}{cls a0 fl:Value}{Q:Unit->Shared->Prop}
theorem Qlu(hfr:A.frames=some (env::outer))(hf:env.frame=some L)(hh:Qoe B (env::outer) e cls a0 fl s.heap)(hQ:∀h',Heap.HeldW B (env::outer) e cls a0 L h'->s.heap.UpToSlots h'->Q () {s with heap:=h'}):wpAny M A (noteFrame (.ref e) env) Q E s:=by
 obtain⟨g1,g2,g3,tr⟩:=hh
 by_cases hq:fl=rawInt L
 ·subst hq
  exact wpAny_noteFrame_againW hf tr (hQ _ ⟨g1,g2,g3,tr⟩ (Heap.UpToSlots.refl _))
 obtain⟨o1,v1,T,o2,v2,e1,⟨c1,c2⟩,d1,f1,nT,ne,e2,d2,f3⟩:=tr
 subst c1
 unfold noteFrame
 rw[hf]
 refine wpAny_bind (wpAny_field e1 d1 f1 ?_)
 rw[if_pos (by simp)]
 refine wpAny_bind (wpAny_field e2 d2 f3 ?_)
 rw[if_neg (by simpa using hq)]
 refine wpAny_bind (wpAny_setField e2 d2 (Array.getElem?_eq_some_iff.mp f3).1 ?_)
 have oth:∀b,b≠T->(s.heap.update T (Obj.mapFields (·.setIfInBounds 3 Value.none))).get? b=s.heap.get? b:=λb n=>ZaQ _ _ n.symm
 have far:∀b o,s.heap.get? b=some o->(∀vs,o.data≠ .fields vs)->b≠T:=λb o x y z=>by
  subst z
  cases x.symm.trans e2
  exact y _ d2
 refine wpAny_entryW hfr (g3.of_keeps λb o x y=>⟨o,(oth b (far b o x y)).trans x,rfl⟩) hf ((oth e ne.symm).trans e1) (λb o x=>(oth b λz=>by subst z;rw[nT]at x;cases x).trans (g1 b o x)) g2 d1 (Array.getElem?_eq_some_iff.mp f1).1 c2 λh' ⟨k1,k2,k3,k4⟩=>
  hQ h' ⟨k1,g2,k2,k3⟩ λb o x y=>k4 b o ((oth b (far b o x y)).trans x) y
theorem QpF(hfr:A.frames=some (env::outer))(hf:env.frame=some L)(hh:Qoe B (env::outer) e cls a0 fl s.heap)(hQ:∀h',Heap.FlyingW B outer e cls a0 h'->s.heap.UpToSlots h'->Q () {s with heap:=h'}):wpAny M A (leaving env (.ref e)) Q E s:=by
 unfold leaving
 refine wpAny_bind (Qlu hfr hf hh λh1 hd up=>?_)
 refine wpAny_landsW (s:={s with heap:=h1}) hd λh2 ⟨k1,k2,⟨_,_,k3⟩,k4⟩ up2=>?_
 exact hQ h2 ⟨k1,k2,k3,k4⟩ (up.trans up2)
end
def QfK(X:Cx)(H0:Hp)(A0:List Addr)(hs:List (V×D×List Addr))(ρ:En)(C:Value)(ea:Addr)(s':Shared):Prop:=∃pins σ H F,Rel X.K H0 A0 hs ρ F σ H∧
 ((∃sg args,Inv X pins σ H sg/\Heap.MadeExcOf sg.heap s'.heap ea C args/\s'.os=sg.os/\s'.gens=sg.gens)∨
  ∃B a0 fl,Inv X pins σ H s'/\Qoe B X.stack ea C a0 fl s'.heap/\Cov H B/\(∀b o,X.s₀.heap.get? b=some o->b∉X.fs->∃o',B.get? b=some o')/\∀p∈X.pn++pins,∃o,B.get? p.1=some o)
theorem Qln(I:Inv X pins σ H s)(hx:X.ex=[])(e:X.s₀.heap.get? b=some o)(hb:b∉X.fs):(∃o',s.heap.get? b=some o')/\b∉frs X.stack:=by
 refine⟨I.base.there b o e (by rw[hx];simp),λz=>?_⟩
 rcases Zo.mp (I.QdT b z)with q | q
 ·have h1:=Zv e
  have h2:=I.ok.above
  rw[q]at h1
  exact absurd (Zu h1 h2) (ZZ _)
 ·exact hb q
theorem Qi6{X:Cx}(ok:X.Ok){b:Addr}{o:Obj}(e:X.s₀.heap.get? b=some o)(hb:b∈X.fs):∀vs,o.data≠ .fields vs:=by
 obtain⟨_,o',e',h⟩:=ok.QcA.mem hb
 rw[e]at e'
 cases e'
 exact h
theorem QlV(I:Inv X pins σ H s)(hx:X.ex=[]):∃B:Heap,B.StaysIn s.heap/\s.heap.FunFrames B X.stack/\Cov H B/\(∀b o,X.s₀.heap.get? b=some o->b∉X.fs->∃o',B.get? b=some o')/\∀p∈X.pn++pins,∃o,B.get? p.1=some o:=by
 refine⟨PySem.W.hideAll s.heap (frs X.stack),λb o e=>PySem.W.of_hideAll _ e,PySem.W.funFrames_hide I.stack λenv he a ha=>ZaC.mpr ⟨env,he,ha⟩,λb u e=>?_,λb o e hb=>?_,λp hp=>?_⟩
 ·obtain⟨o,ho⟩:=Qsg (I.hok b u e)
  exact⟨o,ZaN _ ho λz=>by rw[I.Qj4 b z]at e;cases e⟩
 ·obtain⟨⟨o',h1⟩,h2⟩:=Qln I hx e hb
  exact⟨o',ZaN _ h1 h2⟩
 ·obtain⟨e,_,ne,nf,_⟩:=I.pin p hp
  exact⟨_,ZaN _ e λz=>(Zo.mp (I.QdT _ z)).elim ne nf⟩
theorem QgX{X:Cx}{P:Program}{w:World}{E:XK}{H0:Hp}{A0:List Addr}{hs:List (V×D×List Addr)}{ρ:En}{C:Value}{ea:Addr}{s':Shared}{env:Env}{outer:List Env}{Er:Value->Shared->Prop}
  (hp:X.prog=P) (hw:X.w=w) (hx:X.ex=[]) (hst:X.stack=env::outer) (hfs:X.outer=outer) (hen:X.env=env) (hf:env.frame=some X.env.locals) (T:QfK X H0 A0 hs ρ C ea s')
  (hE:∀H,Qr H0 H->E C none H):wpAny (model P w) X.A (leaving env (.ref ea)) (λ_ s''=>CXR P w outer X.H₀ X.s₀ E (.ref ea) s'') Er s':=by
 subst hp hw hfs
 obtain⟨pins,σ,H,F,rel,⟨sg,args,I,hm,ho,hg⟩ | ⟨B,a0,f0,I,fl,cov,old,_⟩⟩:=T
 ·obtain⟨B,b1,b2,cov,old,_⟩:=QlV I hx
  rw[hst]at b2
  have hfr:=I.ok.frames
  rw[hst]at hfr
  refine wpAny_leaves_madeW hfr hf b1 b2 hm λh' t fl _ _ up=>?_
  have up':sg.heap.UpToSlots h':=(Heap.UpToSlots.of_keeps hm.keeps).trans up
  have hb:=I.base
  rw[hx]at hb
  exact⟨ea,C,H,B,_,rfl,ho.trans I.os,hg▸I.bare,QmZ hb b1 fl.1 up' old (λb o e hb=>Qi6 I.ok e hb) I.ok.frf,QjJ I.hok b1 fl.1 cov,fl,cov,old,hE H rel.same⟩
 ·have hfr:=I.ok.frames
  rw[hst]at hfr fl
  refine QpF hfr hf fl λh' fl' up=>?_
  have hb:=I.base
  rw[hx]at hb
  exact⟨ea,C,H,B,_,rfl,I.os,I.bare,QmZ hb fl.1 fl'.1 up old (λb o e hb=>Qi6 I.ok e hb) I.ok.frf,QjJ I.hok fl.1 fl'.1 cov,fl',cov,old,hE H rel.same⟩
section
variable {X:Cx}{pins:List (Addr×Obj)}{σ:L2.St}{H:Hp}{s s':Shared}{B:Heap}
theorem Qkr{h h':Heap}{c:Addr}{v:Option Value}(up:h.UpToSlots h')(z:h.IsCell c v):h'.IsCell c v:=by
 obtain⟨o,e,d⟩:=z
 obtain⟨sl,e'⟩:=up c o e λvs q=>by rw[d]at q;cases q
 exact⟨_,e',d⟩
theorem QiK(I:Inv X pins σ H s)(ho:s'.os=s.os)(hg:AllBare s'.gens)(hx:X.ex=[])(b1:B.StaysIn s.heap)(b2:B.StaysIn s'.heap)(up:s.heap.UpToSlots s'.heap)(cov:Cov H B)
  (old:∀b o,X.s₀.heap.get? b=some o->b∉X.fs->∃o',B.get? b=some o') (pb:∀p∈X.pn++pins,∃o,B.get? p.1=some o):Inv X pins σ H s' where
 ok:=I.ok
 os:=ho.trans I.os
 bare:=hg
 base:=by
  have hb:=I.base
  rw[hx]at hb ⊢
  exact QmZ hb b1 b2 up old (λb o e hb=>Qi6 I.ok e hb) I.ok.frf
 loc:=by
  obtain⟨m,hn,hl⟩:=I.loc
  refine⟨m,up.ns hn,λi x v e1 e2 e3=>?_⟩
  obtain⟨u,r,q⟩:=hl i x v e1 e2 e3
  refine⟨u,r,?_⟩
  rcases q with q | ⟨k,c,e,z⟩
  ·exact .inl q
  ·exact .inr ⟨k,c,e,Qkr up z⟩
 cell:=λx c e=>by
  obtain⟨v,z⟩:=I.cell x c e
  exact⟨v,Qkr up z⟩
 free:=I.free
 freeC:=I.freeC
 pin:=λp hp=>by
  obtain⟨e,n,ne,nf,d⟩:=I.pin p hp
  obtain⟨o,eo⟩:=pb p hp
  have:=b1 _ _ eo
  rw[e]at this
  cases this
  exact⟨b2 _ _ eo,n,ne,nf,d⟩
 hok:=QjJ I.hok b1 b2 cov
 len:=I.len
end
end HS
namespace HS
open PySem PySem.Spec L2 PyProof.Rows
noncomputable abbrev DX:=En->Option (Str×En)
def ClsAt(K:PySem.W.Frag)(x:Str)(C:Addr):Prop:=PySem.W.nsIn K mainGlobals x=some (some (.ref C))
def cRz(X:Cx)(H0:Hp)(A0:List Addr)(fx:DX)(σ:L2.St)(H:Hp):Prop:=∃ρ hs F x ρ',Rel X.K H0 A0 hs ρ F σ H/\fx ρ=some (x,ρ')/\∀C ea s',ClsAt X.K x C->QfK X H0 A0 hs ρ' (.ref C) ea s'->X.xe (.ref ea) s'
noncomputable def tRz(X:Cx)(H0:Hp)(A0:List Addr)(fx:DX):TS:=λ_ σ H=>cRz X H0 A0 fx σ H
noncomputable def eRz(X:Cx)(H0:Hp)(A0:List Addr)(fx:DX):TE:=λσ H _=>cRz X H0 A0 fx σ H
def Rz(X:Cx)(st:Stmt)(fx:DX):Prop:=∀H0 A0,PS X st (tRz X H0 A0 fx)
def RzS(X:Cx)(sts:List Stmt)(fx:DX):Prop:=∀H0 A0,PSs X sts (tRz X H0 A0 fx)
def RzE(X:Cx)(e:Expr)(fx:DX):Prop:=∀H0 A0,PE X e (eRz X H0 A0 fx)
noncomputable def xNo:DX:=λ_=>none
noncomputable def QdR(x:Str)(fs:DA):DX:=λρ=>(fs ρ).bind λr=>if r.ds.length<=1 then some (x,ρ)else none
noncomputable def QbD(n:Nat)(xd:List D->Option Str)(fs:DA):DX:=λρ=>(fs ρ).bind λr=>if r.ds.length=n then(xd r.ds).map λc=>(c,ρ)else none
noncomputable def xIf(g:DT)(fa fb:DX):DX:=λρ=>(g ρ).bind λb=>if b=true then fa ρ else fb ρ
noncomputable def QaN(f:DS)(fx fr:DX):DX:=λρ=>match f ρ with
 | some (.nx ρ')=>fr ρ'
 | some _=>none
 | none=>fx ρ
noncomputable def QdH(t:Tg)(fb:DS)(fx:DX):List D->DX
 | [],_=>none
 | d::ds,ρ=>(QaS t d ρ).bind λρ1=>match fb ρ1 with
  | some (.nx ρ2)=>QdH t fb fx ds ρ2
  | some (.ct ρ2)=>QdH t fb fx ds ρ2
  | some _=>none
  | none=>fx ρ1
noncomputable def Qg5(fi:DI)(t:Tg)(fb:DS)(fx:DX):DX:=λρ=>(fi ρ).bind λir=>QdH t fb fx ir.items (Qba ir.M ρ)
noncomputable def spX(K:PySem.W.Frag)(n:Nat)(xd:List D->Option Str):Sp:=λvs H _ E=>∃ds L x,Rps K H ds vs L/\ds.length=n/\xd ds=some x/\∀C H',ClsAt K x C->Qr H H'->E (.ref C) none H'
theorem Qn3{K:PySem.W.Frag}{n:Nat}{xd:List D->Option Str}{ps:List Str}(hn:ps.length=n):∀vs H Q E,spX K n xd vs H Q E->vs.length=ps.length:=λvs H Q E ⟨ds,L,x,r,hl,_⟩=>by rw[hn,← hl,r.length]
section
variable {X:Cx}{st:Stmt}{sts:List Stmt}{e:Expr}{es:List Expr}{fs:DA}{f:DS}{fx fr fy:DX}{g:DT}{pos p np cpos:Pos}{x:Str}{k n:Nat}{fa:Addr}{fd:FuncData}{ps:List Str}{xd:List D->Option Str}
theorem QeW:Rz X st xNo:=λH0 A0 pins s σ H Dd I ⟨ρ,hs,F,x,ρ',rel,e,q⟩=>by cases e
theorem QuP:RzS X [] xNo:=λH0 A0 pins s σ H Dd I ⟨ρ,hs,F,x,ρ',rel,e,q⟩=>by cases e
theorem QfK.hold(h:QfK X H0 A0 (ts++hs) ρ C ea s'):QfK X H0 A0 hs ρ C ea s':=by
 obtain⟨pins,σ,H,F,rel,q⟩:=h
 exact⟨pins,σ,H,F,rel.QlI,q⟩
def RzC(X:Cx)(e:Expr)(fx:DX):Prop:=∀H0 A0 pins s σ H ρ hs F c ρ' (Er:Value->Shared->Prop),Inv X pins σ H s->Rel X.K H0 A0 hs ρ F σ H->fx ρ=some (c,ρ')->(∀v s',X.xe v s'->Er v s')→
 (∀C ea s' H' s1 H1 B a0,ClsAt X.K c C->Inv X pins σ H1 s1->Qr H H'->Inv X pins σ H' s'->Heap.FlyingW B X.stack ea (.ref C) a0 s'.heap->Cov H' B->(∀b o,s1.heap.get? b=some o->b∉frs X.stack->∃o',B.get? b=some o')->ρ'=ρ->Er (.ref ea) s')→
 wpAny (model X.prog X.w) X.A (eval e X.env) (λ_ _=>False) Er s
theorem Quj(Fk:Q4 X.prog X.w X.K X.mg X.base (CXR X.prog X.w) k fa fd ps (spX X.K n xd))(hr:QU k X.A)(hg:Gl X x)(hm:X.mg x=some (.ref fa))(hk:PySem.W.keepIn X.K (.ref fa)=true)(hb:Binds X.K fd ps [])(hn:ps.length=n)
  (ha:SA X (e::es) fs) (hdb:(x == ("__debug__" :Str))=false) (he:starEach (e::es) X.env=(false,eval e X.env)::starEach es X.env) (hpl:(backTo pos (starEach es X.env)).any (·.1)=false):
  RzC X (.Call (.Name x p) (e::es) [] pos) (QbD n xd fs):=λH0 A0 pins s σ H ρ hs F c ρ' Er I rel ex hxe q=>by
 refine Qc ex λra e1 ex=>?_
 split at ex
 ·rename_i hl
  obtain⟨c',e2,e3⟩:=Zc.mp ex
  cases e3
  refine wpAny_Call_Name_kw (QcY I hg hm ?_ hdb)
  refine ZaD (h₀:=X.base) I.ok.mod.kin hk (wpAny_mono (ha H0 A0 pos pins s σ H (λvs H1=>∃G,Qla X.K ρ F H H1 ra vs G) I ⟨ρ,hs,F,ra,rel,e1,λvs H1 G p1=>⟨G,p1⟩⟩) (λus s1 ⟨vs,H1,I1,rv,G,p1⟩=>⟨I1.kIn,?_⟩) hxe) he hpl
  have hlen:(us++[]).length=ps.length:=by rw[ZD,← rv.length,← p1.rp.length,hl,hn]
  have hbb:=hb s1 us I1.kIn hlen
  rw[ZD]at hbb
  refine wpAny_call (codeAny_mono (Fk.run X.A X.stack s1 H1 ⟨us,[]⟩ us vs (λ_ _=>False) (λc' _ H'=>∃C,c'= .ref C/\ClsAt X.K c C/\Qr H1 H') hr I1.Qn5 hbb rv ⟨ra.ds,G,c,p1.rp,hl,e2,λC H' hC sm=>⟨C,rfl,hC,sm⟩⟩) λr s' hq=>?_)
  cases r with
  | error ev=>
   obtain⟨ea,C',H',B,a0,rfl,os,bare,un,hok,fl,cov,old,C,rfl,hC,sm⟩:=hq
   exact q C ea s' H' s1 H1 B a0 hC I1 (p1.same.trans sm) (I1.Qoq os un hok bare (λb z=>absurd z (by simp))) fl cov old rfl
  | ok fl=>
   cases fl with
   | ret u=>obtain⟨v,H',_,_,_,_,_,z⟩:=hq;exact z.elim
   | next=>exact False.elim hq
   | brk=>exact False.elim hq
   | cont=>exact False.elim hq
 ·cases ex
theorem Qx0(hx:X.ex=[])(h:RzC X e fx):RzE X e fx:=λH0 A0 pins s σ H Q I=>λ⟨ρ,hs,F,c,ρ',rel,ex,q⟩=>
 thn (h H0 A0 pins s σ H ρ hs F c ρ' X.xe I rel ex (λ_ _ z=>z) λC ea s' H' s1 H1 B a0 hC I1 sm I' fl cov old z=>q C ea s' hC ⟨pins,σ,H',F,by subst z;exact rel.ext sm,.inr ⟨B,a0,.none,I',fl,cov,λb o eb hbf=>by
  obtain⟨⟨o',h1⟩,h2⟩:=Qln I1 hx eb hbf
  exact old b o' h1 h2,λp hp=>by
  obtain⟨e,_,ne,nf,_⟩:=I1.pin p hp
  exact old _ _ e λz=>(Zo.mp (I1.QdT _ z)).elim ne nf⟩⟩) λ_ _ z=>z.elim
theorem QtR(h:RzE X e fx)(hs:swapsWith e none pos.line X.env=pure false):Rz X (.Expr e pos) fx:=λH0 A0=>Qek (h H0 A0) hs
theorem Qvt(h:RzE X e fx):Rz X (.Return (some e) pos) fx:=λH0 A0=>QlL (h H0 A0)
theorem Qvg{i:Nat}(hN:X.N.Nodup)(h1:X.N[i]? =some x)(h2:Loc X.env.scope x)(h3:X.fn x=true∨X.env.scope.names.lookup x=some .local)(h:RzE X e fx)(hs:swapsWith e (some (.Name x p)) pos.line X.env=pure false):Rz X (.Assign [.Name x p] e pos) fx:=λH0 A0=>QdV hN h1 h2 (h H0 A0) hs h3
theorem QxB(hc:ST X c g)(ha:RzS X a fx)(hb:RzS X b fy):Rz X (.If c a b pos) (xIf g fx fy):=λH0 A0=>(QoV (hc H0 A0) (ha H0 A0) (hb H0 A0)).mono λDd σ H hpt=>by
 obtain⟨ρ,hs,F,x,ρ',rel,e,q⟩:=hpt
 refine Qc e λc e1 e=>?_
 refine⟨ρ,hs,F,c,rel,e1,λH1 s1=>?_⟩
 cases c with
 | true=>exact QrS ⟨ρ,hs,F,x,ρ',rel.ext s1,e,q⟩
 | false=>exact QqT ⟨ρ,hs,F,x,ρ',rel.ext s1,e,q⟩
theorem QxC{t u:TS}(h1:PS X st t)(h2:PS X st u):PS X st (λDd σ H=>t Dd σ H∨u Dd σ H):=λpins s σ H Dd I q=>q.elim (h1 pins s σ H Dd I) (h2 pins s σ H Dd I)
theorem QvZ(h1:PSs X sts t)(h2:PSs X sts u):PSs X sts (λDd σ H=>t Dd σ H∨u Dd σ H):=λpins s σ H Dd I q=>q.elim (h1 pins s σ H Dd I) (h2 pins s σ H Dd I)
theorem Qrm(h1:S1 X st f)(h2:Rz X st fx)(h3:RzS X sts fr):RzS X (st::sts) (QaN f fx fr):=λH0 A0=>(Qid (QxC (h1 H0 A0) (h2 H0 A0)) (h3 H0 A0)).mono λDd σ H hpt=>by
 obtain⟨ρ,hs,F,x,ρ',rel,e,q⟩:=hpt
 unfold QaN at e
 split at e
 ·rename_i ρ1 e1
  exact .inl ⟨ρ,hs,F,_,rel,e1,λσ' H' F' rel'=>⟨ρ1,hs,F',x,ρ',rel',e,q⟩⟩
 ·cases e
 ·exact .inr ⟨ρ,hs,F,x,ρ',rel,e,q⟩
theorem QvQ(hp:PassesOwn (model X.prog X.w) X.A X.env X.xe)(hc:X.calm=true)(hi:SI X tg iter fi)(hg:SG X tg t)(hb:SS X body f)(hbx:RzS X body fx)(hs:∀x,foldedSetIterable iter X.env x=pure x):
  Rz X (.For tg iter body [] pos) (Qg5 fi t f fx):=λH0 A0=>(Qmp hp hc (hi H0 A0) (hg H0 A0) (QvZ (hb H0 A0) (hbx H0 A0)) hs).mono λDd σ H hpt=>by
 obtain⟨ρ,hs,F,c,ρ',rel,e,q⟩:=hpt
 refine Qc e λir e1 e=>?_
 refine⟨ρ,hs,F,ir,rel,e1,λJ H1 ts s1 wk hts ow hz=>?_⟩
 have rel1:Rel X.K H0 A0 (ts++hs) (Qba ir.M ρ) F σ H1:=((rel.ext s1).weak (QbR ir.M ρ)).hold λt ht=>⟨(hts t ht).1,Shr.of rel (hts t ht).2⟩
 refine⟨λi m σ' H'=>m=ir.items.length-i/\i<=ir.items.length/\∃ρi Fi,Rel X.K H0 A0 (ts++hs) ρi Fi σ' H'/\QdH t f fx (ir.items.drop i) ρi=some (c,ρ'),⟨_,rfl,ZT _,_,F,rel1,by simpa using e⟩,?_⟩
 rintro i m σ' H' ⟨rfl,hi',ρi,Fi,reli,ei⟩
 have held:QjM X.K H' ts:=λt ht=>(reli.held t (Zd _ ht)).1
 by_cases hlt:i<ir.items.length
 ·rw[ZK hlt]at ei
  unfold QdH at ei
  refine Qc ei λρ1 eb ei=>?_
  refine .inr ⟨wk.go i H' hlt held,λσ2 H2=>∃ρ2 F2,Rel X.K H0 A0 (ts++hs) ρ2 F2 σ2 H2/\QdH t f fx (ir.items.drop (i+1)) ρ2=some (c,ρ'),λσ2 H2 ⟨ρ2,F2,rel2,e2⟩=>⟨_,by omega,rfl,hlt,ρ2,F2,rel2,e2⟩,λx H2 hy=>?_⟩
  obtain⟨s2,G0,rp0,hG0⟩:=wk.yld i ir.items[i] H' x H2 (by simp[hlt]) held hy
  have shr:Shr H0 A0 ρi Fi G0:=λa ha=>by
   obtain⟨t,ht,hat⟩:=hG0 a ha
   exact⟨(reli.held t (Zd _ ht)).2 a hat,λj d ej hj=>(reli.own j d ej).2.2.2.2 t (Zd _ ht) a hj hat⟩
  refine⟨ρi,ts++hs,Fi,ir.items[i],G0,ρ1,reli.ext s2,rp0,shr,eb,λσ3 F3 rel3 _ _=>?_⟩
  split at ei
  ·rename_i ρ2 eo
   exact .inl ⟨ρ1,ts++hs,F3,_,rel3,eo,λσ4 H4 F4 rel4=>⟨ρ2,F4,rel4,ei⟩⟩
  ·rename_i ρ2 eo
   exact .inl ⟨ρ1,ts++hs,F3,_,rel3,eo,λσ4 H4 F4 rel4=>⟨ρ2,F4,rel4,ei⟩⟩
  ·cases ei
  ·exact .inr ⟨ρ1,ts++hs,F3,c,ρ',rel3,ei,λC ea s' hC T=>q C ea s' hC T.hold⟩
 ·have hn:i=ir.items.length:=by omega
  subst hn
  rw[Zbs]at ei
  cases ei
end
noncomputable abbrev QyK:List Value:=[.type "ValueError",.type "Exception",.type "BaseException",.type "object"]
structure QgL (K:PySem.W.Frag) (x:Str):Prop where
 ex:∃C,ClsAt K x C/\PySem.W.excIn K C QyK "ValueError.__new__" =true
theorem Qr8{K:PySem.W.Frag}{C:Addr}{bmB:List Value}{newId:String}(q:PySem.W.excIn K C bmB newId=true){h:Heap}(X:K.In h):∃bm N nm qn bs hdct sn sub ab col dd k0 k1 k2 k3 k5 mN,
  h.get? C=some (excClassObj nm qn C N bs bm hdct sn sub ab col dd k0 k1 k2 k3 k5 newId)/\h.Ns N mN/\mN "__init__" =none/\OwnTail h bmB bm:=by
 rw[PySem.W.excIn.eq_def]at q
 split at q
 case h_2=>cases q
 rename_i dd cd sl ho
 split at q
 case h_2=>cases q
 rename_i C1 bm k0 k1 k2 k3 nid k5 em es
 simp only[Zg,beq_iff_eq,ZO]at q
 obtain⟨⟨⟨⟨⟨z1,z2⟩,nodel⟩,tl⟩,okN⟩,noInit⟩:=q
 subst z1 z2
 have hget:=X _ _ ho
 have hsl:sl= #[k0,k1,k2,k3,some (.builtin nid),k5]:=Array.ext' es
 rw[hsl]at hget
 refine⟨bm,cd.ns,cd.name,cd.qualname,cd.bases,cd.hasDict,cd.slotNames,cd.subclasses,cd.abstract,cd.collection,dd,k0,k1,k2,k3,k5,_,?_,.of_isNs (PySem.W.isNs_of_in X okN),PySem.W.nsMap_none_of_in X okN noInit,PySem.W.tail_of_in X tl⟩
 rw[hget]
 cases cd with
 | mk c1 c2 c3 c4 c5 c6 c7 c8 c9 c10 c11=>
  dsimp only at em nodel
  rw[em,nodel]
section
variable {X:Cx}{e:Expr}{fs:DA}{x:Str}{np cpos pos:Pos}
theorem Qst(hc:X.calm=true)(hg:Gl X x)(hk:QgL X.K x)(hdb:(x == ("__debug__" :Str))=false)(ha:SA X [e] fs)(he:starEach [e] X.env=(false,eval e X.env)::starEach [] X.env):
  Rz X (.Raise (some (.Call (.Name x np) [e] [] cpos)) none pos) (QdR x fs):=λH0 A0 pins s σ H Dd I hpt=>by
 obtain⟨ρ,hs,F,c,ρ',rel,ex,q⟩:=hpt
 refine Qc ex λra e1 e2=>?_
 split at e2
 case isFalse=>cases e2
 rename_i hl
 cases e2
 obtain⟨C,hC,hq⟩:=hk.ex
 obtain⟨bm,N,nm,qn,bs,hdct,sn,sub,ab,col,dd,k0,k1,k2,k3,k5,mN,o1,o2,o3,o4⟩:=Qr8 hq I.ok.mod.kin
 have hm:X.mg x=some (.ref C):=Zat I.ok.mod.kin I.ok.mod.glob hC
 refine wpAny_Raise_call_subT (C:=C) (nm:=nm) (q:=qn) (N:=N) (bs:=bs) (bm:=bm) (hdct:=hdct) (sn:=sn) (sub:=sub) (ab:=ab) (col:=col) (dd:=dd) (k0:=k0) (k1:=k1) (k2:=k2) (k3:=k3) (k5:=k5)
  PySem.F.excBase_ValueError (mN:=mN) (o4.hasType PySem.F.excBase_ValueError.hasBase) (I.ok.hd hc) (by rw[he];rfl) o3 (QcY I hg hm ⟨rfl,?_⟩ hdb)
 have hargs:=ha H0 A0 cpos pins s σ H (λvs H1=>∃G,Qla X.K ρ F H H1 ra vs G) I ⟨ρ,hs,F,ra,rel,e1,λvs H1 G p1=>⟨G,p1⟩⟩
 rw[he]at hargs ⊢
 refine Calls.evalArgs_plain (thn hargs λus s2 ⟨vs,H1,I1,rv,G,p1⟩=>⟨rfl,?_,I1.bk _ _ o1,o2.keeps I1.bk,o4.keeps I1.bk,λh' ea hm=>?_⟩)
 ·show us.length<=sizeLine
  rw[← rv.length,← p1.rp.length]
  exact ZF hl (by decide)
 ·exact q C ea _ hC ⟨pins,σ,H1,F,rel.ext p1.same,.inl ⟨s2,us,I1,hm,rfl,rfl⟩⟩
end
end HS
namespace HS
open PySem PySem.Spec L2 PyProof.Rows
structure ThX where
 Γx:List (Str×(Nat×(List D->Option Str)))
 cls:List Str
structure XOk (X:Cx) (ΘX:ThX):Prop where
 ex:X.ex=[]
 stk:X.stack=X.env::X.outer
 fr:X.env.frame=some X.env.locals
 fx:∀x r,look x ΘX.Γx=some r->∃k f fd ps,Q4 X.prog X.w X.K X.mg X.base (CXR X.prog X.w) k f fd ps (spX X.K r.1 r.2)/\QU k X.A/\X.mg x=some (.ref f)/\PySem.W.keepIn X.K (.ref f)=true/\Binds X.K fd ps []/\ps.length=r.1
 cl:∀x∈ΘX.cls,QgL X.K x
noncomputable def xc0(n:Nat)(Θ:Th)(ΘX:ThX)(e:Expr):DX:=match e with
 | .Call (.Name x _) (a::as) [] _=>if Θ.gl x then(match look x ΘX.Γx with
  | some r=>(match QaC n Θ (a::as)with | some fs=>QbD r.1 r.2 fs | none=>xNo)
  | none=>xNo)else xNo
 | _=>xNo
noncomputable abbrev xcE:=xc0
noncomputable def xsE(n:Nat)(Θ:Th)(ΘX:ThX)(a b:Expr):DX:=match b with
 | .Slice lo hi none _=>match Qf3 n Θ lo with
  | none=>xNo
  | some _=>match Qf3 n Θ hi with
   | none=>xNo
   | some _=>xcE n Θ ΘX a
 | _=>xNo
noncomputable def xrE(n:Nat)(Θ:Th)(ΘX:ThX)(e:Expr):DX:=match e with
 | .Subscript a b _=>match Ql n Θ b with
  | none=>xsE n Θ ΘX a b
  | some _=>xcE n Θ ΘX a
 | e=>xcE n Θ ΘX e
noncomputable def xbE(n:Nat)(Θ:Th)(ΘX:ThX)(e:Expr):DX:=
 xrE n Θ ΘX e
noncomputable def xuE(n:Nat)(Θ:Th)(ΘX:ThX)(e:Expr):DX:=
 xbE n Θ ΘX e
noncomputable def xtE(n:Nat)(Θ:Th)(ΘX:ThX)(e:Expr):DX:=
 xuE n Θ ΘX e
noncomputable def xaE(n:Nat)(Θ:Th)(ΘX:ThX)(e:Expr):DX:=
 xcE n Θ ΘX e
noncomputable def QqU:List Expr->Option Str
 | [e]=>QD e
 | _=>none
theorem Qk0{e:Expr}{x:Str}{G:Expr->Prop}(h:QD e=some x)(g:∀p,G (.Name x p)):G e:=by
 cases e with
 | Name z p=>cases h;exact g p
 | _=>exact nomatch (show(none:Option Str)=some _ from h)
noncomputable def Qx3:Expr->Option (Str×Expr)
 | .Call f as kw _=>match kw with
  | _::_=>none
  | []=>match as with
   | []=>none
   | a::as=>match as with
    | _::_=>none
    | []=>(QD f).map λx=>(x,a)
 | _=>none
mutual
noncomputable def Qoa(n:Nat)(Θ:Th)(ΘX:ThX)(st:Stmt):Option DX:=match n with
 | 0=>none
 | n+1=>match st with
  | .Raise v c _=>match c with
   | some _=>none
   | none=>v.bind λe=>(Qx3 e).bind λq=>if Θ.gl q.1 && ΘX.cls.contains q.1 then(QaC n Θ [q.2]).map λfs=>QdR q.1 fs else none
  | .Expr e _=>some (xcE n Θ ΘX e)
  | .Return v _=>match v with
   | none=>some xNo
   | some e=>some (xtE n Θ ΘX e)
  | .Assign ts e _=>match QqU ts with
   | none=>some xNo
   | some x=>(Θ.QaX x).map λ_=>xaE n Θ ΘX e
  | .If c a b _=>(QaK n Θ c).bind λg=>(Qdm n Θ ΘX a).bind λfa=>(Qdm n Θ ΘX b).map λfb=>xIf g fa fb
  | .For tg iter body els _=>match els with
   | _::_=>some xNo
   | []=>(Qif Θ tg).bind λt=>(Qgi n Θ tg iter).bind λfi=>(Q5 n Θ body).bind λfb=>(Qdm n Θ ΘX body).map λfx=>Qg5 fi t fb fx
  | _=>some xNo
noncomputable def Qdm(n:Nat)(Θ:Th)(ΘX:ThX)(sts:List Stmt):Option DX:=match n with
  | 0=>none
  | n+1=>match sts with
    | []=>some xNo
    | st::r=>
     (Qjj n Θ st).bind λf=>(Qoa n Θ ΘX st).bind λfx=>(Qdm n Θ ΘX r).map λfr=>QaN f fx fr
end
section
variable {X:Cx}{Θ:Th}{ΘX:ThX}
theorem QlE{e:Expr}:RzE X e xNo:=λH0 A0 pins s σ H Q I ⟨ρ,hs,F,x,ρ',rel,e,q⟩=>by cases e
def XFx(X:Cx)(ΘX:ThX):Prop:=∀x r,look x ΘX.Γx=some r->∃k f fd ps,Q4 X.prog X.w X.K X.mg X.base (CXR X.prog X.w) k f fd ps (spX X.K r.1 r.2)/\QU k X.A/\X.mg x=some (.ref f)/\PySem.W.keepIn X.K (.ref f)=true/\Binds X.K fd ps []/\ps.length=r.1
theorem QiR{e:Expr}:RzC X e xNo:=λH0 A0 pins s σ H ρ hs F c ρ' Er I rel ex=>by cases ex
theorem Qwr{n:Nat}(ok:Qt X Θ)(xf:XFx X ΘX)(e:Expr):RzC X e (xc0 n Θ ΘX e):=by
 unfold xc0
 split
 ·split
  ·rename_i hg
   obtain⟨g1,g2,g3⟩:=Qbq ok.toCtxB hg
   split
   ·rename_i r hr
    split
    ·rename_i fs hfs
     obtain⟨k,f,fd,ps,F1,F2,F3,F4,F5,F6⟩:=xf _ r hr
     obtain⟨s1,s2⟩:=callArgs (X:=X) hfs rfl _
     exact Quj F1 F2 g1 F3 F4 F5 F6 ((QT n).A X Θ _ fs ok hfs) g2 s1 s2
    ·exact QiR
   ·exact QiR
  ·exact QiR
 ·exact QiR
theorem QqR{n:Nat}{e:Expr}(h:xc0 n Θ ΘX e≠xNo):∃x p a as pos,e= .Call (.Name x p) (a::as) [] pos:=by
 unfold xc0 at h
 split at h
 ·exact⟨_,_,_,_,_,rfl⟩
 ·exact absurd rfl h
theorem QvE{n:Nat}(ok:Qt X Θ)(xk:XOk X ΘX)(e:Expr):RzE X e (xc0 n Θ ΘX e)/\(xc0 n Θ ΘX e≠xNo->∃x p a as pos,e= .Call (.Name x p) (a::as) [] pos):=⟨Qx0 xk.ex (Qwr ok xk.fx e),QqR⟩
theorem Qhd{n:Nat}(ok:Qt X Θ)(xk:XOk X ΘX)(e:Expr):RzE X e (xcE n Θ ΘX e)/\(xcE n Θ ΘX e≠xNo->∃x p a as pos,e= .Call (.Name x p) (a::as) [] pos):=QvE ok xk e
theorem Qxf{a b:Expr}{fb:DE}{fx:DX}{pos:Pos}(h:RzE X a fx)(hb:SE X b fb)(hs:Qeh b):RzE X (.Subscript a b pos) fx:=λH0 A0 pins s σ H Q I q=>Qlc (r:=λ_ _ _ _=>False) (λ_ _ _ _ _ _ _ _ _ _ _ _ _ _ z=>z.elim) (h H0 A0) (hb H0 A0) hs pins s σ H Q I q
theorem Qxc{a:Expr}{lo hi:Option Expr}{fl fh:DO}{fx:DX}{p2 pos:Pos}(h:RzE X a fx)(hl:SO X lo fl)(hu:SO X hi fh):RzE X (.Subscript a (.Slice lo hi none p2) pos) fx:=λH0 A0 pins s σ H Q I q=>Qle (r:=λ_ _ _ _ _=>False) (λ_ _ _ _ _ _ _ _ _ _ _ _ _ _ _ _ _ z=>z.elim) (h H0 A0) (hl H0 A0) (hu H0 A0) pins s σ H Q I q
theorem Qv9{n:Nat}(ok:Qt X Θ)(xk:XOk X ΘX)(a b:Expr)(pos:Pos):RzE X (.Subscript a b pos) (xsE n Θ ΘX a b):=by
 unfold xsE
 split
 ·rename_i lo hi p2
  split
  ·exact QlE
  ·rename_i fl hl
   split
   ·exact QlE
   ·rename_i fh hh
    exact Qxc (Qhd ok xk a).1 ((QT n).O X Θ lo fl ok hl) ((QT n).O X Θ hi fh ok hh)
 ·exact QlE
theorem QvL{n:Nat}(ok:Qt X Θ)(xk:XOk X ΘX)(e:Expr):RzE X e (xrE n Θ ΘX e):=by
 cases e with
 | Subscript a b pos=>
  show RzE X _ (match Ql n Θ b with | none=>xsE n Θ ΘX a b | some _=>xcE n Θ ΘX a)
  split
  ·exact Qv9 ok xk a b pos
  ·rename_i fb hb
   exact Qxf (Qhd ok xk a).1 ((QT n).E X Θ b fb ok hb) (Qj2 hb)
 | _=>exact(Qhd (n:=n) ok xk _).1
theorem Qw6{n:Nat}(ok:Qt X Θ)(xk:XOk X ΘX)(e:Expr):RzE X e (xbE n Θ ΘX e):=
 QvL ok xk e
theorem Qwm{n:Nat}(ok:Qt X Θ)(xk:XOk X ΘX)(e:Expr):RzE X e (xuE n Θ ΘX e):=
 Qw6 ok xk e
theorem QwY{n:Nat}(ok:Qt X Θ)(xk:XOk X ΘX)(e:Expr):RzE X e (xtE n Θ ΘX e):=
 Qwm ok xk e
theorem Qvd{n:Nat}(ok:Qt X Θ)(xk:XOk X ΘX)(e:Expr):RzE X e (xaE n Θ ΘX e)/\(xaE n Θ ΘX e≠xNo->QdE e=true):=by
 obtain⟨h1,h2⟩:=Qhd (n:=n) ok xk e
 refine⟨h1,λz=>?_⟩
 obtain⟨y,p,a,as,pos,rfl⟩:=h2 z
 rfl
structure Qwf (n:Nat):Prop where
 X:∀X Θ ΘX st f,Qt X Θ->XOk X ΘX->Qoa n Θ ΘX st=some f->Rz X st f
 Xs:∀X Θ ΘX sts f,Qt X Θ->XOk X ΘX->Qdm n Θ ΘX sts=some f->RzS X sts f
theorem QwI{n:Nat}(ih:Qwf n):∀X Θ ΘX st f,Qt X Θ->XOk X ΘX->Qoa (n+1) Θ ΘX st=some f->Rz X st f:=by
 intro X Θ ΘX st f ok xk h
 have hN:X.N.Nodup:=by rw[ok.N];exact ok.nd
 cases st with
 | Raise v c pos=>
  cases c with
  | some _=>exact nomatch (show(none:Option DX)=some _ from h)
  | none=>
   refine Qc (show v.bind _=some _ from h) λe he h=>?_
   cases he
   refine Qc h λq hq h'=>?_
   clear h
   split at h'
   ·rename_i hc
    simp only[Zg]at hc
    refine mapR h' λfs h1=>?_
    clear h'
    obtain⟨g1,g2,g3⟩:=Qbq ok.toCtxB hc.1
    obtain⟨s1,s2⟩:=callArgs (X:=X) h1 rfl pos
    cases e with
    | Call fn as kw cp=>
     rcases kw with _ | ⟨k1,k2⟩
     ·rcases as with _ | ⟨a,_ | ⟨a2,as⟩⟩
      ·cases hq
      ·obtain⟨x,hx,rfl⟩:=Zc.mp (show(QD fn).map _=some q from hq)
       exact Qk0 (G:=λt=>Rz X (.Raise (some (.Call t [a] [] cp)) none pos) (QdR x fs)) hx λnp=>Qst ok.calm g1 (xk.cl x (by simpa using hc.2)) g2 ((QT n).A X Θ _ fs ok h1) s1
      ·cases hq
     ·cases hq
    | _=>exact nomatch (show(none:Option (Str×Expr))=some _ from hq)
   ·cases h'
 | Expr e pos=>
  cases(show some (xcE n Θ ΘX e)=some f from h)
  obtain⟨h1,h2⟩:=Qhd (n:=n) ok xk e
  by_cases hz:xcE n Θ ΘX e=xNo
  ·rw[hz];exact QeW
  ·obtain⟨x,p,a,as,pos',rfl⟩:=h2 hz
   exact QtR h1 rfl
 | Return v pos=>
  cases v with
  | none=>cases(show some xNo=some f from h);exact QeW
  | some e=>cases(show some (xtE n Θ ΘX e)=some f from h);exact Qvt (QwY (n:=n) ok xk e)
 | Assign ts e pos=>
  rcases ts with _ | ⟨t,_ | ⟨t2,ts⟩⟩
  ·cases(show some xNo=some f from h);exact QeW
  ·cases t with
   | Name x p=>
    refine mapR (show(Θ.QaX x).map _=some f from h) λi hi=>?_
    obtain⟨g1,g2,g3⟩:=QaU ok.toCtxB hi
    obtain⟨h1,h2⟩:=Qvd (n:=n) ok xk e
    by_cases hz:xaE n Θ ΘX e=xNo
    ·rw[hz];exact QeW
    ·exact Qvg hN g1 g2 g3 h1 (QbC (h2 hz))
   | _=>cases(show some xNo=some f from h);exact QeW
  ·cases(show some xNo=some f from h);exact QeW
 | If c a b pos=>
  refine Qc (show(QaK n Θ c).bind _=some f from h) λg h1 h=>?_
  exact bindR h λfa fb h2 h3=>QxB ((QT n).T X Θ c g ok h1) (ih.Xs X Θ ΘX a fa ok xk h2) (ih.Xs X Θ ΘX b fb ok xk h3)
 | For tg iter body els pos=>
  cases els with
  | cons _ _=>cases(show some xNo=some f from h);exact QeW
  | nil=>
   refine Qc (show(Qif Θ tg).bind _=some f from h) λt h1 h=>?_
   refine Qc h λfi h2 h=>?_
   refine bindR h λfb fx h3 h4=>?_
   obtain⟨i1,i2⟩:=(QT n).I X Θ tg iter fi ok h2
   exact QvQ ok.pass ok.calm i1 (QkY ok h1) ((QfT n).Ss X Θ body fb ok h3) (ih.Xs X Θ ΘX body fx ok xk h4) i2
 | _=>cases(show some xNo=some f from h);exact QeW
theorem Qo2:∀n,Qwf n
 | 0=>⟨λ_ _ _ _ _ _ _ h=>(nomatch (show(none:Option DX)=some _ from h)),λ_ _ _ _ _ _ _ h=>(nomatch (show(none:Option DX)=some _ from h))⟩
 | n+1=>by
  have ih:=Qo2 n
  refine⟨QwI ih,λX Θ ΘX sts f ok xk h=>?_⟩
  cases sts with
  | nil=>cases(show some xNo=some f from h);exact QuP
  | cons st r=>
   refine Qc (show(Qjj n Θ st).bind _=some f from h) λfs h1 h=>?_
   exact bindR h λfx fr h2 h3=>Qrm (Qqg ok h1) (ih.X X Θ ΘX st fx ok xk h2) (ih.Xs X Θ ΘX r fr ok xk h3)
end
noncomputable def QaF(k:Nat)(f:DX):List D->Option Str:=λds=>(f (Qad k ds)).map (·.1)
section
variable (P:Program) (w:World) (K:PySem.W.Frag) (mg:Str->Option Value) (base:Heap)
def Qfq(k:Nat)(x:Str)(r:Nat×(List D->Option Str)):Prop:=∃f fd ps,Q4 P w K mg base (CXR P w) k f fd ps (spX K r.1 r.2)/\mg x=some (.ref f)/\PySem.W.keepIn K (.ref f)=true/\Binds K fd ps []/\ps.length=r.1
def Qd5(k:Nat)(Γx:List (Str×(Nat×(List D->Option Str)))):Prop:=∀x r,look x Γx=some r->Qfq P w K mg base k x r
end
section
variable {P:Program}{w:World}{K:PySem.W.Frag}{mg:Str->Option Value}{base:Heap}
theorem Qd5.nil{k:Nat}:Qd5 P w K mg base k []:=λx r h=>by cases h
theorem Qfq.mono{j k:Nat}{x:Str}{r:Nat×(List D->Option Str)}(h:Qfq P w K mg base j x r)(hk:j<=k):Qfq P w K mg base k x r:=by
 obtain⟨f,fd,ps,h1,h2⟩:=h
 exact⟨f,fd,ps,h1.mono hk,h2⟩
theorem Qd5.mono{j k:Nat}{Γ:List (Str×(Nat×(List D->Option Str)))}(t:Qd5 P w K mg base j Γ)(hk:j<=k):Qd5 P w K mg base k Γ:=λx r e=>(t x r e).mono hk
theorem Qd5.cons{k:Nat}{Γ:List (Str×(Nat×(List D->Option Str)))}{x:Str}{r:Nat×(List D->Option Str)}(t:Qd5 P w K mg base k Γ)(h:Qfq P w K mg base (k+1) x r):Qd5 P w K mg base (k+1) ((x,r)::Γ):=λy q e=>by
 unfold look at e
 split at e
 ·rename_i z;cases e;subst z;exact h
 ·exact(t y q e).mono (Zaw _)
theorem Qan.up{j k:Nat}{Γ:List (Str×FnR)}(t:Qan P w K mg base j Γ)(hk:j<=k):Qan P w K mg base k Γ:=λx r e=>(t x r e).mono hk
theorem Qjt{h:Heap}{x:Str}{st:Stmt}{ps:List Str}{k n:Nat}{Γ:List (Str×FnR)}{Γx:List (Str×(Nat×(List D->Option Str)))}{cls:List Str}{cs:List (Str×Cn)}{g:DX}(X:K.In h)(G:h.Ns mainGlobals mg)(F:Fact K x st)(S:Qar (namesOf (Qd st)) ps (Qd st))(B:QI x st ps)(M:Qb5 mg cs)(tab:Qan P w K mg base k Γ)(tabx:Qd5 P w K mg base k Γx)
  (hcl:∀x∈cls,QgL K x) (hc:Qdm n (Qbw st Γ cs) ⟨Γx,cls⟩ (QM st)=some g):Qfq P w K mg base (k+1) x (ps.length,QaF (namesOf (Qd st)).length g):=by
 obtain⟨f,fd,Fn,a⟩:=F.ex
 refine⟨f,fd,ps,?_,Zat X G a,Fn.kp,Fn.binds (B ·),rfl⟩
 obtain⟨oc,od,kV,doc,pm,an,cdv,ct,osl,rfl,lk,hcd⟩:=Fn.ex
 refine Qor lk hcd S (Qn3 rfl) λA outer s H vs Q E hr hsp=>?_
 obtain⟨ds,L,y,rps,hl,hd,hE⟩:=hsp
 have ok:Qt (Qcl (CXR P w) P w K mg base (namesOf (Qd st)) x (Qd st) f cdv A outer s H E) (Qbw st Γ cs):=Qju (CX:=CXR P w) (E:=E) S M tab hr PassesOwn.leaving
 have xk:XOk (Qcl (CXR P w) P w K mg base (namesOf (Qd st)) x (Qd st) f cdv A outer s H E) ⟨Γx,cls⟩:=⟨rfl,rfl,rfl,λz r e=>by
  obtain⟨f',fd',ps',h1,h2,h3,h4,h5⟩:=tabx z r e
  exact⟨k,f',fd',ps',h1,hr,h2,h3,h4,h5⟩,hcl⟩
 refine⟨_,(Qo2 n).Xs _ _ _ _ g ok xk hc H L,?_⟩
 obtain⟨F0,rel⟩:=QdW (N:=namesOf (Qd st)) rps
 obtain⟨⟨y',ρ'⟩,e1,e2⟩:=Zc.mp hd
 cases e2
 exact⟨_,[],F0,y',ρ',rel,e1,λC ea s' hC T=>QgX rfl rfl rfl rfl rfl rfl rfl T λH' sm=>hE C H' hC sm⟩
end
end HS
namespace HS
open PySem PySem.Spec L2 PyProof.Rows
section
variable {X:Cx}{pins:List (Addr×Obj)}{σ:L2.St}{H:Hp}{s s':Shared}{B:Heap}
theorem QtM{ea C:Addr}{a0:Value}(I:Inv X pins σ H s)(hx:X.ex=[])(fl:Heap.FlyingW B X.stack ea (.ref C) a0 s.heap)(cov:Cov H B)(old:∀b o,X.s₀.heap.get? b=some o->b∉X.fs->∃o',B.get? b=some o')
  (pb:∀p∈X.pn++pins,∃o,B.get? p.1=some o):H ea=none/\Inv X pins σ (upd H ea (.ext (QcR ea C))) s:=by
 obtain⟨oe,vs,he,hc,hd,_⟩:=fl.first
 have ne:∀{b o},B.get? b=some o->b≠ea:=λ{b o} e z=>by rw[z,fl.2.1]at e;cases e
 have hn:H ea=none:=by
  cases q:H ea with
  | none=>rfl
  | some u=>obtain⟨o,e⟩:=cov ea u q;exact absurd rfl (ne e)
 have nd:∀{b o},s.heap.get? b=some o->(∀vs,o.data≠ .fields vs)->b≠ea:=λ{b o} e h z=>by
  rw[z,he]at e
  cases e
  exact h vs hd
 have tr:∀b u,H b=some u->upd H ea (.ext (QcR ea C)) b=some u:=λb u e=>by
  obtain⟨o,eo⟩:=cov b u e
  rw[Qx (ne eo)];exact e
 refine⟨hn,I.ok,I.os,I.bare,⟨I.base.keep,I.base.slot,λb o e n hxx=>?_,I.base.there,λb xs q=>tr _ _ (I.base.tups b xs q),λb o u q=>tr _ _ (I.base.frzs b o u q),λb ps q=>?_⟩,I.loc,I.cell,?_,λx c e=>?_,λp hp=>?_,λb u e=>?_,I.len⟩
 ·rw[Qx]
  ·exact I.base.free b o e n hxx
  ·by_cases hb:b∈X.fs
   ·obtain⟨sl,e1⟩:=I.base.slot b o e n hb hxx
    exact nd e1 λvs q=>Qi6 I.ok e hb vs q
   ·obtain⟨o',e1⟩:=old b o e hb
    exact ne e1
 ·obtain⟨more,q⟩:=I.base.tbls b ps q
  exact⟨more,tr _ _ q⟩
 ·rw[Qx]
  ·exact I.free
  ·obtain⟨m,⟨o,es,ep,e,d,_⟩,_⟩:=I.loc
   exact nd e λvs q=>by rw[d]at q;cases q
 ·rw[Qx]
  ·exact I.freeC x c e
  ·obtain⟨v,o,eo,d⟩:=I.cell x c e
   exact nd eo λvs q=>by rw[d]at q;cases q
 ·obtain⟨e,n,ne',nf,d⟩:=I.pin p hp
  obtain⟨o,eo⟩:=pb p hp
  exact⟨e,by rw[Qx (ne eo)];exact n,ne',nf,d⟩
 ·by_cases hb:b=ea
  ·subst hb
   rw[QQ]at e
   cases e
   refine⟨⟨oe,vs,he,hc,hd⟩,⟨oe,he⟩,λh1 h2 ⟨o,w,e1,e2,e3⟩ k=>⟨o,w,k _ e1,e2,e3⟩⟩
  ·rw[Qx hb]at e
   exact(I.hok b u e).Qey (λc v _ q=>q) (λc q=>tr _ _ q) λc xs q=>tr _ _ q
theorem Qjh{M:Model}{A:Around}{E:Value->Shared->Prop}{i:Nat}{x:Str}{pos:Pos}{Q:Unit->Shared->Prop}(I:Inv X pins σ H s)(hN:X.N.Nodup)(hi:X.N[i]? =some x)(hx:X.env.scope.names.lookup x=some .local)
  (h:∀s',Inv X pins (σ.set i none) H s'->Q () s'):wpAny M A (do bindName X.env x .none;unbindBehindTheSuite X.env x pos) Q E s:=by
 refine wpAny_bind (wpAny_bindName (QfR (v:= .non) I hN hi (.inl hx) rfl (λs1 I1=>?_) (.inr hx)))
 have hcls:(X.env.scope.kind == .class || (X.env.scope.kind == .module && X.env.locals != X.env.globals))=false:=by rw[I.ok.kind];rfl
 have hiσ:i<σ.length:=by rw[I.len];exact(Zh.mp hi).1
 obtain⟨m,hn,hl⟩:=id I1.loc
 obtain⟨u,_,q⟩:=hl i x .non hi (Zn hiσ) (.inl hx)
 have hm:m x=some u:=by
  rcases q with⟨_,e⟩ | ⟨k,_⟩
  ·exact e
  ·have hx':X.env.kindOf x=some .local :=hx
   rcases k with k | k<;>rw[hx']at k<;>cases k
 unfold unbindBehindTheSuite
 refine wpAny_onRaise (wpAny_unbindName_local hx hn hm hcls λh' u' hn' hs=>h _ ?_)
 have cne:=I1.cne
 obtain⟨oL,_,_,hoL,_⟩:=id hn
 refine⟨I1.ok,I1.os,I1.bare,⟨λb o e n hb hx=>?_,λb o e n hb hx=>?_,I1.base.free,λb o e hx=>?_,I1.base.tups,I1.base.frzs,I1.base.tbls⟩,⟨_,hn',λj y v' e1 e2 e3=>?_⟩,λy c e=>?_,I1.free,I1.freeC,λp hp=>?_,λb ob e=>?_,by simpa using I1.len⟩
 ·exact(hs.2 b (ZL (Zu (Zv e) I.ok.above))).trans (I1.base.keep b o e n hb hx)
 ·obtain⟨sl,e1⟩:=I1.base.slot b o e n hb hx
  exact⟨sl,(hs.2 b (ZL (Zu (Zv e) I.ok.above))).trans e1⟩
 ·obtain⟨o',e1⟩:=I1.base.there b o e hx
  exact⟨o',(hs.2 b (ZL (Zu (Zv e) I.ok.above))).trans e1⟩
 ·by_cases hj:j=i
  ·subst hj
   rw[Zn hiσ]at e2
   cases e2
  ·rw[Zf (Ne.symm hj)]at e2
   have e2':(σ.set i (some V.non))[j]? =some (some v'):=by rw[Zf (Ne.symm hj)];exact e2
   obtain⟨u1,r1,q1⟩:=hl j y v' e1 e2' e3
   refine⟨u1,r1,?_⟩
   rcases q1 with⟨k,e⟩ | ⟨k,c,e,z⟩
   ·refine .inl ⟨k,?_⟩
    have:y≠x:=λe=>hj (Qip hN e1 (e▸hi))
    simp[this,e]
   ·exact .inr ⟨k,c,e,z.sameBut hs (cne y c e)⟩
 ·obtain⟨w',z⟩:=I1.cell y c e
  exact⟨w',z.sameBut hs (cne y c e)⟩
 ·obtain⟨e,n,ne,nf,d⟩:=I1.pin p hp
  exact⟨(hs.2 p.1 ne).trans e,n,ne,nf,d⟩
 ·refine(I1.hok b ob e).Qey (λc w' hc q=>(hs.2 c ?_).trans q) (λ_ q=>q) λ_ _ q=>q
  rintro rfl
  have hfree:=I1.free
  rcases hc with rfl | hc
  ·rw[hfree]at e;cases e
  ·rw[hfree]at hc;cases hc
end
end HS
namespace HS
open PySem PySem.Spec L2 PyProof.Rows
noncomputable abbrev inH(X:Cx)(ea:Addr):Cx:={X with A:=X.A.mark (some (.ref ea)),calm:=false,xe:=λ_ _=>False}
def Fly(X:Cx)(pins:List (Addr×Obj))(H:Hp)(ea C:Addr)(s:Shared):Prop:=∃B a0,Heap.FlyingW B X.stack ea (.ref C) a0 s.heap/\Cov H B/\(∀b o,X.s₀.heap.get? b=some o->b∉X.fs->∃o',B.get? b=some o')/\∀p∈X.pn++pins,∃o,B.get? p.1=some o
section
variable {X:Cx}{pins:List (Addr×Obj)}{σ:L2.St}{H:Hp}{s s':Shared}{B:Heap}{ea C:Addr}
theorem _root_.L2.Inv.inH(I:Inv X pins σ H s):Inv (HS.inH X ea) pins σ H s:=
 ⟨⟨I.ok.mod,I.ok.kind,I.ok.glob,I.ok.blt,I.ok.above,I.ok.inj,I.ok.has,I.ok.cab,λz=>(by cases z),I.ok.frames,I.ok.stk,I.ok.exf,I.ok.bs,I.ok.bsz,I.ok.noex,I.ok.exfs,I.ok.QcA,I.ok.frf⟩,I.os,I.bare,I.base,I.loc,I.cell,I.free,I.freeC,I.pin,I.hok,I.len⟩
theorem _root_.L2.Inv.Qfc(ok:X.Ok)(I:Inv (HS.inH X ea) pins σ H s):Inv X pins σ H s:=⟨ok,I.os,I.bare,I.base,I.loc,I.cell,I.free,I.freeC,I.pin,I.hok,I.len⟩
theorem Qm8{E:Value->Shared->Prop}{Qk:Shared->Prop}{H0:Hp}{A0:List Addr}{hs:List (V×D×List Addr)}{ρ:En}(T:QfK X H0 A0 hs ρ (.ref C) ea s')(hx:X.ex=[])(hst:X.stack=X.env::X.outer)(hf:X.env.frame=some X.env.locals)
  (k:∀pins σ H F s'',Rel X.K H0 A0 hs ρ F σ H->Inv X pins σ H s''->Fly X pins H ea C s''->Qk s''):
  wpAny (model X.prog X.w) X.A (noteFrame (.ref ea) X.env) (λ_ s₂=>wpAny (model X.prog X.w) X.A (setFlight (.ref ea) none) (λ_ s₃=>Qk s₃) E s₂) E s':=by
 obtain⟨pins,σ,H,F,rel,⟨sg,args,I,hm,ho,hg⟩ | ⟨B,a0,f0,I,fl,cov,old,pb⟩⟩:=T
 ·obtain⟨B,b1,b2,cov,old,pb⟩:=QlV I hx
  have hfr:=I.ok.frames
  rw[hst]at hfr b2
  obtain⟨t,he,htn,ht⟩:=hm.there
  have fresh:B.get? ea=none:=by
   cases q:B.get? ea with
   | none=>rfl
   | some o=>have:=b1 _ _ q;rw[hm.new]at this;cases this
  have note:∀Q:Unit->Shared->Prop,(∀h',Heap.NotedW B (X.env::X.outer) ea (.ref C) (.ref t) (rawInt X.env.locals) s'.heap h'->Q () {s' with heap:=h'})->wpAny (model X.prog X.w) X.A (noteFrame (.ref ea) X.env) Q E s':=λQ hq=>by
   unfold noteFrame
   simp only[hf]
   refine wpAny_bind (wpAny_field (x:= .none) he rfl rfl ?_)
   rw[if_neg (by decide)]
   exact wpAny_entryW (a0:= .ref t) hfr (b2.of_keeps λb o hb _=>⟨o,hm.keeps b o hb,rfl⟩) hf he (λb o hb=>hm.keeps b o (b1 b o hb)) fresh rfl (by show 1<6;decide) rfl hq
  refine note _ λh1 hpt=>?_
  obtain⟨n1,n2,n3,n4⟩:=hpt
  refine wpAny_landsW (s:={s' with heap:=h1}) (L:=X.env.locals) ⟨n1,fresh,n2,n3⟩ λh2 fl up=>?_
  have up':sg.heap.UpToSlots h2:=((Heap.UpToSlots.of_keeps hm.keeps).trans n4).trans up
  refine k pins σ H F _ rel (QiK I ho (by show AllBare s'.gens;rw[hg];exact I.bare) hx b1 fl.1 up' cov old pb) ⟨B,_,by rw[hst];exact fl,cov,old,pb⟩
 ·have hfr:=I.ok.frames
  rw[hst]at hfr fl
  refine Qlu hfr hf fl λh1 hd up1=>?_
  refine wpAny_landsW (s:={s' with heap:=h1}) hd λh2 fl2 up2=>?_
  exact k pins σ H F _ rel (QiK I rfl I.bare hx fl.1 fl2.1 (up1.trans up2) cov old pb) ⟨B,a0,by rw[hst];exact fl2,cov,old,pb⟩
def Qoi(K:PySem.W.Frag)(sub:Str->Str->Option Bool):Prop:=∀x y b,sub x y=some b->∃C c,ClsAt K x C/\PySem.W.KtsName K y c/\PySem.W.exmOne K (.ref C) c=some b
theorem Qqb{E:Value->Shared->Prop}{y:Str}{c:Value}{np:Pos}{Q:Value->Shared->Prop}(I:Inv X pins σ H s)(hg:Gl X y)(hdb:(y == ("__debug__" :Str))=false)(k:PySem.W.KtsName X.K y c)(h:Q c s):wpAny (model X.prog X.w) X.A (eval (.Name y np) X.env) Q E s:=by
 rcases k with k | ⟨k1,k2,k3⟩
 ·exact QcY I hg (Zat I.ok.mod.kin I.ok.mod.glob k) h hdb
 ·exact QeA I hg (PySem.W.mg_none_of I.ok.mod.kin I.ok.mod.glob k1) k2 h k3 hdb
theorem QgG{K:PySem.W.Frag}{x:Str}{C C':Addr}(a:ClsAt K x C)(b:ClsAt K x C'):C=C':=by
 unfold ClsAt at a b
 rw[a]at b
 exact Value.ref.inj (Option.some.inj (Option.some.inj b))
theorem Rel.Qjp{K:PySem.W.Frag}{H0:Hp}{A0:List Addr}{hs:List (V×D×List Addr)}{ρ:En}{F:Nat->List Addr}{i:Nat}(r:Rel K H0 A0 hs ρ F σ H):Rel K H0 A0 hs (ρ.set i none) F (σ.set i none) H:=by
 have w:=r.weak (Qb7 (ρ:=ρ) i)
 refine⟨by simpa using r.len,λj d b e=>?_,w.own,w.src,w.held,w.same⟩
 obtain⟨v,h1,h2⟩:=w.val j d b e
 refine⟨v,?_,h2⟩
 by_cases hj:i=j
 ·subst hj
  exfalso
  by_cases hl:i<ρ.length
  ·rw[Zn hl]at e;cases e
  ·rw[Zr (by simp;omega)]at e;cases e
 ·rw[Zf hj];exact h1
noncomputable def Qwc(i:Nat):Out->Out
 | .nx ρ=> .nx (ρ.set i none)
 | .bk ρ=> .bk (ρ.set i none)
 | .ct ρ=> .ct (ρ.set i none)
 | .rt d fr=> .rt d fr
noncomputable abbrev Hd:=Str×Option Nat×DS
noncomputable def QoK(sub:Str->Str->Option Bool)(x:Str)(ρ:En):List Hd->Option Out
 | []=>none
 | h::r=>(sub x h.1).bind λb=>if b=true then(match h.2.1 with
  | none=>h.2.2 ρ
  | some i=>(h.2.2 (ρ.set i (some (.exc x,true)))).map (Qwc i))else QoK sub x ρ r
noncomputable def QhZ(f:DS)(fx:DX)(sub:Str->Str->Option Bool)(hl:List Hd):DS:=λρ=>match f ρ with
 | some o=>some o
 | none=>(fx ρ).bind λq=>QoK sub q.1 q.2 hl
inductive Qfa (X:Cx):List ExceptHandler->List Hd->Prop
 | nil:Qfa X [] []
 | bare {y:Str}{np pos:Pos}{b₀:Stmt}{suite:List Stmt}{r:List ExceptHandler}{hr:List Hd}{f:DS}(hg:Gl X y) (hdb:(y == ("__debug__" :Str))=false) (hS:∀ea,SS (inH X ea) (b₀::suite) f) (t:Qfa X r hr):
   Qfa X (.ExceptHandler (some (.Name y np)) none (b₀::suite) pos::r) ((y,none,f)::hr)
 | as {y n:Str}{np pos:Pos}{b₀:Stmt}{suite:List Stmt}{r:List ExceptHandler}{hr:List Hd}{f:DS}{i:Nat}(hg:Gl X y) (hdb:(y == ("__debug__" :Str))=false) (hi:X.N[i]? =some n) (hl:X.env.scope.names.lookup n=some .local) (hS:∀ea,SS (inH X ea) (b₀::suite) f) (t:Qfa X r hr):
   Qfa X (.ExceptHandler (some (.Name y np)) (some n) (b₀::suite) pos::r) ((y,some i,f)::hr)
theorem _root_.L2.SP.Qfc{Dd:Ends}{f:Flow}(ok:X.Ok)(h:SP (HS.inH X ea) pins Dd f s):SP X pins Dd f s:=by
 cases f with
 | next=>obtain⟨σ',H',I,q⟩:=h;exact⟨σ',H',I.Qfc ok,q⟩
 | brk=>obtain⟨σ',H',I,q⟩:=h;exact⟨σ',H',I.Qfc ok,q⟩
 | cont=>obtain⟨σ',H',I,q⟩:=h;exact⟨σ',H',I.Qfc ok,q⟩
 | ret u=>obtain⟨v,σ',H',I,r,q⟩:=h;exact⟨v,σ',H',I.Qfc ok,r,q⟩
theorem Qps{sub:Str->Str->Option Bool}{x:Str}{H0:Hp}{A0:List Addr}{hs:List (V×D×List Addr)}{ρ:En}{Dd:Ends}{o:Out}(hN:X.N.Nodup)(hx:X.ex=[])(hsub:Qoi X.K sub)(hC:ClsAt X.K x C):
  ∀{hds:List ExceptHandler}{hl:List Hd},Qfa X hds hl->∀{F:Nat->List Addr}{σ:L2.St}{H:Hp}{s:Shared},Inv X pins σ H s->Rel X.K H0 A0 hs ρ F σ H->Fly X pins H ea C s->QoK sub x ρ hl=some o->Fits X.K H0 A0 hs Dd o→
   wpAny (model X.prog X.w) X.A (handleBy (.ref ea) X.env hds) (SP X pins Dd) X.xe s:=by
 intro hds hl h
 have test:∀{y:Str}{np pos:Pos}{nm:Option Str}{b₀:Stmt}{suite:List Stmt}{r:List ExceptHandler}{b:Bool}{σ:L2.St}{H:Hp}{s:Shared},Gl X y->(y == ("__debug__" :Str))=false->sub x y=some b->Inv X pins σ H s->Fly X pins H ea C s→
   (b=true->codeAny (model X.prog X.w) (X.A.mark (some (.ref ea))) (.handlers (.ref ea) [.ExceptHandler none nm (b₀::suite) pos] X.env) (λr s₂=>match r with
     | .ok f=>(match nm with
      | none=>SP X pins Dd f s₂
      | some n=>wpAny (model X.prog X.w) X.A (do bindName X.env n .none;unbindBehindTheSuite X.env n pos) (λ_ s₃=>SP X pins Dd f s₃) X.xe s₂)
     | .error x=>cameBackBy (model X.prog X.w) X.A X.env X.xe x s₂) s)→
   (b=false->wpAny (model X.prog X.w) X.A (handleBy (.ref ea) X.env r) (SP X pins Dd) X.xe s)->wpAny (model X.prog X.w) X.A (handleBy (.ref ea) X.env (.ExceptHandler (some (.Name y np)) nm (b₀::suite) pos::r)) (SP X pins Dd) X.xe s:=by
  intro y np pos nm b₀ suite r b σ H s hg hdb e1 I fly ht hf
  obtain⟨C',c,k1,k2,k3⟩:=hsub x y b e1
  cases QgG hC k1
  obtain⟨B,a0,fl,_⟩:=fly
  obtain⟨ob,hob,hc⟩:=fl.there
  have LT:PySem.W.Looks (model X.prog X.w) s.heap (typeOf (.ref ea)) (.ref C):=hc▸(PySem.W.Looks.ld hob).andThen .now
  refine wpAny_handleBy_cons (codeAny_handlers_test (Qqb (X:=HS.inH X ea) (I.inH (ea:=ea)) hg hdb k2 ((PySem.W.exm_one I.kIn LT k3).here ?_))) (by intro q;cases q)
  cases b with
  | true=>exact ht rfl
  | false=>exact hf rfl
 induction h with
 | nil=>intro F σ H s I rel fly e q;cases e
 | @bare y np pos b₀ suite r hr f hg hdb hS t ih=>
  intro F σ H s I rel fly e q
  refine Qc e λb e1 e=>?_
  refine test hg hdb e1 I fly (λhb=>?_) λhb=>?_
  ·subst hb
   rw[if_pos rfl]at e
   obtain⟨B,a0,fl,cov,old,pb⟩:=fly
   refine codeAny_handlers_suite (lands_againW fl λh' fl' up=>?_)
   have I1:=QiK (s':={s with heap:=h'}) I rfl I.bare hx fl.1 fl'.1 up cov old pb
   exact wpAny_mono (hS ea H0 A0 pins _ σ H Dd (I1.inH (ea:=ea)) ⟨ρ,hs,F,o,rel,e,q⟩) (λf s2 hq=>SP.Qfc I.ok hq) λ_ _ z=>z.elim
  ·subst hb
   rw[if_neg ZV]at e
   exact ih I rel fly e q
 | @as y n np pos b₀ suite r hr f i hg hdb hi hl hS t ih=>
  intro F σ H s I rel fly e q
  refine Qc e λb e1 e=>?_
  refine test hg hdb e1 I fly (λhb=>?_) λhb=>?_
  ·subst hb
   rw[if_pos rfl]at e
   obtain⟨o1,e2,e3⟩:=Zc.mp e
   subst e3
   obtain⟨B,a0,fl,cov,old,pb⟩:=fly
   refine codeAny_handlers_suite_as (lands_againW fl λh' fl' up=>?_)
   have I1:=QiK (s':={s with heap:=h'}) I rfl I.bare hx fl.1 fl'.1 up cov old pb
   obtain⟨hn,I2⟩:=QtM I1 hx fl' cov old pb
   have sm:Qr H (upd H ea (.ext (QcR ea C))):=λb u eb=>by rw[Qx (λz=>by rw[z,hn]at eb;cases eb)];exact eb
   refine QfR (X:=HS.inH X ea) (v:= .ref ea) (I2.inH (ea:=ea)) hN hi (.inl hl) rfl (λs3 I3=>?_) (.inr hl)
   obtain⟨F',rel'⟩:=(rel.ext sm).Qy0 (i:=i) (d:= .exc x) (v:= .ref ea) (by rw[Rp];exact⟨⟨ea,rfl,C,hC,QQ⟩,rfl⟩) rfl
   refine wpAny_mono (hS ea H0 A0 pins _ _ _ ⟨λσ' H'=>Dd.nx (σ'.set i none) H',Dd.rt,λσ' H'=>Dd.bk (σ'.set i none) H',λσ' H'=>Dd.ct (σ'.set i none) H'⟩ I3 ⟨_,hs,F',o1,rel',e2,?_⟩) (λf s4 hq=>?_) λ_ _ z=>z.elim
   ·cases o1 with
    | nx ρ1=>exact λσ' H' F' rel'=>q _ _ _ rel'.Qjp
    | bk ρ1=>exact λσ' H' F' rel'=>q _ _ _ rel'.Qjp
    | ct ρ1=>exact λσ' H' F' rel'=>q _ _ _ rel'.Qjp
    | rt d fr=>exact q
   ·cases f with
    | next=>obtain⟨σ',H',I4,q4⟩:=hq;exact Qjh (I4.Qfc I.ok) hN hi hl λs5 I5=>⟨_,H',I5,q4⟩
    | brk=>obtain⟨σ',H',I4,q4⟩:=hq;exact Qjh (I4.Qfc I.ok) hN hi hl λs5 I5=>⟨_,H',I5,q4⟩
    | cont=>obtain⟨σ',H',I4,q4⟩:=hq;exact Qjh (I4.Qfc I.ok) hN hi hl λs5 I5=>⟨_,H',I5,q4⟩
    | ret u=>obtain⟨v,σ',H',I4,r4,q4⟩:=hq;exact Qjh (I4.Qfc I.ok) hN hi hl λs5 I5=>⟨v,_,H',I5,r4,q4⟩
  ·subst hb
   rw[if_neg ZV]at e
   exact ih I rel fly e q
noncomputable abbrev Cx.chg(X:Cx)(xe:Value->Shared->Prop)(pn:List (Addr×Obj)):Cx:={X with xe:=xe,pn:=pn}
theorem _root_.L2.Inv.chg{xe:Value->Shared->Prop}(I:Inv X pins σ H s):Inv (Cx.chg X xe (X.pn++pins)) [] σ H s:=
 ⟨⟨I.ok.mod,I.ok.kind,I.ok.glob,I.ok.blt,I.ok.above,I.ok.inj,I.ok.has,I.ok.cab,I.ok.hd,I.ok.frames,I.ok.stk,I.ok.exf,I.ok.bs,I.ok.bsz,I.ok.noex,I.ok.exfs,I.ok.QcA,I.ok.frf⟩,I.os,I.bare,I.base,I.loc,I.cell,I.free,I.freeC,λp hp=>I.pin p (by simpa using hp),I.hok,I.len⟩
theorem _root_.L2.Inv.QiQ{xe:Value->Shared->Prop}{pins':List (Addr×Obj)}(ok:X.Ok)(I:Inv (Cx.chg X xe (X.pn++pins)) pins' σ H s):Inv X pins σ H s:=
 ⟨ok,I.os,I.bare,I.base,I.loc,I.cell,I.free,I.freeC,λp hp=>I.pin p (Zd _ hp),I.hok,I.len⟩
theorem Qw5{sub:Str->Str->Option Bool}{body:List Stmt}{h₀:ExceptHandler}{hds:List ExceptHandler}{hl:List Hd}{f:DS}{fx:DX}{pos:Pos}(hN:X.N.Nodup)(hx:X.ex=[])(hst:X.stack=X.env::X.outer)(hf:X.env.frame=some X.env.locals)(hsub:Qoi X.K sub)
  (hb:∀xe pn,PassesOwn (model X.prog X.w) X.A X.env xe->SS (Cx.chg X xe pn) body f/\RzS (Cx.chg X xe pn) body fx) (hh:Qfa X (h₀::hds) hl):S1 X (.Try body (h₀::hds) [] [] pos) (QhZ f fx sub hl):=λH0 A0 pins s σ H Dd I=>exK λρ hs F o rel e q=>by
 refine wpAny_Try_except ?_
 have pass:PassesOwn (model X.prog X.w) X.A X.env (λe s₁=>wpAny (model X.prog X.w) X.A (noteFrame e X.env) (λ_ s₂=>wpAny (model X.prog X.w) X.A (setFlight e none) (λ_ s₃=>wpAny (model X.prog X.w) X.A (handleBy e X.env (h₀::hds)) (SP X pins Dd) X.xe s₃) X.xe s₂) X.xe s₁):=PassesOwn.looking
 obtain⟨b1,b2⟩:=hb _ (X.pn++pins) pass
 unfold QhZ at e
 split at e
 ·rename_i o' eo
  cases e
  refine thn (b1 H0 A0 [] s σ H Dd I.chg ⟨ρ,hs,F,o,rel,eo,q⟩) λfl s1 hq=>?_
  cases fl with
  | next=>obtain⟨σ',H',I1,q1⟩:=hq;exact wpAny_execs_nil ⟨σ',H',I1.QiQ I.ok,q1⟩
  | brk=>obtain⟨σ',H',I1,q1⟩:=hq;exact⟨σ',H',I1.QiQ I.ok,q1⟩
  | cont=>obtain⟨σ',H',I1,q1⟩:=hq;exact⟨σ',H',I1.QiQ I.ok,q1⟩
  | ret u=>obtain⟨v,σ',H',I1,r1,q1⟩:=hq;exact⟨v,σ',H',I1.QiQ I.ok,r1,q1⟩
 ·obtain⟨⟨x,ρ'⟩,e1,e⟩:=bind1 e
  refine thn (b2 H0 A0 [] s σ H ⟨λ_ _=>False,λ_ _=>False,λ_ _=>False,λ_ _=>False⟩ I.chg ⟨ρ,hs,F,x,ρ',rel,e1,λC ea s' hC T=>?_⟩) λfl s1 hq=>?_
  ·refine Qm8 (X:=Cx.chg X _ (X.pn++pins)) (E:=X.xe) (Qk:=λs₃=>wpAny (model X.prog X.w) X.A (handleBy (.ref ea) X.env (h₀::hds)) (SP X pins Dd) X.xe s₃) T hx hst hf λpins' σ' H' F' s'' rel' I' fly=>?_
   obtain⟨B,a0,fl,cov,old,pb⟩:=fly
   exact Qps hN hx hsub hC hh (I'.QiQ I.ok) rel' ⟨B,a0,fl,cov,old,λp hp=>pb p (Zd _ hp)⟩ e q
  ·cases fl with
   | next=>obtain⟨σ',H',I1,q1⟩:=hq;exact q1.elim
   | brk=>obtain⟨σ',H',I1,q1⟩:=hq;exact q1.elim
   | cont=>obtain⟨σ',H',I1,q1⟩:=hq;exact q1.elim
   | ret u=>obtain⟨v,σ',H',I1,r1,q1⟩:=hq;exact q1.elim
end
end HS
namespace HS
open PySem PySem.Spec L2 PyProof.Rows PySem.W
structure Qgk (K:Frag) (C:Addr):Prop where
 cl:(clsIn K C).isSome=true
 ga:findIn K (.ref C) "__getattribute__" =some (some (.builtin "BaseException.__getattribute__"))
 hk:findIn K (.ref C) "__getattr__" =some none
 ca:findIn K (.ref C) "__class__" =some (some (.builtin "object.__class__"))
 mo:mroIn K C (.type "object")=some true
 be:subIn K (.ref C) (.type "BaseException")=some true
section
variable {prog:Program}{w:World}{A:Around}{E:Value->Shared->Prop}{s:Shared}{K:Frag}{a C:Addr}
theorem Qhf{M:Model}{h:Heap}(x:QcR a C h):Looks M h (typeOf (.ref a)) (.ref C):=by
 obtain⟨o,vs,e,c,_⟩:=x
 exact c▸(Looks.ld e).andThen .now
theorem Qtg{R:Result->Shared->Prop}{tp:Value}(z:Qgk K C)(X:K.In s.heap)(x:QcR a C s.heap)(h:R (.ok (.ret (.ref C))) s):
  codeAny (model prog w) A (.call (.builtin "getset_descriptor.__get__") ⟨[.builtin "object.__class__",.ref a,tp],[]⟩) R s:=by
 obtain⟨hh,g,dr,t,os⟩:=s
 have T0:=Qhf (M:=model prog w) x
 have T1:=looks_mroIn (M:=model prog w) X z.mo
 refine codeAny_call_builtin KF.slot_gs.plain KF.entry_gs
  (KF.slot_gs.check _ _ _ _ _ _ _ _ KF.type_class (KF.args_gs _ _ _) ?_)
 unfold Builtin.«getset_descriptor.__get__» Builtin.Getset_descriptor.descrGet
 rw[dga_obj];refine wpAny_bind (wpAny_pure ?_)
 unfold Builtin.Getset_descriptor.descrGetter Builtin.Getset_descriptor.descrCheckInstance
  Builtin.Getset_descriptor.descrNameAndClass isInstance
 simp only[KF.owner_class]
 repeat lk
 refine⟨Code.quiet_builtin _ (by decide+kernel),
  codeAny_builtin KF.entry_class ?_⟩
 unfold Builtin.«object.__class__» shownTypeOf;repeat lk
 exact h
theorem Qpa{tk:Tok}{Q:Fin->Shared->Prop}(z:Qgk K C)(X:K.In s.heap)(x:QcR a C s.heap)(h:Q (.done (.ret (.ref C))) s):
  wpAny (model prog w) A (Builtin.«object.__getattribute__» ⟨[.ref a,.str "__class__" tk],[]⟩) Q E s:=by
 obtain⟨hh,g,dr,t,os⟩:=s
 have T0:=Qhf (M:=model prog w) x
 have T1:=looks_findIn (M:=model prog w) X z.ca
 have f5:=F.typeOf_object_class
 have f6:=F.slot_gs_get.lookup
 have f7:=F.slot_gs_set.lookup
 obtain⟨o,vs,hx,hc,hd⟩:=id x
 have hT5:(⟨hh,g,dr,t,os⟩:Shared).TypeIs (.builtin "object.__class__") "getset_descriptor" :=f5
 repeat (any_goals (first | assumption | (with_reducible refine wpAny_loadPart_at hx ?_;rw[hc]) | with_reducible refine T1.at ?_ | wp_step))
 refine Qtg z X x ?_
 repeat (any_goals (first | assumption | wp_step))
theorem Qqd{M:Model}{nameV:Value}{Q:Unit->Shared->Prop}(z:Qgk K C)(X:K.In s.heap)(x:QcR a C s.heap)(h:Q () s):wpAny M A (checkBuiltinCall "BaseException.__getattribute__" ⟨[.ref a,nameV],[]⟩) Q E s:=by
 obtain⟨hh,g,dr,t,os⟩:=s
 have k1:builtinKind "BaseException.__getattribute__" =some .slot:=by decide+kernel
 have k2:splitId "BaseException.__getattribute__" =some ("BaseException","__getattribute__"):=by decide+kernel
 have T0:=Qhf (M:=M) x
 have T1:=looks_subIn (M:=M) X z.be
 have T2:Looks M hh (isInstance (.ref a) (.type "BaseException")) true:=T0.andThen T1
 have k3:=F.args_bexc_ga (.ref a) nameV
 simp only[checkBuiltinCall,k1,k2]
 refine wpAny_bind (T2.at ?_)
 rw[if_neg (by decide)]
 have k4:Q () ⟨hh,g,dr,t,os⟩:=h
 repeat (any_goals (first | assumption | wp_step))
theorem Qwa{tk:Tok}{Q:Value->Shared->Prop}(z:Qgk K C)(X:K.In s.heap)(x:QcR a C s.heap)(h:Q (.ref C) s):wpAny (model prog w) A (getAttrBy (.ref a) (.str "__class__" tk) false) Q E s:=by
 obtain⟨hh,g,dr,t,os⟩:=s
 have T0:=Qhf (M:=model prog w) x
 have T1:=looks_findIn (M:=model prog w) X z.ga
 have T2:=looks_findIn (M:=model prog w) X z.hk
 have f3:=PySem.F.attr_ValueError.ga.bind (.ref a)
 have n2:(Value.builtin "BaseException.__getattribute__" == Value.builtin "object.__getattribute__")=false:=by decide+kernel
 have n1:(onTheHeap (Value.ref C) && Value.builtin "BaseException.__getattribute__" == Value.builtin "object.__getattribute__")=false:=by rw[n2];rfl
 obtain⟨o,vs,hx,hc,hd⟩:=id x
 repeat (any_goals (first | assumption | (with_reducible refine wpAny_loadPart_at hx ?_;rw[hc]) | with_reducible refine T1.at ?_ | with_reducible refine T2.at ?_ | wp_step))
 refine codeAny_call_builtin PySem.F.attr_ValueError.ga.plain F.entry_bexc_ga (Qqd z X x (Qpa z X x ?_))
 have k4:Q (.ref C) ⟨hh,g,dr,t,os⟩:=h
 repeat (any_goals (first | assumption | wp_step))
theorem Qrl{Q:Option Value->Shared->Prop}(z:Qgk K C)(X:K.In s.heap)(x:QcR a C s.heap)(h:Q (some (.ref C)) {s with toks:=s.toks+1}):wpAny (model prog w) A (getAttr? (.ref a) "__class__") Q E s:=by
 obtain⟨hh,g,dr,t,os⟩:=s
 have k4:Q (some (.ref C)) ⟨hh,g,dr,t+1,os⟩:=h
 have X':K.In (⟨hh,g,dr,t+1,os⟩:Shared).heap:=X
 have x':QcR a C (⟨hh,g,dr,t+1,os⟩:Shared).heap:=x
 unfold getAttr? getAttrBy?
 repeat (any_goals (first | assumption | with_reducible apply Qwa z X' x' | wp_step))
theorem QmT(z:Qgk K C):KitX K (.ref a) (.ref C) (QcR a C) where
 ty:=λ_ _ _ x=>Qhf x
 it:=λ_ _ X _=>by
  have h0:=z.cl
  unfold clsIn at h0
  split at h0
  ·rename_i ho
   intro A' Q' E' s' k q
   unfold isType loadHead
   refine wpAny_bind ?_
   exact wpAny_loadPart (k _ _ (X _ _ ho)) (wpAny_pure q)
  ·cases h0
 ne:=λh tp dd its n sl X htp=>by
  have h0:=z.cl
  refine Bool.eq_false_iff.mpr λq=>?_
  obtain rfl:C=tp:=Value.ref.inj (beq_iff_eq.mp q)
  unfold clsIn at h0
  split at h0
  ·rename_i ho
   have e:=X _ _ ho
   rw[htp]at e
   cases e
  ·cases h0
 ca:=λX x k=>Qrl z X x k
end
end HS
namespace HS
open PySem PySem.Spec L2 PyProof.Rows
def QtB(K:PySem.W.Frag)(x y:Str)(b:Bool):Prop:=∃C c,ClsAt K x C/\PySem.W.KtsName K y c/\PySem.W.exmOne K (.ref C) c=some b/\PySem.W.kitOne K (.ref C) c=some b/\Qgk K C
def QbA(K:PySem.W.Frag)(sub:Str->Str->Option Bool):Prop:=∀x y b,sub x y=some b->QtB K x y b
theorem QbA.ok{K:PySem.W.Frag}{sub:Str->Str->Option Bool}(h:QbA K sub):Qoi K sub:=λx y b e=>by
 obtain⟨C,c,h1,h2,h3,_⟩:=h x y b e
 exact⟨C,c,h1,h2,h3⟩
noncomputable def vC:Value->V
 | .ref a=> .ref a
 | .type n=> .ty n
 | _=> .non
theorem Qm0{K:PySem.W.Frag}{C:Addr}{c:Value}{b:Bool}(h:PySem.W.kitOne K (.ref C) c=some b):RelV (vC c) c:=by
 cases c with
 | ref a=>exact rfl
 | type n=>exact rfl
 | _=>
  unfold PySem.W.kitOne at h
  split at h
  ·rename_i q;have:=beq_iff_eq.mp q;cases this
  ·cases h
noncomputable def anyS(sub:Str->Str->Option Bool)(x:Str):List Str->Option Bool
 | []=>some false
 | y::r=>(sub x y).bind λb=>(anyS sub x r).map λd=>b || d
noncomputable def Qfi(sub:Str->Str->Option Bool)(ys:List Str)(fa:DE):DE:=λρ=>(fa ρ).bind λr=>match r.d with
 | .exc x=>(anyS sub x ys).map λb=>⟨.bl b,true,[]⟩
 | _=>none
section
variable {X:Cx}{a:Expr}{fa:DE}{p p2 pos:Pos}{sub:Str->Str->Option Bool}
noncomputable def Qyl(K:PySem.W.Frag):List V->Hp->VK->Prop:=λxs H Q=>∃C a y,xs=[.ref a,y]/\H a=some (.ext (QcR a C))/\Qgk K C∧
 ((∃c b,y=vC c/\PySem.W.kitOne K (.ref C) c=some b/\Q (.bl b) H)∨∃tp cs b,y= .ref tp/\H tp=some (.tup (cs.map vC))/\(∀c∈cs,RelV (vC c) c)/\PySem.W.kitAny K (.ref C) cs=some b/\Q (.bl b) H)
theorem QlO{v:V}{c c':Value}(hv:v=vC c)(h:RelV (vC c) c)(h':RelV v c'):c'=c:=by
 subst hv
 cases c with
 | ref a=>exact h'
 | type n=>exact h'
 | none=>cases h';rfl
 | _=>cases h
theorem Qmf:∀{cs:List Value}{us:List Value},(∀c∈cs,RelV (vC c) c)->Qq (cs.map vC) us->us=cs
 | [],_,_,.nil=>rfl
 | c::cs,_,h,.cons r t=>by
  rw[QlO rfl (h c Zj) r,Qmf (λc hc=>h c (Zb _ hc)) t]
theorem QrX:QaY X (.builtin "isinstance") (Qyl X.K):=by
 intro pins s σ H xs us Q I r h
 obtain⟨C,a,y,rfl,hH,z,h⟩:=h
 obtain⟨u,w,rfl,ru,rw'⟩:=vals2 r
 cases(show u=Value.ref a from ru)
 have xo:QcR a C s.heap:=(show QaB X.prog X.w H s.heap a (.ext (QcR a C))from I.hok a _ hH).1
 rcases h with⟨c,b,rfl,k,q⟩ | ⟨tp,cs,b,rfl,ht,hr,k,q⟩
 ·cases QlO rfl (Qm0 k) rw'
  exact ZN (QmT z) I.kIn xo k (λz=>nomatch z) λtk=>⟨.bl b,H,I.tok _,rfl,q⟩
 ·cases(show w=Value.ref tp from rw')
  obtain⟨_,its,rv,o,e1,e2,n,e3⟩:=(show QaB X.prog X.w H s.heap tp (.tup (cs.map vC))from I.hok tp _ ht)
  have hits:=Qmf hr rv
  subst hits
  obtain⟨oc,od,odat,osl⟩:=o
  dsimp only at e2 e3
  subst e2 e3
  exact PySem.W.kia_tup (QmT z) I.kIn xo e1 k (λz=>nomatch z) λtk=>⟨.bl b,H,I.tok _,rfl,q⟩
theorem Qpm{y:Str}{c:Value}{np:Pos}(hg:Gl X y)(hdb:(y == ("__debug__" :Str))=false)(k:PySem.W.KtsName X.K y c)(hr:RelV (vC c) c):PE X (.Name y np) (tC (vC c)):=λpins s σ H Q I h=>Qqb I hg hdb k ⟨vC c,H,I,hr,h⟩
theorem Quu{y:Str}(hsub:QbA X.K sub)(hg:Gl X "isinstance")(hm:X.mg "isinstance" =none)(hy:Gl X y)(hdb:(y == ("__debug__" :Str))=false)(ha:SE X a fa)(he:starEach [a,.Name y p2] X.env=(false,eval a X.env)::starEach [.Name y p2] X.env):
  SE X (.Call (.Name "isinstance" p) [a,.Name y p2] [] pos) (Qfi sub [y] fa):=λH0 A0 pins s σ H Q I=>exK λρ hs F r' rel e q=>by
 refine Qc e λr e1 e=>?_
 split at e
 ·rename_i x hd
  obtain⟨b,eb,rfl⟩:=Zc.mp e
  have eb':sub x y=some b:=by
   unfold anyS at eb
   refine Qc eb λb' h1 h2=>?_
   cases b' with
   | true=>cases h2;exact h1
   | false=>cases h2;exact h1
  obtain⟨C,c,k1,k2,k3,k4,k5⟩:=hsub x y b eb'
  refine QfP QrX hg hm ZaF (Qag (ha H0 A0) (Qag (Qpm hy hdb k2 (Qm0 k4)) QbJ) he) (by decide) (by decide) he (by rfl) pins s σ H Q I ?_
  refine⟨ρ,hs,F,r,rel,e1,λv H1 G p=>?_⟩
  have rp:=p.rp
  rw[hd,Rp]at rp
  obtain⟨⟨ea,rfl,C',hC',hH⟩,rfl⟩:=rp
  cases QgG k1 hC'
  exact⟨C,ea,_,rfl,hH,k5,.inl ⟨c,b,rfl,k4,q _ H1 [] (.flat p.same .QcO)⟩⟩
 ·cases e
end
end HS
namespace HS
open PySem PySem.Spec L2 PyProof.Rows
def Qfh(X:Cx)(hΓ:List (Str×FnR)):Prop:=True
theorem Qfh.inH{X:Cx}{hΓ:List (Str×FnR)}{ea:Addr}(h:Qfh X hΓ):Qfh (HS.inH X ea) hΓ:=h
def QmB(P:Program)(w:World)(K:PySem.W.Frag)(mg:Str->Option Value)(base:Heap)(k:Nat)(Γ:List (Str×FnR)):Prop:=True
theorem QmB.nil{P:Program}{w:World}{K:PySem.W.Frag}{mg:Str->Option Value}{base:Heap}{k:Nat}:QmB P w K mg base k []:=trivial
theorem Qxi{X:Cx}{hΓ:List (Str×FnR)}{k:Nat}(hr:QU k X.A)(t:QmB X.prog X.w X.K X.mg X.base k hΓ):Qfh X hΓ:=trivial
noncomputable def QvY:Const->Option DE
 | .bool b=>some (dC (.bl b))
 | _=>none
noncomputable def QyX:List Expr->Option (Expr×Expr)
 | [a,y]=>some (a,y)
 | _=>none
noncomputable def Qwt(Θ:Th):Expr->Option (List Str)
 | .Name y _=>if Θ.gl y=true then some [y]else none
 | _=>none
mutual
noncomputable def Qec(n:Nat)(Θ:Th)(sub:Str->Str->Option Bool)(hΓ:List (Str×FnR))(e:Expr):Option DE:=match n with
 | 0=>none
 | n+1=>match e with
  | .Name x _=>(Θ.slot x).map Qa
  | .Constant v _ _=>QvY v
  | .UnaryOp o a _=>match o with
   | .Not=>(Qec n Θ sub hΓ a).map Qg1
   | _=>none
  | .BoolOp o es p=>match es with
   | []=>none
   | a::r=>match r with
    | []=>Qec n Θ sub hΓ a
    | b::r=>match o with
     | .And=>(Qec n Θ sub hΓ a).bind λfa=>(Qec n Θ sub hΓ (.BoolOp .And (b::r) p)).map λfb=>Qb2 fa fb
     | .Or=>none
  | .Call f as kw _=>match kw with
   | _::_=>none
   | []=>(QD f).bind λx=>if Θ.gl x=true then if x= "isinstance" then(QyX as).bind λp=>(Qwt Θ p.2).bind λys=>(Qec n Θ sub hΓ p.1).map λfa=>Qfi sub ys fa
    else none
    else none
  | _=>none
end
theorem Qxs{n:Nat}{Θ:Th}{sub:Str->Str->Option Bool}{hΓ:List (Str×FnR)}{e:Expr}{f:DE}(h:Qec n Θ sub hΓ e=some f)(es:List Expr)(env:Env):starEach (e::es) env=(false,eval e env)::starEach es env:=by
 cases n with
 | zero=>exact nomatch (show(none:Option DE)=some _ from h)
 | succ n=>cases e<;>first | rfl | exact nomatch (show(none:Option DE)=some _ from h)
theorem Qyj{X:Cx}{Θ:Th}{sub:Str->Str->Option Bool}{a e:Expr}{fa:DE}{ys:List Str}{p pos:Pos}(ok:CtxB X Θ)(hs:QbA X.K sub)(g1:Θ.gl "isinstance" =true)(h:Qwt Θ e=some ys)(ha:SE X a fa)(he:starEach [a,e] X.env=(false,eval a X.env)::starEach [e] X.env):SE X (.Call (.Name "isinstance" p) [a,e] [] pos) (Qfi sub ys fa):=by
 obtain⟨a1,a2,a3⟩:=Qbq ok g1
 cases e with
 | Name y p2=>
  change(if Θ.gl y=true then some [y]else none)=some ys at h
  split at h
  ·rename_i g2
   cases h
   obtain⟨b1,b2,b3⟩:=Qbq ok g2
   exact Quu hs a1 (ok.mg _ (by decide+kernel)) b1 b2 ha he
  ·cases h
 | _=>exact nomatch (show(none:Option (List Str))=some _ from h)
structure QvR (n:Nat):Prop where
 E:∀X Θ sub hΓ e f,CtxB X Θ->QbA X.K sub->Qfh X hΓ->Qec n Θ sub hΓ e=some f->SE X e f
theorem Qw7{n:Nat}(ih:QvR n)(X:Cx)(Θ:Th)(sub:Str->Str->Option Bool)(hΓ:List (Str×FnR))(e:Expr)(f:DE)(ok:CtxB X Θ)(hs:QbA X.K sub)(hu:Qfh X hΓ)(h:Qec (n+1) Θ sub hΓ e=some f):SE X e f:=by
 have ihE:=λe f=>ih.E X Θ sub hΓ e f ok hs hu
 cases e with
 | Name x p=>exact mapR (show Option.map _ _=some _ from h) λi h1=>Ql9 (Qaq ok h1)
 | Constant v k p=>
  change QvY v=some f at h
  cases v with
  | bool b=>cases h;exact Qjl QsI (λ_ _=> .QcO) rfl
  | _=>exact nomatch (show(none:Option DE)=some _ from h)
 | UnaryOp o a p=>
  cases o with
  | Not=>exact mapR (show Option.map _ _=some _ from h) λfa h1=>QqG (ihE _ fa h1)
  | _=>exact nomatch (show(none:Option DE)=some _ from h)
 | BoolOp o es p=>
  cases es with
  | nil=>exact nomatch (show(none:Option DE)=some _ from h)
  | cons a r=>
   cases r with
   | nil=>exact QmQ (ihE _ f h)
   | cons b r=>
    cases o with
    | And=>exact bindR h λfa fb h1 h2=>Qpd (ihE _ fa h1) (ihE _ fb h2)
    | Or=>exact nomatch (show(none:Option DE)=some _ from h)
 | Call fn as kw p=>
  cases kw with
  | cons _ _=>exact nomatch (show(none:Option DE)=some _ from h)
  | nil=>
   refine Qc (show(QD fn).bind _=some _ from h) λx hx h=>Qk0 (G:=λt=>SE X (.Call t as [] p) f) hx λnp=>?_
   split at h
   ·rename_i hg
    split at h
    ·rename_i hi
     subst hi
     refine Qc h λq hq h=>?_
     rcases as with _ | ⟨a,_ | ⟨y,_ | ⟨z,as⟩⟩⟩
     ·cases hq
     ·cases hq
     ·cases hq
      exact bindR h λys fa h1 h2=>Qyj ok hs hg h1 (ihE _ fa h2) (Qxs h2 _ _)
     ·cases hq
    ·cases h
   ·cases h
 | _=>exact nomatch (show(none:Option DE)=some _ from h)
theorem QsF:∀n,QvR n
 | 0=>⟨λ_ _ _ _ _ _ _ _ _ h=>nomatch (show(none:Option DE)=some _ from h)⟩
 | n+1=>⟨Qw7 (QsF n)⟩
noncomputable def Qqi(Θ:Th)(sub:Str->Str->Option Bool)(hΓ:List (Str×FnR))(st:Stmt):Option DS:=match st with
 | .Assign ts e _=>(QqU ts).bind λx=>(Θ.QaX x).bind λi=>if Qhx e=false/\QdE e=true then(Qec 20 Θ sub hΓ e).map λfa=>Qs i fa else none
 | _=>none
theorem Qpr{X:Cx}{Θ:Th}{sub:Str->Str->Option Bool}{hΓ:List (Str×FnR)}{st:Stmt}{f:DS}(ok:CtxB X Θ)(hs:QbA X.K sub)(hu:Qfh X hΓ)(h:Qqi Θ sub hΓ st=some f):S1 X st f:=by
 cases st with
 | Assign ts e p=>
  refine Qc (show(QqU ts).bind _=some _ from h) λx hx h'=>?_
  clear h
  rcases ts with _ | ⟨t,_ | ⟨t2,ts⟩⟩
  ·cases hx
  ·refine Qk0 (G:=λt=>S1 X (.Assign [t] e p) f) hx λq=>?_
   refine Qc h' λi hi h=>?_
   split at h
   ·rename_i hc
    refine mapR h λfa h1=>?_
    obtain⟨a1,a2,a3⟩:=QaU ok hi
    exact QgE λH0 A0=>QdV (by rw[ok.N];exact ok.nd) a1 a2 ((QsF 20).E X Θ sub hΓ _ fa ok hs hu h1 H0 A0) (QbC hc.2) a3
   ·cases h
  ·cases hx
 | _=>exact nomatch (show(none:Option DS)=some _ from h)
noncomputable def Qmz(Θ:Th)(sub:Str->Str->Option Bool)(hΓ:List (Str×FnR)):List Stmt->Option DS
 | []=>some Qj
 | st::r=>(Qqi Θ sub hΓ st).bind λf=>(Qmz Θ sub hΓ r).map λg=>Qf f g
theorem QkK{X:Cx}{Θ:Th}{sub:Str->Str->Option Bool}{hΓ:List (Str×FnR)}(ok:CtxB X Θ)(hs:QbA X.K sub)(hu:Qfh X hΓ):∀(sts:List Stmt) (f:DS),Qmz Θ sub hΓ sts=some f->SS X sts f
 | [],f,h=>by cases(show some Qj=some f from h);exact QpN
 | st::r,f,h=>bindR h λf g h1 h2=>QjW (Qpr ok hs hu h1) (QkK ok hs hu r g h2)
noncomputable def hd1(Θ:Th)(y:Str)(f:DS):Option Str->Option Hd
 | none=>some (y,none,f)
 | some nm=>if look nm Θ.sc=some .local then(Θ.QaX nm).map λi=>(y,some i,f)else none
noncomputable def Qms(Θ:Th)(sub:Str->Str->Option Bool)(hΓ:List (Str×FnR)):List ExceptHandler->Option (List Hd)
 | []=>some []
 | .ExceptHandler t nm bs _::r=>match bs with
  | []=>none
  | b::bs=>t.bind λt=>(QD t).bind λy=>if Θ.gl y=true then(Qmz Θ sub hΓ (b::bs)).bind λf=>(hd1 Θ y f nm).bind λq=>(Qms Θ sub hΓ r).map λl=>q::l else none
theorem QrM{X:Cx}{Θ:Th}{ea:Addr}(ok:CtxB X Θ):CtxB (inH X ea) Θ:=⟨ok.N,ok.nd,ok.lc,ok.ce,ok.fe,ok.gl,ok.units,ok.mg,ok.cs⟩
theorem Qky{X:Cx}{Θ:Th}{sub:Str->Str->Option Bool}{hΓ:List (Str×FnR)}(ok:CtxB X Θ)(hs:QbA X.K sub)(hu:Qfh X hΓ):∀(hds:List ExceptHandler) (hl:List Hd),Qms Θ sub hΓ hds=some hl->Qfa X hds hl
 | [],f,h=>by cases(show some []=some f from h);exact .nil
 | .ExceptHandler t nm bs p::r,l,h=>by
  cases bs with
  | nil=>exact nomatch (show(none:Option (List Hd))=some _ from h)
  | cons b bs=>
   refine Qc (show t.bind _=some _ from h) λt ht h=>?_
   cases ht
   refine Qc h λy hy h=>Qk0 (G:=λt=>Qfa X (.ExceptHandler (some t) nm (b::bs) p::r) l) hy λnp=>?_
   split at h
   ·rename_i hc
    obtain⟨g1,g2,_⟩:=Qbq ok hc
    refine Qc h λf h1 h=>?_
    refine bindR h λq l hq h2=>?_
    have hS:=λea=>QkK (QrM (ea:=ea) ok) hs hu.inH _ f h1
    have tl:=Qky ok hs hu r l h2
    cases nm with
    | none=>cases(show some (y,none,f)=some q from hq);exact .bare g1 g2 hS tl
    | some nm=>
     change(if look nm Θ.sc=some .local then(Θ.QaX nm).map λi=>(y,some i,f)else none)=some q at hq
     split at hq
     ·rename_i hn
      refine mapR (M:=λq=>Qfa X (.ExceptHandler (some (.Name y np)) (some nm) (b::bs) p::r) (q::l)) hq λi hi=>?_
      obtain⟨a1,a2,a3⟩:=QaU ok hi
      exact .as g1 g2 a1 (ok.lc nm hn) hS tl
     ·cases hq
   ·cases h
theorem Qta{X:Cx}{Θ:Th}{xe:Value->Shared->Prop}{pn:List (Addr×Obj)}(ok:Qt X Θ)(ht:∀st f,Θ.tr st=some f->∀X,S1 X st f)(hte:∀e f,Θ.te e=some f->∀X,SE X e f)(hp:PassesOwn (model X.prog X.w) X.A X.env xe):Qt (Cx.chg X xe pn) Θ:=
 ⟨⟨ok.N,ok.nd,ok.lc,ok.ce,ok.fe,ok.gl,ok.units,ok.mg,ok.cs⟩,ok.calm,hp,ok.fns,λst f h=>ht st f h _,λe f h=>hte e f h _⟩
section
variable {P:Program}{w:World}{K:PySem.W.Frag}{mg:Str->Option Value}{base:Heap}
end
end HS
namespace HS
open PySem PySem.Spec L2 PyProof.Rows
section
variable {K:PySem.W.Frag}{x y:Str}{C C':Addr}{v:Bool}
theorem QuE(a:PySem.W.nsIn K mainGlobals x=some (some (.ref C)))(b:PySem.W.excIn K C [.type "ValueError",.type "Exception",.type "BaseException",.type "object"] "ValueError.__new__" =true):QgL K x:=⟨⟨C,a,b⟩⟩
def XK1(K:PySem.W.Frag)(x:Str):Prop:=∃C,ClsAt K x C/\Qgk K C
theorem Qs4(a:PySem.W.nsIn K mainGlobals x=some (some (.ref C)))(h1:PySem.W.isClsIn K C=true)(h2:PySem.W.findIn K (.ref C) "__getattribute__" =some (some (.builtin "BaseException.__getattribute__")))(h3:PySem.W.findIn K (.ref C) "__getattr__" =some none)
  (h4:PySem.W.findIn K (.ref C) "__class__" =some (some (.builtin "object.__class__"))) (h5:PySem.W.mroIn K C (.type "object")=some true) (h6:PySem.W.subIn K (.ref C) (.type "BaseException")=some true):XK1 K x:=⟨C,a,h1,h2,h3,h4,h5,h6⟩
def QkW(K:PySem.W.Frag)(x y:Str)(b:Bool):Prop:=∃C c,ClsAt K x C/\PySem.W.KtsName K y c/\PySem.W.exmOne K (.ref C) c=some b/\PySem.W.kitOne K (.ref C) c=some b
theorem Qds(a:PySem.W.nsIn K mainGlobals x=some (some (.ref C)))(b:PySem.W.nsIn K mainGlobals y=some (some (.ref C')))(c:PySem.W.exmOne K (.ref C) (.ref C')=some v)(d:PySem.W.kitOne K (.ref C) (.ref C')=some v):QkW K x y v:=⟨C,_,a,.inl b,c,d⟩
theorem QnD(a:PySem.W.nsIn K mainGlobals x=some (some (.ref C)))(b:PySem.W.nsIn K mainGlobals "ValueError" =some none)(c:PySem.W.exmOne K (.ref C) (.type "ValueError")=some v)(d:PySem.W.kitOne K (.ref C) (.type "ValueError")=some v):QkW K x "ValueError" v:=
 ⟨C,_,a,.inr ⟨b,PyProof.Rows.Boot.«ValueError»,by decide⟩,c,d⟩
noncomputable def Qj1(K:PySem.W.Frag)(x:Str):List (Str×Bool)->Prop
 | []=>True
 | q::r=>QkW K x q.1 q.2/\Qj1 K x r
noncomputable def SubL(K:PySem.W.Frag):List (Str×List (Str×Bool))->Prop
 | []=>True
 | q::r=>(XK1 K q.1/\Qj1 K q.1 q.2)/\SubL K r
noncomputable def QsL(tab:List (Str×List (Str×Bool))):Str->Str->Option Bool:=λx y=>(look x tab).bind λr=>look y r
theorem Qiw{α:Type}:∀{x:Str}{l:List (Str×α)}{a:α},look x l=some a->(x,a)∈l
 | x,[],a,h=>by cases h
 | x,(y,b)::r,a,h=>by
  unfold look at h
  split at h
  ·rename_i e;cases h;subst e;exact Zj
  ·exact Zb _ (Qiw h)
theorem Qj1.mem:∀{r:List (Str×Bool)},Qj1 K x r->∀q∈r,QkW K x q.1 q.2
 | [],_,q,h=>by simp at h
 | p::r,h,q,hq=>by
  rcases Zo.mp hq with rfl | hq
  ·exact h.1
  ·exact Qj1.mem h.2 q hq
theorem SubL.mem:∀{t:List (Str×List (Str×Bool))},SubL K t->∀q∈t,XK1 K q.1/\Qj1 K q.1 q.2
 | [],_,q,h=>by simp at h
 | p::r,h,q,hq=>by
  rcases Zo.mp hq with rfl | hq
  ·exact h.1
  ·exact SubL.mem h.2 q hq
theorem Qt6{tab:List (Str×List (Str×Bool))}(h:SubL K tab):QbA K (QsL tab):=λx y b e=>by
 refine Qc e λr h1 h2=>?_
 obtain⟨⟨C,k1,k2⟩,k3⟩:=h.mem _ (Qiw h1)
 obtain⟨C',c,m1,m2,m3,m4⟩:=k3.mem _ (Qiw h2)
 cases QgG k1 m1
 exact⟨C,c,k1,m2,m3,m4,k2⟩
noncomputable def Qwe(K:PySem.W.Frag):List Str->Prop
 | []=>True
 | x::r=>QgL K x/\Qwe K r
theorem QnU:∀{l:List Str},Qwe K l->∀x∈l,QgL K x
 | [],_,x,h=>by simp at h
 | y::l,h,x,hx=>by
  rcases Zo.mp hx with rfl | hx
  ·exact h.1
  ·exact QnU h.2 x hx
end
end HS
namespace HS
open PySem PySem.Spec L2
def Ap(f:DS)(fx:DX):Prop:=∀ρ,fx ρ≠none->f ρ=none
def ApF(d:Den)(xd:List D->Option Str):Prop:=∀ds,xd ds≠none->d ds=none
theorem QdL{f:DS}:Ap f xNo:=λρ h=>absurd rfl h
theorem Qbm{x:Str}{fs:DA}:Ap QE (QdR x fs):=λρ h=>rfl
theorem QcD{f g:DS}{fx gx:DX}(a:Ap f fx)(b:Ap g gx):Ap (Qf f g) (QaN f fx gx):=λρ h=>by
 unfold QaN at h
 unfold Qf
 split at h
 ·rename_i ρ' e
  rw[e]
  exact b ρ' h
 ·exact absurd rfl h
 ·rename_i e
  rw[e];rfl
theorem Qe4{c:DT}{f g:DS}{fx gx:DX}(a:Ap f fx)(b:Ap g gx):Ap (sIf c f g) (xIf c fx gx):=λρ h=>by
 unfold xIf at h
 unfold sIf
 cases e:c ρ with
 | none=>rfl
 | some v=>
  rw[e,Za]at h
  rw[Za]
  cases v with
  | true=>rw[if_pos rfl]at h ⊢;exact a ρ h
  | false=>rw[if_neg ZV]at h ⊢;exact b ρ h
theorem QcC{fi:DI}{t:Tg}{fb:DS}{fx:DX}(a:Ap fb fx):Ap (QaT fi t fb) (Qg5 fi t fb fx):=λρ h=>by
 unfold Qg5 at h
 unfold QaT
 cases e:fi ρ with
 | none=>rfl
 | some ir=>
  rw[e,Za]at h
  rw[Za]
  clear e
  revert h
  generalize ir.items=ds
  generalize Qba ir.M ρ=ρ0
  induction ds generalizing ρ0 with
  | nil=>exact λh=>absurd rfl h
  | cons d ds ih=>
   intro h
   unfold QdH at h
   unfold Qbb
   cases e1:QaS t d ρ0 with
   | none=>rfl
   | some ρ1=>
    rw[e1,Za]at h
    rw[Za]
    split at h
    ·rename_i ρ2 e2;rw[e2,Za];exact ih ρ2 h
    ·rename_i ρ2 e2;rw[e2,Za];exact ih ρ2 h
    ·exact absurd rfl h
    ·rename_i e2;rw[e2];rfl
theorem Qhq{n:Nat}{d:Den}{xd:List D->Option Str}{fs:DA}(a:ApF d xd){ρ:En}(h:QbD n xd fs ρ≠none):Qz n d [] fs ρ=none:=by
 unfold QbD at h
 unfold Qz
 cases e:fs ρ with
 | none=>rfl
 | some r=>
  rw[e,Za]at h
  rw[Za]
  split at h
  ·rename_i hl
   rw[if_pos (by simpa using hl),ZD,a r.ds (λz=>h (by rw[z];rfl))];rfl
  ·exact absurd rfl h
theorem Qbf{n:Nat}{d:Den}{xd:List D->Option Str}{fs:DA}(a:ApF d xd):Ap (Qc7 (Qz n d [] fs)) (QbD n xd fs):=λρ h=>by unfold Qc7;rw[Qhq a h];rfl
theorem QcE{n i:Nat}{d:Den}{xd:List D->Option Str}{fs:DA}(a:ApF d xd):Ap (Qs i (Qz n d [] fs)) (QbD n xd fs):=λρ h=>by unfold Qs;rw[Qhq a h];rfl
theorem QcM{n:Nat}{d:Den}{xd:List D->Option Str}{fs:DA}(a:ApF d xd):Ap (Q3 (Qz n d [] fs)) (QbD n xd fs):=λρ h=>by unfold Q3;rw[Qhq a h];rfl
theorem Qo7{k:Nat}{f:DS}{fx:DX}(a:Ap f fx):ApF (Qw k f) (QaF k fx):=λds h=>by
 unfold QaF at h
 unfold Qw
 rw[a _ λz=>h (by rw[z];rfl)];rfl
def QdD(f:DX)(ρ:En)(x:Str):Prop:=∃ρ',f ρ=some (x,ρ')
theorem QmH{x:Str}{fs:DA}{ρ:En}{r:RA}(h:fs ρ=some r)(hl:r.ds.length<=1):QdD (QdR x fs) ρ x:=⟨ρ,by unfold QdR;rw[h,Za,if_pos hl]⟩
theorem Qcs{n:Nat}{xd:List D->Option Str}{fs:DA}{ρ:En}{r:RA}{x:Str}(h:fs ρ=some r)(hl:r.ds.length=n)(hx:xd r.ds=some x):QdD (QbD n xd fs) ρ x:=⟨ρ,by unfold QbD;rw[h,Za,if_pos hl,hx];rfl⟩
theorem Qs2{g:DT}{fa fb:DX}{b:Bool}{ρ:En}{x:Str}(h:g ρ=some b)(q1:b=true->QdD fa ρ x)(q2:b=false->QdD fb ρ x):QdD (xIf g fa fb) ρ x:=by
 cases b with
 | true=>obtain⟨o,h1⟩:=q1 rfl;exact⟨o,by simp[xIf,h,h1]⟩
 | false=>obtain⟨o,h1⟩:=q2 rfl;exact⟨o,by simp[xIf,h,h1]⟩
theorem QaG{f:DS}{fx fr:DX}{ρ:En}{x:Str}(a:Ap f fx)(q:QdD fx ρ x):QdD (QaN f fx fr) ρ x:=by
 obtain⟨o,h⟩:=q
 exact⟨o,by unfold QaN;rw[a ρ (by rw[h];exact λz=>by cases z)];exact h⟩
theorem Qtx{f:DS}{fx fr:DX}{ρ:En}{x:Str}(h:Run f ρ (Nx λρ'=>QdD fr ρ' x)):QdD (QaN f fx fr) ρ x:=by
 obtain⟨o,h1,h2⟩:=h
 cases o with
 | nx ρ'=>obtain⟨o,h3⟩:=h2;exact⟨o,by unfold QaN;rw[h1];exact h3⟩
 | _=>exact h2.elim
theorem Qp8{α:Type}{fi:DI}{t:Tg}{fb:DS}{fx:DX}{toD:α->D}{ρ:En}{ir:IR}{c:Str}(a:Ap fb fx)(xs:List α)(I:Nat->En->Prop)(k:Nat)(hk:k<xs.length)(h:fi ρ=some ir)(hx:ir.items=xs.map toD)(h0:I 0 (Qba ir.M ρ))
  (turn:∀i x ρ,i<k->xs[i]? =some x->I i ρ->∃ρ1,QaS t (toD x) ρ=some ρ1/\Run fb ρ1 (Nx λρ2=>I (i+1) ρ2))
  (here:∀x ρ,xs[k]? =some x->I k ρ->∃ρ1,QaS t (toD x) ρ=some ρ1/\QdD fx ρ1 c):QdD (Qg5 fi t fb fx) ρ c:=by
 unfold QdD Qg5
 rw[h,Za,hx]
 clear h hx
 have gen:∀(n:Nat) (i:Nat) (ρ:En),k-i=n->i<=k->I i ρ->∃ρ',QdH t fb fx ((xs.drop i).map toD) ρ=some (c,ρ'):=by
  intro n
  induction n with
  | zero=>
   intro i ρ e hi hI
   obtain rfl:i=k:=by omega
   rw[ZK hk,Zw]
   unfold QdH
   obtain⟨ρ1,e1,ρ2,e2⟩:=here xs[i] ρ (by simp[hk]) hI
   refine⟨ρ2,?_⟩
   rw[e1,Za,a ρ1 (by rw[e2];exact λz=>by cases z)]
   exact e2
  | succ n ih=>
   intro i ρ e hi hI
   have hlt:i<xs.length:=by omega
   rw[ZK hlt,Zw]
   unfold QdH
   obtain⟨ρ1,e1,o,e2,e3⟩:=turn i xs[i] ρ (by omega) (by simp[hlt]) hI
   cases o with
   | nx ρ2=>
    obtain⟨ρ',e4⟩:=ih (i+1) ρ2 (by omega) (by omega) e3
    exact⟨ρ',by rw[e1,Za,e2];exact e4⟩
   | _=>exact e3.elim
 have:=gen (k-0) 0 _ rfl (ZT _) h0
 simpa using this
theorem Qc9{k:Nat}{f:DX}{ds:List D}{x:Str}(h:QdD f (Qad k ds) x):QaF k f ds=some x:=by
 obtain⟨ρ,e⟩:=h
 unfold QaF
 rw[e];rfl
theorem Qlz{f:DS}{fx:DX}{sub:Str->Str->Option Bool}{y:Str}{i:Nat}{h:DS}{r:List Hd}{x:Str}{ρ ρ':En}{Q:Out->Prop}(a:Ap f fx)(e:fx ρ=some (x,ρ'))(hs:sub x y=some true)(q:Run h (ρ'.set i (some (.exc x,true))) λo=>Q (Qwc i o)):Run (QhZ f fx sub ((y,some i,h)::r)) ρ Q:=by
 obtain⟨o,h1,h2⟩:=q
 refine⟨_,?_,h2⟩
 unfold QhZ
 rw[a ρ (by rw[e];exact λz=>by cases z)]
 dsimp only
 rw[e,Za]
 unfold QoK
 rw[hs,Za,if_pos rfl]
 dsimp only
 rw[h1];rfl
noncomputable def QdM:DX:=(QaN (QaT (Qaf (Qa 1)) (.nm 2) (Qf (sIf (QA (dOp gNe (dBf QaO (Qb (Qa 2) Qe)) (Qu (Qa 0) (dC (.int 0))))) (Qf QE Qj) Qj) Qj)) (Qg5 (Qaf (Qa 1)) (.nm 2) (Qf (sIf (QA (dOp gNe (dBf QaO (Qb (Qa 2) Qe)) (Qu (Qa 0) (dC (.int 0))))) (Qf QE Qj) Qj) Qj) (QaN (sIf (QA (dOp gNe (dBf QaO (Qb (Qa 2) Qe)) (Qu (Qa 0) (dC (.int 0))))) (Qf QE Qj) Qj) (xIf (QA (dOp gNe (dBf QaO (Qb (Qa 2) Qe)) (Qu (Qa 0) (dC (.int 0))))) (QaN QE (QdR "NoRow" (Qb (dC (.str "a row has one number for each place of the net, a full row one more")) Qe)) xNo) xNo) xNo)) xNo)
theorem Quw:ApF (Qw 3 QcG) (QaF 3 QdM):=Qo7 (by unfold QcG QdM;repeat (first | exact QdL | exact Qbm | assumption | apply QcD | apply Qe4 | apply QcC | apply Qbf | apply QcE | apply QcM))
def Qos(xd:List D->Option Str):Prop:=∀(m:Int) (R L:List (Int×Int)) (xs:List (List D)) (k:Nat),k<xs.length->(∀i x,i<k->xs[i]? =some x->(x.length:Int)=m)->(∀x,xs[k]? =some x->(x.length:Int)≠m)->xd [Qi m R L,.lst (xs.map .lst)]=some "NoRow"
theorem QrV:Qos (QaF 3 QdM):=λm R L xs k hk h1 h2=>by
 refine Qc9 (QaG (QcC (by repeat (first | exact QdL | exact Qbm | assumption | apply QcD | apply Qe4 | apply QcC | apply Qbf | apply QcE | apply QcM))) (Qp8 (by repeat (first | exact QdL | exact Qbm | assumption | apply QcD | apply Qe4 | apply QcC | apply Qbf | apply QcE | apply QcM)) (toD:=λx=> .lst x) xs (λ_ ρ=>∃j2,ρ=[some (Qi m R L,false),some (.lst (xs.map .lst),false),j2]) k hk (ir:=⟨xs.map .lst,[]⟩) rfl rfl ⟨none,rfl⟩ ?_ ?_))
 ·rintro i x ρ hi hx ⟨j2,rfl⟩
  refine⟨_,rfl,?_⟩
  refine run_seq (Qac (b:=false) (QG (Qgx (QcH (xs:=x) (r:=⟨.lst x,false,[]⟩) rfl rfl) rfl (QcZ (m:=m) (R:=R) (L:=L) (r:=⟨Qi m R L,false,[]⟩) rfl rfl).1 rfl) (by simp[h1 i x hi hx])) (λh=>by cases h) (λ_=>Qp (Qp ⟨_,rfl⟩)))
 ·rintro x ρ hx ⟨j2,rfl⟩
  refine⟨_,rfl,?_⟩
  refine QaG (by repeat (first | exact QdL | exact Qbm | assumption | apply QcD | apply Qe4 | apply QcC | apply Qbf | apply QcE | apply QcM)) (Qs2 (b:=true) (QG (Qgx (QcH (xs:=x) (r:=⟨.lst x,false,[]⟩) rfl rfl) rfl (QcZ (m:=m) (R:=R) (L:=L) (r:=⟨Qi m R L,false,[]⟩) rfl rfl).1 rfl) (by simp[h2 x hx])) (λ_=>?_) (λh=>by cases h))
  exact QaG Qbm (QmH rfl (Zq _))
end HS
namespace HS
open PySem L2
theorem QgF{sub:Str->Str->Option Bool}{ys:List Str}{fa:DE}{ρ:En}{x:Str}{b:Bool}(h:fa ρ=some ⟨.exc x,true,[]⟩)(hs:anyS sub x ys=some b):Qfi sub ys fa ρ=some ⟨.bl b,true,[]⟩:=by
 unfold Qfi
 rw[h,Za]
 dsimp only
 rw[hs];rfl
theorem any_cons{sub:Str->Str->Option Bool}{x y:Str}{ys:List Str}{b c:Bool}(h:sub x y=some b)(t:anyS sub x ys=some c):anyS sub x (y::ys)=some (b || c):=by
 unfold anyS
 rw[h,Za,t];rfl
theorem Qgw{t:Int}{v:Nat}:∀(S:List (Int×Int)) (F:Nat->Option Int),S.foldl (QcQ t) F v=if F v=none/\∃s∈S,s.1.toNat=v/\F s.2.toNat=some t then some (t+1)else F v
 | [],F=>by simp
 | s::S,F=>by
  rw[ZbC,Qgw S]
  have key:∀w,(QcQ t F s w=some t↔F w=some t):=λw=>by
   unfold QcQ
   split
   ·rename_i h
    unfold upO
    split
    ·rename_i e;subst e;rw[h.1];simp;omega
    ·exact Iff.rfl
   ·exact Iff.rfl
  by_cases c:F s.1.toNat=none/\F s.2.toNat=some t
  ·by_cases hv:v=s.1.toNat
   ·have e1:QcQ t F s v=some (t+1):=by unfold QcQ upO;rw[if_pos c,if_pos hv]
    rw[if_neg (by rw[e1];simp),e1,if_pos ⟨by rw[hv];exact c.1,s,Zj,hv.symm,c.2⟩]
   ·have e1:QcQ t F s v=F v:=by unfold QcQ upO;rw[if_pos c,if_neg hv]
    rw[e1]
    simp only[key]
    by_cases h:F v=none/\∃s'∈S,s'.1.toNat=v/\F s'.2.toNat=some t
    ·obtain⟨h1,s',h2,h3⟩:=h
     rw[if_pos ⟨h1,s',h2,h3⟩,if_pos ⟨h1,s',Zb _ h2,h3⟩]
    ·rw[if_neg h,if_neg]
     rintro⟨h1,s',h2,h3,h4⟩
     rcases Zo.mp h2 with rfl | h2
     ·exact hv h3.symm
     ·exact h ⟨h1,s',h2,h3,h4⟩
  ·have e1:QcQ t F s=F:=by unfold QcQ;rw[if_neg c]
   rw[e1]
   by_cases h:F v=none/\∃s'∈S,s'.1.toNat=v/\F s'.2.toNat=some t
   ·obtain⟨h1,s',h2,h3⟩:=h
    rw[if_pos ⟨h1,s',h2,h3⟩,if_pos ⟨h1,s',Zb _ h2,h3⟩]
   ·rw[if_neg h,if_neg]
    rintro⟨h1,s',h2,h3,h4⟩
    rcases Zo.mp h2 with rfl | h2
    ·exact c ⟨h3▸h1,h4⟩
    ·exact h ⟨h1,s',h2,h3,h4⟩
structure QyW (m:Nat) (S:List (Int×Int)) (t:Nat) (F:Nat->Option Int):Prop where
 pit:F m=some 0
 val:∀v d,F v=some d->0<=d/\d<=t/\v<=m/\(v≠m->1<=d)
 pred:∀v d,v≠m->F v=some d->∃s∈S,s.1.toNat=v/\F s.2.toNat=some (d-1)
 low:∀v d,v≠m->F v=some d->∀s∈S,s.1.toNat=v->∀e,F s.2.toNat=some e->d-1<=e
 non:∀v,F v=none->∀s∈S,s.1.toNat=v->∀e,F s.2.toNat=some e->e=t
theorem Qv8{m:Nat}{S:List (Int×Int)}(hS:∀s∈S,Good m s):∀t,QyW m S t (Qbp S (QbG m) t)
 | 0=>by
  have z:∀v d,QbG m v=some d->v=m/\d=0:=λv d h=>by
   unfold QbG at h
   split at h
   ·cases h;exact⟨by assumption,rfl⟩
   ·cases h
  refine⟨by simp[Qbp,QbG],λv d h=>?_,λv d hv h=>?_,λv d hv h=>?_,λv h s hs e1 e h2=>?_⟩
  ·obtain⟨rfl,rfl⟩:=z v d h;exact⟨by omega,by omega,by omega,λh=>absurd rfl h⟩
  ·exact absurd (z v d h).1 hv
  ·exact absurd (z v d h).1 hv
  ·obtain⟨_,rfl⟩:=z _ _ h2;rfl
 | t+1=>by
  have I:=Qv8 hS t
  generalize hF:Qbp S (QbG m) t=F at I
  have nx:∀v,Qbp S (QbG m) (t+1) v=if F v=none/\∃s∈S,s.1.toNat=v/\F s.2.toNat=some (t:Int)then some ((t:Int)+1)else F v:=λv=>by
   show S.foldl (QcQ t) (Qbp S (QbG m) t) v=_
   rw[Qgw,hF]
  generalize Qbp S (QbG m) (t+1)=F' at nx
  have old:∀v d,F v=some d->F' v=some d:=λv d h=>by rw[nx,if_neg (by rw[h];simp)];exact h
  have new:∀v d,F' v=some d->F v=some d∨(F v=none/\d=t+1/\∃s∈S,s.1.toNat=v/\F s.2.toNat=some (t:Int)):=λv d h=>by
   rw[nx]at h
   split at h
   ·rename_i c;cases h;exact .inr ⟨c.1,rfl,c.2⟩
   ·exact .inl h
  refine⟨old _ _ I.pit,λv d h=>?_,λv d hv h=>?_,λv d hv h s hs e1 e h2=>?_,λv h s hs e1 e h2=>?_⟩
  ·rcases new v d h with h | ⟨h,rfl,s,hs,e1,_⟩
   ·obtain⟨a,b,c,d⟩:=I.val v d h;exact⟨a,by omega,c,d⟩
   ·have g:=hS s hs
    exact⟨by omega,by omega,by have:=g.2.2.1;have:=g.1;omega,λ_=>by omega⟩
  ·rcases new v d h with h | ⟨h,rfl,s,hs,e1,e2⟩
   ·obtain⟨s,hs,e1,e2⟩:=I.pred v d hv h
    exact⟨s,hs,e1,old _ _ e2⟩
   ·exact⟨s,hs,e1,by rw[old _ _ e2];congr 1;omega⟩
  ·rcases new v d h with h | ⟨hq,rfl,_⟩
   ·rcases new _ e h2 with h2 | ⟨_,rfl,_⟩
    ·exact I.low v d hv h s hs e1 e h2
    ·have:=(I.val v d h).2.1;omega
   ·rcases new _ e h2 with h2 | ⟨_,rfl,_⟩
    ·have:=I.non v hq s hs e1 e h2;omega
    ·omega
  ·rw[nx]at h
   split at h
   ·cases h
   ·rename_i c
    rcases new _ e h2 with h2 | ⟨_,rfl,_⟩
    ·exact absurd ⟨h,s,hs,e1,by rw[h2,I.non v h s hs e1 e h2]⟩ c
    ·omega
theorem Qh6:∀(m:Nat) (l:List Nat),l.Nodup->(∀x∈l,x<m)->l.length<=m
 | 0,l,_,h=>by cases l with
  | nil=>simp
  | cons x l=>exact absurd (h x Zj) (by omega)
 | m+1,l,nd,h=>by
  by_cases hm:m∈l
  ·have:=Qh6 m (l.erase m) (nd.erase m) λx hx=>by
    have h1:=h x (List.mem_of_mem_erase hx)
    have h2:x≠m:=λz=>by subst z;exact(List.Nodup.not_mem_erase nd) hx
    omega
   rw[List.length_erase_of_mem hm]at this
   omega
  ·have:=Qh6 m l nd λx hx=>by
    have h1:=h x hx
    have h2:x≠m:=λz=>hm (z▸hx)
    omega
   omega
theorem QsA{m:Nat}{S:List (Int×Int)}(m0:0<m)(hS:∀s∈S,Good m s){v:Nat}(hv:v<m)(hn:Qbp S (QbG m) m v=none):∀s∈S,s.1.toNat=v->Qbp S (QbG m) m s.2.toNat=none:=λs hs e1=>by
 have I:=Qv8 hS m
 generalize Qbp S (QbG m) m=F at I hn
 cases h:F s.2.toNat with
 | none=>rfl
 | some e=>
  exfalso
  have he:=I.non v hn s hs e1 e h
  have chain:∀k:Nat,k<=m->∃w,F w=some ((m:Int)-k):=λk=>by
   induction k with
   | zero=>intro _;exact⟨_,by rw[h,he];simp⟩
   | succ k ih=>
    intro hk
    obtain⟨w,hw⟩:=ih (by omega)
    have hwm:w≠m:=λz=>by rw[z,I.pit]at hw;have:=Option.some.inj hw;omega
    obtain⟨s',_,_,h2⟩:=I.pred w _ hwm hw
    exact⟨_,by rw[h2];congr 1;omega⟩
  have pick:∀k:Nat,∃w,k<m->F w=some ((k:Int)+1):=λk=>by
   by_cases hk:k<m
   ·obtain⟨w,hw⟩:=chain (m-(k+1)) (by omega)
    exact⟨w,λ_=>by rw[hw];congr 1;omega⟩
   ·exact⟨0,λz=>absurd z hk⟩
  obtain⟨f,this⟩:=Zbu pick
  have hl:=Qh6 m (v::(List.range m).map f) ?_ ?_
  ·simp at hl;omega
  ·refine ZJ.mpr ⟨λhm=>?_,?_⟩
   ·obtain⟨k,hk,ek⟩:=ZX.mp hm
    have:=this k (ZQ.mp hk)
    rw[ek,hn]at this;cases this
   ·rw[List.nodup_iff_pairwise_ne,List.pairwise_map]
    refine List.Pairwise.imp_of_mem ?_ List.nodup_range
    intro a b ha hb hab e
    have h1:=this a (ZQ.mp ha)
    have h2:=this b (ZQ.mp hb)
    rw[e,h2]at h1
    have:=Option.some.inj h1
    omega
  ·intro x hx
   rcases Zo.mp hx with rfl | hx
   ·exact hv
   ·obtain⟨k,hk,rfl⟩:=ZX.mp hx
    have h1:=this k (ZQ.mp hk)
    have h2:=I.val _ _ h1
    have h3:f k≠m:=λz=>by rw[z,I.pit]at h1;have:=Option.some.inj h1;omega
    omega
structure Qzi (m:Nat) (S:List (Int×Int)) (F:Nat->Option Int):Prop where
 pit:F m=some 0
 non:∀v,v<m->F v=none->∀s∈S,s.1.toNat=v->F s.2.toNat=none
 pred:∀v d,v<m->F v=some d->∃s∈S,s.1.toNat=v/\F s.2.toNat=some (d-1)
 low:∀v d,v<m->F v=some d->∀s∈S,s.1.toNat=v->∀e,F s.2.toNat=some e->d-1<=e
theorem Qtt(xs:List D):deq (.lst xs) (.lst [])=xs.isEmpty:=by
 cases xs with
 | nil=>rfl
 | cons x xs=>rfl
theorem Qmg(n:Nat)(ns:List Int):(Qo ns).sim (n+1)=true:=by
 unfold Qo
 simp only[D.sim,List.all_map,Zac]
 intro p _
 cases n<;>rfl
noncomputable def Qoz(m:Int)(s:Int×Int):Bool:=decide (0<=s.1) && decide (0<=s.2) && decide (s.1<=m) && decide (s.2<=m) && !decide (s.1=s.2)
theorem Qri{m:Nat}{s:Int×Int}(h:Good m s):Qoz m s=true:=by
 unfold Qoz
 simp only[Zg,decide_eq_true_eq,ZO,decide_eq_false_iff_not]
 exact⟨⟨⟨⟨h.1,h.2.1⟩,h.2.2.1⟩,h.2.2.2.1⟩,h.2.2.2.2⟩
structure Qv5 (m:Int) (R L:List (Int×Int)):Prop where
 lo:1<=m
 hi:m<=8
 Qyz:∀s∈R++L,Qoz m s=true
 pit:∀s∈L,s.1≠m
theorem QpT{m:Nat}{S:List (Int×Int)}(m0:0<m)(hS:∀s∈S,Good m s)(hE:Qly m S):∀p,p<m->Qbp S (QbG m) m p≠none:=λp hp hn=>by
 have pit:Qbp S (QbG m) m m≠none:=λh=>by
  have key:∀t,Qbp S (QbG m) t m=some 0:=λt=>by
   induction t with
   | zero=>show QbG m m=some 0;unfold QbG;rw[if_pos rfl]
   | succ t ih=>
    show S.foldl (QcQ t) (Qbp S (QbG m) t) m=some 0
    rw[Qgw,if_neg (λ⟨h1,_⟩=>by rw[ih]at h1;cases h1),ih]
  rw[key m]at h;cases h
 obtain⟨s,hs,h1,h2,h3⟩:=hE (λv=>Qbp S (QbG m) m v=none) ⟨p,hp,hn⟩
 have g:=hS s hs
 have e:=QsA m0 hS (v:=s.1.toNat) (by have:=g.1;omega) h2 s hs rfl
 rcases h3 with z | z
 ·rw[z,Zaa]at e
  exact pit e
 ·exact z e
structure QvM (m:Nat) (R L:List (Int×Int)):Prop where
 few:R.length+L.length<=40
 lead:∀p,p<m->Qbp (Qas R L) (QbG m) m p≠none
noncomputable def spr(f:Nat->Int):Nat->Int
 | 0=>1
 | k+1=>spr f k*f k
def QrY(m:Nat)(R L:List (Int×Int)):Prop:=L=[]∨spr (QC R L) m<=300
structure QxZ (m:Int) (R L:List (Int×Int)):Prop where
 num:Qv5 m R L
 way:QvM m.toNat R L
 sml:QrY m.toNat R L
noncomputable def QfZ(i:Nat)(w:Int×Int×Bool):Int:=isI i w.1+if w.2.2=true then 0 else isI i w.2.1
noncomputable def QaP(W:List (Int×Int×Bool))(i:Nat):Int:=(W.map (QfZ i)).sum
theorem Qgf(W:List (Int×Int×Bool))(w:Int×Int×Bool)(i:Nat):QaP (W++[w]) i=QaP W i+QfZ i w:=by
 unfold QaP
 rw[ZU,Zaz]
 simp
theorem Qgg(W:List (Int×Int×Bool))(w:Int×Int×Bool)(i:Nat):QaP (w::W) i=QfZ i w+QaP W i:=by
 unfold QaP
 rw[Zw,Zah]
theorem Qkp(i:Nat):∀W:List (Int×Int×Bool),QC (Qal W) (Q7 W) i=QaP W i
 | []=>rfl
 | w::W=>by
  have ih:=Qkp i W
  rw[Qgg,← ih]
  unfold QC Qal Q7 QfZ
  obtain⟨a,b,l⟩:=w
  cases l with
  | true=>
   simp only[Zaq,Bool.not_true,Zbe,if_false,if_true,Zw,Zah,Qi4]
   omega
  | false=>
   simp only[Zaq,Bool.not_false,Zbe,if_false,if_true,Zw,Zah,Qdc]
   have e:isI i (if b<a then b else a)+isI i (if b>a then b else a)=isI i a+isI i b:=by
    by_cases h1:b<a
    ·rw[if_pos h1,if_neg (by omega)];omega
    ·rw[if_neg h1]
     by_cases h2:b>a
     ·rw[if_pos h2]
     ·have:a=b:=by omega
      rw[if_neg h2,this]
   omega
theorem QqB(i:Nat)(a:Int):0<=isI i a/\isI i a<=1:=by unfold isI;split<;>omega
theorem Qsn(i:Nat)(w:Int×Int×Bool):0<=QfZ i w/\QfZ i w<=2:=by
 have h1:=QqB i w.1
 have h2:=QqB i w.2.1
 unfold QfZ
 split<;>omega
theorem QkA(i:Nat):∀W:List (Int×Int×Bool),0<=QaP W i/\QaP W i<=2*(W.length:Int)
 | []=>by unfold QaP;simp
 | w::W=>by
  have ih:=QkA i W
  have h:=Qsn i w
  rw[Qgg,Zi]
  omega
theorem QlZ{f:Nat->Int}{a:Int}(h:0<=a)(k:Nat):up f a.toNat (f a.toNat+1) k=f k+isI k a:=by
 unfold up isI
 by_cases e:k=a.toNat
 ·rw[if_pos e,if_pos (by omega),e]
 ·rw[if_neg e,if_neg (by omega)];omega
theorem Qe7{f g:Nat->Int}:∀{n:Nat},(∀i,i<n->f i=g i)->spr f n=spr g n
 | 0,_=>rfl
 | n+1,h=>by
  unfold spr
  rw[Qe7 λi hi=>h i (by omega),h n (by omega)]
theorem QkJ(i:Nat):∀W:List (Int×Int×Bool),QaP W.reverse i=QaP W i
 | []=>rfl
 | w::W=>by rw[ZaG,Qgf,QkJ i W,Qgg,Int.add_comm]
structure Qhp (m:Nat) (W:List (Int×Int×Bool)):Prop where
 good:∀w∈W,GoodW m w
 few:W.length<=40
 esc:Esc m W
 small:Q7 W=[]∨spr (QaP W) m<=300
theorem QmV{W:List (Int×Int×Bool)}(h:∀w∈W,w.2.2=false):Q7 W=[]:=by
 unfold Q7
 rw[List.filter_eq_nil_iff.mpr λw hw=>by rw[h w hw];exact ZV];rfl
theorem Qhp.rev{m:Nat}{W:List (Int×Int×Bool)}(h:Qhp m W):Qhp m W.reverse where
 good:=λw hw=>h.good w (ZaM.mp hw)
 few:=by rw[Zay];exact h.few
 esc:=h.esc.mono λw hw=>ZaM.mpr hw
 small:=by
  rcases h.small with z | z
  ·left
   refine QmV λw hw=>?_
   cases e:w.2.2 with
   | false=>rfl
   | true=>
    have:Qi4 w∈Q7 W:=ZX.mpr ⟨w,Zan.mpr ⟨ZaM.mp hw,e⟩,rfl⟩
    rw[z]at this
    simp at this
  ·right
   rw[Qe7 λi _=>QkJ i W]
   exact z
theorem Qhp.ok{m:Nat}{W:List (Int×Int×Bool)}(m0:0<m)(m8:m<=8)(h:Qhp m W):QxZ m (Qal W) (Q7 W) where
 num:=⟨by omega,by omega,λs hs=>Qri (by
  rcases Zm.mp hs with z | z
  ·exact(Qdi h.good s z).1
  ·exact(Qcq h.good s z).1),λs hs=>by have:=(Qcq h.good s hs).2;omega⟩
 way:=by
  rw[Zaa]
  refine⟨?_,QpT m0 (Qdn (λs hs=>(Qdi h.good s hs).1) λs hs=>(Qcq h.good s hs).1) ?_⟩
  ·unfold Qal Q7
   rw[Zp,Zp]
   have:=h.few
   have e:∀W:List (Int×Int×Bool),(W.filter λw=> !w.2.2).length+(W.filter λw=>w.2.2).length=W.length:=λW=>by
    induction W with
    | nil=>rfl
    | cons w W ih=>
     rw[Zaq,Zaq]
     cases w.2.2<;>simp<;>omega
   rw[e W];exact this
  ·exact QkM h.esc
 sml:=by
  rw[Zaa]
  rcases h.small with z | z
  ·exact .inl z
  ·exact .inr (by rw[Qe7 λi _=>Qkp i W];exact z)
end HS
namespace HS
open PySem PySem.Spec L2 PyProof.Rows PySem.NumText
theorem Qub{c:Nat}{l:List Nat}(h:c∉l):Txt.partition (tx l) (tx [c])=(tx l,tx [],tx []):=by
 have f:=StrLaws.found_one (tx l) c
 have hm:¬c∈(tx l).cps.toList:=h
 rw[decide_eq_false hm]at f
 unfold Txt.partition
 have e:Builtin.Str.occurrences (tx l) (tx [c]) 0 (tx l).length 1=[]:=by
  have:Builtin.Str.occurrences (tx l) ⟨#[c]⟩ 0 (tx l).length 1=[]:=by
   simpa using f
  exact this
 rw[e];rfl
theorem QtL{c:Nat}{a b:List Nat}(h:c∉a):Txt.partition (tx (a++c::b)) (tx [c])=(tx a,tx [c],tx b):=by
 have hat:∀i,StrLaws.At (tx (a++c::b)) (tx [c]) (tx (a++c::b)).length i↔(a++c::b)[i]? =some c:=λi=>StrLaws.subAt_one (tx (a++c::b)) c i
 unfold Txt.partition
 rcases StrLaws.occ_head (tx (a++c::b)) (tx [c]) 1 (Zq _)with⟨_,hn⟩ | ⟨i,r,e,hi,hk⟩
 ·exact absurd ((hat a.length).mpr (by simp)) (hn _)
 ·have h1:i=a.length:=by
   rcases Nat.lt_trichotomy i a.length with hl | hl | hl
   ·have:=(hat i).mp hi
    rw[ZW hl]at this
    exact absurd (Zag this) h
   ·exact hl
   ·exact absurd ((hat a.length).mpr (by simp)) (hk _ hl)
  rw[e,h1]
  show(Builtin.Str.strSub _ _ _,_,Builtin.Str.strSub _ _ _)=_
  have hl:(tx (a++c::b)).length=a.length+(b.length+1):=by rw[Qqf,Qxj];simp
  refine Prod.ext (Qqj ?_) (Prod.ext rfl (Qqj ?_))
  ·show(Builtin.Str.strSub _ _ _).cps.toList=_
   rw[StrLaws.strSub_toList]
   show((a++c::b).drop 0).take (a.length-0)=a
   simp
  ·show(Builtin.Str.strSub _ _ _).cps.toList=_
   rw[StrLaws.strSub_toList,hl]
   show((a++c::b).drop (a.length+1)).take _=b
   have:(a++c::b).drop (a.length+1)=b:=by rw[List.drop_append];simp
   rw[this,ZbA]
   have e1:(tx [c]).length=1:=rfl
   omega
structure Wd where
 a:Nat
 b:Nat
 lane:Bool
 k:Nat
 star:Bool
noncomputable def Wd.sign(x:Wd):Nat:=if x.lane=true then 62 else 45
noncomputable def Wd.l(x:Wd):List Nat:=[48+x.a,x.sign,48+x.b]++if x.star=true then 42::dig x.k else []
noncomputable def Wd.t(x:Wd):Str:=tx x.l
structure Wd.Ok (x:Wd):Prop where
 a:x.a<10
 b:x.b<10
 k:if x.star=true then 2<=x.k/\x.k<=40 else x.k=1
noncomputable def Wd.p(x:Wd):Int×Int:=(x.a,x.b)
theorem Wd.low{x:Wd}(h:x.Ok):∀c∈x.l,c<200/\c≠32:=λc hc=>by
 have ha:=h.a
 have hb:=h.b
 unfold Wd.l at hc
 rcases Zm.mp hc with hc | hc
 ·simp only[Zo,ZaT,or_false]at hc
  unfold Wd.sign at hc
  split at hc<;>omega
 ·split at hc
  ·rcases Zo.mp hc with hc | hc
   ·omega
   ·have:=Qt1 _ _ hc;omega
  ·simp at hc
theorem Wd.len{x:Wd}(h:x.Ok):x.t.length<=100:=by
 have hk:=h.k
 rw[Qqf]
 show x.l.length<=100
 unfold Wd.l
 rw[Zk]
 split
 ·rename_i hs
  rw[if_pos hs]at hk
  have:=Qt8 (n:=x.k) (k:=2) (by decide) (by omega)
  simp;omega
 ·simp
theorem Wd.part{x:Wd}(h:x.Ok):Txt.partition x.t (tx [42])=(tx [48+x.a,x.sign,48+x.b],if x.star=true then(tx [42],tx (dig x.k))else(tx [],tx [])):=by
 have ha:=h.a
 have hb:=h.b
 have h0:42∉[48+x.a,x.sign,48+x.b]:=λhc=>by
  simp only[Zo,ZaT,or_false]at hc
  unfold Wd.sign at hc
  split at hc<;>omega
 unfold Wd.t Wd.l
 split
 ·exact QtL h0
 ·rw[ZD];exact Qub h0
noncomputable def runs:List (Int×Int)->List ((Int×Int)×Nat)
 | []=>[]
 | p::r=>match runs r with
  | (q,k)::t=>if q=p then(q,k+1)::t else(p,1)::(q,k)::t
  | []=>[(p,1)]
noncomputable def rd(lane:Bool)(q:(Int×Int)×Nat):Wd:=⟨q.1.1.toNat,q.1.2.toNat,lane,q.2,decide (1<q.2)⟩
def QrW(ps:List (Int×Int)):Prop:=∀p∈ps,(0<=p.1/\p.1<10)/\0<=p.2/\p.2<10
section
variable {fa fb fc:DE}{ρ:En}{ra rb r:R}
end
end HS
namespace HS
open PySem PySem.Spec L2 PyProof.Rows PySem.NumText
theorem QrW.one{ps:List (Int×Int)}{p:Int×Int}(h:QrW ps)(hp:p∈ps):QrW [p]:=λq hq=>by rw[Zl]at hq;rw[hq];exact h p hp
structure Qze (ps:List (Int×Int)) (l:List ((Int×Int)×Nat)):Prop where
 mem:∀q∈l,q.1∈ps/\1<=q.2/\q.2<=ps.length
 len:l.length<=ps.length
 flat:(l.flatMap λq=>List.replicate q.2 q.1)=ps
noncomputable def Qlw(ws:List ((Int×Int×Bool)×Nat)):List (Int×Int×Bool):=ws.flatMap λx=>List.replicate x.2 x.1
def QjD(d:Den):Prop:=∀(m:Nat) (W:List (Int×Int×Bool)) (room:Int),m<=1000->W.length<=100000->(∀w∈W,GoodW m w)->d [.int m,Q9 W,.int room]=some (.bl (decide (spr (QaP W) m<=room)),true)
theorem Qrg:QjD (Qw 9 Qgq):=λm W room hm hl hg=>by
 refine Qbi ?_
 refine run_seq (Qn (Ql2 (n:=m+1) (Q0 (a:=(m:Int)) (b:=1) rfl rfl rfl rfl) rfl (by omega)) ?_)
 rw[QB]
 refine QbF (P:=λρ=>∃f j3 j4 j5,(∀k,f k=QaP W k)/\ρ=[some (.int m,true),some (Q9 W,false),some (.int room,true),some (Qg (m+1) f,true),j3,j4,j5,none,none]) ?_ ?_
 ·refine Qa5 (toD:=QbW) W (λi ρ=>∃f j3 j4 j5,(∀k,f k=QaP (W.take i) k)/\ρ=[some (.int m,true),some (Q9 W,false),some (.int room,true),some (Qg (m+1) f,true),j3,j4,j5,none,none]) (ir:=⟨W.map QbW,[]⟩) rfl rfl ⟨λ_=>0,none,none,none,λk=>rfl,rfl⟩ ?_ ?_
  ·rintro i w ρ hi ⟨f,j3,j4,j5,hf,rfl⟩
   obtain⟨⟨h1,h2,h3,h4,h5⟩,h6⟩:=hg w (Zag hi)
   have h1:0<=w.1:=h1
   have h2:0<=w.2.1:=h2
   have et:W.take (i+1)=W.take i++[w]:=by rw[Zbi,hi];rfl
   refine⟨_,rfl,?_⟩
   refine run_seq (QfA (i:=w.1) rfl rfl h1 (by omega) ?_)
   refine run_seq (Qac (b:= !w.2.2) (Qda (QG (b:=w.2.2) rfl rfl)) (λhb=>run_seq (QfA (i:=w.2.1) rfl rfl h2 (by omega) (Qp (Qp ⟨_,_,_,_,λk=>?_,rfl⟩)))) (λhb=>Qp (Qp ⟨_,_,_,_,λk=>?_,rfl⟩)))
   ·have hb:w.2.2=false:=by simpa using hb
    rw[et,Qgf,QlZ h2,QlZ h1,hf k]
    unfold QfZ
    rw[hb,if_neg ZV];omega
   ·have hb:w.2.2=true:=by simpa using hb
    rw[et,Qgf,QlZ h1,hf k]
    unfold QfZ
    rw[hb,if_pos rfl];omega
  ·rintro ρ ⟨f,j3,j4,j5,hf,rfl⟩
   rw[ZaL]at hf
   exact⟨f,j3,j4,j5,hf,rfl⟩
 rintro ρ ⟨f,j3,j4,j5,hf,rfl⟩
 refine run_seq (Qn (r:=⟨.int 1,true,[]⟩) rfl ?_)
 rw[QB]
 refine QbF (P:=λρ=>∃j7,ρ=[some (.int m,true),some (Q9 W,false),some (.int room,true),some (Qg (m+1) f,true),j3,j4,j5,some (.int (spr f m),true),j7]) ?_ ?_
 ·refine Qa5 (toD:=λ(k:Nat)=> .int (f k)) (List.range m) (λi ρ=>∃j7,ρ=[some (.int m,true),some (Q9 W,false),some (.int room,true),some (Qg (m+1) f,true),j3,j4,j5,some (.int (spr f i),true),j7]) (Qei (QjB (m:=m+1) (n:=m) (f:=f) rfl rfl rfl rfl (by omega)) rfl) rfl ⟨none,rfl⟩ ?_ ?_
  ·rintro i i' ρ hi ⟨j7,rfl⟩
   have hi':i<m/\i=i':=by
    obtain⟨h1,h2⟩:=Zh.mp hi
    simp at h1 h2;exact⟨h1,h2⟩
   obtain⟨him,rfl⟩:=hi'
   have b:=QkA i W
   refine⟨_,rfl,?_⟩
   refine run_seq (Qn (Qbl (a:=spr f i) (b:=f i) (ra:=⟨.int (spr f i),true,[]⟩) rfl rfl (rb:=⟨.int (f i),true,[]⟩) rfl rfl (Qdw (by rw[hf i];omega))) (Qp ?_))
   rw[QB]
   exact⟨_,rfl⟩
  ·rintro ρ ⟨j7,rfl⟩
   rw[ZP]
   exact⟨_,rfl⟩
 rintro ρ ⟨j7,rfl⟩
 refine Qaj (QaI (d:= .bl (decide (spr f m<=room))) (ra:=⟨.int (spr f m),true,[]⟩) (rb:=⟨.int room,true,[]⟩) rfl rfl rfl) ⟨?_,rfl⟩
 rw[Qe7 λi _=>hf i]
structure Wds (m:Nat) (t kind:Int) (ws:List ((Int×Int×Bool)×Nat)):Prop where
 each:∀x∈ws,GoodW m x.1/\1<=x.2/\x.2<=40
 few:(Qlw ws).length<=40
 base:∀w∈QbE m t kind,w∈Qlw ws
 fits:kind=2∨kind=3->spr (QaP (Qlw ws)) m<=300
 roads:¬(kind=2∨kind=3)->∀x∈ws,x.1.2.2=false
theorem Qmk{ws:List ((Int×Int×Bool)×Nat)}{w:Int×Int×Bool}(h:w∈Qlw ws):∃x∈ws,x.1=w:=by
 obtain⟨x,hx,hw⟩:=List.mem_flatMap.mp h
 exact⟨x,hx,(List.eq_of_mem_replicate hw).symm⟩
theorem Wds.Qyz{m:Nat}{t kind:Int}{ws:List ((Int×Int×Bool)×Nat)}(h:Wds m t kind ws):Qhp m (Qlw ws) where
 good:=λw hw=>by obtain⟨x,hx,rfl⟩:=Qmk hw;exact(h.each x hx).1
 few:=h.few
 esc:=Ql0.mono h.base
 small:=by
  by_cases hk:kind=2∨kind=3
  ·exact .inr (h.fits hk)
  ·exact .inl (QmV λw hw=>by obtain⟨x,hx,rfl⟩:=Qmk hw;exact h.roads hk x hx)
end HS
namespace HS
open PySem L2
section
variable {m:Nat}{R L:List (Int×Int)}{f c:Nat->Int}
end
end HS
namespace HS
open PySem L2
section
variable {m:Nat}{R:List (Int×Int)}{f c:Nat->Int}
end
end HS
namespace HS
open PySem L2
theorem Qqo(W:List (Int×Int×Bool)):(Qal W).length+(Q7 W).length=W.length:=by
 unfold Qal Q7
 rw[Zp,Zp]
 induction W with
 | nil=>rfl
 | cons w W ih=>
  rw[Zaq,Zaq]
  cases w.2.2<;>simp<;>omega
def Qic(d:Den):Prop:=∀(m:Nat) (W:List (Int×Int×Bool)) (cs:List Int) (kind room:Int),0<m->m<=1000->W.length+cs.length<=10000->(∀w∈W,GoodW m w)→
 ∃W' fr,d [Q9 W,.lst (cs.map .int),.int m,.int kind,.int room]=some (Q9 (W++W'),fr)/\W'.length<=cs.length/\(∀w∈W',GoodW m w)/\(W'=[]∨spr (QaP (W++W')) m<=room)/\(kind=0->∀w∈W',w.2.2=false)
theorem Qqu{Qat:Den}(hf:QjD Qat):Qic (Qw 10 (Qd3 Qat)):=λm W cs kind room h0 hm hl hg=>by
 have key:Run (Qd3 Qat) (Qad 10 [Q9 W,.lst (cs.map .int),.int m,.int kind,.int room]) (Rt λd fr=>∃W',d=Q9 (W++W')/\W'.length<=cs.length/\(∀w∈W',GoodW m w)/\(W'=[]∨spr (QaP (W++W')) m<=room)/\(kind=0->∀w∈W',w.2.2=false)):=by
  refine run_seq (Qa5 (toD:=D.int) cs (λi ρ=>∃W' b j4 j5 j6 j7 j8,W'.length<=i/\(∀w∈W',GoodW m w)/\(W'=[]∨spr (QaP (W++W')) m<=room)/\(kind=0->∀w∈W',w.2.2=false)/\ρ=[some (Q9 (W++W'),b),some (.lst (cs.map .int),false),some (.int m,true),some (.int kind,true),some (.int room,true),j4,j5,j6,j7,j8]) (ir:=⟨cs.map .int,[]⟩) rfl rfl ⟨[],false,none,none,none,none,none,ZT _,λw hw=>absurd hw (by simp),.inl rfl,λ_ w hw=>absurd hw (by simp),by rw[ZD];rfl⟩ ?_ ?_)
  ·rintro i c ρ hi ⟨W',b,j4,j5,j6,j7,j8,hw1,hw2,hw3,hw4,rfl⟩
   have hil:i<cs.length:=(Zh.mp hi).1
   have gw:=Qpb h0 kind c
   refine⟨_,rfl,Qqw h0 ?_⟩
   have eadd:Qy (Qa 0) (QF (Qb (Qa 9) Qe)) [some (Q9 (W++W'),b),some (.lst (cs.map .int),false),some (.int m,true),some (.int kind,true),some (.int room,true),some (.int c,true),some (.int (Qbe c),true),some (.int (mStart m c),true),some (.int (QgM m c),true),some (QbW (QcS m kind c),true)]=some ⟨Q9 (W++W'++[QcS m kind c]),true,[]⟩:=
    QuY (A:=W++W') (B:=[QcS m kind c]) (QcK rfl) (by cases b<;>rfl) rfl rfl (by simp;omega)
   have gg:∀w∈W++W'++[QcS m kind c],GoodW m w:=λw hw=>by
    rcases Zm.mp hw with h | h
    ·rcases Zm.mp h with h | h
     ·exact hg w h
     ·exact hw2 w h
    ·have:w=QcS m kind c:=by simpa using h
     rw[this];exact gw
   have hbf:=hf m (W++W'++[QcS m kind c]) room hm (by simp;omega) gg
   refine run_seq (Qac (QG (Q2 (Qm (r:=⟨.int m,true,[]⟩) rfl (Qm eadd (Qm (r:=⟨.int room,true,[]⟩) rfl (QZ _)))) hbf rfl) rfl) (λhfit=>run_seq (Qn eadd (Qp ?_))) (λ_=>Qp (Qp ⟨W',b,_,_,_,_,_,by omega,hw2,hw3,hw4,rfl⟩)))
   rw[QB]
   refine Qp ⟨W'++[QcS m kind c],true,_,_,_,_,_,by simp;omega,λw hw=>?_,.inr ?_,λhk w hw=>?_,by rw[Zaj];rfl⟩
   ·rcases Zm.mp hw with h | h
    ·exact hw2 w h
    ·have:w=QcS m kind c:=by simpa using h
     rw[this];exact gw
   ·rw[← Zaj]
    exact of_decide_eq_true hfit
   ·rcases Zm.mp hw with h | h
    ·exact hw4 hk w h
    ·have:w=QcS m kind c:=by simpa using h
     rw[this,hk]
     unfold QcS
     simp
  ·rintro ρ ⟨W',b,j4,j5,j6,j7,j8,hw1,hw2,hw3,hw4,rfl⟩
   exact Qaj (QcK rfl) ⟨W',by cases b<;>rfl,hw1,hw2,hw3,hw4⟩
 obtain⟨o,h1,h2⟩:=key
 cases o with
 | rt d fr=>
  obtain⟨W',rfl,h3,h4,h5,h6⟩:=h2
  exact⟨W',fr,by unfold Qw;rw[h1];rfl,h3,h4,h5,h6⟩
 | _=>exact h2.elim
noncomputable def QdA(QL:Den)(QbU:Den)(QbM:Den):DS:=(Qf (Qs 3 (Qy (dC (.int 1)) (dOp QR (Qz 2 QL [] (Qb (Qa 0) (Qb (dC (.int 0)) Qe))) (Qa 1)))) (Qf (Qs 4 (dOp QR (dOp Qcd (Qz 2 QL [] (Qb (Qa 0) (Qb (dC (.int 1)) Qe))) (dC (.int 6))) (dC (.int 1000003)))) (Qf (Qs 5 (dOp QR (Qz 2 QL [] (Qb (Qa 0) (Qb (dC (.int 1)) Qe))) (dC (.int 6)))) (Qf (Qs 6 (QaV (Qa 0) (Qab (dC (.int 2))) (Qab (dC (.int 12))))) (Qf (sIf (QA (dOp gEq (dOp QR (dOp Qcd (Qz 2 QL [] (Qb (Qa 0) (Qb (dC (.int 0)) Qe))) (Qa 1)) (dC (.int 8))) (dC (.int 3)))) (Qf (Qs 3 (Qy (dC (.int 6)) (dOp QR (dOp Qcd (Qz 2 QL [] (Qb (Qa 0) (Qb (dC (.int 0)) Qe))) (QaM (dC (.int 8)) (Qa 1))) (dC (.int 3))))) (Qf (Qs 5 (dC (.int 0))) (Qf (Qs 6 (QaV (Qa 0) (Qab (dC (.int 2))) (Qab (dC (.int 4))))) (Qf (Qs 2 (dC (.int 300))) Qj)))) Qj) (Qf (Qs 7 (Qz 5 QbM [] (Qb (Qz 3 QbU [] (Qb (Qa 3) (Qb (Qa 4) (Qb (Qa 5) Qe)))) (Qb (Qa 6) (Qb (Qa 3) (Qb (Qa 5) (Qb (Qa 2) Qe))))))) (Qf (sIf (QA (dOp gEq (dOp QR (Qa 4) (dC (.int 2))) (dC (.int 1)))) (Qf (Qs 7 (QgO (Qa 7) (Qff (dC (.int 1))))) Qj) Qj) (Qf (Qs 8 (QaE (Qaf (Qa 7)) (.tp [1,2,3]) [none,none,none,none] (Qca (QA (Qa 3))) (QbY (Qb (dBf Qi7 (Qb (Qa 1) (Qb (Qa 2) Qe))) (Qb (dBf QiA (Qb (Qa 1) (Qb (Qa 2) Qe))) Qe))))) (Qf (Qs 9 (QaE (Qaf (Qa 7)) (.tp [1,2,3]) [none,none,none,none] (QA (Qa 3)) (QbY (Qb (Qa 1) (Qb (Qa 2) Qe))))) (Qf (Q3 (QbY (Qb (Qa 3) (Qb (Qa 8) (Qb (Qa 9) Qe))))) Qj))))))))))
def QmS(e:QbZ):Prop:=∀ps:List Int,e [.obj (.ins "Picked" []) [],Qo ps]=some (.non,wkD (.pick ps) 0)
end HS
namespace HS
open PySem PySem.Spec L2 PyProof.Rows
section
variable {P:Program}{w:World}{K:PySem.W.Frag}{mg:Str->Option Value}{base:Heap}
end
end HS
namespace HS
open PySem L2
noncomputable def Qdg(Qau:Den)(x_need_rows:List D->Option Str):DX:=(QaN (Qc7 (Qz 2 Qau [] (Qb (Qa 0) (Qb (Qa 1) Qe)))) (QbD 2 x_need_rows (Qb (Qa 0) (Qb (Qa 1) Qe))) (QaN (QaT (Qaf (Qa 1)) (.nm 2) (Qf (sIf (QA (dOp gLt (dBf QdG (Qb (Qa 2) Qe)) (dC (.int 0)))) (Qf QE Qj) Qj) Qj)) (Qg5 (Qaf (Qa 1)) (.nm 2) (Qf (sIf (QA (dOp gLt (dBf QdG (Qb (Qa 2) Qe)) (dC (.int 0)))) (Qf QE Qj) Qj) Qj) (QaN (sIf (QA (dOp gLt (dBf QdG (Qb (Qa 2) Qe)) (dC (.int 0)))) (Qf QE Qj) Qj) (xIf (QA (dOp gLt (dBf QdG (Qb (Qa 2) Qe)) (dC (.int 0)))) (QaN QE (QdR "NoHeap" (Qb (dC (.str "a heap has no number below 0")) Qe)) xNo) xNo) xNo)) xNo))
theorem Qq3{dn:Den}{xn:List D->Option Str}(h:ApF dn xn):ApF (Qw 3 (Qb8 dn)) (QaF 3 (Qdg dn xn)):=Qo7 (by unfold Qb8 Qdg;repeat (first | exact QdL | exact Qbm | assumption | apply QcD | apply Qe4 | apply QcC | apply Qbf | apply QcE | apply QcM))
structure QmG (xd:List D->Option Str):Prop where
 row:∀(m:Int) (R L:List (Int×Int)) (xs:List D),(xs.length:Int)≠m->xd [Qi m R L,.lst [.lst xs]]=some "NoRow"
 heap:∀(m:Nat) (R L:List (Int×Int)) (f:Nat->Int) (j:Nat),j<m->f j<0->xd [Qi m R L,.lst [Qg m f]]=some "NoHeap"
theorem QpS{dn:Den}{xn:List D->Option Str}(h:ApF dn xn)(hn:Qjg dn)(hx:Qos xn):QmG (QaF 3 (Qdg dn xn)) where
 row:=λm R L xs hm=>by
  refine Qc9 (QaG (Qbf h) (Qcs (r:=⟨[Qi m R L,.lst [.lst xs]],_,_⟩) rfl rfl ?_))
  exact hx m R L [xs] 0 (by simp) (λi x hi e=>by omega) (λx e=>by cases e;exact hm)
 heap:=λm R L f j hj hf=>by
  obtain⟨v,_,hle,hv⟩:=QnB (by omega:0<m) f
  have h0:=hle j hj
  refine Qc9 (Qtx (Qig (Q2 (r:=⟨[Qi m R L,.lst [Qg m f]],false,[]⟩) rfl (hn m R L [f]) rfl) ?_))
  refine QaG (QcC (by repeat (first | exact QdL | exact Qbm | assumption | apply QcD | apply Qe4 | apply QcC | apply Qbf | apply QcE | apply QcM))) (Qp8 (by repeat (first | exact QdL | exact Qbm | assumption | apply QcD | apply Qe4 | apply QcC | apply Qbf | apply QcE | apply QcM)) (toD:=λf=>Qg m f) [f] (λ_ ρ=>ρ=[some (Qi m R L,false),some (.lst [Qg m f],false),none]) 0 (by simp) (ir:=⟨[Qg m f],[]⟩) rfl rfl rfl (λi x ρ hi=>absurd hi (by omega)) ?_)
  rintro x ρ hx rfl
  cases hx
  refine⟨_,rfl,?_⟩
  refine QaG (by repeat (first | exact QdL | exact Qbm | assumption | apply QcD | apply Qe4 | apply QcC | apply Qbf | apply QcE | apply QcM)) (Qs2 (b:=true) (QG (QaI (rb:=⟨.int 0,true,[]⟩) (d:= .bl (decide (v<0))) (hv (r:=⟨Qg m f,false,[]⟩) rfl rfl) rfl rfl) ?_) (λ_=>QaG Qbm (QmH rfl (Zq _))) (λh=>by cases h))
  show D.bl _=_
  rw[decide_eq_true (by omega)]
structure Qzk (xd:List D->Option Str):Prop where
 plain:∀(m:Int) (R L:List (Int×Int)) (xs:List D),L≠[]->xd [Qi m R L,.lst xs]=some "NotPlain"
 row:∀(m:Nat) (R:List (Int×Int)) (xs:List D),xs.length≠m->xd [Qi m R [],.lst xs]=some "NoRow"
 heap:∀(m:Nat) (R:List (Int×Int)) (f:Nat->Int) (j:Nat),j<m->f j<0->xd [Qi m R [],Qg m f]=some "NoHeap"
structure Qzj (sub:Str->Str->Option Bool) (x:Str) (w:Nat):Prop where
 he:sub x "HeapError" =some true
 ve:sub x "ValueError" =some true
 np:sub x "NotPlain" =some (decide (w=1))
 nr:sub x "NoRow" =some (decide (w=2))
 nh:sub x "NoHeap" =some (decide (w=3))
theorem Qku{fa:DE}{ρ:En}{ra:HS.R}{l:List Nat}(ha:fa ρ=some ra)(ea:ra.d=Qh l):dOp gNe fa (QF Qe) ρ=some ⟨.bl (!l.isEmpty),true,[]⟩:=by
 refine QaI (rb:=⟨.lst [],true,[]⟩) ha rfl ?_
 rw[ea]
 show gNe (Qh l) (.lst [])=_
 have hs:(Qh l).sim 8=true:=by
  show((l.map λ(p:Nat)=>D.int (p:Int)).all (D.sim 7))=true
  rw[Zac]
  intro d hd
  obtain⟨p,_,rfl⟩:=ZX.mp hd
  rfl
 unfold gNe
 rw[hs]
 show some (D.bl (!deq (Qh l) (.lst [])))=_
 cases l<;>rfl
theorem Qqa(ha:fa ρ=some ra)(ea:ra.d=Qg m f)(hb:fb ρ=some ⟨.int x,true,[]⟩)(hm:m<=1000):Qy fa (QF (Qb fb Qe)) ρ=some ⟨Qg (m+1) (up f m x),true,[]⟩:=by
 have hb:QF (Qb fb Qe) ρ=some ⟨.lst [.int x],true,[]⟩:=(Qdl (Qm hb (QZ _)) (by simp)).trans rfl
 unfold Qy
 rw[ha,Za,hb,Za,ea]
 simp only[Qg,Zp,ZP,QhB]
 rw[if_pos (by simp;omega)]
 unfold Qap
 rw[if_pos (by rw[Qcj,Zg];exact⟨Qa2 (λ_=>rfl) _,rfl⟩)]
 congr 3
 rw[Zba,ZU]
 congr 1
 ·refine Zam λi hi=>?_
  rw[QiJ,if_neg (by have:=ZQ.mp hi;omega)]
 ·show _=[D.int (up f m x m)]
  rw[QiJ,if_pos rfl]
theorem QiX(ha:fa ρ=some ra)(ea:ra.d=Qg m f)(hb:fb ρ=some rb)(eb:rb.d=Qg k g)(hl:m+k<=1000):Qy fa fb ρ=some ⟨Qg (m+k) (λi=>if i<m then f i else g (i-m)),true,[]⟩:=by
 have e:Qg (m+k) (λi=>if i<m then f i else g (i-m))= .lst (((List.range m).map λi=>D.int (f i))++((List.range k).map λi=>D.int (g i))):=by
  unfold Qg
  rw[List.range_add,ZU,Zak]
  congr 2
  ·refine Zam λi hi=>?_
   show D.int (if i<m then f i else g (i-m))=_
   rw[if_pos (ZQ.mp hi)]
  ·refine Zam λi hi=>?_
   show D.int (if m+i<m then f (m+i)else g (m+i-m))=_
   rw[if_neg (by omega),Nat.add_sub_cancel_left]
 rw[e]
 unfold Qy
 rw[ha,Za,hb,Za,ea,eb]
 simp only[Qg,Zp,ZP,QhB]
 rw[if_pos (by omega)]
 unfold Qap
 rw[if_pos]
 rw[Qcj,Zg]
 exact⟨Qa2 (λ_=>rfl) _,Qa2 (λ_=>rfl) _⟩
theorem QoG{n:Nat}(ha:fa ρ=some ra)(ea:ra.d=Qg m f)(hb:fb ρ=some rb)(eb:rb.d= .int n)(h:n<=m):QaV fa (Qab fb) Qbj ρ=some ⟨Qg (m-n) λi=>f (n+i),true,[]⟩:=by
 have cut:cutD ((List.range m).map λi=>D.int (f i)) (some (n:Int)) none=(List.range (m-n)).map λi=>D.int (f (n+i)):=by
  unfold cutD
  simp only[Zp,ZP,HT.Qio,HT.QjY]
  rw[ZbD h,← List.map_drop,← Zbm]
  have e:((List.range m).drop n).take (m-n)=(List.range (m-n)).map λi=>n+i:=by
   rw[ZbA (by simp)]
   refine Zax λi=>?_
   rw[Zbf,ZA]
   by_cases hi:i<m-n
   ·rw[Zaf (by omega),Zaf hi];rfl
   ·rw[Zr (by simp;omega),Zr (by simp;omega)];rfl
  rw[e,Zak]
  rfl
 unfold QaV Qbj Qab
 simp only[ha,hb,Za,ea,eb,Qg,cut,Qap]
 have:QX ((List.range (m-n)).map λi=>D.int (f (n+i)))=true:=by
  have:=Qgl ((List.range (m-n)).map λi=>f (n+i))
  rw[Zak]at this
  exact this
 rw[if_pos this]
structure Qzf (xd:List D->Option Str):Prop where
 row:∀(m:Int) (R L:List (Int×Int)) (xs:List D) (o:D),(xs.length:Int)≠m->xd [Qi m R L,.lst xs,o]=some "NoRow"
 heap:∀(m:Nat) (R L:List (Int×Int)) (f:Nat->Int) (j:Nat) (o:D),j<m->f j<0->xd [Qi m R L,Qg m f,o]=some "NoHeap"
end HS
namespace HS
open PySem PySem.Spec L2 PyProof.Rows
noncomputable abbrev MxT:=List (Str×List (Str×(Nat×(List D->Option Str))))
def Qhe(P:Program)(w:World)(K:PySem.W.Frag)(mg:Str->Option Value)(base:Heap)(k:Nat)(x m:Str)(r:Nat×(List D->Option Str)):Prop:=∃C f fd ps,PySem.W.nsIn K mainGlobals x=some (some (.ref C))/\Cls K C/\Qiu K C m f/\Q4 P w K mg base (CXR P w) k f fd ps (spX K r.1 r.2)/\Binds K fd ps []/\ps.length=r.1
def Qsy(X:Cx)(T:MxT):Prop:=∀x ms m r,look x T=some ms->look m ms=some r->∃k,Qhe X.prog X.w X.K X.mg X.base k x m r/\QU k X.A
noncomputable def xMe(T:MxT)(i:Nat)(m:Str)(fs:DA):DX:=λρ=>match ρ[i]? with
 | some (some (d,_))=>match unp d with
  | .obj (.ins x ns) es=>(look x T).bind λms=>(look m ms).bind λr=>(fs ρ).bind λra=>if(!ns.contains m && decide (r.1=ra.ds.length+1))=true then(r.2 (.obj (.ins x ns) es::ra.ds)).map λc=>(c,ρ)else none
  | _=>none
 | _=>none
section
variable {X:Cx}{T:MxT}{m:Str}{o e:Expr}{es:List Expr}{fs:DA}{pos cpos apos:Pos}{i:Nat}
theorem QuS{pl:Sem Bool}(hM:Qsy X T)(hx:X.ex=[])(ho:PE X o (QbX i))(ha:SA X (e::es) fs)
  (hst:starEach (e::es) X.env=(false,eval e X.env)::starEach es X.env) (hpl:(backTo cpos (starEach es X.env)).any (·.1)=false)
  (ht:eval (.Call (.Attribute o m apos) (e::es) [] cpos) X.env=(do
   let ov ← eval o X.env
   standAt apos.atName
   let (f,first) ← holding [ov] (getMethod ov m pl)
   callWith cpos f first (backTo cpos (starEach (e::es) X.env)) (backToKw cpos (keywordEach [] X.env)))):
  RzE X (.Call (.Attribute o m apos) (e::es) [] cpos) (xMe T i m fs):=λH0 A0 pins s σ H Q I hpt=>by
 obtain⟨ρ,hs,F,c,ρ',rel,ex,q⟩:=hpt
 unfold xMe at ex
 split at ex
 case h_2=>cases ex
 rename_i d b hρ
 split at ex
 case h_2=>cases ex
 rename_i cn ns ds0 hu
 refine Qc ex λms h1 ex=>?_
 refine Qc ex λxr h2 ex=>?_
 refine Qc ex λra e1 ex=>?_
 split at ex
 case isFalse=>cases ex
 rename_i hn
 simp only[Zg,decide_eq_true_eq,ZO]at hn
 obtain⟨hn1,hn2⟩:=hn
 obtain⟨c',e2,e3⟩:=Zc.mp ex
 cases e3
 obtain⟨v,hv,rp⟩:=rel.val i d b hρ
 have rpu:=rp.unp.1
 rw[hu]at rpu
 obtain⟨a,C,dx,vs0,G0,ev,eG,k3,k4,k5,rs⟩:=rpu.Qc2
 subst ev
 obtain⟨k,⟨C',f,fd,ps,m1,m2,m3,Fk,hb,hpn⟩,hr⟩:=hM cn ms m xr h1 h2
 rw[k3]at m1
 cases m1
 refine PySem.W.methodCall_KW (pl:=pl) (thn (ho pins s σ H (λx H1=>x= .ref a/\H1=H) I ⟨_,hv,rfl,rfl⟩) λu s1 ⟨x,H1,I1,rx,ex,eH⟩=>?_) ht
 subst ex eH
 obtain rfl:u=Value.ref a:=rx
 refine Qjd I1 k4 m2 m3 (Qb6 λz=>by rw[ZI.mpr z]at hn1;cases hn1) ?_
 refine ZaD (first:=[.ref a]) (h₀:=X.base) I.ok.mod.kin m3.kp (thn (ha H0 A0 cpos pins s1 σ H1 (λvs H2=>∃G,Qla X.K ρ F H1 H2 ra vs G) I1 ⟨ρ,hs,F,ra,rel,e1,λvs H2 G p1=>⟨G,p1⟩⟩) λus s2 ⟨vs,H2,I2,rv,G,p1⟩=>⟨I2.kIn,?_⟩) hst hpl
 have rps:Rps X.K H2 (.obj (.ins cn ns) ds0::ra.ds) (.ref a::vs) (F i++G):=by
  simp only[Rps]
  exact⟨_,_,_,_,rfl,rfl,rpu.same p1.same,p1.rp⟩
 have hlen:((Value.ref a::us)++[]).length=ps.length:=by rw[ZD,Zi,← rv.length,← p1.rp.length,hpn,hn2]
 have hbb:=hb s2 (.ref a::us) I2.kIn hlen
 rw[ZD]at hbb
 refine wpAny_call (codeAny_mono (Fk.run X.A X.stack s2 H2 ⟨.ref a::us,[]⟩ (.ref a::us) (.ref a::vs) (λ_ _=>False) (λc' _ H'=>∃C,c'= .ref C/\ClsAt X.K c C/\Qr H2 H') hr I2.Qn5 hbb (.cons rfl rv) ⟨_,_,c,rps,by rw[Zi,hn2],e2,λC H' hC sm=>⟨C,rfl,hC,sm⟩⟩) λrr s' hq=>?_)
 cases rr with
 | error ev=>
  obtain⟨ea,C',H',B,a0,rfl,os,bare,un,hok,fl,cov,old,C2,rfl,hC,sm⟩:=hq
  exact q C2 ea s' hC ⟨pins,σ,H',F,(rel.ext p1.same).ext sm,.inr ⟨B,a0,.none,I2.Qoq os un hok bare (λb z=>absurd z (by simp)),fl,cov,λb o eb hbf=>by
   obtain⟨⟨o',h1⟩,h2⟩:=Qln I2 hx eb hbf
   exact old b o' h1 h2,λp hp=>by
   obtain⟨e,_,ne,nf,_⟩:=I2.pin p hp
   exact old _ _ e λz=>(Zo.mp (I2.QdT _ z)).elim ne nf⟩⟩
 | ok fl=>
  cases fl with
  | ret u=>obtain⟨v,H',_,_,_,_,_,z⟩:=hq;exact z.elim
  | next=>exact False.elim hq
  | brk=>exact False.elim hq
  | cont=>exact False.elim hq
end
section
variable {P:Program}{w:World}{K:PySem.W.Frag}{mg:Str->Option Value}{base:Heap}
theorem Qhe.mono{j k:Nat}{x m:Str}{r:Nat×(List D->Option Str)}(h:Qhe P w K mg base j x m r)(hk:j<=k):Qhe P w K mg base k x m r:=by
 obtain⟨C,f,fd,ps,h1,h2,h3,h4,h5⟩:=h
 exact⟨C,f,fd,ps,h1,h2,h3,h4.mono hk,h5⟩
theorem Qop{c m qual:Str}{st:Stmt}{ps:List Str}{k n n':Nat}{Γ:List (Str×FnR)}{Γx:List (Str×(Nat×(List D->Option Str)))}{cls:List Str}{cs:List (Str×Cn)}{T:ObT}{g:DX}(F:QfQ K c m qual st)(S:Qar (namesOf (Qd st)) ps (Qd st))(B:Qfo m qual st ps)(M:Qb5 mg cs)(tab:Qan P w K mg base (k+1) Γ)(tabo:Qb0 P w K mg base k T)(tabx:Qd5 P w K mg base (k+1) Γx)
  (hcl:∀x∈cls,QgL K x) (hc:Qdm n (thO n' (Qbw st Γ cs) T none) ⟨Γx,cls⟩ (QM st)=some g):Qhe P w K mg base (k+2) c m (ps.length,QaF (namesOf (Qd st)).length g):=by
 obtain⟨C,f,fd,c1,c2,c3,Fn⟩:=F.ex
 refine⟨C,f,fd,ps,c1,c2,c3,?_,Fn.binds (B ·),rfl⟩
 obtain⟨oc,od,kV,doc,pm,an,cdv,ct,osl,rfl,lk,hcd⟩:=Fn.ex
 refine Qor lk hcd S (Qn3 rfl) λA outer s H vs Q E hr hsp=>?_
 obtain⟨ds,L,y,rps,hl,hd,hE⟩:=hsp
 have ok0:Qt (Qcl (CXR P w) P w K mg base (namesOf (Qd st)) qual (Qd st) f cdv A outer s H E) (Qbw st Γ cs):=Qju (CX:=CXR P w) (E:=E) S M tab hr PassesOwn.leaving
 have ok:=Qqv (n:=n') ok0 (Qb0.ob (X:=Qcl (CXR P w) P w K mg base (namesOf (Qd st)) qual (Qd st) f cdv A outer s H E) tabo hr) none
 have xk:XOk (Qcl (CXR P w) P w K mg base (namesOf (Qd st)) qual (Qd st) f cdv A outer s H E) ⟨Γx,cls⟩:=⟨rfl,rfl,rfl,λz r e=>by
  obtain⟨f',fd',ps',h1,h2,h3,h4,h5⟩:=tabx z r e
  exact⟨k+1,f',fd',ps',h1,hr,h2,h3,h4,h5⟩,hcl⟩
 refine⟨_,(Qo2 n).Xs _ _ _ _ g ok xk hc H L,?_⟩
 obtain⟨F0,rel⟩:=QdW (N:=namesOf (Qd st)) rps
 obtain⟨⟨y',ρ'⟩,e1,e2⟩:=Zc.mp hd
 cases e2
 exact⟨_,[],F0,y',ρ',rel,e1,λC ea s' hC T=>QgX rfl rfl rfl rfl rfl rfl rfl T λH' sm=>hE C H' hC sm⟩
end
noncomputable def Qk8:Expr->Option (Expr×Str×Pos×Pos×Expr×List Expr)
 | .Call fn args kw cp=>match kw with
  | _::_=>none
  | []=>match args with
   | []=>none
   | a::as=>match fn with
    | .Attribute o m ap=>some (o,m,ap,cp,a,as)
    | _=>none
 | _=>none
theorem Qki{e o a:Expr}{m:Str}{ap cp:Pos}{as:List Expr}(h:Qk8 e=some (o,m,ap,cp,a,as)):e= .Call (.Attribute o m ap) (a::as) [] cp:=by
 cases e with
 | Call fn args kw cp'=>
  cases kw with
  | cons _ _=>exact nomatch (show(none:Option (Expr×Str×Pos×Pos×Expr×List Expr))=some _ from h)
  | nil=>
   cases args with
   | nil=>exact nomatch (show(none:Option (Expr×Str×Pos×Pos×Expr×List Expr))=some _ from h)
   | cons a' as'=>
    cases fn with
    | Attribute o' m' ap'=>cases(show some (o',m',ap',cp',a',as')=some _ from h);rfl
    | _=>exact nomatch (show(none:Option (Expr×Str×Pos×Pos×Expr×List Expr))=some _ from h)
 | _=>exact nomatch (show(none:Option (Expr×Str×Pos×Pos×Expr×List Expr))=some _ from h)
noncomputable def trM(n:Nat)(Θ:Th)(MX:MxT)(sub:Str->Str->Option Bool)(hΓ:List (Str×FnR))(st:Stmt):Option DS:=match st with
 | .Try [.Expr e _] (h::hs) [] [] _=>(Qk8 e).bind λq=>if(q.2.2.1.endLine == q.2.2.2.1.line && decide (q.2.2.2.2.2.length<20))=true then(QD q.1).bind λy=>(Θ.slot y).bind λi=>(QaC n Θ (q.2.2.2.2.1::q.2.2.2.2.2)).bind λfs=>(Qms Θ sub hΓ (h::hs)).map λhl=>QhZ (λ_=>none) (xMe MX i q.2.1 fs) sub hl else none
 | _=>none
theorem Qws{X:Cx}{Θ:Th}{MX:MxT}{sub:Str->Str->Option Bool}{hΓ:List (Str×FnR)}{n:Nat}{st:Stmt}{f:DS}(ok:Qt X Θ)(ht:∀st f,Θ.tr st=some f->∀X,S1 X st f)(hte:∀e f,Θ.te e=some f->∀X,SE X e f)(hx:X.ex=[])(hst:X.stack=X.env::X.outer)(hf:X.env.frame=some X.env.locals)(hM:Qsy X MX)(hs:QbA X.K sub)(hu:Qfh X hΓ)(h:trM n Θ MX sub hΓ st=some f):S1 X st f:=by
 unfold trM at h
 split at h
 case h_2=>cases h
 rename_i e ep h0 hds pos
 refine Qc h λq hq h=>?_
 split at h
 case isFalse=>cases h
 rename_i hcc
 simp only[Zg,decide_eq_true_eq]at hcc
 refine Qc h λy hy h=>?_
 refine Qc h λi hi h=>?_
 refine Qc h λfs hfs h=>?_
 refine mapR h λhl hh=>?_
 obtain⟨o,m,ap,cp,a,as⟩:=q
 rw[Qki hq]
 obtain⟨np,rfl⟩:=QH hy
 have hN:X.N.Nodup:=by rw[ok.N];exact ok.nd
 refine Qw5 hN hx hst hf hs.ok (λxe pn hp=>⟨λH0 A0 pins s σ H E I ⟨ρ,hs,F,o,rel,e,q⟩=>(by cases e),?_⟩) (Qky ok.toCtxB hs hu _ hl hh)
 have ok':=Qta (pn:=pn) ok ht hte hp
 obtain⟨s1,s2⟩:=callArgs (X:=Cx.chg X xe pn) hfs rfl cp
 have hM':Qsy (Cx.chg X xe pn) MX:=hM
 exact λH0 A0=>QnY (Qek (QuS hM' hx (Qaq ok'.toCtxB hi) ((QT n).A _ Θ _ fs ok' hfs) s1 s2 (QgZ rfl hcc.1 (by
  have:=QfC hfs cp X.env
  rw[List.all_eq_not_any_not]
  simpa using this) (by rw[Zi];exact Nat.lt_of_le_of_lt (Nat.succ_le_succ (Zbv hcc.2)) (by decide))) H0 A0) rfl)
noncomputable def QrF(n:Nat)(st:Stmt)(Γ:List (Str×FnR))(cs:List (Str×Cn))(MX:MxT)(sub:Str->Str->Option Bool)(hΓ:List (Str×FnR)):Th:={Qbw st Γ cs with tr:=trM n (Qbw st Γ cs) MX sub hΓ}
section
variable {P:Program}{w:World}{K:PySem.W.Frag}{mg:Str->Option Value}{base:Heap}
def QoL(P:Program)(w:World)(K:PySem.W.Frag)(mg:Str->Option Value)(base:Heap)(k:Nat)(MX:MxT):Prop:=∀x ms m r,look x MX=some ms->look m ms=some r->Qhe P w K mg base k x m r
theorem Qr0{h:Heap}{x:Str}{st:Stmt}{ps:List Str}{k n m:Nat}{Γ:List (Str×FnR)}{MX:MxT}{cs:List (Str×Cn)}{sub:Str->Str->Option Bool}{hΓ:List (Str×FnR)}{g:DS}(X:K.In h)(G:h.Ns mainGlobals mg)(F:Fact K x st)(S:Qar (namesOf (Qd st)) ps (Qd st))(B:QI x st ps)(M:Qb5 mg cs)(tab:Qan P w K mg base k Γ)(tabm:QoL P w K mg base k MX)
  (hs:QbA K sub) (tabh:QmB P w K mg base k hΓ) (hc:Q5 n (QrF m st Γ cs MX sub hΓ) (QM st)=some g):Known P w K mg base (k+1) x ⟨ps.length,[],Qw (namesOf (Qd st)).length g⟩:=by
 obtain⟨f,fd,Fn,a⟩:=F.ex
 refine⟨f,fd,ps,?_,Zat X G a,Fn.kp,λm hm=>⟨[],[],Fn.binds (B ·),.nil,λH=>by simp[Rps]⟩⟩
 refine Fn.ok S (QjG rfl) λcdv A outer s H vs Q E hr h=>?_
 obtain⟨ds,L,d,fr,rps,hl,hd,q⟩:=h
 have ok:=Qi0 (P:=P) (w:=w) (K:=K) (base:=base) (qual:=x) (f:=f) (outer:=outer) (H:=H) (E:=E) S M tab hr
 have ok2:Qt (Qcl CX0 P w K mg base (namesOf (Qd st)) x (Qd st) f cdv A outer s H E).nox (QrF m st Γ cs MX sub hΓ):=
  ⟨⟨ok.N,ok.nd,ok.lc,ok.ce,ok.fe,ok.gl,ok.units,ok.mg,ok.cs⟩,ok.calm,ok.pass,ok.fns,λst' f' h'=>Qws ok (λ_ _ h=>(nomatch h)) (λ_ _ h=>(nomatch h)) rfl rfl rfl (λx ms m r e1 e2=>⟨k,tabm x ms m r e1 e2,hr⟩) hs (Qxi hr tabh) h',λ_ _ h=>(nomatch h)⟩
 refine⟨_,(QfT n).Ss _ _ _ g ok2 hc H L,?_⟩
 obtain⟨F0,rel⟩:=QdW (N:=namesOf (Qd st)) rps
 unfold Qw at hd
 refine Qc hd λo ho hd=>?_
 refine⟨_,[],F0,o,rel,ho,?_⟩
 cases o with
 | nx ρ=>
  cases hd
  exact λσ H' F' rel'=>q .non H' [] ⟨rel'.same,.QfN,λa ha=>by simp at ha,λ_=>⟨Zab,rfl,λa ha=>by simp at ha⟩⟩
 | bk ρ=>cases hd
 | ct ρ=>cases hd
 | rt d' fr'=>
  cases hd
  exact λv H' G r=>q v H' G r
end
end HS
namespace HS
open PySem PySem.Spec L2 PyProof.Rows
noncomputable def Qf4(a b:Nat)(gt:DT)(fl:DE)(ρ0:En):List D->List D->Option (List D)
 | [],es=>if es.isEmpty=true then some []else none
 | d::ds,es=>match es with
  | []=>none
  | e::es=>if gt ((ρ0.set a (some (d,d.flat))).set b (some (e,e.flat)))=some false then(fl ((ρ0.set a (some (d,d.flat))).set b (some (e,e.flat)))).bind λr=>if(r.fr && r.M.isEmpty)=true then(Qf4 a b gt fl ρ0 ds es).map λps=> .tup [d,r.d]::ps else none else none
noncomputable def QcP(f g h a b:Nat)(ρ:En):En:=((((ρ.set f none).set g none).set h none).set a none).set b none
noncomputable def Qin(f g h a b:Nat)(gt:DT)(fl:DE):DS:=λρ=>match ρ[f]? with
 | some (some (.lst ds,true))=>match ρ[g]? with
  | some (some (.lst es,_))=>match ρ[h]? with
   | some (some (.lst hd,true))=>if([f,g,h,a,b].Nodup/\a<ρ.length/\b<ρ.length/\hd.length+ds.length<=1000000)then(Qf4 a b gt fl (QcP f g h a b ρ) ds es).map λps=> .nx ((QcP f g h a b ρ).set h (some (.lst (hd++ps),true)))else none
   | _=>none
  | _=>none
 | _=>none
section
variable {K:PySem.W.Frag}{H0 H H':Hp}{A0:List Addr}{hs:List (V×D×List Addr)}{ρ:En}{F F':Nat->List Addr}{σ:L2.St}
theorem Rel.loose(r:Rel K H0 A0 hs ρ F σ H){l:Addr}{u:HO}(hm:Qci (H l))(h0:H0 l=none)(h1:∀(j:Nat) d b,ρ[j]? =some (some (d,b))->l∉F j)(h2:∀t∈hs,l∉t.2.2):Rel K H0 A0 hs ρ F σ (upd H l u):=by
 have s:Qr (hide H [l]) (upd H l u):=QdU (List.mem_singleton_self l)
 have hmm:∀a∈[l],Qci (H a):=λa ha=>by rw[Zl.mp ha];exact hm
 refine⟨r.len,λj d b e=>?_,r.own,r.src,λt ht=>⟨(r.held t ht).1.but hmm s λa ha z=>h2 t ht (Zl.mp z▸ha),(r.held t ht).2⟩,λb o hb=>?_⟩
 ·obtain⟨v,hv,rp⟩:=r.val j d b e
  exact⟨v,hv,rp.but hmm s λa ha z=>h1 j d b e (Zl.mp z▸ha)⟩
 ·have:b≠l:=λz=>by rw[z,h0]at hb;cases hb
  rw[Qx this];exact r.same b o hb
theorem Rel.QvI(r:Rel K H0 A0 hs ρ F σ H)(h:∀(j:Nat) d b,ρ[j]? =some (some (d,b))->F j=F' j):Rel K H0 A0 hs ρ F' σ H:=by
 refine⟨r.len,λj d b e=>by rw[← h j d b e];exact r.val j d b e,λj d e=>?_,λj d b e a ha=>r.src j d b e a (by rw[h j d b e];exact ha),r.held,r.same⟩
 obtain⟨o1,o2,o3,o4,o5⟩:=r.own j d e
 rw[← h j d true e]
 exact⟨o1,o2,o3,λk d' b' hk ek a ha=>by rw[← h k d' b' ek];exact o4 k d' b' hk ek a ha,o5⟩
def Qe0(H0:Hp)(hs:List (V×D×List Addr))(ρ:En)(F:Nat->List Addr)(a:Addr):Prop:=H0 a=none/\(∀(j:Nat) d b,ρ[j]? =some (some (d,b))->a∉F j)/\∀t∈hs,a∉t.2.2
theorem Rel.Qsu(r:Rel K H0 A0 hs ρ F σ H){a:Addr}(h:H a=none):Qe0 H0 hs ρ F a:=by
 refine⟨r.same.free h,λj d' b' ej z=>?_,λt ht z=>?_⟩
 ·obtain⟨u,q⟩:=r.mem ej z
  rw[h]at q;cases q
 ·obtain⟨u,q⟩:=(r.held t ht).1.mem a z
  rw[h]at q;cases q
theorem Rps.QsW{d:D}{ds:List D}{vs:List V}{L:List Addr}(h:Rps K H (d::ds) vs L):∃v ws F1 F2,vs=v::ws/\L=F1++F2/\Rp K H d v F1/\Rps K H ds ws F2:=by
 simp only[Rps]at h
 exact h
structure ZmW (K:PySem.W.Frag) (H0:Hp) (A0:List Addr) (hs:List (V×D×List Addr)) (ρ0:En) (F:Nat->List Addr) (f g h:Nat) (lf lg lh:Addr) (vf vh:List V) (hd es:List D) (Gf Lg Gh:List Addr) (ps:List D) (dr er:List D) (i:Nat) (σ:L2.St) (H:Hp):Prop where
 rel:Rel K H0 A0 hs ρ0 F σ H
 sh:σ[h]? =some (some (.ref lh))
 hf:H lf=some (.lst vf)
 rg:Rp K H (.lst es) (.ref lg) Lg
 eg:er=es.drop i
 rh:Rps K H hd vh Gh
 ex:∀a,a∈lf::Gf∨a∈Lg∨a∈lh::Gh->∃u,H a=some u
 new:∃(vn:List V) (Gp Gr Gn Gc:List Addr),Gf=Gp++Gr/\Gr.length=nls dr/\Rps K H dr (vf.drop i) Gr/\H lh=some (.lst (vh++vn))/\vn.length=i/\Rps K H ps vn Gn/\Gn.length=nls ps/\(∀a,Gn.count a<=Gp.count a+Gc.count a)/\Gc.Nodup/\(∀a∈Gc,Qe0 H0 hs ρ0 F a/\a∉lf::Gf/\a∉Lg/\a∉lh::Gh/\∃u,H a=some u)
end
section
variable {K:PySem.W.Frag}{H0:Hp}{A0:List Addr}{hs:List (V×D×List Addr)}{ρ0:En}{F:Nat->List Addr}{f g h:Nat}{lf lg lh:Addr}{vf vh:List V}{hd es:List D}{Gf Lg Gh:List Addr}{ps dr er:List D}{i:Nat}{σ:L2.St}{H H1:Hp}
theorem Qe0.shr{G:List Addr}(h:∀a∈G,Qe0 H0 hs ρ0 F a):Shr H0 A0 ρ0 F G:=λa ha=>⟨.inl (h a ha).1,λj d e=>(h a ha).2.1 j d true e⟩
theorem ZmW.same(w:ZmW K H0 A0 hs ρ0 F f g h lf lg lh vf vh hd es Gf Lg Gh ps dr er i σ H)(s:Qr H H1):ZmW K H0 A0 hs ρ0 F f g h lf lg lh vf vh hd es Gf Lg Gh ps dr er i σ H1:=by
 obtain⟨w1,w2,w3,w4,w5,w7,w8,vn,Gp,Gr,Gn,Gc,n1,n0,n2,n3,n4,n5,n6,n7,n8,n9⟩:=w
 refine⟨w1.ext s,w2,s _ _ w3,w4.same s,w5,w7.same s,λa ha=>(w8 a ha).imp λu hu=>s _ _ hu,vn,Gp,Gr,Gn,Gc,n1,n0,n2.same s,s _ _ n3,n4,n5.same s,n6,n7,n8,λa ha=>?_⟩
 obtain⟨m1,m2,m3,m4,u,hu⟩:=n9 a ha
 exact⟨m1,m2,m3,m4,u,s _ _ hu⟩
theorem ZmW.next{a b:Nat}{d e c:D}{x0 y0 v2:V}{pt:Addr}{vn:List V}{G2':List Addr}{H2:Hp}(w:ZmW K H0 A0 hs ρ0 F f g h lf lg lh vf vh hd es Gf Lg Gh ps (d::dr) (e::er) i σ H)(ex:vf[i]? =some x0)(ndf:(lf::Gf).Nodup)(dfh:∀a∈lf::Gf,a∉lh::Gh)(dgh:∀a∈Lg,a∉lh::Gh)(ndh:(lh::Gh).Nodup)(lo:∀a,a∈lf::Gf∨a∈lh::Gh->Qe0 H0 hs ρ0 F a)
  (hvn:H lh=some (.lst (vh++vn))) (s2:Qr H H2) (r2:Rp K H2 c v2 G2') (fr2:∀q∈G2',H q=none) (nd2:G2'.Nodup) (ln2:G2'.length=c.nl) (hpt:H2 pt=none) (ha:a≠h) (hb:b≠h)
  (rel':Rel K H0 A0 hs ρ0 F ((σ.set a (some x0)).set b (some y0)) H2) (hlen:hd.length=vh.length):ZmW K H0 A0 hs ρ0 F f g h lf lg lh vf vh hd es Gf Lg Gh (ps++[.tup [d,c]]) dr er (i+1) ((σ.set a (some x0)).set b (some y0)) (upd (upd H2 pt (.tup [x0,v2])) lh (.lst ((vh++vn)++[.ref pt]))):=by
 obtain⟨w1,w2,w3,w4,w5,w7,w8,vn',Gp,Gr,Gn,Gc,n1,n0,n2,n3,n4,n5,n6,n7,n8,n9⟩:=w
 rw[hvn]at n3
 have evn:vn=vn':=List.append_cancel_left (HO.lst.inj (Option.some.inj n3))
 subst evn
 have s3:Qr H2 (upd H2 pt (.tup [x0,v2])):=Qay hpt
 have s4:Qr H (upd H2 pt (.tup [x0,v2])):=s2.trans s3
 generalize hH4:upd H2 pt (.tup [x0,v2])=H4 at s3 s4
 have hpt4:H4 pt=some (.tup [x0,v2]):=by rw[← hH4];exact QQ
 have hlh4:H4 lh=some (.lst (vh++vn)):=s4 _ _ hvn
 have hm:∀q∈[lh],Qci (H4 q):=λq hq=>by rw[Zl.mp hq,hlh4];exact True.intro
 have sL:Qr (hide H4 [lh]) (upd H4 lh (.lst ((vh++vn)++[.ref pt]))):=QdU (List.mem_singleton_self lh)
 generalize hH5:upd H4 lh (.lst ((vh++vn)++[.ref pt]))=H5 at sL
 have hlh5:H5 lh=some (.lst ((vh++vn)++[.ref pt])):=by rw[← hH5];exact QQ
 have lhf:lh∉lf::Gf:=λz=>dfh lh z (by simp)
 have lhg:lh∉Lg:=λz=>dgh lh z (by simp)
 have lhh:lh∉Gh:=(ZJ.mp ndh).1
 have notlh:∀{G:List Addr},lh∉G->∀q∈G,q∉[lh]:=λ{G} hn q hq z=>hn (Zl.mp z▸hq)
 obtain⟨x0',ws,Gi,Gr',e1,e2,rd,rr⟩:=n2.QsW
 have hdrop:vf.drop i=x0::vf.drop (i+1):=by
  obtain⟨hi,e⟩:=Zh.mp ex
  rw[ZK hi,e]
 rw[hdrop]at e1
 obtain⟨ex0,ews⟩:=List.cons.inj e1
 subst ex0 ews
 have eg':er=es.drop (i+1):=by
  have z:=congrArg (List.drop 1) w5
  rw[List.drop_drop]at z
  exact z
 have memG:∀q∈Gr,q∈Gf:=λq hq=>by rw[n1];exact Ze _ hq
 have lhGi:lh∉Gi:=λz=>lhf (Zb _ (memG lh (by rw[e2];exact Zd _ z)))
 have lhGr:lh∉Gr':=λz=>lhf (Zb _ (memG lh (by rw[e2];exact Ze _ z)))
 have there:∀q u,H q=some u->q∉G2':=λq u hu z=>by rw[fr2 q z]at hu;cases hu
 have lh2:lh∉G2':=there lh _ hvn
 have lhn:lh∉Gn:=λz=>by
  have h0:0<Gn.count lh:=ZS.mpr z
  have:=n7 lh
  have c1:Gp.count lh=0:=Zz.mpr λz=>lhf (Zb _ (by rw[n1];exact Zd _ z))
  have c2:Gc.count lh=0:=Zz.mpr λz=>(n9 lh z).2.2.2.1 (by simp)
  omega
 have rd5:Rp K H5 d x0 Gi:=(rd.same s4).but hm sL (notlh lhGi)
 have r25:Rp K H5 c v2 G2':=(r2.same s3).but hm sL (notlh lh2)
 have hpt5:H5 pt=some (.tup [x0,v2]):=Qak sL hpt4 λz=>by rw[Zl.mp z,hlh4]at hpt4;cases hpt4
 have rt:Rp K H5 (.tup [d,c]) (.ref pt) (Gi++G2'):=by
  simp only[Rp]
  refine⟨pt,[x0,v2],rfl,.inl (.inl hpt5),?_⟩
  simp only[Rps]
  exact⟨x0,[v2],Gi,G2',rfl,rfl,rd5,v2,[],G2',[],rfl,(ZD _).symm,r25,rfl,rfl⟩
 have apart2:∀q∈G2',q∉lf::Gf/\q∉Lg/\q∉lh::Gh:=λq hq=>by
  have no:∀z,z∈lf::Gf∨z∈Lg∨z∈lh::Gh->q≠z:=λz hz e=>by
   obtain⟨u,hu⟩:=w8 z hz
   exact there z u hu (e▸hq)
  exact⟨λz=>no q (.inl z) rfl,λz=>no q (.inr (.inl z)) rfl,λz=>no q (.inr (.inr z)) rfl⟩
 have le1:=rd.QS
 have le2:=rr.QS
 have lsum:Gi.length+Gr'.length=d.nl+nls dr:=by
  have:=n0
  rw[e2,Zk]at this
  rw[this];simp only[nls]
 have keep5:∀q u,H q=some u->q≠lh->H5 q=some u:=λq u hu hq=>Qak sL (s4 _ _ hu) λz=>hq (Zl.mp z)
 have some5:∀q u,H q=some u->∃u',H5 q=some u':=λq u hu=>by
  by_cases hq:q=lh
  ·exact⟨_,hq▸hlh5⟩
  ·exact⟨u,keep5 q u hu hq⟩
 refine⟨?_,?_,keep5 _ _ w3 λz=>lhf (by rw[← z];simp),(w4.same s4).but hm sL (notlh lhg),eg',(w7.same s4).Qrr hm sL (notlh lhh),λq hq=>?_,vn++[.ref pt],Gp++Gi,Gr',Gn++(Gi++G2'),Gc++G2',by rw[n1,e2,Zaj],by omega,(rr.same s4).Qrr hm sL (notlh lhGr),by rw[hlh5,Zaj],by rw[Zk,n4];rfl,?_,?_,λq=>?_,?_,λq hq=>?_⟩
 ·rw[← hH5]
  exact(rel'.ext s3).loose (by rw[hlh4];exact True.intro) (lo lh (.inr (by simp))).1 (lo lh (.inr (by simp))).2.1 (lo lh (.inr (by simp))).2.2
 ·rw[Zf hb,Zf ha];exact w2
 ·obtain⟨u,hu⟩:=w8 q hq
  exact some5 q u hu
 ·exact Rps.append ((n5.same s4).Qrr hm sL (notlh lhn)) (Rps.Ql8 rt)
 ·have e5:nls (ps++[.tup [d,c]])=nls ps+(d.nl+c.nl):=by rw[Qa0];simp only[nls,D.nl];omega
  rw[e5,Zk,Zk,n6,ln2]
  omega
 ·have:=n7 q
  simp only[ZY]
  omega
 ·refine Zy.mpr ⟨n8,nd2,λq hq z hz e=>?_⟩
  subst e
  obtain⟨_,_,_,_,u,hu⟩:=n9 q hq
  exact there q u hu hz
 ·rcases Zm.mp hq with hq | hq
  ·obtain⟨m1,m2,m3,m4,u,hu⟩:=n9 q hq
   exact⟨m1,m2,m3,m4,some5 q u hu⟩
  ·obtain⟨m2,m3,m4⟩:=apart2 q hq
   obtain⟨u,hu⟩:=r2.mem q hq
   refine⟨w1.Qsu (fr2 q hq),m2,m3,m4,?_⟩
   exact⟨u,Qak sL (s3 _ _ hu) λz=>m4 (by rw[Zl.mp z];simp)⟩
end
theorem Qd0{ρ:En}{k j:Nat}{x:D×Bool}(h:(ρ.set k none)[j]? =some (some x)):j≠k/\ρ[j]? =some (some x):=by
 by_cases hj:j=k
 ·subst hj
  by_cases hl:j<ρ.length
  ·rw[Zn hl]at h;cases h
  ·rw[Zr (by simp;omega)]at h;cases h
 ·rw[Zf (Ne.symm hj)]at h
  exact⟨hj,h⟩
theorem QdS{ρ:En}{f g h a b j:Nat}{x:D×Bool}(e:(QcP f g h a b ρ)[j]? =some (some x)):ρ[j]? =some (some x)/\j≠f/\j≠g/\j≠h/\j≠a/\j≠b:=by
 obtain⟨hb,e⟩:=Qd0 e
 obtain⟨ha,e⟩:=Qd0 e
 obtain⟨hh,e⟩:=Qd0 e
 obtain⟨hg,e⟩:=Qd0 e
 obtain⟨hf,e⟩:=Qd0 e
 exact⟨e,hf,hg,hh,ha,hb⟩
theorem set_same{σ:L2.St}{h:Nat}{v:V}(e:σ[h]? =some (some v)):σ.set h (some v)=σ:=by
 apply Zax
 intro k
 by_cases hk:h=k
 ·subst hk
  rw[Zn (Zh.mp e).1,e]
 ·rw[Zf hk]
section
variable {X:Cx}{nf ng nh na:Str}{lE c:Expr}{ret:List Stmt}{tgs:List Expr}{tk tk2:Nat}{tp zp p1 p2 p3 p4 tp2 zpos apos cpos ip ep pos:Pos}{gt:DT}{fl:DE}{f g h a b:Nat}
theorem Qvp(hp:PassesOwn (model X.prog X.w) X.A X.env X.xe)(hc:X.calm=true)(hgz:Gl X "zip")(hmz:X.mg "zip" =none)(ef:PE X (.Name nf p1) (QbX f))(eg:PE X (.Name ng p2) (QbX g))(eh:PE X (.Name nh p3) (QbX h))(ea:PE X (.Name na p4) (QbX a))
  (hT:ST X c gt) (hl:SE X lE fl) (hgN:PGs X tgs (QgB [a,b])) (hn:(assignEach tgs X.env).length=2) (hst:(assignEach tgs X.env).findIdx? (·.1)=none) (hs1:starEach [lE] X.env=[(false,eval lE X.env)]) (hs2:starEach [.Name na p4,lE] X.env=(false,eval (.Name na p4) X.env)::starEach [lE] X.env) (hline:(apos.endLine == cpos.line)=true):
  S1 X (.For (.Tuple tgs tk tp) (.Call (.Name "zip" zp) [.Name nf p1,.Name ng p2] [] zpos) [.If c ret [] ip,.Expr (.Call (.Attribute (.Name nh p3) "append" apos) [.Tuple [.Name na p4,lE] tk2 tp2] [] cpos) ep] [] pos) (Qin f g h a b gt fl):=by
 intro H0 A0 pins s σ H E I hpt
 obtain⟨ρ,hs,F,out,rel,ee,q⟩:=hpt
 unfold Qin at ee
 split at ee
 case h_2=>cases ee
 rename_i ds hρf
 split at ee
 case h_2=>cases ee
 rename_i es bg hρg
 split at ee
 case h_2=>cases ee
 rename_i hd hρh
 split at ee
 case isFalse=>cases ee
 rename_i hcc
 obtain⟨nd5,hla,hlb,hsz⟩:=hcc
 obtain⟨PS,ego,rfl⟩:=Zc.mp ee
 simp only[ZJ,Zo,ZaT,or_false,not_or,Zab,and_true,not_false_eq_true]at nd5
 obtain⟨⟨fg,fh,fa,fb⟩,⟨gh,ga,gb⟩,⟨ha,hb⟩,ab⟩:=nd5
 have rel0:Rel X.K H0 A0 hs (QcP f g h a b ρ) F σ H:=rel.weak (((((Qb7 f).trans (Qb7 g)).trans (Qb7 h)).trans (Qb7 a)).trans (Qb7 b))
 obtain⟨_,hvf,rpf⟩:=rel.val f _ true hρf
 obtain⟨_,hvg,rpg⟩:=rel.val g _ _ hρg
 obtain⟨_,hvh,rph⟩:=rel.val h _ true hρh
 obtain⟨f1,f2,f3,f4,f5⟩:=rel.own f _ hρf
 obtain⟨h1,h2,h3,h4,h5⟩:=rel.own h _ hρh
 obtain⟨lf,_,_,evf,_⟩:=rpf.lst_inv
 obtain⟨lg,vg0,_,evg,hq0,_⟩:=rpg.lst_inv
 obtain⟨lh,_,_,evh,_⟩:=rph.lst_inv
 subst evf evg evh
 obtain⟨vf,Gf,x1,x2,x3,x4,x5,x6,x7,_⟩:=(show Focus X.K H [] (.lst ds) (.ref lf) (F f) (.lst ds) (.ref lf) (F f)from⟨rfl,rfl,rfl,rpf⟩).mut (vs':=[]) (ds':=[]) (G':=[]) f2 f1
 have sq0:=QP hq0
 obtain⟨vh,Gh,z1,z2,z3,z4,z5,z6,z7,_⟩:=(show Focus X.K H [] (.lst hd) (.ref lh) (F h) (.lst hd) (.ref lh) (F h)from⟨rfl,rfl,rfl,rph⟩).mut (vs':=[]) (ds':=[]) (G':=[]) h2 h1
 have ndf:(lf::Gf).Nodup:=x2▸f2
 have ndh:(lh::Gh).Nodup:=z2▸h2
 have dfh:∀q∈lf::Gf,q∉lh::Gh:=λq hq=>by
  rw[← x2]at hq
  rw[← z2]
  exact f4 h _ true (λz=>fh z.symm) hρh q hq
 have dgh:∀q∈F g,q∉lh::Gh:=λq hq z=>by
  rw[← z2]at z
  exact h4 g _ _ gh hρg q z hq
 have loG:Shr H0 A0 (QcP f g h a b ρ) F (F g):=λq hq=>⟨rel.src g _ _ hρg q hq,λj d e z=>(rel.own j d (QdS e).1).2.2.2.1 g _ _ (λk=>(QdS e).2.2.1 k.symm) hρg q z hq⟩
 have lo:∀q,q∈lf::Gf∨q∈lh::Gh->Qe0 H0 hs (QcP f g h a b ρ) F q:=λq hq=>by
  rcases hq with hq | hq
  ·rw[← x2]at hq
   exact⟨f3 q hq,λj d b' e=>f4 j d b' (QdS e).2.1 (QdS e).1 q hq,λt ht=>f5 t ht q hq⟩
  ·rw[← z2]at hq
   exact⟨h3 q hq,λj d b' e=>h4 j d b' (QdS e).2.2.2.1 (QdS e).1 q hq,λt ht=>h5 t ht q hq⟩
 have ex0:∀q,q∈lf::Gf∨q∈F g∨q∈lh::Gh->∃u,H q=some u:=λq hq=>by
  rcases hq with hq | hq | hq
  ·exact rpf.mem q (x2▸hq)
  ·exact rpg.mem q hq
  ·exact rph.mem q (z2▸hq)
 generalize hρ0:QcP f g h a b ρ=ρ0 at *
 have hlen0:ρ0.length=ρ.length:=by rw[← hρ0];simp[QcP]
 have P:=Qmp (pos:=pos) hp hc (QqF (es:=tgs) (tk:=tk) (tpos:=tp) (p:=zp) (pos:=zpos) hgz hmz (Qag ef (Qag eg QbJ rfl) rfl) rfl rfl) (Qpi hc hgN hn hst) (Qid (QoV (pos:=ip) (hT H0 A0) (QqJ (sts:=ret)) QnG) (QnY (Qek (pos:=ep) (QsU (apos:=apos) (cpos:=cpos) ZaO Zbk Zbl Qgy eh (Qag (Qqc (x1:=tk2) (pos:=tp2) (Qag ea (Qag (hl H0 A0) QbJ hs1) hs2)) QbJ rfl) rfl rfl hline rfl rfl) rfl))) (λ_=>rfl)
 refine P pins s σ H E I ⟨_,hvf,_,hvg,lf,lg,rfl,⟨vf,.inl (.inl x1)⟩,⟨vg0,sq0⟩,λi m σ' H'=>∃ps dr er ps',m=dr.length/\ZmW X.K H0 A0 hs ρ0 F f g h lf lg lh vf vh hd es Gf (F g) Gh ps dr er i σ' H'/\Qf4 a b gt fl ρ0 dr er=some ps'/\ps++ps'=PS/\i+dr.length=ds.length,⟨_,[],ds,es,PS,rfl,⟨rel0,hvh,x1,rpg,rfl,z3,ex0,[],[],Gf,[],[],rfl,x4,x3,by rw[ZD];exact z1,rfl,by simp[Rps],rfl,λ_=>by simp,Zab,λq hq=>by simp at hq⟩,ego,rfl,Nat.zero_add _⟩,?_⟩
 rintro i m σ' H' ⟨ps,dr,er,ps',rfl,w,hgo,hps,hidr⟩
 cases dr with
 | nil=>
  have hps':ps'=[]:=by
   unfold Qf4 at hgo
   split at hgo
   ·exact(Option.some.inj hgo).symm
   ·cases hgo
  subst hps'
  rw[ZD]at hps
  subst hps
  obtain⟨w1,w2,w3,w4,w5,w7,w8,vn,Gp,Gr,Gn,Gc,n1,n0,n2,n3,n4,n5,n6,n7,n8,n9⟩:=w
  obtain⟨_,vg,_,evg,hq1,_⟩:=w4.lst_inv
  cases evg
  refine .inl ⟨⟨vf,vg,.inl (.inl w3),QP hq1,.inl (by rw[← x3.length,← hidr];simp)⟩,?_⟩
  have lps:=n5.length
  have lhd:=z3.length
  have rp:Rp X.K H' (.lst (hd++ps)) (.ref lh) (lh::(Gh++Gn)):=Rp.Qdo n3 (Rps.append w7 n5) (by rw[Zk];simp at hidr;rw[QhA];omega)
  have memn:∀q∈Gn,q∈Gf∨q∈Gc:=λq hq=>by
   have c0:0<Gn.count q:=ZS.mpr hq
   have c1:=n7 q
   by_cases z:q∈Gc
   ·exact .inr z
   ·rw[Zz.mpr z]at c1
    exact .inl (by rw[n1];exact Zd _ (ZS.mp (by omega)))
  have ndp:Gp.Nodup:=(Zy.mp (n1▸(ZJ.mp ndf).2)).1
  have ndn:Gn.Nodup:=ZR.mpr λq=>by
   have c1:=n7 q
   have c2:=Qhy ndp q
   have c3:=Qhy n8 q
   by_cases z:q∈Gc
   ·have:Gp.count q=0:=Zz.mpr λzz=>(n9 q z).2.1 (by rw[n1];simp[zz])
    omega
   ·rw[Zz.mpr z]at c1
    omega
  have dn:∀q∈Gn,q∉lh::Gh:=λq hq=>by
   rcases memn q hq with z | z
   ·exact dfh q (Zb _ z)
   ·exact(n9 q z).2.2.2.1
  obtain⟨nlh,ndGh⟩:=ZJ.mp ndh
  have nd:(lh::(Gh++Gn)).Nodup:=ZJ.mpr ⟨λz=>(Zm.mp z).elim nlh λz=>dn lh z (by simp),Zy.mpr ⟨ndGh,ndn,λq hq q' hq' e=>dn q' hq' (by rw[← e];simp[hq])⟩⟩
  have r:=w1.new (i:=h) rp nd (by simp only[D.nl,Zi,Zk,Qa0];omega) λq hq=>by
   have l:Qe0 H0 hs ρ0 F q:=by
    rcases Zo.mp hq with z | z
    ·exact lo q (.inr (by simp[z]))
    ·rcases Zm.mp z with z | z
     ·exact lo q (.inr (by simp[z]))
     ·rcases memn q z with z | z
      ·exact lo q (.inl (by simp[z]))
      ·exact(n9 q z).1
   exact⟨l.1,λj d b' e _=>l.2.1 j d b' e,l.2.2⟩
  rw[set_same w2]at r
  exact q _ _ _ r
 | cons d dr=>
  cases er with
  | nil=>exact nomatch (show(none:Option (List D))=some _ from hgo)
  | cons e er=>
   change(if gt ((ρ0.set a (some (d,d.flat))).set b (some (e,e.flat)))=some false then(fl ((ρ0.set a (some (d,d.flat))).set b (some (e,e.flat)))).bind λr=>if(r.fr && r.M.isEmpty)=true then(Qf4 a b gt fl ρ0 dr er).map λps=> .tup [d,r.d]::ps else none else none)=some ps' at hgo
   split at hgo
   case isFalse=>cases hgo
   rename_i hgt
   refine Qc hgo λr hr hgo=>?_
   split at hgo
   case isFalse=>cases hgo
   rename_i hrf
   simp only[Zg,ZaV]at hrf
   obtain⟨ps2,hgo2,rfl⟩:=Zc.mp hgo
   obtain⟨w1,w2,w3,w4,w5,w7,w8,vn,Gp,Gr,Gn,Gc,n1,n0,n2,n3,n4,n5,n6,n7,n8,n9⟩:=id w
   obtain⟨x0,ws,Gi,Gr',e1,e2,rd,rr⟩:=n2.QsW
   obtain⟨_,vg,Gv,evg,hq1,rs1,_,hF1⟩:=w4.lst_inv
   cases evg
   have hes:es[i]? =some e:=by have z:=congrArg (λl:List D=>l[0]?) w5;simpa[Zbf]using z.symm
   obtain⟨y0,Fa,Ge,Fb,ey0,eGv,re,_⟩:=rs1.get hes
   have ex0':vf[i]? =some x0:=by have z:=congrArg (λl:List V=>l[0]?) e1;simpa[Zbf]using z
   refine .inr ⟨⟨vf,vg,x0,y0,.inl (.inl w3),QP hq1,ex0',ey0⟩,λσ2 H2=>∃ps dr' er' ps',dr'.length=dr.length/\ZmW X.K H0 A0 hs ρ0 F f g h lf lg lh vf vh hd es Gf (F g) Gh ps dr' er' (i+1) σ2 H2/\Qf4 a b gt fl ρ0 dr' er'=some ps'/\ps++ps'=PS/\(i+1)+dr'.length=ds.length,λσ2 H2 ⟨ps,dr',er',ps',k1,k2⟩=>⟨dr'.length,by rw[k1];simp,ps,dr',er',ps',rfl,k2⟩,?_⟩
   rintro x H3 ⟨p,x',y',rfl,hp0,rfl,hx',hy'⟩
   have ex1:=hx' vf (.inl (.inl w3))
   have ey1:=hy' vg (QP hq1)
   rw[ex0']at ex1
   rw[ey0]at ey1
   cases ex1
   cases ey1
   have sP:Qr H' (upd H' p (.tup [x0,y0])):=Qay hp0
   have wP:=w.same sP
   generalize hH3:upd H' p (.tup [x0,y0])=H3 at sP wP
   have hp3:H3 p=some (.tup [x0,y0]):=by rw[← hH3];exact QQ
   refine⟨p,[x0,y0],rfl,.inl (.inl hp3),rfl,x0,[y0],rfl,y0,[],rfl,rfl,?_⟩
   have memf:∀q∈Gi,q∈lf::Gf:=λq hq=>by rw[n1,e2];simp[hq]
   have memg:∀q∈Ge,q∈F g:=λq hq=>by
    have z:q∈Gv:=by rw[eGv];simp[hq]
    rcases hF1 with k | k
    ·rw[k];exact Zb _ z
    ·rw[k];exact z
   have r1:=wP.rel.Qjn (i:=a) (rd.same sP) (Qe0.shr λq hq=>lo q (.inl (memf q hq)))
   have shE:Shr H0 A0 (ρ0.set a (some (d,d.flat))) (λj=>if j=a then Gi else F j) Ge:=(show Shr H0 A0 ρ0 F Ge from λq hq=>loG q (memg q hq)).set rd.Qbc
   have r2:=r1.Qjn (i:=b) (re.same sP) shE
   refine⟨_,hs,_,false,r2,hgt,λH4 s4=>?_⟩
   have w4':=wP.same s4
   have r3:=r2.ext s4
   have hσh:((σ'.set a (some x0)).set b (some y0))[h]? =some (some (.ref lh)):=by rw[Zf (λz=>hb z.symm),Zf (λz=>ha z.symm)];exact w2
   have hσa:((σ'.set a (some x0)).set b (some y0))[a]? =some (some x0):=by
    rw[Zf (λz=>ab z.symm),Zn (by rw[← w1.len,hlen0];exact hla)]
   have hlh4:H4 lh=some (.lst (vh++vn)):=s4 _ _ (sP _ _ n3)
   refine⟨_,hσh,.inl ⟨rfl,_,.inl (.inl hlh4)⟩,_,hσa,_,hs,_,r,r3,hr,λv2 H5 G2' pp=>⟨by show 2<=sizeLine;decide,λpt hpt=>⟨lh,vh++vn,.ref pt,rfl,rfl,?_,?_,?_⟩⟩⟩
   ·have:pt≠lh:=λz=>by rw[z,pp.same _ _ hlh4]at hpt;cases hpt
    rw[Qx (Ne.symm this)];exact pp.same _ _ hlh4
   ·rw[Zk,← z3.length,n4]
    simp only[Zi]at hidr
    rw[QhA];omega
   ·have fr:=pp.fresh r3 hrf.1 (by rw[hrf.2];exact Zab)
    have cn:=(pp.cnt hrf.1).2
    have rel5:Rel X.K H0 A0 hs ρ0 F ((σ'.set a (some x0)).set b (some y0)) H5:=by
     refine((r3.ext pp.same).weak (ρ':=ρ0) ⟨by simp,λj d' b' ej=>?_⟩).QvI λj d' b' ej=>?_
     ·have kj:=(QdS (hρ0▸ej)).2.2.2.2
      exact⟨b',by rw[Zf (Ne.symm kj.2),Zf (Ne.symm kj.1)];exact ej,id⟩
     ·have kj:=(QdS (hρ0▸ej)).2.2.2.2
      rw[if_neg kj.2,if_neg kj.1]
    refine⟨ps++[.tup [d,r.d]],dr,er,ps2,rfl,w4'.next ex0' ndf dfh dgh ndh lo hlh4 pp.same pp.rp (λq hq=>?_) fr.1 cn hpt (λz=>ha z.symm) (λz=>hb z.symm) rel5 z3.length,hgo2,by rw[← hps,Zaj];rfl,by simp only[Zi]at hidr;omega⟩
    rcases(fr.2 q hq).2 with z | ⟨k,_,hk,_⟩
    ·exact z
    ·rw[hrf.2]at hk;simp at hk
end
end HS
namespace HS
open PySem PySem.Spec L2 PyProof.Rows
noncomputable abbrev IsT:=List (Str×List (Str×Bool))
def IsF(K:PySem.W.Frag)(x c:Str)(b:Bool):Prop:=∃C C',PySem.W.nsIn K mainGlobals x=some (some (.ref C))/\Cls K C/\PySem.W.findIn K (.ref C) "__class__" =some (some (.builtin "object.__class__"))/\PySem.W.specialIn K (.builtin "object.__class__") "__get__" =some (some (.builtin "getset_descriptor.__get__"))/\PySem.W.takesIn K (.builtin "object.__class__")=some true/\PySem.W.mroIn K C (.type "object")=some true∧
 PySem.W.KtsName K c (.ref C')/\PySem.W.kitOne K (.ref C) (.ref C')=some b
def Qh9(K:PySem.W.Frag)(T:IsT):Prop:=∀x m c b,look x T=some m->look c m=some b->IsF K x c b
noncomputable def Qmb(T:IsT)(c:Str)(fa:DE):DE:=λρ=>(fa ρ).bind λr=>match r.d with
 | .obj o _=>match o with
  | .ins x _=>(look x T).bind λm=>(look c m).map λb=>⟨.bl b,true,[]⟩
  | _=>none
 | _=>none
section
variable {X:Cx}{a:Expr}{fa:DE}{p p2 pos:Pos}{T:IsT}
noncomputable def Qyv(K:PySem.W.Frag):List V->Hp->VK->Prop:=λxs H Q=>∃x t c b,xs=[x,.ref c]/\Qdu K H x t/\PySem.W.kitOne K t (.ref c)=some b/\Q (.bl b) H
theorem Qsr:QaY X (.builtin "isinstance") (Qyv X.K):=by
 intro pins s σ H xs us Q I r h
 obtain⟨x,t,c,b,rfl,ty,k,q⟩:=h
 obtain⟨u,w,rfl,ru,rw'⟩:=vals2 r
 cases(show w=Value.ref c from rw')
 exact Qpk I ru ty k λtk=>⟨.bl b,H,I.tok _,rfl,q⟩
theorem Qu7{y:Str}(hT:Qh9 X.K T)(hg:Gl X "isinstance")(hm:X.mg "isinstance" =none)(hy:Gl X y)(hdb:(y == ("__debug__" :Str))=false)(ha:SE X a fa)(he:starEach [a,.Name y p2] X.env=(false,eval a X.env)::starEach [.Name y p2] X.env):
  SE X (.Call (.Name "isinstance" p) [a,.Name y p2] [] pos) (Qmb T y fa):=λH0 A0 pins s σ H Q I=>exK λρ hs F r' rel e q=>by
 refine Qc e λr e1 e=>?_
 split at e
 case h_2=>cases e
 rename_i o ds hd
 split at e
 case h_2=>cases e
 rename_i x ns
 refine Qc e λm hm1 e=>?_
 obtain⟨b,eb,rfl⟩:=Zc.mp e
 obtain⟨C,C',k1,k2,k3,k4,k5,k6,k7,k8⟩:=hT x m y b hm1 eb
 refine QfP Qsr hg hm ZaF (Qag (ha H0 A0) (Qag (Qpm hy hdb k7 (Qm0 k8)) QbJ) he) (by decide) (by decide) he (by rfl) pins s σ H Q I ?_
 refine⟨ρ,hs,F,r,rel,e1,λv H1 G p=>?_⟩
 have rp:=p.rp
 rw[hd]at rp
 obtain⟨a,C2,dx,vs,G0,ev,eG,e3,e4,e5,rs⟩:=rp.Qc2
 rw[k1]at e3
 cases e3
 exact⟨v,.ref C,C',b,rfl,by rw[ev];exact .ins e4 k2 k3 k4 k5 k6,k8,q _ H1 [] (.flat p.same .QcO)⟩
end
noncomputable def QjP{α:Type}:List α->Option (α×α)
 | []=>none
 | a::r=>match r with
  | []=>none
  | b::r=>if r.isEmpty=true then some (a,b)else none
theorem Qeo{α:Type}{l:List α}{a b:α}(h:QjP l=some (a,b)):l=[a,b]:=by
 rcases l with _ | ⟨x,_ | ⟨y,_ | ⟨z,r⟩⟩⟩
 ·cases h
 ·cases h
 ·cases h;rfl
 ·exact nomatch (show(none:Option (α×α))=some _ from h)
noncomputable def te3(n:Nat)(Θ:Th)(T:ObT)(IS:IsT)(e:Expr):Option DE:=match te2 n Θ T e with
 | some f=>some f
 | none=>match e with
  | .Call fn args kw _=>match kw with
   | _::_=>none
   | []=>(QD fn).bind λx=>if(decide (x= "isinstance") && Θ.gl x)=true then(QjP args).bind λq=>(QD q.2).bind λy=>if(Θ.gl y && IS.any λt=>(look y t.2).isSome)=true then(Ql n Θ q.1).map λfa=>Qmb IS y fa else none else none
  | _=>none
theorem QpV{X:Cx}{Θ:Th}{T:ObT}{IS:IsT}{n:Nat}(ok:Qt X Θ)(ob:QfW X T)(hi:Qh9 X.K IS):∀e f,te3 n Θ T IS e=some f->SE X e f:=by
 intro e f h
 unfold te3 at h
 split at h
 ·rename_i g hg
  cases h
  exact Ql4 ok ob e _ hg
 ·cases e with
  | Call fn args kw p=>
   cases kw with
   | cons _ _=>exact nomatch (show(none:Option DE)=some _ from h)
   | nil=>
    refine Qc (show(QD fn).bind _=some f from h) λx hx h'=>?_
    clear h
    obtain⟨np,rfl⟩:=QH hx
    have h:=h'
    clear h'
    split at h
    case isFalse=>cases h
    rename_i hc
    simp only[Zg,decide_eq_true_eq]at hc
    obtain⟨rfl,hgx⟩:=hc
    refine Qc h λq hq h=>?_
    refine Qc h λy hy h=>?_
    split at h
    case isFalse=>cases h
    rename_i hc
    simp only[Zg]at hc
    refine mapR h λfa hfa=>?_
    obtain⟨a,b⟩:=q
    cases Qeo hq
    obtain⟨np2,hb⟩:=QH hy
    dsimp only at hb
    subst hb
    obtain⟨g1,g2,g3⟩:=Qbq ok.toCtxB hc.1
    exact Qu7 hi (Qbq ok.toCtxB hgx).1 (ok.mg "isinstance" (by decide+kernel)) g1 g2 ((QT n).E X Θ a fa ok hfa) (Qa1 hfa _ _)
  | _=>exact nomatch (show(none:Option DE)=some _ from h)
noncomputable def Qsq:Expr->Option (List Expr)
 | .Tuple es _ _=>some es
 | _=>none
theorem Qmw{e:Expr}{es:List Expr}(h:Qsq e=some es):∃k p,e= .Tuple es k p:=by
 cases e with
 | Tuple es' k p=>cases h;exact⟨k,p,rfl⟩
 | _=>exact nomatch (show(none:Option (List Expr))=some _ from h)
noncomputable def QsO:Expr->Option (Expr×List Expr)
 | .Call fn args kw _=>match kw with
  | _::_=>none
  | []=>some (fn,args)
 | _=>none
theorem QpU{e fn:Expr}{as:List Expr}(h:QsO e=some (fn,as)):∃p,e= .Call fn as [] p:=by
 cases e with
 | Call f a kw p=>
  cases kw with
  | cons _ _=>exact nomatch (show(none:Option (Expr×List Expr))=some _ from h)
  | nil=>cases h;exact⟨p,rfl⟩
 | _=>exact nomatch (show(none:Option (Expr×List Expr))=some _ from h)
noncomputable def ifL:Stmt->Option (Expr×List Stmt)
 | .If c a b _=>match b with
  | _::_=>none
  | []=>some (c,a)
 | _=>none
theorem Qtb{st:Stmt}{c:Expr}{a:List Stmt}(h:ifL st=some (c,a)):∃p,st= .If c a [] p:=by
 cases st with
 | If c' a' b p=>
  cases b with
  | cons _ _=>exact nomatch (show(none:Option (Expr×List Stmt))=some _ from h)
  | nil=>cases h;exact⟨p,rfl⟩
 | _=>exact nomatch (show(none:Option (Expr×List Stmt))=some _ from h)
noncomputable def Qwb:Stmt->Option (Expr×Expr)
 | .Expr v _=>(Qk8 v).bind λq=>if(decide (q.2.1= "append") && (q.2.2.1.endLine == q.2.2.2.1.line) && q.2.2.2.2.2.isEmpty)=true then some (q.1,q.2.2.2.2.1)else none
 | _=>none
theorem QqQ{st:Stmt}{o e:Expr}(h:Qwb st=some (o,e)):∃ap cp p,st= .Expr (.Call (.Attribute o "append" ap) [e] [] cp) p/\(ap.endLine == cp.line)=true:=by
 cases st with
 | Expr v p=>
  refine Qc (show(Qk8 v).bind _=some (o,e)from h) λq hq h'=>?_
  clear h
  split at h'
  case isFalse=>cases h'
  rename_i hc
  cases h'
  obtain⟨o,m,ap,cp,a,as⟩:=q
  simp only[Zg,decide_eq_true_eq,ZaV]at hc
  obtain⟨⟨rfl,h2⟩,rfl⟩:=hc
  rw[Qki hq]
  exact⟨ap,cp,p,rfl,h2⟩
 | _=>exact nomatch (show(none:Option (Expr×Expr))=some _ from h)
noncomputable def zmP(n:Nat)(Θ:Th)(tg iter:Expr)(body:List Stmt):Option DS:=
 (Qsq tg).bind λts=>(QjP ts).bind λt=>(QD t.1).bind λna=>(QD t.2).bind λnb=>(QsO iter).bind λc=>(QD c.1).bind λnz=>if(decide (nz= "zip") && Θ.gl nz)=true then
  (QjP c.2).bind λz=>(QD z.1).bind λnf=>(QD z.2).bind λng=>(QjP body).bind λb=>(ifL b.1).bind λi=>(Qwb b.2).bind λo=>(QD o.1).bind λnh=>(Qsq o.2).bind λu=>(QjP u).bind λu=>(QD u.1).bind λna'=>if na'=na then
   (Θ.QaX na).bind λa=>(Θ.QaX nb).bind λb'=>(Θ.slot na).bind λa'=>(Θ.slot nf).bind λf=>(Θ.slot ng).bind λg=>(Θ.slot nh).bind λh=>if a'=a then(QaK n Θ i.1).bind λgt=>(Ql n Θ u.2).map λfl=>Qin f g h a b' gt fl else none
  else none else none
theorem Qwv{X:Cx}{Θ:Th}{n:Nat}{tg iter:Expr}{body:List Stmt}{pos:Pos}{f:DS}(ok:Qt X Θ)(h:zmP n Θ tg iter body=some f):S1 X (.For tg iter body [] pos) f:=by
 have hN:X.N.Nodup:=by rw[ok.N];exact ok.nd
 unfold zmP at h
 refine Qc h λts h1 h=>?_
 refine Qc h λt h2 h=>?_
 refine Qc h λna h3 h=>?_
 refine Qc h λnb h4 h=>?_
 refine Qc h λc h5 h=>?_
 refine Qc h λnz h6 h=>?_
 split at h
 case isFalse=>cases h
 rename_i hz
 simp only[Zg,decide_eq_true_eq]at hz
 obtain⟨rfl,hz⟩:=hz
 refine Qc h λz h7 h=>?_
 refine Qc h λnf h8 h=>?_
 refine Qc h λng h9 h=>?_
 refine Qc h λb hb h=>?_
 refine Qc h λi hi h=>?_
 refine Qc h λo ho h=>?_
 refine Qc h λnh hh h=>?_
 refine Qc h λu hu h=>?_
 refine Qc h λu2 hu2 h=>?_
 refine Qc h λna' hna h=>?_
 split at h
 case isFalse=>cases h
 rename_i e1
 subst e1
 refine Qc h λsa k1 h=>?_
 refine Qc h λsb k2 h=>?_
 refine Qc h λsa' k3 h=>?_
 refine Qc h λsf k4 h=>?_
 refine Qc h λsg k5 h=>?_
 refine Qc h λsh k6 h=>?_
 split at h
 case isFalse=>cases h
 rename_i e2
 subst e2
 refine Qc h λgt k7 h=>?_
 refine mapR h λfl k8=>?_
 obtain⟨tk,tp,rfl⟩:=Qmw h1
 obtain⟨t1,t2⟩:=t
 cases Qeo h2
 obtain⟨pa,r1⟩:=QH h3
 obtain⟨pb,r2⟩:=QH h4
 dsimp only at r1 r2
 subst r1 r2
 obtain⟨fn,as⟩:=c
 obtain⟨zp,rfl⟩:=QpU h5
 obtain⟨np,r3⟩:=QH h6
 dsimp only at r3
 subst r3
 obtain⟨z1,z2⟩:=z
 cases Qeo h7
 obtain⟨pf,r4⟩:=QH h8
 obtain⟨pg,r5⟩:=QH h9
 dsimp only at r4 r5
 subst r4 r5
 obtain⟨b1,b2⟩:=b
 cases Qeo hb
 obtain⟨ic,ir⟩:=i
 obtain⟨ip,r6⟩:=Qtb hi
 dsimp only at r6
 subst r6
 obtain⟨oo,oe⟩:=o
 obtain⟨ap,cp,ep,r7,hl⟩:=QqQ ho
 dsimp only at r7
 subst r7
 obtain⟨ph,r8⟩:=QH hh
 dsimp only at r8
 subst r8
 obtain⟨tk2,tp2,r9⟩:=Qmw hu
 dsimp only at r9
 subst r9
 obtain⟨u1,u3⟩:=u2
 cases Qeo hu2
 obtain⟨pa2,r10⟩:=QH hna
 dsimp only at r10
 subst r10
 have B:=ok.toCtxB
 obtain⟨a1,a2,a3⟩:=QaU B k1
 obtain⟨b1,b2,b3⟩:=QaU B k2
 have st:=Qa1 k8 [] X.env
 exact Qvp ok.pass ok.calm (Qbq B hz).1 (ok.mg "zip" (by decide+kernel)) (Qaq B k4) (Qaq B k5) (Qaq B k6) (Qaq B k3) ((QT n).T X Θ _ gt ok k7) ((QT n).E X Θ _ fl ok k8) (Qix (Qhn hN a1 a2 a3) (Qix (Qhn hN b1 b2 b3) QnQ rfl) rfl) rfl rfl st rfl hl
noncomputable def tr3(n:Nat)(Θ:Th)(T:ObT)(st:Stmt):Option DS:=match Qq0 n Θ T none st with
 | some f=>some f
 | none=>match st with
  | .For tg iter body els _=>match els with
   | _::_=>none
   | []=>zmP n Θ tg iter body
  | _=>none
theorem QvJ{X:Cx}{Θ:Th}{T:ObT}{n:Nat}(ok:Qt X Θ)(ob:QfW X T):∀st f,tr3 n Θ T st=some f->S1 X st f:=by
 intro st f h
 unfold tr3 at h
 split at h
 ·rename_i g hg
  cases h
  exact QnH ok ob none st _ hg
 ·cases st with
  | For tg iter body els pos=>
   cases els with
   | cons _ _=>exact nomatch (show(none:Option DS)=some _ from h)
   | nil=>exact Qwv ok h
  | _=>exact nomatch (show(none:Option DS)=some _ from h)
noncomputable def QoB(n:Nat)(Θ:Th)(T:ObT)(IS:IsT):Th:={Θ with te:=te3 n Θ T IS,tr:=tr3 n {Θ with te:=te3 n Θ T IS} T}
theorem QuO{X:Cx}{Θ:Th}{T:ObT}{IS:IsT}{n:Nat}(ok:Qt X Θ)(ob:QfW X T)(hi:Qh9 X.K IS):Qt X (QoB n Θ T IS):=
 (ok.QgC (QpV ok ob hi)).QpH (QvJ (ok.QgC (QpV ok ob hi)) ob)
section
variable {P:Program}{w:World}{K:PySem.W.Frag}{mg:Str->Option Value}{base:Heap}
theorem Qu9{x qual:Str}{st:Stmt}{f:Addr}{fd:FuncData}{ps:List Str}{k n n':Nat}{Γ:List (Str×FnR)}{cs:List (Str×Cn)}{T:ObT}{IS:IsT}{g:DS}(F:Fun K x qual st f fd)(S:Qar (namesOf (Qd st)) ps (Qd st))(M:Qb5 mg cs)(tab:Qan P w K mg base (k+1) Γ)(tabo:Qb0 P w K mg base k T)(hi:Qh9 K IS)
  (hc:Q5 n (QoB n' (Qbw st Γ cs) T IS) (QM st)=some g):Q4 P w K mg base CX0 (k+2) f fd ps (spV K ps.length (Qw (namesOf (Qd st)).length g)):=by
 refine F.ok S (QjG rfl) λcdv A outer s H vs Q E hr h=>?_
 obtain⟨ds,L,d,fr,rps,hl,hd,q⟩:=h
 have ok:=Qi0 (P:=P) (w:=w) (K:=K) (base:=base) (qual:=qual) (f:=f) (cdv:=cdv) (outer:=outer) (s:=s) (H:=H) (E:=E) S M tab hr
 have ok2:=QuO (n:=n') ok (Qb0.ob (X:=(Qcl CX0 P w K mg base (namesOf (Qd st)) qual (Qd st) f cdv A outer s H E).nox) tabo hr) hi
 refine⟨_,(QfT n).Ss _ _ _ g ok2 hc H L,?_⟩
 obtain⟨F0,rel⟩:=QdW (N:=namesOf (Qd st)) rps
 unfold Qw at hd
 refine Qc hd λo ho hd=>?_
 refine⟨_,[],F0,o,rel,ho,?_⟩
 cases o with
 | nx ρ=>
  cases hd
  exact λσ H' F' rel'=>q .non H' [] ⟨rel'.same,.QfN,λa ha=>by simp at ha,λ_=>⟨Zab,rfl,λa ha=>by simp at ha⟩⟩
 | bk ρ=>cases hd
 | ct ρ=>cases hd
 | rt d' fr'=>
  cases hd
  exact λv H' G r=>q v H' G r
theorem QtA{h:Heap}{x y:Str}{st:Stmt}{fa:Addr}{k n n':Nat}{Γ:List (Str×FnR)}{cs:List (Str×Cn)}{T:ObT}{IS:IsT}{g:DS}(X:K.In h)(G:h.Ns mainGlobals mg)(hmg:mg x=some (.ref fa))
  (F:Fact K x st) (S:Qar (namesOf (Qd st)) [y] (Qd st)) (B:QI x st [y]) (M:Qb5 mg cs) (tab:∀base:Heap,Qan P w K mg base (k+1) Γ) (tabo:∀base:Heap,Qb0 P w K mg base k T) (hi:Qh9 K IS) (hc:Q5 n (QoB n' (Qbw st Γ cs) T IS) (QM st)=some g):
  ∃fd:FuncData,(∀(s:Shared) (u:Value),BindsTo s fd ⟨[u],[]⟩ [(y,u)])∧
    ∀base:Heap,K.In base->base.Ns mainGlobals mg->Q4 P w K mg base CX0 (k+2) fa fd [y] (spV K 1 (Qw (namesOf (Qd st)).length g)):=by
 obtain⟨f,fd,Fn,a⟩:=F.ex
 have e:=hmg.symm.trans (Zat X G a)
 cases e
 refine⟨fd,λs u=>?_,λbase _ _=>Qu9 Fn S M (tab base) (tabo base) hi hc⟩
 obtain⟨oc,od,kV,doc,pm,an,cdv,ct,osl,rfl,lk,hcd⟩:=Fn.ex
 exact .of_eq (B kV doc pm an cdv ct [u] rfl)
noncomputable def QmC(K:PySem.W.Frag)(x:Str):List (Str×Bool)->Prop
 | []=>True
 | (c,b)::r=>IsF K x c b/\QmC K x r
noncomputable def QsR(K:PySem.W.Frag):IsT->Prop
 | []=>True
 | (x,m)::r=>QmC K x m/\QsR K r
theorem Qkc{x:Str}:∀{m:List (Str×Bool)},QmC K x m->∀c b,look c m=some b->IsF K x c b
 | [],_,c,b,e=>by cases e
 | (c',b')::r,h,c,b,e=>by
  unfold look at e
  split at e
  ·rename_i z;cases e;subst z;exact h.1
  ·exact Qkc h.2 c b e
theorem Ql7:∀{T:IsT},QsR K T->Qh9 K T
 | [],_,x,m,c,b,e,_=>by cases e
 | (x',m')::r,h,x,m,c,b,e,e2=>by
  unfold look at e
  split at e
  ·rename_i z;cases e;subst z;exact Qkc h.1 c b e2
  ·exact Ql7 h.2 x m c b e e2
theorem Qvj{x c:Str}{b:Bool}{C C':Addr}(a:PySem.W.nsIn K mainGlobals x=some (some (.ref C)))(c1:PySem.W.plainGet K C Str.empty=true)(c2:PySem.W.hasDictIn K C=true)(c3:PySem.W.plainOver K C=true)(c4:PySem.W.findIn K (.ref C) "__setattr__" =some (some (.builtin "object.__setattr__")))
  (h1:PySem.W.findIn K (.ref C) "__class__" =some (some (.builtin "object.__class__"))) (h2:PySem.W.specialIn K (.builtin "object.__class__") "__get__" =some (some (.builtin "getset_descriptor.__get__"))) (h3:PySem.W.takesIn K (.builtin "object.__class__")=some true) (h4:PySem.W.mroIn K C (.type "object")=some true)
  (h5:PySem.W.nsIn K mainGlobals c=some (some (.ref C'))) (h6:PySem.W.kitOne K (.ref C) (.ref C')=some b):IsF K x c b:=⟨C,C',a,⟨c1,c2,c3,c4⟩,h1,h2,h3,h4,.inl h5,h6⟩
noncomputable def Qll(P:Program)(w:World)(K:PySem.W.Frag)(mg:Str->Option Value)(base:Heap)(k:Nat)(x:Str):List (Str×(Nat×(List D->Option Str)))->Prop
 | []=>True
 | (m,r)::t=>Qhe P w K mg base k x m r/\Qll P w K mg base k x t
noncomputable def Qpz(P:Program)(w:World)(K:PySem.W.Frag)(mg:Str->Option Value)(base:Heap)(k:Nat):MxT->Prop
 | []=>True
 | (x,ms)::t=>Qll P w K mg base k x ms/\Qpz P w K mg base k t
theorem QkI{k:Nat}{x:Str}:∀{ms:List (Str×(Nat×(List D->Option Str)))},Qll P w K mg base k x ms->∀m r,look m ms=some r->Qhe P w K mg base k x m r
 | [],_,m,r,e=>by cases e
 | (m',r')::t,h,m,r,e=>by
  unfold look at e
  split at e
  ·rename_i z;cases e;subst z;exact h.1
  ·exact QkI h.2 m r e
theorem QlU{k:Nat}:∀{T:MxT},Qpz P w K mg base k T->QoL P w K mg base k T
 | [],_,x,ms,m,r,e,_=>by cases e
 | (x',ms')::t,h,x,ms,m,r,e,e2=>by
  unfold look at e
  split at e
  ·rename_i z;cases e;subst z;exact QkI h.1 m r e2
  ·exact QlU h.2 x ms m r e e2
end
end HS
namespace HS
open PySem L2
def QjL(d:Den):Prop:=∀ns:List Int,ns.length<=63->∃(m:Nat) (R L:List (Int×Int)),d [.lst (ns.map .int),.int 5,.int 300]=some (Qi m R L,true)/\0<m/\m<=8/\Qcy m R L/\R.length+L.length<=180
theorem Qsj{dc db dm:Den}(hc:Qgz dc)(hb:Qlt db)(hm:Qic dm):QjL (Qw 10 (QdA dc db dm)):=λns hl=>by
 have b1:=ZG (ns.getD 0 0) (by decide:(5:Int)≠0)
 have b2:=ZH (ns.getD 0 0) (by decide:(0:Int)<5)
 obtain⟨m1,em1⟩:∃m:Nat,(m:Int)=1+ns.getD 0 0 % 5:=⟨(1+ns.getD 0 0 % 5).toNat,by omega⟩
 have b3:=ZG (ns.getD 0 0 / (8*5)) (by decide:(3:Int)≠0)
 have b4:=ZH (ns.getD 0 0 / (8*5)) (by decide:(0:Int)<3)
 obtain⟨m2,em2⟩:∃m:Nat,(m:Int)=6+ns.getD 0 0 / (8*5) % 3:=⟨(6+ns.getD 0 0 / (8*5) % 3).toNat,by omega⟩
 have t1:=ZG (ns.getD 1 0 / 6) (by decide:(1000003:Int)≠0)
 have t2:=ZH (ns.getD 1 0 / 6) (by decide:(0:Int)<1000003)
 generalize et:ns.getD 1 0 / 6 % 1000003=t at t1 t2
 generalize ek:ns.getD 1 0 % 6=kind
 have key:Run (QdA dc db dm) (Qad 10 [.lst (ns.map .int),.int 5,.int 300]) (Rt λd fr=>∃(m:Nat) (R L:List (Int×Int)),d=Qi m R L/\fr=true/\0<m/\m<=8/\Qcy m R L/\R.length+L.length<=180):=by
  have cell:∀(ρ:En) (k:Nat),ρ[0]? =some (some (.lst (ns.map .int),false))->Qz 2 dc [] (Qb (Qa 0) (Qb (dC (.int k)) Qe)) ρ=some ⟨.int (ns.getD k 0),true,[]⟩:=λρ k h0=>by
   refine Q2 (Qm (QcK h0) (Qm (QgW _ _) (QZ _))) ?_ rfl
   exact hc ns k
  refine run_seq (Qn (Q0 (a:=1) rfl rfl (QJ (b:=5) (cell _ 0 rfl) rfl rfl rfl (by decide)) rfl) ?_)
  rw[QB,← em1]
  refine run_seq (Qn (QJ (b:=1000003) (QcI (b:=6) (cell _ 1 rfl) rfl rfl rfl (by decide) (by decide)) rfl rfl rfl (by decide)) ?_)
  rw[QB,et]
  refine run_seq (Qn (QJ (b:=6) (cell _ 1 rfl) rfl rfl rfl (by decide)) ?_)
  rw[QB,ek]
  obtain⟨cs,hcs,esl⟩:=Qij (a:=2) (b:=12) (fa:=Qa 0) (ns:=ns) (ρ:=[some (.lst (ns.map .int),false),some (.int 5,true),some (.int 300,true),some (.int m1,true),some (.int t,true),some (.int kind,true),none,none,none,none]) rfl rfl
  refine run_seq (Qn esl ?_)
  rw[QB]
  refine QbF (P:=λρ=>∃(m:Nat) (cs':List Int) (kind' room':Int),0<m/\m<=8/\cs'.length<=63/\ρ=[some (.lst (ns.map .int),false),some (.int 5,true),some (.int room',true),some (.int m,true),some (.int t,true),some (.int kind',true),some (.lst (cs'.map .int),true),none,none,none]) ?_ ?_
  ·refine Qac (QG (Qcb (b:=3) (QJ (b:=8) (QcI (b:=5) (cell _ 0 rfl) rfl rfl rfl (by decide) (by decide)) rfl rfl rfl (by decide)) rfl rfl rfl) rfl) (λ_=>?_) (λ_=>Qp ⟨m1,cs,kind,300,by omega,by omega,by omega,rfl⟩)
   refine run_seq (Qn (Q0 (a:=6) rfl rfl (QJ (b:=3) (QcI (b:=8*5) (cell _ 0 rfl) rfl (Qbl (a:=8) (b:=5) rfl rfl rfl rfl (Qdq (by decide))) rfl (by decide) (by decide)) rfl rfl rfl (by decide)) rfl) ?_)
   rw[QB,← em2]
   refine run_seq (Qn (r:=⟨.int 0,true,[]⟩) rfl ?_)
   rw[QB]
   obtain⟨cs2,hcs2,esl2⟩:=Qij (a:=2) (b:=4) (fa:=Qa 0) (ns:=ns) (ρ:=[some (.lst (ns.map .int),false),some (.int 5,true),some (.int 300,true),some (.int m2,true),some (.int t,true),some (.int 0,true),some (.lst (cs.map .int),true),none,none,none]) rfl rfl
   refine run_seq (Qn esl2 ?_)
   rw[QB]
   refine run_seq (Qn (r:=⟨.int 300,true,[]⟩) rfl (Qp ?_))
   rw[QB]
   exact⟨m2,cs2,0,300,by omega,by omega,by omega,rfl⟩
  rintro ρ ⟨m,cs',kind',room'',m0,m8,hcs',rfl⟩
  have hbase:=hb m t kind' (by omega) (by omega) t1 (by omega)
  obtain⟨W',fr,hmore,hw1,hw2,hw3,hw4⟩:=hm m (QbE m t kind') cs' kind' room'' (by omega) (by omega) (by rw[Qil];omega) Ql6
  have gW:∀w∈QbE m t kind'++W',GoodW m w:=λw hw=>(Zm.mp hw).elim (Ql6 w) (hw2 w)
  refine run_seq (Qn (Qh3 (Qm (Q2 (r:=⟨[.int m,.int t,.int kind'],true,[]⟩) rfl hbase rfl) (rs:=⟨[.lst (cs'.map .int),.int m,.int kind',.int room''],true,[6]⟩) rfl) hmore rfl) ?_)
  have easg:=QqI (i:=7) (d:=Q9 (QbE m t kind'++W')) (fr:=fr) (M:=[]++[6]) (ρ:=[some (.lst (ns.map .int),false),some (.int 5,true),some (.int room'',true),some (.int m,true),some (.int t,true),some (.int kind',true),some (.lst (cs'.map .int),true),none,none,none]) rfl
  refine(congrArg (λρ=>Run _ ρ _) easg).mpr ?_
  refine QbF (P:=λρ=>∃W b b7,(W=QbE m t kind'++W'∨W=(QbE m t kind'++W').reverse)/\ρ=[some (.lst (ns.map .int),false),some (.int 5,true),some (.int room'',true),some (.int m,true),some (.int t,true),some (.int kind',true),some (.lst (cs'.map .int),b7),some (Q9 W,b),none,none]) ?_ ?_
  ·cases fr with
   | true=>
    refine Qac (QG (Qcb (b:=1) (QJ (a:=t) (b:=2) rfl rfl rfl rfl (by decide)) rfl rfl rfl) rfl) (λ_=>?_) (λ_=>?_)
    ·refine run_seq (Qn (Qko (x:=7) (W:=QbE m t kind'++W') rfl) (Qp ?_))
     rw[QB]
     exact⟨_,true,true,.inr rfl,rfl⟩
    ·exact Qp ⟨_,true,true,.inl rfl,rfl⟩
   | false=>
    refine Qac (QG (Qcb (b:=1) (QJ (a:=t) (b:=2) rfl rfl rfl rfl (by decide)) rfl rfl rfl) rfl) (λ_=>?_) (λ_=>?_)
    ·refine run_seq (Qn (Qko (x:=7) (W:=QbE m t kind'++W') rfl) (Qp ?_))
     rw[QB]
     exact⟨_,true,false,.inr rfl,rfl⟩
    ·exact Qp ⟨_,false,false,.inl rfl,rfl⟩
  ·rintro ρ ⟨W,b,b7,eW,rfl⟩
   have hlen:W.length<=180:=by
    rcases eW with e | e
    ·rw[e,Zk,Qil];omega
    ·rw[e,Zay,Zk,Qil];omega
   have w1:∀w∈QbE m t kind',w∈W:=λw hw=>by
    rcases eW with e | e
    ·rw[e];exact Zd _ hw
    ·rw[e];exact ZaM.mpr (Zd _ hw)
   have w2:∀w∈W,GoodW m w:=λw hw=>by
    rcases eW with e | e
    ·rw[e]at hw;exact gW w hw
    ·rw[e]at hw;exact gW w (ZaM.mp hw)
   have nw:Qcy m (Qal W) (Q7 W):=⟨W,Ql0.mono w1,w2,by omega,rfl,rfl⟩
   refine run_seq (Qn (QrR (W:=W) (QcK rfl) (by cases b<;>rfl)) ?_)
   rw[QB]
   refine run_seq (Qn (QsC (W:=W) (QcK rfl) (by cases b<;>rfl)) ?_)
   rw[QB]
   exact Qaj (r:=⟨Qi m (Qal W) (Q7 W),true,[8,9]⟩) rfl ⟨m,Qal W,Q7 W,rfl,rfl,m0,m8,nw,by rw[Qqo];omega⟩
 obtain⟨o,h1,h2⟩:=key
 cases o with
 | rt d fr=>
  obtain⟨m,R,L,rfl,rfl,h3,h4,h5,h6⟩:=h2
  exact⟨m,R,L,by unfold Qw;rw[h1];rfl,h3,h4,h5,h6⟩
 | _=>exact h2.elim
noncomputable abbrev wIs:IsT:=[("Together",[("Way",true),("Picked",false)]),("Picked",[("Way",true)])]
noncomputable def Qc8:DS:=(Qf (Qs 2 (QF Qe)) (Qf (QaT (QbO (dBf QaO (Qb (Qa 0) Qe))) (.nm 3) (Qf (Qs 4 (dOp QR (QaM (Qy (Qy (Qa 1) (QaM (Qa 3) (Qa 3))) (dC (.int 3))) (Qy (dC (.int 69621)) (QaM (dC (.int 48271)) (Qa 3)))) (dC (.int 2147483629)))) (Qf (Qs 5 (Qcm (Qu (QF (Qb (dC (.int 0)) (Qb (dOp Qfn (Qu (Qa 0) (Qa 3)) (dC (.int 1))) (Qb (Qu (Qa 0) (Qa 3)) (Qb (Qy (Qu (Qa 0) (Qa 3)) (dOp QR (dOp Qcd (Qa 4) (dC (.int 4))) (dC (.int 3)))) (Qb (dOp QR (QaM (Qa 4) (Qa 4)) (Qy (dOp Qm2 (dC (.int 10)) (dC (.int 18))) (dC (.int 1)))) Qe)))))) (dOp QR (dOp Qcd (Qa 4) (dC (.int 64))) (dC (.int 5)))))) (Qf (sIf (QA (dOp gEq (dOp QR (Qa 1) (dC (.int 5))) (dC (.int 0)))) (Qf (Qs 5 (dOp QR (dOp Qcd (Qa 4) (dC (.int 4))) (Qu (Qa 0) (Qa 3)))) Qj) Qj) (Qf (Qd4 2 Qa8 (Qa 5)) Qj))))) (Qf (Q3 (Qa 2)) Qj)))
noncomputable def QeR:DS:=(Qf (Qs 3 (dC (.int 0))) (Qf (sIf (QA (dOp gLt (Qa 2) (dBf QaO (Qb (Qa 1) Qe)))) (Qf (Qs 3 (Qcm (Qu (Qa 1) (Qa 2)))) Qj) Qj) (Qf (Q3 (Qu (Qa 0) (dOp QR (Qa 3) (dBf QaO (Qb (Qa 0) Qe))))) Qj)))
noncomputable def QfM(Qbn:Den):DS:=(Qf (sIf (QA (dOp gEq (Qa 0) (QF Qe))) (Qf (Q3 (QF (Qb (QF Qe) (Qb (QF Qe) (Qb (QF Qe) (Qb (QF Qe) Qe)))))) Qj) Qj) (Qf (Qs 3 (QF (Qb (Qz 3 Qbn [] (Qb (Qa 0) (Qb (Qu (Qa 1) (dC (.int 0))) (Qb (Qa 2) Qe)))) Qe))) (Qf (Q3 (QF (Qb (QaV (Qa 0) Qbj (Qab (dC (.int 1)))) (Qb (Qa 0) (Qb (Qa 3) (Qb (QF (Qb (Qz 3 Qbn [] (Qb (Qa 0) (Qb (Qu (Qa 1) (dC (.int 1))) (Qb (Qa 2) Qe)))) Qe)) Qe)))))) Qj)))
noncomputable def Qex(me:MeT):DS:=(Qf (Qs 4 (QF (Qb (dC (.int 0)) (Qb (dC (.int 1)) (Qb (dC (.int 2)) (Qb (dC (.int 3)) Qe)))))) (Qf (sIf (QA (Qa 3)) (Qf (Qs 4 (QF (Qb (dC (.int 3)) (Qb (dC (.int 2)) (Qb (dC (.int 1)) (Qb (dC (.int 0)) Qe)))))) Qj) Qj) (Qf (Qs 5 (QF (Qb (QF Qe) (Qb (QF Qe) (Qb (QF Qe) (Qb (QF Qe) Qe)))))) (Qf (QaT (Qaf (Qa 4)) (.nm 6) (Qf (Qdk me 5 0 6 "chosen" (Qb (Qa 1) (Qb (Qa 2) Qe))) Qj)) (Qf (Qee 0 (Qa 5)) Qj)))))
noncomputable def QdN(sub:Str->Str->Option Bool)(mx:MxT):DS:=(Qf (Qs 4 (dC (.bl false))) (Qf (Qs 5 (dC (.bl false))) (Qf (QhZ (λ_=>none) (xMe mx 0 "chosen" (Qb (Qa 1) (Qb (Qy (Qa 2) (QF (Qb (dC (.int 0)) Qe))) Qe))) sub [("HeapError",some 6,(Qf (Qs 4 (Qb2 (Qfi sub ["NoRow"] (Qa 6)) (Qg1 (Qfi sub ["NoHeap"] (Qa 6))))) Qj))]) (Qf (QhZ (λ_=>none) (xMe mx 0 "chosen" (Qb (Qa 1) (Qb (Qy (Qy (QaV (Qa 2) Qbj (Qab (Qa 3))) (QF (Qb (Qff (dC (.int 1))) Qe))) (QaV (Qa 2) (Qab (Qy (Qa 3) (dC (.int 1)))) Qbj)) Qe))) sub [("HeapError",some 6,(Qf (Qs 5 (Qb2 (Qfi sub ["NoHeap"] (Qa 6)) (Qb2 (Qfi sub ["ValueError"] (Qa 6)) (Qg1 (Qfi sub ["NoRow"] (Qa 6)))))) Qj))]) (Qf (Q3 (Qb2 (Qa 4) (Qa 5))) Qj)))))
noncomputable def Qck(QaL:Den)(Qam:Den)(x_need_heaps:List D->Option Str):DX:=(QaN (Qc7 (Qz 2 Qam [] (Qb (Qa 0) (Qb (QF (Qb (Qa 1) Qe)) Qe)))) (QbD 2 x_need_heaps (Qb (Qa 0) (Qb (QF (Qb (Qa 1) Qe)) Qe))) (QaN (Q3 (QaE (QdO (Qz 1 QaL [] (Qb (Qa 0) Qe))) (.tp [1,2]) [none,none,none,some 1] (QA (dOp gGe (Qu (Qa 3) (Qa 1)) (Qa 2))) (Qa 1))) xNo xNo))
noncomputable def Qhg(Qv:Den)(x_ready_places:List D->Option Str):DX:=(QaN (Q3 (QaV (Qz 2 Qv [] (Qb (Qa 1) (Qb (Qa 2) Qe))) Qbj (Qab (dC (.int 1))))) (QbD 2 x_ready_places (Qb (Qa 1) (Qb (Qa 2) Qe))) xNo)
noncomputable def Qeb(Qv:Den)(x_ready_places:List D->Option Str):DX:=(QaN (Q3 (Qz 2 Qv [] (Qb (Qa 1) (Qb (Qa 2) Qe)))) (QbD 2 x_ready_places (Qb (Qa 1) (Qb (Qa 2) Qe))) xNo)
noncomputable def Qe8(Qv:Den)(x_ready_places:List D->Option Str):DX:=(QaN (Qs 3 (Qz 2 Qv [] (Qb (Qa 1) (Qb (Qa 2) Qe)))) (QbD 2 x_ready_places (Qb (Qa 1) (Qb (Qa 2) Qe))) (QaN (sIf (Qca (QA (Qa 3))) (Qf (Q3 (QF Qe)) Qj) Qj) (xIf (Qca (QA (Qa 3))) (QaN (Q3 (QF Qe)) xNo xNo) xNo) (QaN (Qs 4 (dIf (QA (dOp gLt (Qcf wCl "used" (Qa 0)) (dBf QaO (Qb (Qcf wCl "picks" (Qa 0)) Qe)))) (Qu (Qcf wCl "picks" (Qa 0)) (Qcf wCl "used" (Qa 0))) (dC (.int 0)))) xNo (QaN (Qf6 wCl 0 "used" (dC (.int 1))) xNo (QaN (Q3 (QF (Qb (Qu (Qa 3) (dOp QR (Qa 4) (dBf QaO (Qb (Qa 3) Qe)))) Qe))) xNo xNo)))))
noncomputable def Qkf(Qcw:Den)(Qbs:Den)(QL:Den)(QbP:Den)(Qcn:Den)(Qc1:Den)(Qa4:Den)(Q8:QbZ)(Qbv:QbZ):DS:=(Qf (Qs 1 (Qz 3 Qcw [] (Qb (Qa 0) (Qb (dC (.int 5)) (Qb (dC (.int 300)) Qe))))) (Qf (Qs 2 (Qz 1 Qbs [] (Qb (Qa 1) Qe))) (Qf (Qs 3 (QF (Qb (QaE (Qaf (QaV (Qa 0) (Qab (dC (.int 12))) (Qab (dC (.int 40))))) (.nm 1) [none,none] QdI (dOp QR (Qa 1) (dOp Qm2 (dC (.int 10)) (dC (.int 18))))) (Qb (QgO (QaE (Qaf (QaV (Qa 0) (Qab (dC (.int 12))) (Qab (dC (.int 40))))) (.nm 1) [none,none] QdI (dOp QR (QaM (Qa 1) (dC (.int 7919))) (dC (.int 1000003)))) (Qff (dC (.int 1)))) Qe)))) (Qf (Qs 4 (QF (Qb (dList (Qb (Qu (Qa 3) (dC (.int 0))) Qe)) (Qb (dList (Qb (Qu (Qa 3) (dC (.int 1))) Qe)) (Qb (QbY (Qb (Qu (Qa 1) (dC (.int 0))) (Qb (dList (Qb (Qu (Qa 1) (dC (.int 1))) Qe)) (Qb (dList (Qb (Qu (Qa 1) (dC (.int 2))) Qe)) Qe)))) Qe))))) (Qf (Qs 5 (QF (Qb (Qjf "Way") (Qb (Qjf "Together") (Qb (QhD "Picked" ⟨2,0,Q8⟩ (Qb (Qu (Qa 4) (dC (.int 0))) Qe)) (Qb (QhD "Picked" ⟨2,0,Q8⟩ (Qb (Qu (Qa 4) (dC (.int 1))) Qe)) Qe)))))) (Qf (QjF 4 (QdK Qa8 (dC (.int 0)))) (Qf (Qd4 4 (QdK Qa8 (dC (.int 1))) (dC (.int 1))) (Qf (Qs 6 (dC (.int 0))) (Qf (Qs 7 (QF Qe)) (Qf (QaT (QbO (Qy (dBf QaO (Qb (Qu (Qa 3) (dC (.int 0))) Qe)) (dC (.int 3)))) (.nm 8) (Qf (Qs 9 (dOp QR (Qy (QaM (Qz 2 QL [] (Qb (Qa 0) (Qb (Qy (dC (.int 12)) (Qa 8)) Qe))) (dC (.int 69621))) (QaM (Qy (Qa 8) (dC (.int 1))) (dC (.int 40009)))) (dC (.int 2147483647)))) (Qf (Qs 10 (Qz 2 QbP [] (Qb (Qa 2) (Qb (Qa 9) Qe)))) (Qf (Qs 11 (QaE (QbO (Qu (Qa 1) (dC (.int 0)))) (.nm 1) [none,none,some 10,some 2] (QA (dOp gGe (Qu (Qa 2) (Qa 1)) (Qu (Qa 3) (Qa 1)))) (Qa 1))) (Qf (Qs 12 (dList (Qb (Qa 10) Qe))) (Qf (Qj3 ⟨4,0,Qbv⟩ 13 5 [none,some (Qu (Qa 4) (dC (.int 2))),some (Qa 12),some (dOp gEq (dOp QR (dOp Qcd (Qa 9) (dC (.int 5))) (dC (.int 2))) (dC (.int 1)))]) (Qf (Qs 14 (Qz 3 Qcn [] (Qb (Qa 11) (Qb (Qa 3) (Qb (Qa 6) Qe))))) (Qf (Qin 13 14 7 15 16 (Qca (QA (Qz 2 Qc1 [] (Qb (Qa 15) (Qb (Qa 16) Qe))))) (dList (Qb (Qa 16) Qe))) (Qf (sIf (bOr (QA (dOp gNe (Qa 12) (Qa 10))) (bOr (QA (dOp gNe (Qu (Qa 4) (dC (.int 2))) (Qa 1))) (QeL (QA (dOp gLt (Qa 8) (dC (.int 3)))) (Qca (QA (Qz 4 Qa4 [] (Qb (Qu (Qa 5) (Qy (Qa 8) (dC (.int 1)))) (Qb (Qa 1) (Qb (Qa 10) (Qb (dOp QR (Qa 8) (Qu (Qa 1) (dC (.int 0)))) Qe)))))))))) (Qf (Q3 (dC (.bl false))) Qj) Qj) (Qf (Qs 6 (Qy (Qa 6) (dBf Qjm (Qb (dOp gNe (Qa 11) (QF Qe)) Qe)))) Qj)))))))))) (Qf (QaT (Qaf (Qa 7)) (.tp [15,16]) (Qf (sIf (QA (dOp gNe (Qa 15) (Qa 16))) (Qf (Q3 (dC (.bl false))) Qj) Qj) Qj)) (Qf (Q3 (Qb2 (Qmb wIs "Way" (Qu (Qa 5) (dC (.int 1)))) (Qb2 (Qmb wIs "Way" (Qu (Qa 5) (dC (.int 2)))) (Qg1 (Qmb wIs "Picked" (Qu (Qa 5) (dC (.int 1)))))))) Qj))))))))))))
theorem QeE{fa fb:DE}{ρ:En}{ra rb:HS.R}{a b:Int}(ha:fa ρ=some ra)(ea:ra.d= .int a)(hb:fb ρ=some rb)(eb:rb.d= .int b):dOp gLt fa fb ρ=some ⟨.bl (decide (a<b)),true,[]⟩:=QaI ha hb (by rw[ea,eb];rfl)
def Qge(d:Den):Prop:=∀(m:Nat) (s:Nat->Int) (n:Int),m<=8->(∀j,j<m->1<=s j)->0<=n->n<2147483647->∃f:Nat->Int,d [Qg m s,.int n]=some (Qg m f,true)/\∀j,j<m->0<=f j
theorem Qp3:Qge (Qw 6 Qc8):=λm s n hm hs n0 n1=>by
 have key:Run Qc8 (Qad 6 [Qg m s,.int n]) (Rt λd fr=>∃f:Nat->Int,d=Qg m f/\fr=true/\∀j,j<m->0<=f j):=by
  refine run_seq (Qn (r:=⟨.lst [],true,[]⟩) rfl ?_)
  change Nx _ (.nx [some (Qg m s,false),some (.int n,true),some (.lst [],true),none,none,none])
  refine run_seq (Qa5 (toD:=λ(i:Nat)=>D.int i) (List.range m) (λi ρ=>∃(f:Nat->Int) (j3 j4 j5:Option (D×Bool)),(∀j,j<i->0<=f j)/\ρ=[some (Qg m s,false),some (.int n,true),some (Qg i f,true),j3,j4,j5]) (ir:=⟨(List.range m).map λ(i:Nat)=>D.int i,[]⟩) (QeH (QtI (m:=m) (f:=s) rfl rfl) rfl (by omega)) rfl ⟨λ_=>0,none,none,none,λj hj=>absurd hj (by omega),rfl⟩ ?_ ?_)
  ·rintro i x ρ hi ⟨f,j3,j4,j5,hf,rfl⟩
   have him:i<m:=by have:=(Zh.mp hi).1;rwa[ZP]at this
   have hx:x=i:=by rw[Zaf him]at hi;exact(Option.some.inj hi).symm
   subst hx
   refine⟨_,rfl,?_⟩
   generalize ec:((n+(x:Int)*x+3)*(69621+48271*x)) % 2147483629=c
   have c0:0<=c:=by rw[← ec];exact ZG _ (by decide)
   have c1:c<2147483629:=by rw[← ec];exact ZH _ (by decide)
   have hxx:(x:Int)<8:=by omega
   have sx:=hs x him
   refine run_seq (Qn (r:=⟨.int c,true,[]⟩) ?_ ?_)
   ·rw[← ec]
    exact QJ (Qbl (Q0 (Q0 (a:=n) rfl rfl (Qbl (a:=x) (b:=x) rfl rfl rfl rfl (Qdq (by omega))) rfl) rfl rfl rfl) rfl (Q0 (a:=69621) rfl rfl (Qbl (a:=48271) (b:=x) rfl rfl rfl rfl (Qdq (by decide))) rfl) rfl (Qdw (by omega))) rfl rfl rfl (by decide)
   change Nx _ (.nx [some (Qg m s,false),some (.int n,true),some (Qg x f,true),some (.int x,true),some (.int c,true),j5])
   have isx:∀j5,Qu (Qa 0) (Qa 3) [some (Qg m s,false),some (.int n,true),some (Qg x f,true),some (.int x,true),some (.int c,true),j5]=some ⟨.int (s x),true,[]⟩:=λj5=>Qgc (m:=m) (f:=s) (i:=x) (ra:=⟨Qg m s,false,[]⟩) (rb:=⟨.int x,true,[]⟩) rfl rfl rfl rfl him
   have k0:=ZG (c / 64) (by decide:(5:Int)≠0)
   have k1:=ZH (c / 64) (by decide:(0:Int)<5)
   have q0:=ZG (c / 4) (by decide:(3:Int)≠0)
   have w0:=ZG (c*c) (by decide:(10^18+1:Int)≠0)
   obtain⟨v,hv,v0⟩:∃v:Int,[0,s x-1,s x,s x+c / 4 % 3,c*c % (10^18+1)][(c / 64 % 5).toNat]? =some v/\0<=v:=by
    obtain⟨kk,ek⟩:∃kk,kk=(c / 64 % 5).toNat:=⟨_,rfl⟩
    have hk:kk<5:=by omega
    rw[← ek]
    match kk,hk with
    | 0,_=>exact⟨_,rfl,by omega⟩
    | 1,_=>exact⟨_,rfl,by omega⟩
    | 2,_=>exact⟨_,rfl,by omega⟩
    | 3,_=>exact⟨_,rfl,by omega⟩
    | 4,_=>exact⟨_,rfl,w0⟩
   refine run_seq (Qn (r:=⟨.int v,false,[]⟩) ?_ ?_)
   ·refine Qm1 (r:=⟨.int v,true,[]⟩) ?_
    refine QfL (ns:=[0,s x-1,s x,s x+c / 4 % 3,c*c % (10^18+1)]) (ra:=⟨.lst [.int 0,.int (s x-1),.int (s x),.int (s x+c / 4 % 3),.int (c*c % (10^18+1))],true,[]⟩) ?_ rfl (QJ (QcI (a:=c) (b:=64) rfl rfl rfl rfl (by decide) (by decide)) rfl rfl rfl (by decide)) rfl k0 hv
    refine(Qdl (rs:=⟨[.int 0,.int (s x-1),.int (s x),.int (s x+c / 4 % 3),.int (c*c % (10^18+1))],true,[]⟩) ?_ (show 5<=64 by decide)).trans rfl
    refine(Qm (r:=⟨.int 0,true,[]⟩) rfl (Qm (QaI (d:= .int (s x-1)) (rb:=⟨.int 1,true,[]⟩) (isx _) rfl rfl) (Qm (isx _) (Qm (Q0 (isx _) rfl (QJ (b:=3) (QcI (a:=c) (b:=4) rfl rfl rfl rfl (by decide) (by decide)) rfl rfl rfl (by decide)) rfl) (Qm (QJ (b:=10^18+1) (Qbl (a:=c) (b:=c) rfl rfl rfl rfl (Qdq (by omega))) rfl (Q0 (a:=10^18) (b:=1) (QnR (a:=10) (k:=18) (by decide) (by decide)) rfl rfl rfl) rfl (by decide)) (QZ _)))))).trans rfl
   change Nx _ (.nx [some (Qg m s,false),some (.int n,true),some (Qg x f,true),some (.int x,true),some (.int c,true),some (.int v,true)])
   refine QbF (P:=λρ=>∃v:Int,0<=v/\ρ=[some (Qg m s,false),some (.int n,true),some (Qg x f,true),some (.int x,true),some (.int c,true),some (.int v,true)]) ?_ ?_
   ·refine Qac (QG (Qcb (b:=0) (QJ (a:=n) (b:=5) rfl rfl rfl rfl (by decide)) rfl rfl rfl) rfl) (λ_=>?_) (λ_=>Qp ⟨v,v0,rfl⟩)
    refine run_seq (Qn (QJ (QcI (a:=c) (b:=4) rfl rfl rfl rfl (by decide) (by decide)) rfl (isx _) rfl (by omega)) (Qp ?_))
    rw[QB]
    exact⟨c / 4 % s x,ZG _ (by omega),rfl⟩
   ·rintro ρ ⟨v,v0,rfl⟩
    refine run_seq (Qso (x:=2) (i:=x) (g:=f) (v:=v) (r:=⟨.int v,true,[]⟩) rfl rfl rfl (by omega) (Qp ?_))
    refine⟨up f x v,_,_,_,λj hj=>?_,rfl⟩
    unfold up
    split
    ·exact v0
    ·exact hf j (by omega)
  ·rintro ρ ⟨f,j3,j4,j5,hf,rfl⟩
   rw[ZP]at hf
   refine Qaj (r:=⟨Qg m f,true,[2]⟩) ?_ ⟨f,rfl,rfl,hf⟩
   rw[ZP];rfl
 obtain⟨o,h1,h2⟩:=key
 cases o with
 | rt d fr=>
  obtain⟨f,rfl,rfl,hf⟩:=h2
  exact⟨f,by unfold Qw;rw[h1];rfl,hf⟩
 | _=>exact h2.elim
theorem QoW{fa:DE}{ρ:En}{r:HS.R}{ns:List Int}(ha:fa ρ=some r)(e:r.d= .lst (ns.map .int)):QA (dOp gEq fa (QF Qe)) ρ=some ns.isEmpty:=by
 refine QG (r:=⟨.bl ns.isEmpty,true,[]⟩) (QaI ha (rb:=⟨.lst [],true,[]⟩) rfl ?_) rfl
 rw[e]
 show(if(D.lst (ns.map .int)).sim 8 && (D.lst []).sim 8 then some (D.bl (deq (.lst (ns.map .int)) (.lst [])))else none)=_
 rw[Qtt,show(D.lst (ns.map .int)).sim 8=true from Qmg 7 ns]
 cases ns<;>rfl
def Qh0(d:Den):Prop:=∀(l:List Nat) (ps:List Int) (u:Nat),l≠[]->d [Qh l,Qo ps,.int u]=some (.int (l.getD (ps.getD u 0 % (l.length:Int)).toNat 0:Nat),true)
theorem Qpu:Qh0 (Qw 4 QeR):=λl ps u hne=>by
 have hpos:0<l.length:=Zbd.mpr hne
 refine Qbi ?_
 refine run_seq (Qn (r:=⟨.int 0,true,[]⟩) rfl ?_)
 change Nx _ (.nx [some (Qh l,false),some (Qo ps,false),some (.int u,true),some (.int 0,true)])
 refine QbF (P:=λρ=>ρ=[some (Qh l,false),some (Qo ps,false),some (.int u,true),some (.int (ps.getD u 0),true)]) ?_ ?_
 ·refine Qac (QG (QeE (a:=u) (b:=ps.length) rfl rfl ((QcH (fa:=Qa 1) (xs:=ps.map D.int) (r:=⟨Qo ps,false,[]⟩) rfl rfl).trans (by rw[Zp])) rfl) rfl) (λh=>?_) (λh=>?_)
  ·have hlt:u<ps.length:=by have:=of_decide_eq_true h;omega
   refine run_seq (Qn (r:=⟨.int (ps.getD u 0),false,[]⟩) (Qm1 (QfL (ns:=ps) (i:=u) (ra:=⟨Qo ps,false,[]⟩) rfl rfl rfl rfl (by omega) (by rw[Zaa,ZC,ZE hlt];rfl))) (Qp ?_))
   rfl
  ·have hlt:¬u<ps.length:=by have:=of_decide_eq_false h;omega
   refine Qp ?_
   rw[ZC,Zr (by omega)]
   rfl
 ·rintro ρ rfl
  have hm0:0<=ps.getD u 0 % (l.length:Int):=ZG _ (by omega)
  have hm1:ps.getD u 0 % (l.length:Int)<l.length:=ZH _ (by omega)
  have hlt:(ps.getD u 0 % (l.length:Int)).toNat<l.length:=by omega
  refine Qaj (r:=⟨.int (l.getD (ps.getD u 0 % (l.length:Int)).toNat 0:Nat),true,[]⟩) ?_ ⟨rfl,rfl⟩
  exact QnS (l:=l) (ra:=⟨Qh l,false,[]⟩) rfl rfl (QJ (a:=ps.getD u 0) (b:=l.length) rfl rfl (QnT (l:=l) (r:=⟨Qh l,false,[]⟩) rfl rfl) rfl (by omega)) rfl hm0 (by rw[ZE hlt,ZC (l:=l),ZE hlt];rfl)
noncomputable def QfS(u:Nat)(l:List Nat)(a b:List Int):D:= .lst [Qh (sel .plain u l),Qh (sel .both u l),Qh (sel (.pick a) u l),Qh (sel (.pick b) u l)]
def Qhh(d:Den):Prop:=∀(l:List Nat) (a b:List Int) (u:Nat),∃fr,d [Qh l,.lst [Qo a,Qo b],.int u]=some (QfS u l a b,fr)
theorem Qrx{dn:Den}(hn:Qh0 dn):Qhh (Qw 4 (QfM dn)):=λl a b u=>by
 by_cases hl:l=[]
 ·subst hl
  refine⟨true,Qbi ?_⟩
  refine QW (Qac (b:=true) rfl (λ_=>?_) (λz=>by cases z))
  exact QW (QjQ (r:=⟨.lst [.lst [],.lst [],.lst [],.lst []],true,[]⟩) rfl ⟨rfl,rfl⟩)
 ·refine⟨false,Qbi ?_⟩
  have sa:sel (.pick a) u l=[l.getD (a.getD u 0 % (l.length:Int)).toNat 0]:=by unfold sel;dsimp only;rw[if_neg hl]
  have sb:sel (.pick b) u l=[l.getD (b.getD u 0 % (l.length:Int)).toNat 0]:=by unfold sel;dsimp only;rw[if_neg hl]
  unfold QfS
  rw[sa,sb]
  have na:=hn l a u hl
  have nb:=hn l b u hl
  generalize l.getD (a.getD u 0 % (l.length:Int)).toNat 0=xa at *
  generalize l.getD (b.getD u 0 % (l.length:Int)).toNat 0=xb at *
  refine QW (Qac (b:=false) ?_ (λz=>by cases z) (λ_=>Qp ?_))
  ·have:=QoW (fa:=Qa 0) (ρ:=Qad 4 [Qh l,.lst [Qo a,Qo b],.int u]) (ns:=l.map λ(p:Nat)=>(p:Int)) (r:=⟨Qh l,false,[]⟩) rfl (by rw[← Qc3])
   rw[this]
   cases l with
   | nil=>exact absurd rfl hl
   | cons x r=>rfl
  change Run _ [some (Qh l,false),some (.lst [Qo a,Qo b],false),some (.int u,true),none] _
  refine run_seq (Qn (r:=⟨.lst [.int xa],true,[]⟩) ?_ ?_)
  ·refine(Qdl (rs:=⟨[.int xa],true,[]⟩) ?_ (show 1<=64 by decide)).trans rfl
   exact(Qm (Q2 (r:=⟨[Qh l,Qo a,.int u],false,[]⟩) rfl na rfl) (QZ _)).trans rfl
  change Nx _ (.nx [some (Qh l,false),some (.lst [Qo a,Qo b],false),some (.int u,true),some (.lst [.int xa],true)])
  refine Qaj (r:=⟨.lst [Qh (l.take 1),Qh l,.lst [.int xa],.lst [.int xb]],false,[3]⟩) ?_ ⟨rfl,rfl⟩
  refine(Qdl (rs:=⟨[Qh (l.take 1),Qh l,.lst [.int xa],.lst [.int xb]],false,[3]⟩) ?_ (show 4<=64 by decide)).trans rfl
  refine(Qm (Qma (l:=l) (ra:=⟨Qh l,false,[]⟩) rfl rfl) (Qm (r:=⟨Qh l,false,[]⟩) rfl (Qm (r:=⟨.lst [.int xa],true,[3]⟩) rfl (Qm (r:=⟨.lst [.int xb],true,[]⟩) ?_ (QZ _))))).trans rfl
  refine(Qdl (rs:=⟨[.int xb],true,[]⟩) ?_ (show 1<=64 by decide)).trans rfl
  exact(Qm (Q2 (r:=⟨[Qh l,Qo b,.int u],false,[]⟩) rfl nb rfl) (QZ _)).trans rfl
theorem Qhu{T:MeT}{x i kk:Nat}{m:Str}{fs:DA}{ρ:En}{r:RA}{d:D}{es:List D}{q:D×D}{k:Int}{b:Bool}{j:Nat}(h:fs ρ=some r)(hk:ρ[kk]? =some (some (.int k,b)))(hi:ρ[i]? =some (some (d,true)))(hx:ρ[x]? =some (some (.lst es,true)))(c:(decide (x≠i) && decide (kk≠i) && decide (kk≠x) && !r.M.contains i && !r.M.contains x)=true)(e:QcT (Qh8 T m r.ds k) d=some q)(ej:ixN es.length k=some j):Qdk T x i kk m fs ρ=some (.nx ((ρ.set i (some (q.2,true))).set x (some (.lst (es.set j q.1),true)))):=by
 unfold Qdk
 rw[h,Za,hk]
 dsimp only
 rw[hi]
 dsimp only
 rw[hx]
 dsimp only
 rw[if_pos c,e,Za,ej]
 rfl
theorem QmJ{fi:DI}{t:Tg}{fb:DS}{ρ:En}{ir:IR}{Q:Out->Prop}(h:fi ρ=some ir)(k:Run (Qbb t fb ir.items) (Qba ir.M ρ) Q):Run (QaT fi t fb) ρ Q:=by
 obtain⟨o,h1,h2⟩:=k
 exact⟨o,by unfold QaT;rw[h];exact h1,h2⟩
theorem QbB{t:Tg}{fb:DS}{d:D}{ds:List D}{ρ ρ1 ρ2:En}{Q:Out->Prop}(hb:QaS t d ρ=some ρ1)(h:fb ρ1=some (.nx ρ2))(k:Run (Qbb t fb ds) ρ2 Q):Run (Qbb t fb (d::ds)) ρ Q:=by
 obtain⟨o,h1,h2⟩:=k
 exact⟨o,by unfold Qbb;rw[hb,Za,h,Za];exact h1,h2⟩
theorem Qkm{t:Tg}{fb:DS}{ρ:En}{Q:Out->Prop}(q:Q (.nx ρ)):Run (Qbb t fb []) ρ Q:=⟨_,rfl,q⟩
noncomputable def Qe3(u:Nat)(a b:List Int):D:= .lst [wkD .plain u,wkD .both u,wkD (.pick a) u,wkD (.pick b) u]
def QeU(e:QbZ):Prop:=∀(m:Nat) (R L:List (Int×Int)) (f:Nat->Int) (a b:List Int) (u:Nat) (back:Bool),a.length<=1000->b.length<=1000->0<m->m<=1000->Qcy m R L->(∀j,j<m->0<=f j)→
 e [Qe3 u a b,Qi m R L,Qg m f,.bl back]=some (QfS u (Qah m (QC R L) f) a b,Qe3 (nxt u (Qah m (QC R L) f)) a b)
theorem Qou{T:MeT}(hT:QqW T):QeU (QeP 7 0 (Qex T)):=λm R L f a b u back ha hb m0 hm hw hf=>QfJ λa0=>by
 have me:∀k,QjS k->ioM T "chosen" [Qi m R L,Qg m f] (wkD k u)=some (Qh (sel k u (Qah m (QC R L) f)),wkD k (nxt u (Qah m (QC R L) f))):=λk hk=>hT k u m R L f hk m0 hm hw hf
 unfold QfS Qe3
 generalize Qah m (QC R L) f=l at *
 have st:∀(w0 w1 w2 w3 g0 g1 g2 g3 od:D) (b4:Bool),
   (∀(k:Wk),QjS k->w0=wkD k u->Qf (Qdk T 5 0 6 "chosen" (Qb (Qa 1) (Qb (Qa 2) Qe))) Qj [some (QO a0 (.lst [w0,w1,w2,w3]),true),some (Qi m R L,false),some (Qg m f,false),some (.bl back,true),some (od,b4),some (.lst [g0,g1,g2,g3],true),some (.int 0,true)]=some (.nx [some (QO a0 (.lst [wkD k (nxt u l),w1,w2,w3]),true),some (Qi m R L,false),some (Qg m f,false),some (.bl back,true),some (od,b4),some (.lst [Qh (sel k u l),g1,g2,g3],true),some (.int 0,true)]))∧
   (∀(k:Wk),QjS k->w1=wkD k u->Qf (Qdk T 5 0 6 "chosen" (Qb (Qa 1) (Qb (Qa 2) Qe))) Qj [some (QO a0 (.lst [w0,w1,w2,w3]),true),some (Qi m R L,false),some (Qg m f,false),some (.bl back,true),some (od,b4),some (.lst [g0,g1,g2,g3],true),some (.int 1,true)]=some (.nx [some (QO a0 (.lst [w0,wkD k (nxt u l),w2,w3]),true),some (Qi m R L,false),some (Qg m f,false),some (.bl back,true),some (od,b4),some (.lst [g0,Qh (sel k u l),g2,g3],true),some (.int 1,true)]))∧
   (∀(k:Wk),QjS k->w2=wkD k u->Qf (Qdk T 5 0 6 "chosen" (Qb (Qa 1) (Qb (Qa 2) Qe))) Qj [some (QO a0 (.lst [w0,w1,w2,w3]),true),some (Qi m R L,false),some (Qg m f,false),some (.bl back,true),some (od,b4),some (.lst [g0,g1,g2,g3],true),some (.int 2,true)]=some (.nx [some (QO a0 (.lst [w0,w1,wkD k (nxt u l),w3]),true),some (Qi m R L,false),some (Qg m f,false),some (.bl back,true),some (od,b4),some (.lst [g0,g1,Qh (sel k u l),g3],true),some (.int 2,true)]))∧
   (∀(k:Wk),QjS k->w3=wkD k u->Qf (Qdk T 5 0 6 "chosen" (Qb (Qa 1) (Qb (Qa 2) Qe))) Qj [some (QO a0 (.lst [w0,w1,w2,w3]),true),some (Qi m R L,false),some (Qg m f,false),some (.bl back,true),some (od,b4),some (.lst [g0,g1,g2,g3],true),some (.int 3,true)]=some (.nx [some (QO a0 (.lst [w0,w1,w2,wkD k (nxt u l)]),true),some (Qi m R L,false),some (Qg m f,false),some (.bl back,true),some (od,b4),some (.lst [g0,g1,g2,Qh (sel k u l)],true),some (.int 3,true)])):=λw0 w1 w2 w3 g0 g1 g2 g3 od b4=>by
  have one:∀{ρ ρ':En},Qdk T 5 0 6 "chosen" (Qb (Qa 1) (Qb (Qa 2) Qe)) ρ=some (.nx ρ')->Qf (Qdk T 5 0 6 "chosen" (Qb (Qa 1) (Qb (Qa 2) Qe))) Qj ρ=some (.nx ρ'):=λh=>by unfold Qf;rw[h];rfl
  refine⟨λk hk e=>?_,λk hk e=>?_,λk hk e=>?_,λk hk e=>?_⟩
  ·subst e
   have em:QcT (Qh8 T "chosen" [Qi m R L,Qg m f] 0) (QO a0 (.lst [wkD k u,w1,w2,w3]))=some (Qh (sel k u l),QO a0 (.lst [wkD k (nxt u l),w1,w2,w3])):=by
    show((((ioM T "chosen" [Qi m R L,Qg m f] (wkD k u)).map λq=>(q.1,D.lst [q.2,w1,w2,w3]))).map λq=>(q.1,QO a0 q.2))=_
    rw[me k hk];rfl
   exact one ((Qhu (x:=5) (i:=0) (kk:=6) (fs:=Qb (Qa 1) (Qb (Qa 2) Qe)) (ρ:=[some (QO a0 (.lst [wkD k u,w1,w2,w3]),true),some (Qi m R L,false),some (Qg m f,false),some (.bl back,true),some (od,b4),some (.lst [g0,g1,g2,g3],true),some (.int 0,true)]) (es:=[g0,g1,g2,g3]) (r:=⟨[Qi m R L,Qg m f],false,[]⟩) (j:=0) rfl rfl rfl rfl rfl em rfl).trans rfl)
  ·subst e
   have em:QcT (Qh8 T "chosen" [Qi m R L,Qg m f] 1) (QO a0 (.lst [w0,wkD k u,w2,w3]))=some (Qh (sel k u l),QO a0 (.lst [w0,wkD k (nxt u l),w2,w3])):=by
    show((((ioM T "chosen" [Qi m R L,Qg m f] (wkD k u)).map λq=>(q.1,D.lst [w0,q.2,w2,w3]))).map λq=>(q.1,QO a0 q.2))=_
    rw[me k hk];rfl
   exact one ((Qhu (x:=5) (i:=0) (kk:=6) (fs:=Qb (Qa 1) (Qb (Qa 2) Qe)) (ρ:=[some (QO a0 (.lst [w0,wkD k u,w2,w3]),true),some (Qi m R L,false),some (Qg m f,false),some (.bl back,true),some (od,b4),some (.lst [g0,g1,g2,g3],true),some (.int 1,true)]) (es:=[g0,g1,g2,g3]) (r:=⟨[Qi m R L,Qg m f],false,[]⟩) (j:=1) rfl rfl rfl rfl rfl em rfl).trans rfl)
  ·subst e
   have em:QcT (Qh8 T "chosen" [Qi m R L,Qg m f] 2) (QO a0 (.lst [w0,w1,wkD k u,w3]))=some (Qh (sel k u l),QO a0 (.lst [w0,w1,wkD k (nxt u l),w3])):=by
    show((((ioM T "chosen" [Qi m R L,Qg m f] (wkD k u)).map λq=>(q.1,D.lst [w0,w1,q.2,w3]))).map λq=>(q.1,QO a0 q.2))=_
    rw[me k hk];rfl
   exact one ((Qhu (x:=5) (i:=0) (kk:=6) (fs:=Qb (Qa 1) (Qb (Qa 2) Qe)) (ρ:=[some (QO a0 (.lst [w0,w1,wkD k u,w3]),true),some (Qi m R L,false),some (Qg m f,false),some (.bl back,true),some (od,b4),some (.lst [g0,g1,g2,g3],true),some (.int 2,true)]) (es:=[g0,g1,g2,g3]) (r:=⟨[Qi m R L,Qg m f],false,[]⟩) (j:=2) rfl rfl rfl rfl rfl em rfl).trans rfl)
  ·subst e
   have em:QcT (Qh8 T "chosen" [Qi m R L,Qg m f] 3) (QO a0 (.lst [w0,w1,w2,wkD k u]))=some (Qh (sel k u l),QO a0 (.lst [w0,w1,w2,wkD k (nxt u l)])):=by
    show((((ioM T "chosen" [Qi m R L,Qg m f] (wkD k u)).map λq=>(q.1,D.lst [w0,w1,w2,q.2]))).map λq=>(q.1,QO a0 q.2))=_
    rw[me k hk];rfl
   exact one ((Qhu (x:=5) (i:=0) (kk:=6) (fs:=Qb (Qa 1) (Qb (Qa 2) Qe)) (ρ:=[some (QO a0 (.lst [w0,w1,w2,wkD k u]),true),some (Qi m R L,false),some (Qg m f,false),some (.bl back,true),some (od,b4),some (.lst [g0,g1,g2,g3],true),some (.int 3,true)]) (es:=[g0,g1,g2,g3]) (r:=⟨[Qi m R L,Qg m f],false,[]⟩) (j:=3) rfl rfl rfl rfl rfl em rfl).trans rfl)
 refine run_seq (Qn (r:=⟨.lst [.int 0,.int 1,.int 2,.int 3],true,[]⟩) rfl ?_)
 change Nx _ (.nx [some (QO a0 (.lst [wkD .plain u,wkD .both u,wkD (.pick a) u,wkD (.pick b) u]),true),some (Qi m R L,false),some (Qg m f,false),some (.bl back,true),some (.lst [.int 0,.int 1,.int 2,.int 3],true),none,none])
 cases back with
 | false=>
  refine run_seq (Qac (b:=false) rfl (λz=>by cases z) (λ_=>Qp ?_))
  refine run_seq (Qn (r:=⟨.lst [.lst [],.lst [],.lst [],.lst []],true,[]⟩) rfl ?_)
  change Nx _ (.nx [some (QO a0 (.lst [wkD .plain u,wkD .both u,wkD (.pick a) u,wkD (.pick b) u]),true),some (Qi m R L,false),some (Qg m f,false),some (.bl false,true),some (.lst [.int 0,.int 1,.int 2,.int 3],true),some (.lst [.lst [],.lst [],.lst [],.lst []],true),none])
  refine run_seq (QmJ (ir:=⟨[.int 0,.int 1,.int 2,.int 3],[4]⟩) rfl ?_)
  refine QbB rfl ((st _ _ _ _ _ _ _ _ _ _).1 .plain trivial rfl) (QbB rfl ((st _ _ _ _ _ _ _ _ _ _).2.1 .both trivial rfl) (QbB rfl ((st _ _ _ _ _ _ _ _ _ _).2.2.1 (.pick a) ha rfl) (QbB rfl ((st _ _ _ _ _ _ _ _ _ _).2.2.2 (.pick b) hb rfl) (Qkm ?_))))
  exact QW (Qdt (r:=⟨.lst [Qh (sel .plain u l),Qh (sel .both u l),Qh (sel (.pick a) u l),Qh (sel (.pick b) u l)],true,[5]⟩) rfl (dp:=QO a0 (.lst [wkD .plain (nxt u l),wkD .both (nxt u l),wkD (.pick a) (nxt u l),wkD (.pick b) (nxt u l)])) rfl rfl ⟨rfl,rfl⟩)
 | true=>
  refine run_seq (Qac (b:=true) rfl (λ_=>run_seq (Qn (r:=⟨.lst [.int 3,.int 2,.int 1,.int 0],true,[]⟩) rfl (Qp ?_))) (λz=>by cases z))
  refine run_seq (Qn (r:=⟨.lst [.lst [],.lst [],.lst [],.lst []],true,[]⟩) rfl ?_)
  change Nx _ (.nx [some (QO a0 (.lst [wkD .plain u,wkD .both u,wkD (.pick a) u,wkD (.pick b) u]),true),some (Qi m R L,false),some (Qg m f,false),some (.bl true,true),some (.lst [.int 3,.int 2,.int 1,.int 0],true),some (.lst [.lst [],.lst [],.lst [],.lst []],true),none])
  refine run_seq (QmJ (ir:=⟨[.int 3,.int 2,.int 1,.int 0],[4]⟩) rfl ?_)
  refine QbB rfl ((st _ _ _ _ _ _ _ _ _ _).2.2.2 (.pick b) hb rfl) (QbB rfl ((st _ _ _ _ _ _ _ _ _ _).2.2.1 (.pick a) ha rfl) (QbB rfl ((st _ _ _ _ _ _ _ _ _ _).2.1 .both trivial rfl) (QbB rfl ((st _ _ _ _ _ _ _ _ _ _).1 .plain trivial rfl) (Qkm ?_))))
  exact QW (Qdt (r:=⟨.lst [Qh (sel .plain u l),Qh (sel .both u l),Qh (sel (.pick a) u l),Qh (sel (.pick b) u l)],true,[5]⟩) rfl (dp:=QO a0 (.lst [wkD .plain (nxt u l),wkD .both (nxt u l),wkD (.pick a) (nxt u l),wkD (.pick b) (nxt u l)])) rfl rfl ⟨rfl,rfl⟩)
theorem Qmm{fa:DE}{ρ:En}{a:Bool}(ha:fa ρ=some ⟨.bl a,true,[]⟩):Qg1 fa ρ=some ⟨.bl (!a),true,[]⟩:=by
 unfold Qg1
 rw[ha];rfl
noncomputable def mxD(T:MxT)(m:Str)(d:D)(ds:List D):Option Str:=match unp d with
 | .obj (.ins x ns) es=>(look x T).bind λms=>(look m ms).bind λr=>if(!ns.contains m && decide (r.1=ds.length+1))=true then r.2 (.obj (.ins x ns) es::ds)else none
 | _=>none
theorem Qp9{T:MxT}{i:Nat}{m:Str}{fs:DA}{ρ:En}{ra:RA}{d:D}{b:Bool}{c:Str}(hρ:ρ[i]? =some (some (d,b)))(h:fs ρ=some ra)(hc:mxD T m d ra.ds=some c):xMe T i m fs ρ=some (c,ρ):=by
 unfold xMe
 rw[hρ]
 dsimp only
 unfold mxD at hc
 split at hc
 case h_2=>cases hc
 rename_i x ns es hu
 try rw[hu]
 try dsimp only
 obtain⟨ms,h1,hc⟩:=Option.bind_eq_some_iff.mp hc
 obtain⟨r,h2,hc⟩:=Option.bind_eq_some_iff.mp hc
 rw[h1,Za,h2,Za,h,Za]
 split at hc
 ·rename_i hcc
  rw[if_pos hcc,hc];rfl
 ·cases hc
structure Qrq (T:MxT):Prop where
 row:∀(k:Wk) (u:Nat) (m:Int) (R L:List (Int×Int)) (xs:List D),(xs.length:Int)≠m->mxD T "chosen" (wkD k u) [Qi m R L,.lst xs]=some "NoRow"
 heap:∀(k:Wk) (u m:Nat) (R L:List (Int×Int)) (f:Nat->Int) (j:Nat),j<m->f j<0->mxD T "chosen" (wkD k u) [Qi m R L,Qg m f]=some "NoHeap"
structure QlY (xd:List D->Option Str):Prop where
 row:∀(m:Int) (R L:List (Int×Int)) (xs:List D),(xs.length:Int)≠m->xd [Qi m R L,.lst xs]=some "NoRow"
 heap:∀(m:Nat) (R L:List (Int×Int)) (f:Nat->Int) (j:Nat),j<m->f j<0->xd [Qi m R L,Qg m f]=some "NoHeap"
theorem QpM{ds dh:Den}{xh:List D->Option Str}(h1:ApF dh xh)(hx:QmG xh):QlY (QaF 2 (Qck ds dh xh)) where
 row:=λm R L xs hl=>Qc9 (QaG (Qbf h1) (Qcs (r:=⟨[Qi m R L,.lst [.lst xs]],_,_⟩) rfl rfl (hx.row m R L xs hl)))
 heap:=λm R L f j hj hf=>Qc9 (QaG (Qbf h1) (Qcs (r:=⟨[Qi m R L,.lst [Qg m f]],_,_⟩) rfl rfl (hx.heap m R L f j hj hf)))
theorem Qr2{ds dh:Den}{xh:List D->Option Str}(h1:ApF dh xh):ApF (Qw 2 (Qdz dh ds)) (QaF 2 (Qck ds dh xh)):=Qo7 (QcD (Qbf h1) (QcD QdL QdL))
theorem QmK{n:Nat}{d:Den}{xd:List D->Option Str}{fs:DA}{lo hi:DO}(a:ApF d xd):Ap (Q3 (QaV (Qz n d [] fs) lo hi)) (QbD n xd fs):=λρ h=>by unfold Q3 QaV;rw[Qhq a h];rfl
theorem QtU{dr:Den}{xr:List D->Option Str}(h1:ApF dr xr)(hx:QlY xr):Qrq [("Way",[("chosen",(3,QaF 3 (Qhg dr xr)))]),("Together",[("chosen",(3,QaF 3 (Qeb dr xr)))]),("Picked",[("chosen",(3,QaF 5 (Qe8 dr xr)))])] where
 row:=λk u m R L xs hl=>by
  cases k with
  | plain=>exact Qc9 (QaG (QmK h1) (Qcs (r:=⟨[Qi m R L,.lst xs],_,_⟩) rfl rfl (hx.row m R L xs hl)))
  | both=>exact Qc9 (QaG (QcM h1) (Qcs (r:=⟨[Qi m R L,.lst xs],_,_⟩) rfl rfl (hx.row m R L xs hl)))
  | pick ps=>exact Qc9 (QaG (QcE h1) (Qcs (r:=⟨[Qi m R L,.lst xs],_,_⟩) rfl rfl (hx.row m R L xs hl)))
 heap:=λk u m R L f j hj hf=>by
  cases k with
  | plain=>exact Qc9 (QaG (QmK h1) (Qcs (r:=⟨[Qi m R L,Qg m f],_,_⟩) rfl rfl (hx.heap m R L f j hj hf)))
  | both=>exact Qc9 (QaG (QcM h1) (Qcs (r:=⟨[Qi m R L,Qg m f],_,_⟩) rfl rfl (hx.heap m R L f j hj hf)))
  | pick ps=>exact Qc9 (QaG (QcE h1) (Qcs (r:=⟨[Qi m R L,Qg m f],_,_⟩) rfl rfl (hx.heap m R L f j hj hf)))
def QhC(d:Den):Prop:=∀(m:Nat) (R L:List (Int×Int)) (f:Nat->Int) (q:Nat) (k:Wk) (u:Nat),q<m->m<=8->d [wkD k u,Qi m R L,Qg m f,.int q]=some (.bl true,true)
theorem QrB{T:MxT}{sub:Str->Str->Option Bool}(hx:Qrq T)(s1:sub "NoRow" "HeapError" =some true)(s2:sub "NoHeap" "HeapError" =some true)(s3:sub "NoRow" "NoRow" =some true)(s4:sub "NoRow" "NoHeap" =some false)(s5:sub "NoHeap" "NoHeap" =some true)(s6:sub "NoHeap" "ValueError" =some true)(s7:sub "NoHeap" "NoRow" =some false):QhC (Qw 7 (QdN sub T)):=λm R L f q k u hq m8=>by
 refine Qbi ?_
 rw[show Qad 7 [wkD k u,Qi m R L,Qg m f,.int q]=[some (wkD k u,false),some (Qi m R L,false),some (Qg m f,false),some (.int q,true),none,none,none] by cases k<;>rfl]
 refine run_seq (Qn (r:=⟨.bl false,true,[]⟩) rfl ?_)
 refine run_seq (Qn (r:=⟨.bl false,true,[]⟩) rfl ?_)
 change Nx _ (.nx [some (wkD k u,false),some (Qi m R L,false),some (Qg m f,false),some (.int q,true),some (.bl false,true),some (.bl false,true),none])
 have a1:Qy (Qa 2) (QF (Qb (dC (.int 0)) Qe)) [some (wkD k u,false),some (Qi m R L,false),some (Qg m f,false),some (.int q,true),some (.bl false,true),some (.bl false,true),none]=some ⟨Qg (m+1) (up f m 0),true,[]⟩:=Qqa (ra:=⟨Qg m f,false,[]⟩) rfl rfl rfl (by omega)
 have apn:∀{x:DX},Ap (λ_=>none) x:=λ_ _=>rfl
 have an:∀{x y:Str}{b:Bool},sub x y=some b->anyS sub x [y]=some b:=λ{x y b} h=>by unfold anyS;rw[h];cases b<;>rfl
 refine QW (Qlz (x:= "NoRow") apn (Qp9 (b:=false) rfl (Qm (r:=⟨Qi m R L,false,[]⟩) rfl (Qm a1 (QZ _))) (hx.row k u m R L _ (by rw[Zp,ZP];omega))) s1 ?_)
 refine QW (Qn (r:=⟨.bl true,true,[]⟩) ?_ (Qp ?_))
 ·exact(Qfr (QgF (x:= "NoRow") rfl (an s3)) (Qmm (QgF (x:= "NoRow") rfl (an s4)))).trans rfl
 change Run _ [some (wkD k u,false),some (Qi m R L,false),some (Qg m f,false),some (.int q,true),some (.bl true,true),some (.bl false,true),none] _
 have hE:∃g:Nat->Int,g q= -1/\Qy (Qy (QaV (Qa 2) Qbj (Qab (Qa 3))) (QF (Qb (Qff (dC (.int 1))) Qe))) (QaV (Qa 2) (Qab (Qy (Qa 3) (dC (.int 1)))) Qbj) [some (wkD k u,false),some (Qi m R L,false),some (Qg m f,false),some (.int q,true),some (.bl true,true),some (.bl false,true),none]=some ⟨Qg m g,true,[]⟩:=by
  have b1:=QjB (fa:=Qa 2) (fb:=Qa 3) (ρ:=[some (wkD k u,false),some (Qi m R L,false),some (Qg m f,false),some (.int q,true),some (.bl true,true),some (.bl false,true),none]) (m:=m) (n:=q) (f:=f) (ra:=⟨Qg m f,false,[]⟩) (rb:=⟨.int q,true,[]⟩) rfl rfl rfl rfl (by omega)
  have b2:=QiX (k:=1) (g:=λ_=> -1) b1 rfl (fb:=QF (Qb (Qff (dC (.int 1))) Qe)) (rb:=⟨Qg 1 (λ_=> -1),true,[]⟩) rfl rfl (by omega)
  have b3:=QoG (fa:=Qa 2) (fb:=Qy (Qa 3) (dC (.int 1))) (ρ:=[some (wkD k u,false),some (Qi m R L,false),some (Qg m f,false),some (.int q,true),some (.bl true,true),some (.bl false,true),none]) (m:=m) (n:=q+1) (f:=f) (ra:=⟨Qg m f,false,[]⟩) (rb:=⟨.int ((q:Int)+1),true,[]⟩) rfl rfl (Q0 (a:=q) (b:=1) rfl rfl rfl rfl) rfl (by omega)
  have b4:=QiX b2 rfl b3 rfl (by omega)
  rw[show q+1+(m-(q+1))=m by omega]at b4
  refine⟨_,?_,b4⟩
  rw[if_pos (by omega),if_neg (by omega)]
 obtain⟨g,gq,hE⟩:=hE
 refine QW (Qlz (x:= "NoHeap") apn (Qp9 (b:=false) rfl (Qm (r:=⟨Qi m R L,false,[]⟩) rfl (Qm hE (QZ _))) (hx.heap k u m R L g q hq (by omega))) s2 ?_)
 refine QW (Qn (r:=⟨.bl true,true,[]⟩) ?_ (Qp ?_))
 ·exact(Qfr (QgF (x:= "NoHeap") rfl (an s5)) (Qfr (QgF (x:= "NoHeap") rfl (an s6)) (Qmm (QgF (x:= "NoHeap") rfl (an s7))))).trans rfl
 exact Qaj (r:=⟨.bl true,true,[]⟩) rfl ⟨rfl,rfl⟩
theorem QtK{r:IoR}{x i:Nat}{fs:List (Option DE)}{ρ:En}{rs:List (Option HS.R)}{d:D}{q:D×D}{Q:Out->Prop}(h:evs fs ρ=some rs)(hp:ρ[i]? =some (some (d,true)))(c:(decide (x≠i) && !(rsM rs).contains i && oneAt fs r.p && decide (fs.length=r.n))=true)(e:QcT (λe=>if isRef e=true then r.den (rsD rs e)else none) d=some q)(k:Q (.nx ((ρ.set i (some (q.2,true))).set x (some (q.1,true))))):Run (Qj3 r x i fs) ρ Q:=by
 refine⟨_,?_,k⟩
 unfold Qj3
 rw[h,Za,hp]
 show(if _ then _ else _)=_
 rw[if_pos c,e];rfl
theorem Qke{fa:DE}{ρ:En}{r:HS.R}{xs:List D}(h:fa ρ=some r)(e:r.d= .lst xs):Qaf fa ρ=some ⟨xs,r.M⟩:=by
 unfold Qaf
 rw[h,Za,e]
theorem QyZ{f1 f2 f3:DE}{ρ:En}{r1 r2 r3:HS.R}(h1:f1 ρ=some r1)(h2:f2 ρ=some r2)(h3:f3 ρ=some r3):evs [none,some f1,some f2,some f3] ρ=some [none,some r1,some r2,some r3]:=by simp[evs,h1,h2,h3]
theorem Qsv{fa:DE}{ρ:En}{r:HS.R}{A:List Int}(h:fa ρ=some r)(e:r.d=Qo A):QgO fa (Qff (dC (.int 1))) ρ=some ⟨Qo A.reverse,true,[]⟩:=by
 unfold QgO
 rw[h,Za,show Qff (dC (.int 1)) ρ=some ⟨.int (-1),true,[]⟩from rfl,Za,e]
 show some (Qap (A.map D.int).reverse r.M)=_
 rw[← List.map_reverse]
 unfold Qap
 rw[Qgl,if_pos rfl];rfl
theorem QoQ(l:List Nat):(Qh l).sim 8=true:=by
 rw[Qc3]
 exact Qmg 7 _
theorem Qnp(l:List Nat):Qh l= .lst ((l.map λ(p:Nat)=>(p:Int)).map .int):=Qc3 l
theorem Qg4{g1 g2:DT}{ρ:En}{b:Bool}(h1:g1 ρ=some true)(h2:g2 ρ=some b):QeL g1 g2 ρ=some b:=by
 unfold QeL
 rw[h1,Za,if_pos rfl,h2]
noncomputable def Qok(ls:List (List Nat)):D:= .lst (ls.map λl=> .tup [Qh l,Qh l])
theorem Qpt{a b:Nat}{gt:DT}{fl:DE}{ρ0:En}:∀ls:List (List Nat),(∀l:List Nat,gt ((ρ0.set a (some (Qh l,false))).set b (some (Qh l,false)))=some false/\fl ((ρ0.set a (some (Qh l,false))).set b (some (Qh l,false)))=some ⟨Qh l,true,[]⟩)->Qf4 a b gt fl ρ0 (ls.map Qh) (ls.map Qh)=some (ls.map λl=> .tup [Qh l,Qh l])
 | [],_=>rfl
 | l::ls,h=>by
  have ih:=Qpt ls h
  obtain⟨h1,h2⟩:=h l
  show(if gt ((ρ0.set a (some (Qh l,false))).set b (some (Qh l,false)))=some false then(fl ((ρ0.set a (some (Qh l,false))).set b (some (Qh l,false)))).bind λr=>if(r.fr && r.M.isEmpty)=true then(Qf4 a b gt fl ρ0 (ls.map Qh) (ls.map Qh)).map λps=> .tup [Qh l,r.d]::ps else none else none)=_
  rw[if_pos h1,h2,Za]
  show(Qf4 a b gt fl ρ0 (ls.map Qh) (ls.map Qh)).map (λps=>D.tup [Qh l,Qh l]::ps)=_
  rw[ih];rfl
theorem QuD{f g h a b:Nat}{gt:DT}{fl:DE}{ρ:En}{bg:Bool}{ls hd:List (List Nat)}{Q:Out->Prop}(hf:ρ[f]? =some (some (.lst (ls.map Qh),true)))(hg:ρ[g]? =some (some (.lst (ls.map Qh),bg)))(hh:ρ[h]? =some (some (Qok hd,true)))(c:[f,g,h,a,b].Nodup/\a<ρ.length/\b<ρ.length)(hl:hd.length+ls.length<=1000000)
  (e:∀l:List Nat,gt (((QcP f g h a b ρ).set a (some (Qh l,false))).set b (some (Qh l,false)))=some false/\fl (((QcP f g h a b ρ).set a (some (Qh l,false))).set b (some (Qh l,false)))=some ⟨Qh l,true,[]⟩) (q:Q (.nx ((QcP f g h a b ρ).set h (some (Qok (hd++ls),true))))):Run (Qin f g h a b gt fl) ρ Q:=by
 refine⟨_,?_,q⟩
 unfold Qin
 rw[hf]
 dsimp only
 rw[hg]
 dsimp only
 rw[hh]
 show(if _ then _ else _)=_
 rw[if_pos ⟨c.1,c.2.1,c.2.2,by rw[Zp,Zp];exact hl⟩,Qpt ls e]
 show some (Out.nx ((QcP f g h a b ρ).set h (some (.lst (hd.map (λl=>D.tup [Qh l,Qh l])++ls.map λl=>D.tup [Qh l,Qh l]),true))))=_
 rw[← ZU];rfl
noncomputable def Qhw(u:Nat)(l:List Nat)(a b:List Int):List (List Nat):=[sel .plain u l,sel .both u l,sel (.pick a) u l,sel (.pick b) u l]
theorem QqA{x:Nat}{b c:D}{xs:List D}{ρ:En}{Q:Out->Prop}(hx:ρ[x]? =some (some (.lst [.lst xs,b,c],true)))(q:Q (.nx (ρ.set x (some (.lst [.lst [],b,c],true))))):Run (QjF x (QdK Qa8 (dC (.int 0)))) ρ Q:=by
 refine⟨_,?_,q⟩
 unfold QjF
 rw[hx]
 rfl
theorem QqC{x:Nat}{a c:D}{B:List Int}{ρ:En}{Q:Out->Prop}(hx:ρ[x]? =some (some (.lst [a,Qo B,c],true)))(hB:B.length<16777216)(q:Q (.nx (ρ.set x (some (.lst [a,Qo (B++[1]),c],true))))):Run (Qd4 x (QdK Qa8 (dC (.int 1))) (dC (.int 1))) ρ Q:=by
 refine⟨_,?_,q⟩
 unfold Qd4
 rw[hx]
 show(if(Qji ⟨.int 1,true,[]⟩ x && decide ((B.map D.int).length<sizeLine))=true then some (Out.nx (ρ.set x (some (.lst [a,.lst (B.map D.int++[.int 1]),c],true))))else none)=_
 rw[if_pos (by
  rw[Zp,decide_eq_true (show B.length<sizeLine by rw[QhA];omega)];rfl)]
 unfold Qo
 rw[ZU];rfl
noncomputable abbrev S11(ns:List Int)(m:Nat)(R L:List (Int×Int))(A B:List Int)(b3:Bool)(v u:Nat)(ls:List (List Nat))(b7:Bool)(js:En):En:=some (.lst (ns.map .int),false)::some (Qi m R L,true)::some (Qg m (QC R L),true)::some (.lst [Qo A,Qo B],b3)::some (.lst [.lst [],Qo (B++[1]),Qi m R L],true)::some (Qe3 v A B,true)::some (.int u,true)::some (Qok ls,b7)::js
section
variable {dn dsp dc dh dd dis dr:Den}{ei ea:QbZ}
theorem QwE(hc:Qgz dc)(hh:Qge dh)(hd:Qhh dd)(his:QiE dis)(hr:QhC dr)(hea:QeU ea){ns:List Int}{m:Nat}{R L:List (Int×Int)}{A B:List Int}{b3:Bool}{u k:Nat}{ls:List (List Nat)}{j9 j10 j11 j12 j13 j14 j15 j16:Option (D×Bool)}(m0:0<m)(m8:m<=8)(nw:Qcy m R L)(hA:A.length<=1000)(hB:B.length<=1000)(hls:ls.length<=1000){fb:DS}{Q:Out->Prop}
  (efb:fb=(Qf (Qs 9 (dOp QR (Qy (QaM (Qz 2 dc [] (Qb (Qa 0) (Qb (Qy (dC (.int 12)) (Qa 8)) Qe))) (dC (.int 69621))) (QaM (Qy (Qa 8) (dC (.int 1))) (dC (.int 40009)))) (dC (.int 2147483647)))) (Qf (Qs 10 (Qz 2 dh [] (Qb (Qa 2) (Qb (Qa 9) Qe)))) (Qf (Qs 11 (QaE (QbO (Qu (Qa 1) (dC (.int 0)))) (.nm 1) [none,none,some 10,some 2] (QA (dOp gGe (Qu (Qa 2) (Qa 1)) (Qu (Qa 3) (Qa 1)))) (Qa 1))) (Qf (Qs 12 (dList (Qb (Qa 10) Qe))) (Qf (Qj3 ⟨4,0,ea⟩ 13 5 [none,some (Qu (Qa 4) (dC (.int 2))),some (Qa 12),some (dOp gEq (dOp QR (dOp Qcd (Qa 9) (dC (.int 5))) (dC (.int 2))) (dC (.int 1)))]) (Qf (Qs 14 (Qz 3 dd [] (Qb (Qa 11) (Qb (Qa 3) (Qb (Qa 6) Qe))))) (Qf (Qin 13 14 7 15 16 (Qca (QA (Qz 2 dis [] (Qb (Qa 15) (Qb (Qa 16) Qe))))) (dList (Qb (Qa 16) Qe))) (Qf (sIf (bOr (QA (dOp gNe (Qa 12) (Qa 10))) (bOr (QA (dOp gNe (Qu (Qa 4) (dC (.int 2))) (Qa 1))) (QeL (QA (dOp gLt (Qa 8) (dC (.int 3)))) (Qca (QA (Qz 4 dr [] (Qb (Qu (Qa 5) (Qy (Qa 8) (dC (.int 1)))) (Qb (Qa 1) (Qb (Qa 10) (Qb (dOp QR (Qa 8) (Qu (Qa 1) (dC (.int 0)))) Qe)))))))))) (Qf (Q3 (dC (.bl false))) Qj) Qj) (Qf (Qs 6 (Qy (Qa 6) (dBf Qjm (Qb (dOp gNe (Qa 11) (QF Qe)) Qe)))) Qj))))))))))
  (q:∀(b3':Bool) (u':Nat) (ls':List (List Nat)) (j9 j10 j11 j12 j13 j14 j15 j16:Option (D×Bool)),ls'.length=ls.length+4->Q (.nx (S11 ns m R L A B b3' u' u' ls' true [some (.int k,true),j9,j10,j11,j12,j13,j14,j15,j16]))):
  Run fb (S11 ns m R L A B b3 u u ls true [some (.int k,true),j9,j10,j11,j12,j13,j14,j15,j16]) Q:=by
 subst efb
 have ecell:=hc ns (12+k)
 rw[show((12+k:Nat):Int)=12+(k:Int) by omega]at ecell
 generalize ns.getD (12+k) 0=c0 at ecell
 have n0:=ZG (c0*69621+((k:Int)+1)*40009) (by decide:(2147483647:Int)≠0)
 have n1:=ZH (c0*69621+((k:Int)+1)*40009) (by decide:(0:Int)<2147483647)
 refine run_seq (Qn (QJ (b:=2147483647) (Q0 (Qbl (a:=c0) (b:=69621) (Q2 (Qm (r:=⟨.lst (ns.map .int),false,[]⟩) rfl (Qm (Q0 (a:=12) (b:=k) rfl rfl rfl rfl) (QZ _))) ecell rfl) rfl rfl rfl (Qdw (by decide))) rfl (Qbl (b:=40009) (Q0 (a:=k) (b:=1) rfl rfl rfl rfl) rfl rfl rfl (Qdw (by decide))) rfl) rfl rfl rfl (by decide)) ?_)
 generalize (c0*69621+((k:Int)+1)*40009) % 2147483647=n at n0 n1
 rw[QB]
 obtain⟨f,ehp,f0⟩:=hh m (QC R L) n m8 (λj hj=>by have:=nw.Qq1 hj;omega) n0 n1
 refine run_seq (Qn (Q2 (r:=⟨[Qg m (QC R L),.int n],true,[2]⟩) rfl ehp rfl) ?_)
 rw[QB]
 obtain⟨l,el⟩:∃l,l=Qah m (QC R L) f:=⟨_,rfl⟩
 refine run_seq (Qn (r:=⟨Qh l,true,[]⟩) ?_ ?_)
 ·refine(QfG (toD:=λ(p:Nat)=>D.int (p:Int)) (keep:=λp=>decide (QC R L p<=f p)) (out:=λ(p:Nat)=>D.int p) (List.range m) (QeH (n:=m) (r:=⟨.int m,true,[]⟩) rfl rfl (by omega)) rfl λp hp=>?_).trans (by rw[el];rfl)
  have hp:=ZQ.mp hp
  refine⟨[none,some (.int p,true),some (Qg m f,false),some (Qg m (QC R L),false)],rfl,?_,λ_=>⟨_,rfl,rfl,rfl⟩⟩
  exact QG (QaI (d:= .bl (decide (QC R L p<=f p))) (Qgc (m:=m) (f:=f) (i:=p) (ra:=⟨Qg m f,false,[]⟩) (rb:=⟨.int p,true,[]⟩) rfl rfl rfl rfl hp) (Qgc (m:=m) (f:=QC R L) (i:=p) (ra:=⟨Qg m (QC R L),false,[]⟩) (rb:=⟨.int p,true,[]⟩) rfl rfl rfl rfl hp) rfl) rfl
 rw[QB]
 refine run_seq (Qn (QrO (m:=m) (f:=f) (rs:=⟨[Qg m f],true,[10]⟩) rfl rfl) ?_)
 rw[QB]
 have easked:=hea m R L f A B u (decide (n / 5 % 2=1)) hA hB m0 (by omega) nw f0
 rw[← el]at easked
 refine run_seq (QtK (d:=Qe3 u A B) (q:=(QfS u l A B,Qe3 (nxt u l) A B)) (rs:=[none,some ⟨Qi m R L,true,[4]⟩,some ⟨Qg m f,true,[12]⟩,some ⟨.bl (decide (n / 5 % 2=1)),true,[]⟩]) ?_ rfl rfl easked ?_)
 ·exact QyZ rfl rfl (Qcb (b:=1) (QJ (b:=2) (QcI (a:=n) (b:=5) rfl rfl rfl rfl (by decide) (by decide)) rfl rfl rfl (by decide)) rfl rfl rfl)
 obtain⟨fr,edue⟩:=hd l A B u
 refine QbF (P:=λρ=>∃b3 b11 b14,ρ=S11 ns m R L A B b3 (nxt u l) u ls true [some (.int k,true),some (.int n,true),some (Qg m f,true),some (Qh l,b11),some (Qg m f,true),some (QfS u l A B,true),some (QfS u l A B,b14),j15,j16]) ?_ ?_
 ·cases b3 with
  | true=>
   refine Qn (Qh3 (r:=⟨[Qh l,.lst [Qo A,Qo B],.int u],true,[11,3]⟩) rfl edue rfl) ?_
   cases fr with
   | true=>exact⟨_,_,_,rfl⟩
   | false=>exact⟨_,_,_,rfl⟩
  | false=>
   refine Qn (Qh3 (r:=⟨[Qh l,.lst [Qo A,Qo B],.int u],false,[11]⟩) rfl edue rfl) ?_
   cases fr with
   | true=>exact⟨_,_,_,rfl⟩
   | false=>exact⟨_,_,_,rfl⟩
 rintro ρ ⟨b3,b11,b14,rfl⟩
 refine run_seq (QuD (ls:=Qhw u l A B) (hd:=ls) rfl rfl rfl ⟨by decide,by show 15<17;decide,by show 16<17;decide⟩ (by show ls.length+4<=1000000;omega) (λl'=>⟨?_,?_⟩) ?_)
 ·have:=his (l'.map λ(p:Nat)=>(p:Int))
  rw[← Qnp]at this
  exact Qda (b:=true) (QG (b:=true) (Q2 (r:=⟨[Qh l',Qh l'],false,[]⟩) rfl this rfl) rfl)
 ·exact(Qe6 (cs:=l'.map λ(p:Nat)=>(p:Int)) (r:=⟨Qh l',false,[]⟩) rfl (Qc3 l')).trans (by rw[Qc3];rfl)
 change Nx _ (.nx (S11 ns m R L A B b3 (nxt u l) u (ls++Qhw u l A B) true [some (.int k,true),some (.int n,true),some (Qg m f,true),some (Qh l,b11),some (Qg m f,true),none,none,none,none]))
 refine run_seq (Qac (b:=false) (Qhb (a:=false) (b:=false) (QG (Qlx (d:=Qg m f) (ra:=⟨Qg m f,true,[12]⟩) (rb:=⟨Qg m f,true,[10]⟩) rfl rfl rfl rfl (Qyw 7 _ _)) rfl) (Qhb (a:=false) (b:=false) (QG (Qlx (d:=Qi m R L) (ra:=⟨Qi m R L,true,[4]⟩) (rb:=⟨Qi m R L,true,[1]⟩) rfl rfl rfl rfl (Qs7 ..)) rfl) ?_)) (λz=>by cases z) (λ_=>Qp ?_))
 ·by_cases hk:k<3
  ·have q1:=ZG (k:Int) (by omega:(m:Int)≠0)
   have q2:=ZH (k:Int) (by omega:(0:Int)<m)
   obtain⟨p,ep⟩:∃p:Nat,(p:Int)=(k:Int) % m:=⟨((k:Int) % m).toNat,by omega⟩
   have hp:p<m:=by omega
   have fin:∀wk:Wk,dr [wkD wk (nxt u l),Qi m R L,Qg m f,.int ((k:Int) % m)]=some (.bl true,true):=λwk=>by rw[← ep];exact hr m R L f p wk (nxt u l) hp m8
   have hk3:k=0∨k=1∨k=2:=by omega
   rcases hk3 with rfl | rfl | rfl
   ·exact Qg4 (QG (b:=true) (QeE (a:=((0:Nat):Int)) (b:=3) rfl rfl rfl rfl) rfl) (Qda (b:=true) (QG (b:=true) (Q2 (Qm (r:=⟨wkD .both (nxt u l),true,[5]⟩) rfl (Qm (r:=⟨Qi m R L,true,[1]⟩) rfl (Qm (r:=⟨Qg m f,true,[10]⟩) rfl (Qm (QJ (a:=((0:Nat):Int)) (b:=m) (rb:=⟨.int m,true,[]⟩) rfl rfl rfl rfl (by omega)) (QZ _))))) (fin .both) rfl) rfl))
   ·exact Qg4 (QG (b:=true) (QeE (a:=((1:Nat):Int)) (b:=3) rfl rfl rfl rfl) rfl) (Qda (b:=true) (QG (b:=true) (Q2 (Qm (r:=⟨wkD (.pick A) (nxt u l),true,[5]⟩) rfl (Qm (r:=⟨Qi m R L,true,[1]⟩) rfl (Qm (r:=⟨Qg m f,true,[10]⟩) rfl (Qm (QJ (a:=((1:Nat):Int)) (b:=m) (rb:=⟨.int m,true,[]⟩) rfl rfl rfl rfl (by omega)) (QZ _))))) (fin (.pick A)) rfl) rfl))
   ·exact Qg4 (QG (b:=true) (QeE (a:=((2:Nat):Int)) (b:=3) rfl rfl rfl rfl) rfl) (Qda (b:=true) (QG (b:=true) (Q2 (Qm (r:=⟨wkD (.pick B) (nxt u l),true,[5]⟩) rfl (Qm (r:=⟨Qi m R L,true,[1]⟩) rfl (Qm (r:=⟨Qg m f,true,[10]⟩) rfl (Qm (QJ (a:=((2:Nat):Int)) (b:=m) (rb:=⟨.int m,true,[]⟩) rfl rfl rfl rfl (by omega)) (QZ _))))) (fin (.pick B)) rfl) rfl))
  ·have z:=QG (b:=false) (QeE (ρ:=S11 ns m R L A B b3 (nxt u l) u (ls++Qhw u l A B) true [some (.int k,true),some (.int n,true),some (Qg m f,true),some (Qh l,b11),some (Qg m f,true),none,none,none,none]) (fa:=Qa 8) (fb:=dC (.int 3)) (a:=k) (b:=3) rfl rfl rfl rfl) (by rw[decide_eq_false (by omega)])
   unfold QeL
   rw[z];rfl
 refine run_seq (Qn (r:=⟨.int (nxt u l),true,[]⟩) ?_ (Qp ?_))
 ·have nn:dOp gNe (Qa 11) (QF Qe) (S11 ns m R L A B b3 (nxt u l) u (ls++Qhw u l A B) true [some (.int k,true),some (.int n,true),some (Qg m f,true),some (Qh l,b11),some (Qg m f,true),none,none,none,none])=some ⟨.bl (!l.isEmpty),true,[]⟩:=by
   cases b11 with
   | true=>exact Qku (l:=l) (ra:=⟨Qh l,true,[11]⟩) rfl rfl
   | false=>exact Qku (l:=l) (ra:=⟨Qh l,false,[]⟩) rfl rfl
  have ni:dBf Qjm (Qb (dOp gNe (Qa 11) (QF Qe)) Qe) (S11 ns m R L A B b3 (nxt u l) u (ls++Qhw u l A B) true [some (.int k,true),some (.int n,true),some (Qg m f,true),some (Qh l,b11),some (Qg m f,true),none,none,none,none])=some ⟨.int (if l=[]then 0 else 1),true,[]⟩:=by
   unfold dBf
   rw[Qm nn (QZ _)]
   cases l with
   | nil=>rfl
   | cons x r=>rfl
  refine(Q0 (a:=u) rfl rfl ni rfl).trans ?_
  unfold nxt
  by_cases hl:l=[]
  ·rw[if_pos hl,if_pos hl,Int.add_zero]
  ·rw[if_neg hl,if_neg hl];rfl
 rw[QB]
 exact q b3 (nxt u l) (ls++Qhw u l A B) _ _ _ _ _ _ _ _ (by rw[Zk];rfl)
theorem QkD{fs:DA}{ρ:En}{r:HS.R}{ps:List Int}{fa:DE}(hi:QmS ei)(h:fa ρ=some r)(e:r.d=Qo ps):QhD "Picked" ⟨2,0,ei⟩ (Qb fa Qe) ρ=some ⟨wkD (.pick ps) 0,true,[]⟩:=by
 unfold QhD
 rw[Qm h (QZ _),Za,e]
 show(if 2=1+1 then(ei [.obj (.ins "Picked" []) [],Qo ps]).bind _ else none)=_
 rw[if_pos rfl,hi ps];rfl
theorem Qu6(hn:QjL dn)(hsp:QjX dsp)(hc:Qgz dc)(hh:Qge dh)(hd:Qhh dd)(his:QiE dis)(hr:QhC dr)(hi:QmS ei)(hea:QeU ea)(ns:List Int)(hl:ns.length<=63):Qw 17 (Qkf dn dsp dc dh dd dis dr ei ea) [.lst (ns.map .int)]=some (.bl true,true):=by
 obtain⟨m,R,L,en,m0,m8,nw,rl⟩:=hn ns hl
 have g:=nw.good
 refine Qbi ?_
 refine run_seq (Qn (Q2 (r:=⟨[.lst (ns.map .int),.int 5,.int 300],false,[]⟩) rfl en rfl) ?_)
 rw[QB]
 refine run_seq (Qn (Q2 (r:=⟨[Qi m R L],true,[1]⟩) rfl (hsp m R L (by omega) g.1 g.2.1) rfl) ?_)
 rw[QB]
 change Nx _ (.nx [some (.lst (ns.map .int),false),some (Qi m R L,true),some (Qg m (QC R L),true),none,none,none,none,none,none,none,none,none,none,none,none,none,none])
 obtain⟨cs,hcs,esl⟩:=Qij (a:=12) (b:=40) (fa:=Qa 0) (ns:=ns) (ρ:=[some (.lst (ns.map .int),false),some (Qi m R L,true),some (Qg m (QC R L),true),none,none,none,none,none,none,none,none,none,none,none,none,none,none]) rfl rfl
 obtain⟨A,eA⟩:∃A:List Int,A=cs.map λc=>c % 10^18:=⟨_,rfl⟩
 obtain⟨B,eB⟩:∃B:List Int,B=(cs.map λc=>c*7919 % 1000003).reverse:=⟨_,rfl⟩
 have hA:A.length<=63:=by rw[eA,Zp];omega
 have hB:B.length<=63:=by rw[eB,Zay,Zp];omega
 refine run_seq (Qn (r:=⟨.lst [Qo A,Qo B],true,[]⟩) ?_ ?_)
 ·refine(Qdl (rs:=⟨[Qo A,Qo B],true,[]⟩) ?_ (show 2<=64 by decide)).trans rfl
  refine(Qm (r:=⟨Qo A,true,[]⟩) ?_ (Qm (r:=⟨Qo B,true,[]⟩) ?_ (QZ _))).trans rfl
  ·refine(Qdv (toD:=D.int) (out:=λ(c:Int)=>D.int (c % 10^18)) cs (Qke esl rfl) rfl λc _=>?_).trans (by rw[eA];unfold Qo;rw[Zak];rfl)
   exact⟨[none,some (.int c,true)],rfl,⟨.int (c % 10^18),true,[]⟩,QJ (a:=c) (b:=10^18) rfl rfl (QnR (a:=10) (k:=18) (by decide) (by decide)) rfl (by decide),rfl,rfl⟩
  ·rw[eB]
   refine Qsv (r:=⟨Qo (cs.map λc=>c*7919 % 1000003),true,[]⟩) ?_ rfl
   refine(Qdv (toD:=D.int) (out:=λ(c:Int)=>D.int (c*7919 % 1000003)) cs (Qke esl rfl) rfl λc _=>?_).trans (by unfold Qo;rw[Zak];rfl)
   exact⟨[none,some (.int c,true)],rfl,⟨.int (c*7919 % 1000003),true,[]⟩,QJ (b:=1000003) (Qbl (a:=c) (b:=7919) rfl rfl rfl rfl (Qdw (by decide))) rfl rfl rfl (by decide),rfl,rfl⟩
 change Nx _ (.nx [some (.lst (ns.map .int),false),some (Qi m R L,true),some (Qg m (QC R L),true),some (.lst [Qo A,Qo B],true),none,none,none,none,none,none,none,none,none,none,none,none,none])
 refine run_seq (Qn (r:=⟨.lst [Qo A,Qo B,Qi m R L],true,[]⟩) ?_ ?_)
 ·refine(Qdl (rs:=⟨[Qo A,Qo B,Qi m R L],true,[]⟩) ?_ (show 3<=64 by decide)).trans rfl
  exact(Qm (Qe6 (cs:=A) (r:=⟨Qo A,true,[3]⟩) rfl rfl) (Qm (Qe6 (cs:=B) (r:=⟨Qo B,true,[3]⟩) rfl rfl) (Qm (Qph (m:=m) (R:=R) (L:=L) (r:=⟨Qi m R L,true,[1]⟩) rfl rfl) (QZ _)))).trans rfl
 change Nx _ (.nx [some (.lst (ns.map .int),false),some (Qi m R L,true),some (Qg m (QC R L),true),some (.lst [Qo A,Qo B],true),some (.lst [Qo A,Qo B,Qi m R L],true),none,none,none,none,none,none,none,none,none,none,none,none])
 refine run_seq (Qn (r:=⟨Qe3 0 A B,true,[]⟩) ?_ ?_)
 ·refine(Qdl (rs:=⟨[wkD .plain 0,wkD .both 0,wkD (.pick A) 0,wkD (.pick B) 0],true,[]⟩) ?_ (show 4<=64 by decide)).trans rfl
  exact(Qm (r:=⟨wkD .plain 0,true,[]⟩) rfl (Qm (r:=⟨wkD .both 0,true,[]⟩) rfl (Qm (QkD (ps:=A) (r:=⟨Qo A,true,[4]⟩) (fs:=Qe) hi rfl rfl) (Qm (QkD (ps:=B) (r:=⟨Qo B,true,[4]⟩) (fs:=Qe) hi rfl rfl) (QZ _))))).trans rfl
 change Nx _ (.nx [some (.lst (ns.map .int),false),some (Qi m R L,true),some (Qg m (QC R L),true),some (.lst [Qo A,Qo B],true),some (.lst [Qo A,Qo B,Qi m R L],true),some (Qe3 0 A B,true),none,none,none,none,none,none,none,none,none,none,none])
 refine run_seq (QqA rfl ?_)
 refine run_seq (QqC (B:=B) rfl (by omega) ?_)
 refine run_seq (Qn (r:=⟨.int 0,true,[]⟩) rfl ?_)
 refine run_seq (Qn (r:=⟨.lst [],true,[]⟩) rfl ?_)
 change Nx _ (.nx (S11 ns m R L A B true 0 0 [] true [none,none,none,none,none,none,none,none,none]))
 have elen:Qy (dBf QaO (Qb (Qu (Qa 3) (dC (.int 0))) Qe)) (dC (.int 3)) (S11 ns m R L A B true 0 0 [] true [none,none,none,none,none,none,none,none,none])=some ⟨.int (A.length+3:Nat),true,[]⟩:=by
  have z:=QcH (fa:=Qu (Qa 3) (dC (.int 0))) (ρ:=S11 ns m R L A B true 0 0 [] true [none,none,none,none,none,none,none,none,none]) (xs:=A.map D.int) (r:=⟨Qo A,true,[3]⟩) rfl rfl
  rw[Zp]at z
  exact(Q0 (b:=3) z rfl rfl rfl).trans (by rfl)
 refine run_seq (Qa5 (toD:=λ(i:Nat)=>D.int i) (List.range (A.length+3)) (λi ρ=>∃(b3:Bool) (u:Nat) (ls:List (List Nat)) (j8 j9 j10 j11 j12 j13 j14 j15 j16:Option (D×Bool)),ls.length=4*i/\ρ=S11 ns m R L A B b3 u u ls true [j8,j9,j10,j11,j12,j13,j14,j15,j16]) (ir:=⟨(List.range (A.length+3)).map λ(i:Nat)=>D.int i,[]⟩) (QeH elen rfl (by omega)) rfl ⟨true,0,[],_,_,_,_,_,_,_,_,_,rfl,rfl⟩ ?_ ?_)
 ·rintro i x ρ hix ⟨b3,u,ls,j8,j9,j10,j11,j12,j13,j14,j15,j16,hls,rfl⟩
  have him:i<A.length+3:=by have:=(Zh.mp hix).1;rwa[ZP]at this
  refine⟨_,rfl,QwE (k:=x) hc hh hd his hr hea m0 m8 nw (by omega) (by omega) (by omega) rfl λb3' u' ls' k9 k10 k11 k12 k13 k14 k15 k16 hl'=>?_⟩
  exact⟨b3',u',ls',_,_,_,_,_,_,_,_,_,by omega,rfl⟩
 ·rintro ρ ⟨b3,u,ls,j8,j9,j10,j11,j12,j13,j14,j15,j16,hls,rfl⟩
  refine run_seq (Qa5 (toD:=λ(l:List Nat)=>D.tup [Qh l,Qh l]) ls (λi ρ=>∃(j15 j16:Option (D×Bool)),ρ=S11 ns m R L A B b3 u u ls false [j8,j9,j10,j11,j12,j13,j14,j15,j16]) (ir:=⟨ls.map λl=>D.tup [Qh l,Qh l],[7]⟩) rfl rfl ⟨j15,j16,rfl⟩ ?_ ?_)
  ·rintro i l ρ _ ⟨j15,j16,rfl⟩
   refine⟨_,rfl,QW (Qac (b:=false) (QG (Qlx (d:=Qh l) (ra:=⟨Qh l,false,[]⟩) (rb:=⟨Qh l,false,[]⟩) rfl rfl rfl rfl (QoQ l)) rfl) (λz=>by cases z) (λ_=>Qp (Qp ⟨_,_,rfl⟩)))⟩
  ·rintro ρ ⟨j15,j16,rfl⟩
   exact Qaj (r:=⟨.bl true,true,[]⟩) rfl ⟨rfl,rfl⟩
end
end HS
theorem HS.some_of{α:Type}{x:Option α}{d:α}(h:x.isSome=true):x=some (x.getD d):=by cases x with | none=>cases h | some a=>rfl
namespace Law
open PySem L2 HS
noncomputable section
def top(i:Nat):Stmt:=PySem.Challenge.pw_heapstill_k11_ways_chosen.main.body.getD i (.Pass ⟨0,0,0,0⟩)
abbrev cst:List (Str×Cn):=[]
abbrev Sc(s:Stmt)(P:List Str):Prop:=Qar (namesOf (Qd s)) P (Qd s)
theorem scM{s:Stmt}{P:List Str}(h1:(Qd s).kind= .function)(h2:(Qd s).isCoroutine=false)(h3:(Qd s).isGenerator=false)(h4:(namesOf (Qd s)).Nodup/\(namesOf (Qd s)).take P.length=P/\(∀x∈P,(Qd s).names.lookup x=some .local ∨(Qd s).names.lookup x=some .cell)/\∀y∈(Qd s).names,y.2≠ .free):Sc s P:=⟨h1,h2,h3,h4.1,h4.2.1,h4.2.2.1,h4.2.2.2⟩
noncomputable abbrev Cp(s:Stmt)(Γ:List (Str×FnR)):Option DS:=Q5 60 (Qbw s Γ cst) (QM s)
noncomputable abbrev CpO(s:Stmt)(Γ:List (Str×FnR))(T:ObT)(p:Option Nat):Option DS:=Q5 60 (thO 60 (Qbw s Γ cst) T p) (QM s)
noncomputable abbrev Dn(s:Stmt)(g:DS):Den:=Qw (namesOf (Qd s)).length g
noncomputable abbrev Eu(s:Stmt)(p:Nat)(g:DS):QbZ:=QeP (namesOf (Qd s)).length p g
noncomputable abbrev Gc(x:Str)(n:Nat)(d:Den)(Γ:List (Str×FnR)):List (Str×FnR):=(x,⟨n,[],d⟩)::Γ
noncomputable abbrev cls:List Str:=["NoRow","NoHeap"]
noncomputable abbrev QyQ:List (Str×List (Str×Bool)):=[("NoRow",[("HeapError",true),("NoRow",true),("NoHeap",false),("ValueError",true)]),("NoHeap",[("HeapError",true),("NoRow",false),("NoHeap",true),("ValueError",true)])]
noncomputable abbrev sub:=QsL QyQ
noncomputable abbrev CpX(s:Stmt)(Γ:List (Str×FnR))(Γx:List (Str×(Nat×(List D->Option Str)))):Option DX:=Qdm 60 (Qbw s Γ cst) ⟨Γx,cls⟩ (QM s)
noncomputable abbrev CpM(s:Stmt)(Γ:List (Str×FnR))(MX:MxT)(hΓ:List (Str×FnR)):Option DS:=Q5 60 (QrF 60 s Γ cst MX sub hΓ) (QM s)
noncomputable abbrev Qj5(s:Stmt)(Γ:List (Str×FnR))(Γx:List (Str×(Nat×(List D->Option Str))))(T:ObT):Option DX:=Qdm 60 (thO 60 (Qbw s Γ cst) T none) ⟨Γx,cls⟩ (QM s)
noncomputable abbrev CpZ(s:Stmt)(Γ:List (Str×FnR))(T:ObT)(IS:IsT):Option DS:=Q5 60 (QoB 60 (Qbw s Γ cst) T IS) (QM s)
noncomputable abbrev T0:ObT:=⟨HS.wCl,[],[],[],["Way","Together"]⟩
abbrev QaH:=top 5
theorem QgN:Sc QaH ["net","rows"]:=scM rfl rfl rfl (by decide+kernel)
theorem QhK:QI "need_rows" QaH ["net","rows"]:=λ_ _ _ _ _ _=>lc λ_=>lc λ_=>l0 rfl
noncomputable def Qg8:=(CpX QaH [] []).getD xNo
theorem QlQ:CpX QaH [] []=some Qg8:=some_of (by decide+kernel)
noncomputable abbrev Qcc:=QaF (namesOf (Qd QaH)).length Qg8
noncomputable abbrev QeJ:List (Str×(Nat×(List D->Option Str))):=("need_rows",(2,Qcc))::[]
def QhO:=(Cp QaH []).getD QE
theorem Qnc:Cp QaH []=some QhO:=some_of (by decide+kernel)
abbrev Qau:=Dn QaH QhO
abbrev QcJ:=Gc "need_rows" 2 Qau []
abbrev Qaw:=top 6
theorem Qgo:Sc Qaw ["net","heaps"]:=scM rfl rfl rfl (by decide+kernel)
theorem QgR:QI "need_heaps" Qaw ["net","heaps"]:=λ_ _ _ _ _ _=>lc λ_=>lc λ_=>l0 rfl
noncomputable def Qgp:=(CpX Qaw QcJ QeJ).getD xNo
theorem QkN:CpX Qaw QcJ QeJ=some Qgp:=some_of (by decide+kernel)
noncomputable abbrev QbI:=QaF (namesOf (Qd Qaw)).length Qgp
noncomputable abbrev Qd6:List (Str×(Nat×(List D->Option Str))):=("need_heaps",(2,QbI))::QeJ
def QgA:=(Cp Qaw QcJ).getD QE
theorem QmL:Cp Qaw QcJ=some QgA:=some_of (by decide+kernel)
abbrev Qam:=Dn Qaw QgA
abbrev Qev:=Gc "need_heaps" 2 Qam QcJ
abbrev Qel:=top 8
theorem Qrh:Sc Qel ["roads","lanes"]:=scM rfl rfl rfl (by decide+kernel)
theorem QuN:QI "steps" Qel ["roads","lanes"]:=λ_ _ _ _ _ _=>lc λ_=>lc λ_=>l0 rfl
def QnN:=(Cp Qel Qev).getD QE
theorem Qty:Cp Qel Qev=some QnN:=some_of (by decide+kernel)
abbrev Qc0:=Dn Qel QnN
abbrev QjZ:=Gc "steps" 2 Qc0 Qev
abbrev Qbr:=top 9
theorem QkT:Sc Qbr ["net"]:=scM rfl rfl rfl (by decide+kernel)
theorem Qls:QI "toll_table" Qbr ["net"]:=λ_ _ _ _ _ _=>lc λ_=>l0 rfl
def Qg2:=(Cp Qbr QjZ).getD QE
theorem QmR:Cp Qbr QjZ=some Qg2:=some_of (by decide+kernel)
abbrev Qbt:=Dn Qbr Qg2
abbrev QeD:=Gc "toll_table" 1 Qbt QjZ
abbrev QbT:=top 10
theorem Qlo:Sc QbT ["net"]:=scM rfl rfl rfl (by decide+kernel)
theorem Qnh:QI "span_list" QbT ["net"]:=λ_ _ _ _ _ _=>lc λ_=>l0 rfl
def QhQ:=(Cp QbT QeD).getD QE
theorem Qnj:Cp QbT QeD=some QhQ:=some_of (by decide+kernel)
abbrev QaL:=Dn QbT QhQ
abbrev QcL:=Gc "span_list" 1 QaL QeD
abbrev Qae:=top 12
theorem QeQ:Sc Qae ["net","heap"]:=scM rfl rfl rfl (by decide+kernel)
theorem Qfy:QI "ready_places" Qae ["net","heap"]:=λ_ _ _ _ _ _=>lc λ_=>lc λ_=>l0 rfl
noncomputable def Qe1:=(CpX Qae QcL Qd6).getD xNo
theorem Qi1:CpX Qae QcL Qd6=some Qe1:=some_of (by decide+kernel)
noncomputable abbrev Qax:=QaF (namesOf (Qd Qae)).length Qe1
noncomputable abbrev QaR:List (Str×(Nat×(List D->Option Str))):=("ready_places",(2,Qax))::Qd6
def Qfs:=(Cp Qae QcL).getD QE
theorem QjE:Cp Qae QcL=some Qfs:=some_of (by decide+kernel)
abbrev Qv:=Dn Qae Qfs
abbrev Qdr:=Gc "ready_places" 2 Qv QcL
abbrev Qa6:=top 17
theorem Qje:Sc Qa6 ["_law_script","_law_k"]:=scM rfl rfl rfl (by decide+kernel)
theorem QjN:QI "_law_cell_at" Qa6 ["_law_script","_law_k"]:=λ_ _ _ _ _ _=>lc λ_=>lc λ_=>l0 rfl
def Qfu:=(Cp Qa6 Qdr).getD QE
theorem QjC:Cp Qa6 Qdr=some Qfu:=some_of (by decide+kernel)
abbrev QL:=Dn Qa6 Qfu
abbrev QdB:=Gc "_law_cell_at" 2 QL Qdr
abbrev QbQ:=top 18
theorem Ql1:Sc QbQ ["_law_many","_law_turn","_law_kind"]:=scM rfl rfl rfl (by decide+kernel)
theorem Qnq:QI "_law_base" QbQ ["_law_many","_law_turn","_law_kind"]:=λ_ _ _ _ _ _=>lc λ_=>lc λ_=>lc λ_=>l0 rfl
def QhX:=(Cp QbQ QdB).getD QE
theorem Qno:Cp QbQ QdB=some QhX:=some_of (by decide+kernel)
abbrev QbU:=Dn QbQ QhX
abbrev Qfe:=Gc "_law_base" 3 QbU QdB
abbrev QbN:=top 19
theorem Qmo:Sc QbN ["_law_many","_law_ways","_law_room"]:=scM rfl rfl rfl (by decide+kernel)
theorem Qnf:QI "_law_fits" QbN ["_law_many","_law_ways","_law_room"]:=λ_ _ _ _ _ _=>lc λ_=>lc λ_=>lc λ_=>l0 rfl
def QhT:=(Cp QbN Qfe).getD QE
theorem Qm5:Cp QbN Qfe=some QhT:=some_of (by decide+kernel)
abbrev Qat:=Dn QbN QhT
abbrev Qe9:=Gc "_law_fits" 3 Qat Qfe
abbrev QbL:=top 20
theorem Qmy:Sc QbL ["_law_ways","_law_cells","_law_many","_law_kind","_law_room"]:=scM rfl rfl rfl (by decide+kernel)
theorem Qna:QI "_law_more" QbL ["_law_ways","_law_cells","_law_many","_law_kind","_law_room"]:=λ_ _ _ _ _ _=>lc λ_=>lc λ_=>lc λ_=>lc λ_=>lc λ_=>l0 rfl
def QhU:=(Cp QbL Qe9).getD QE
theorem Qnb:Cp QbL Qe9=some QhU:=some_of (by decide+kernel)
abbrev QbM:=Dn QbL QhU
abbrev Qfl:=Gc "_law_more" 5 QbM Qe9
abbrev Qct:=top 21
theorem Qnr:Sc Qct ["_law_script","_law_most","_law_room"]:=scM rfl rfl rfl (by decide+kernel)
theorem QoN:QI "_law_net" Qct ["_law_script","_law_most","_law_room"]:=λ_ _ _ _ _ _=>lc λ_=>lc λ_=>lc λ_=>l0 rfl
def QiI:=(Cp Qct Qfl).getD QE
theorem QoA:Cp Qct Qfl=some QiI:=some_of (by decide+kernel)
abbrev Qcw:=Dn Qct QiI
abbrev QfX:=Gc "_law_net" 3 Qcw Qfl
abbrev Qbz:=top 22
theorem QkR:Sc Qbz ["_law_net_here"]:=scM rfl rfl rfl (by decide+kernel)
theorem Ql5:QI "_law_spans" Qbz ["_law_net_here"]:=λ_ _ _ _ _ _=>lc λ_=>l0 rfl
def Qg7:=(Cp Qbz QfX).getD QE
theorem Qmc:Cp Qbz QfX=some Qg7:=some_of (by decide+kernel)
abbrev Qbs:=Dn Qbz Qg7
abbrev QeM:=Gc "_law_spans" 1 Qbs QfX
abbrev QbV:=top 23
theorem Qli:Sc QbV ["_law_spans_here","_law_number"]:=scM rfl rfl rfl (by decide+kernel)
theorem Qm7:QI "_law_heap" QbV ["_law_spans_here","_law_number"]:=λ_ _ _ _ _ _=>lc λ_=>lc λ_=>l0 rfl
def QhV:=(Cp QbV QeM).getD QE
theorem Qm6:Cp QbV QeM=some QhV:=some_of (by decide+kernel)
abbrev QbP:=Dn QbV QhV
abbrev Qfj:=Gc "_law_heap" 2 QbP QeM
abbrev QcX:=top 24
theorem Qoj:Sc QcX ["_law_found","_law_due_here"]:=scM rfl rfl rfl (by decide+kernel)
theorem Qqe:QI "_law_is" QcX ["_law_found","_law_due_here"]:=λ_ _ _ _ _ _=>lc λ_=>lc λ_=>l0 rfl
def Qkj:=(Cp QcX Qfj).getD QE
theorem QqE:Cp QcX Qfj=some Qkj:=some_of (by decide+kernel)
abbrev Qc1:=Dn QcX Qkj
abbrev QgD:=Gc "_law_is" 2 Qc1 Qfj
abbrev QbS:=top 25
theorem Qlm:Sc QbS ["_law_may","_law_picks","_law_used"]:=scM rfl rfl rfl (by decide+kernel)
theorem Qm9:QI "_law_next" QbS ["_law_may","_law_picks","_law_used"]:=λ_ _ _ _ _ _=>lc λ_=>lc λ_=>lc λ_=>l0 rfl
def QhL:=(Cp QbS QgD).getD QE
theorem Qnt:Cp QbS QgD=some QhL:=some_of (by decide+kernel)
abbrev Qbn:=Dn QbS QhL
abbrev QK:=Gc "_law_next" 3 Qbn QgD
abbrev Qav:=inClass (top 13) 0
theorem Qgs:Sc Qav ["self","net","heap"]:=scM rfl rfl rfl (by decide+kernel)
theorem QgI:Qfo "chosen" "Way.chosen" Qav ["self","net","heap"]:=λ_ _ _ _ _ _=>lc λ_=>lc λ_=>lc λ_=>l0 rfl
def Qet:=(CpO Qav QK T0 (some 0)).getD QE
theorem QlJ:CpO Qav QK T0 (some 0)=some Qet:=some_of (by decide+kernel)
noncomputable abbrev Qc6:=Eu Qav 0 Qet
noncomputable def Qgr:=(Qj5 Qav QK QaR T0).getD xNo
theorem QkQ:Qj5 Qav QK QaR T0=some Qgr:=some_of (by decide+kernel)
noncomputable abbrev Qgv:=QaF (namesOf (Qd Qav)).length Qgr
abbrev QY:=inClass (top 14) 0
theorem QdP:Sc QY ["self","net","heap"]:=scM rfl rfl rfl (by decide+kernel)
theorem Qd9:Qfo "chosen" "Together.chosen" QY ["self","net","heap"]:=λ_ _ _ _ _ _=>lc λ_=>lc λ_=>lc λ_=>l0 rfl
def Qcz:=(CpO QY QK T0 (some 0)).getD QE
theorem QhI:CpO QY QK T0 (some 0)=some Qcz:=some_of (by decide+kernel)
noncomputable abbrev Qbo:=Eu QY 0 Qcz
noncomputable def QdQ:=(Qj5 QY QK QaR T0).getD xNo
theorem QgU:Qj5 QY QK QaR T0=some QdQ:=some_of (by decide+kernel)
noncomputable abbrev QdX:=QaF (namesOf (Qd QY)).length QdQ
abbrev QaA:=inClass (top 15) 0
theorem Qg0:Sc QaA ["self","picks"]:=scM rfl rfl rfl (by decide+kernel)
theorem QhH:Qfo "__init__" "Picked.__init__" QaA ["self","picks"]:=λ_ _ _ _ _ _=>lc λ_=>lc λ_=>l0 rfl
def QcB:=(CpO QaA QK T0 (some 0)).getD QE
theorem QhG:CpO QaA QK T0 (some 0)=some QcB:=some_of (by decide+kernel)
noncomputable abbrev Q8:=Eu QaA 0 QcB
abbrev Qaa:=inClass (top 15) 1
theorem QeC:Sc Qaa ["self","net","heap"]:=scM rfl rfl rfl (by decide+kernel)
theorem QeV:Qfo "chosen" "Picked.chosen" Qaa ["self","net","heap"]:=λ_ _ _ _ _ _=>lc λ_=>lc λ_=>lc λ_=>l0 rfl
def Qc5:=(CpO Qaa QK T0 (some 0)).getD QE
theorem QiG:CpO Qaa QK T0 (some 0)=some Qc5:=some_of (by decide+kernel)
noncomputable abbrev Qb4:=Eu Qaa 0 Qc5
noncomputable def Qeq:=(Qj5 Qaa QK QaR T0).getD xNo
theorem Qh2:Qj5 Qaa QK QaR T0=some Qeq:=some_of (by decide+kernel)
noncomputable abbrev Qeu:=QaF (namesOf (Qd Qaa)).length Qeq
noncomputable abbrev MX:MxT:=[("Way",[("chosen",(3,Qgv))]),("Together",[("chosen",(3,QdX))]),("Picked",[("chosen",(3,Qeu))])]
noncomputable abbrev T1:ObT:=⟨HS.wCl,(HS.wMe Qc6 Qbo Qb4),[],[("Picked",⟨2,0,Q8⟩)],["Way","Together"]⟩
abbrev Qa3:=top 26
theorem QiF:Sc Qa3 ["_law_way","_law_net_here","_law_heap_here","_law_at"]:=scM rfl rfl rfl (by decide+kernel)
theorem QjR:QI "_law_refused" Qa3 ["_law_way","_law_net_here","_law_heap_here","_law_at"]:=λ_ _ _ _ _ _=>lc λ_=>lc λ_=>lc λ_=>lc λ_=>l0 rfl
def Qfp:=(CpM Qa3 QK MX []).getD QE
theorem QjT:CpM Qa3 QK MX []=some Qfp:=some_of (by decide+kernel)
abbrev Qa4:=Dn Qa3 Qfp
abbrev Qbx:=Gc "_law_refused" 4 Qa4 QK
abbrev Qbu:=top 27
theorem QkO:Sc Qbu ["_law_ways","_law_net_here","_law_heap_here","_law_back"]:=scM rfl rfl rfl (by decide+kernel)
theorem Qlf:QI "_law_asked" Qbu ["_law_ways","_law_net_here","_law_heap_here","_law_back"]:=λ_ _ _ _ _ _=>lc λ_=>lc λ_=>lc λ_=>lc λ_=>l0 rfl
def QeF:=(CpO Qbu Qbx T1 (some 0)).getD QE
theorem QmO:CpO Qbu Qbx T1 (some 0)=some QeF:=some_of (by decide+kernel)
noncomputable abbrev Qbv:=Eu Qbu 0 QeF
noncomputable abbrev T2:ObT:=⟨HS.wCl,(HS.wMe Qc6 Qbo Qb4),[("_law_asked",⟨4,0,Qbv⟩)],[("Picked",⟨2,0,Q8⟩)],["Way","Together"]⟩
abbrev Qcp:=top 28
theorem Qnu:Sc Qcp ["_law_may","_law_lists","_law_used"]:=scM rfl rfl rfl (by decide+kernel)
theorem Qoo:QI "_law_due" Qcp ["_law_may","_law_lists","_law_used"]:=λ_ _ _ _ _ _=>lc λ_=>lc λ_=>lc λ_=>l0 rfl
def Qiz:=(Cp Qcp Qbx).getD QE
theorem QoF:Cp Qcp Qbx=some Qiz:=some_of (by decide+kernel)
abbrev Qcn:=Dn Qcp Qiz
abbrev QiT:=Gc "_law_due" 3 Qcn Qbx
abbrev Qho:=top 29
theorem QvB:Sc Qho ["_law_script"]:=scM rfl rfl rfl (by decide+kernel)
theorem Qxm:QI "law" Qho ["_law_script"]:=λ_ _ _ _ _ _=>lc λ_=>l0 rfl
def Qs1:=(CpZ Qho QiT T2 HS.wIs).getD QE
theorem Qyc:CpZ Qho QiT T2 HS.wIs=some Qs1:=some_of (by decide+kernel)
abbrev QoP:=Dn Qho Qs1
theorem QhJ:Qau=Qw 3 (HS.QcG):=by kernel_rfl
theorem QgS:Qam=Qw 3 (HS.Qb8 Qau):=by kernel_rfl
theorem QtF:Qc0=Qw 4 (HS.QjV):=by kernel_rfl
theorem Qlj:Qbt=Qw 5 (HS.Qez Qc0):=by kernel_rfl
theorem Qni:QaL=Qw 1 (HS.Qfd Qbt):=by kernel_rfl
theorem Qft:Qv=Qw 2 (HS.Qdz Qam QaL):=by kernel_rfl
theorem Qjs:QL=Qw 2 (HS.QfH):=by kernel_rfl
theorem Qns:QbU=Qw 7 (HS.QhR):=by kernel_rfl
theorem Qne:Qat=Qw 9 (HS.Qgq):=by kernel_rfl
theorem Qnd:QbM=Qw 10 (HS.Qd3 Qat):=by kernel_rfl
theorem QoD:Qcw=Qw 10 (HS.QdA QL QbU QbM):=by kernel_rfl
theorem Qmq:Qbs=Qw 4 (HS.QiW):=by kernel_rfl
theorem Qnl:QbP=Qw 6 (HS.Qc8):=by kernel_rfl
theorem Qpf:Qc1=Qw 4 (HS.QhW):=by kernel_rfl
theorem Qnm:Qbn=Qw 4 (HS.QeR):=by kernel_rfl
theorem Qmi:Qet=HS.QgJ Qv:=by kernel_rfl
theorem QhF:Qcz=HS.Qd8 Qv:=by kernel_rfl
theorem QhE:QcB=HS.Qea:=by kernel_rfl
theorem QiZ:Qc5=HS.Qe2 Qv:=by kernel_rfl
theorem QjA:Qa4=Qw 7 (HS.QdN sub MX):=by kernel_rfl
theorem Qmt:QeF=HS.Qex T1.me:=by kernel_rfl
theorem QoH:Qcn=Qw 4 (HS.QfM Qbn):=by kernel_rfl
theorem Qxq:QoP=Qw 17 (HS.Qkf Qcw Qbs QL QbP Qcn Qc1 Qa4 Q8 Qbv):=by kernel_rfl
theorem QkS:Qgv=QaF 3 (HS.Qhg Qv Qax):=by kernel_rfl
theorem Qg6:QdX=QaF 3 (HS.Qeb Qv Qax):=by kernel_rfl
theorem Qh1:Qeu=QaF 5 (HS.Qe8 Qv Qax):=by kernel_rfl
theorem Qhc:Qcc=QaF 3 (HS.QdM):=by kernel_rfl
theorem Qgt:QbI=QaF 3 (HS.Qdg Qau Qcc):=by kernel_rfl
theorem QeY:Qax=QaF 2 (HS.Qck QaL Qam QbI):=by kernel_rfl
end
end Law
namespace HS
open PySem PySem.Spec L2
noncomputable def QrN(mg:Str->Option Value):List Str->Prop
 | []=>True
 | x::r=>mg x=none/\QrN mg r
theorem QmY{mg:Str->Option Value}:∀{l:List Str},QrN mg l->∀x∈l,mg x=none
 | [],_,x,h=>by simp at h
 | y::r,h,x,hx=>by
  rcases Zo.mp hx with rfl | hx
  ·exact h.1
  ·exact QmY h.2 x hx
noncomputable def Qrn(mg:Str->Option Value):List (Str×Cn)->Prop
 | []=>True
 | (x,i)::r=>(∃t,mg x=some (cnV i t))/\Qrn mg r
theorem Ql3{mg:Str->Option Value}:∀{l:List (Str×Cn)},Qrn mg l->∀x i,look x l=some i->∃t,mg x=some (cnV i t)
 | [],_,x,i,h=>by cases h
 | (y,j)::r,h,x,i,hx=>by
  unfold look at hx
  split at hx
  ·rename_i e;cases hx;subst e;exact h.1
  ·exact Ql3 h.2 x i hx
theorem Qvr{mg:Str->Option Value}{cs:List (Str×Cn)}(b:QrN mg QmF)(c:Qrn mg cs):Qb5 mg cs:=⟨QmY b,Ql3 c⟩
end HS
namespace Law
open HS
theorem QsD:Qgz QL:=by rw[Qjs];exact QtH
theorem Qx6:Qlt QbU:=by rw[Qns];exact Qup
theorem Qx9:QjD Qat:=by rw[Qne];exact Qrg
theorem QxY:Qic QbM:=by rw[Qnd];exact Qqu Qx9
theorem Qy9:QjL Qcw:=by rw[QoD];exact Qsj QsD Qx6 QxY
theorem QwZ:QjX Qbs:=by rw[Qmq];exact QvF
theorem hIs:QiE Qc1:=by rw[Qpf];exact QxN
theorem QxE:QiH Qbt:=by rw[Qlj,QtF];exact Qux
theorem Qyd:QlF QaL:=by rw[Qni];exact QtS QxE
theorem QsK:Qjg Qau:=by rw[QhJ];exact QtY
theorem QwK:QjH Qam:=by rw[QgS];exact Qrp QsK
theorem Qml:Qfx Qv:=by rw[Qft];exact QqP QwK Qyd
theorem Qy6:QfY .plain Qc6:=by unfold Qc6;rw[Qmi];exact QwL Qml
theorem Qyk:QfY .both Qbo:=by unfold Qbo;rw[QhF];exact Qnv Qml
theorem Qxx(ps:List Int)(h:ps.length<=1000):QfY (.pick ps) Qb4:=by unfold Qb4;rw[QiZ];exact QpR Qml h
theorem Qx2:QmS Q8:=λps=>by unfold Q8;rw[QhE];exact QtZ ps
theorem hMe:QqW T1.me:=QxG Qy6 Qyk Qxx
theorem Qv2:QeU Qbv:=by unfold Qbv;rw[Qmt];exact Qou hMe
theorem QxA:Qge QbP:=by rw[Qnl];exact Qp3
theorem Qxv:Qh0 Qbn:=by rw[Qnm];exact Qpu
theorem QyD:Qhh Qcn:=by rw[QoH];exact Qrx Qxv
theorem Qp5:ApF Qau Qcc:=by rw[QhJ,Qhc];exact Quw
theorem Qxn:Qos Qcc:=by rw[Qhc];exact QrV
theorem QnE:ApF Qam QbI:=by rw[QgS,Qgt];exact Qq3 Qp5
theorem QwB:QmG QbI:=by rw[Qgt];exact QpS Qp5 QsK Qxn
theorem Qtv:ApF Qv Qax:=by rw[Qft,QeY];exact Qr2 QnE
theorem Qwx:QlY Qax:=by rw[QeY];exact QpM QnE QwB
theorem hMx:Qrq MX:=by unfold MX;rw[QkS,Qg6,Qh1];exact QtU Qtv Qwx
theorem QyF:QhC Qa4:=by rw[QjA];exact QrB hMx (by decide+kernel) (by decide+kernel) (by decide+kernel) (by decide+kernel) (by decide+kernel) (by decide+kernel) (by decide+kernel)
theorem Qw0(ns:List Int)(h:ns.length<=63):∃fr,QoP [.lst (ns.map .int)]=some (.bl true,fr):=by
 rw[Qxq]
 exact⟨true,Qu6 Qy9 QwZ QsD QxA QyD hIs QyF Qx2 Qv2 ns h⟩
end Law
namespace PySem.W.Fast
def tw3881013217033397843:=0
def tw8065962310513413820:=0
def tw1818219514880928716:=0
def tw6589790098999148462:=0
def tw3481032365986494317:=0
def tw10819536456314821711:=0
def tw2275115774178726451:=0
def tw7078152447149797620:=0
def tw3083191757968515653:=0
def tw16917775501303888895:=0
def tw16421764917069728339:=0
def tw11324083500065685574:=0
def tw17622593965995902248:=0
def tw13518224465661064262:=0
def tw8434191413242809045:=0
def tw10637072259538959837:=0
def tw934819184115736185:=0
def tw5679834961936722803:=0
def tw845542038725386295:=0
def tw11849867120987012408:=0
def tw14421594901145546549:=0
def tw15836948622494934115:=0
def tw2442577041387247265:=0
def tw4044875376797770349:=0
def tw1373857365745924060:=0
def tw1003820339681023422:=0
def tw18423269669452555182:=0
def tw9934603370050053130:=0
def tw10208453109785398877:=0
def tw4395004756517494688:=0
def tw11250925203604442182:=0
def tw11072782392765974436:=0
def tw4778984794359662787:=0
def tw7216273704897062238:=0
def tw15147126880833809228:=0
def tw3097346675644675408:=0
def tw13835171884173529056:=0
def tw14566631768763739124:=0
def tw625303870365460520:=0
def tw5754214081347373589:=0
def tw14763174113508912115:=0
def tw6972987425707754652:=0
def tw3810841308049344439:=0
def tw6008741298156420390:=0
def tw9320325148146716656:=0
def tw17828790046709347772:=0
def tw685814446144318250:=0
def tw14052973647400126743:=0
def tw6956738727480382358:=0
def tw9159268498958890896:=0
def tw15209830963471837497:=0
def tw18012943540794119498:=0
def tw9189847453049875223:=0
def tw17730243493123002064:=0
def tw16320494887167358480:=0
def tw3906945404180348391:=0
def tw14389336659370882255:=0
def tw4827830015457490015:=0
def tw18250906516786917165:=0
def tw11152936828110578372:=0
def tw18136526344808563808:=0
def tw5501039815108941224:=0
def tw14152638694060970696:=0
def tw11694308795946518149:=0
def tw17016186440327326500:=0
def tw7677105904159402468:=0
def tw8045455935010800682:=0
def tw15401756673906806484:=0
def tw10952182040812411075:=0
def tw5408854874149443865:=0
def tw5014408684797718616:=0
def tw6242745636369073902:=0
def tw16311097405785626045:=0
def tw5585294551512915286:=0
def tw15898413748385426744:=0
def tw3950580559814992547:=0
def tw15921477492949519782:=0
def tw12532696505010616703:=0
def tw9276972961272970252:=0
def tw16242090148610383501:=0
def tw13807887231285835067:=0
def tw15864937633558619084:=0
def tw13641945641723958515:=0
def tw12688904094328044780:=0
def tw3501373701327587408:=0
def tw16397782650618804519:=0
end PySem.W.Fast
open PySem PySem.W PyProof.Rows HS
set_option maxRecDepth 100000 in
set_option maxHeartbeats 0 in
theorem PySem.Challenge.cw_heapstill_k11_ways_chosen_holds : PySem.Challenge.rw_heapstill_k11_ways_chosen.Holds := by
 w_on;o_law;k_head;(case hw=>w_witness2)
 k_fill
 refine HS.Qru (l:=PySem.Challenge.rw_heapstill_k11_ways_chosen) (k:=20) (x:= "_law_script") (den:=Law.QoP) rfl rfl ⟨rfl,by decide,by decide⟩ (λw h Y=>PySem.W.kIn_of Y) Law.Qw0 ?F
 case F=>
  intro w mg fa h KX G hmg
  obtain⟨f_need_rows,f_need_heaps,f_steps,f_toll_table,f_span_list,f_ready_places,f__law_cell_at,f__law_base,f__law_fits,f__law_more,f__law_net,f__law_spans,f__law_heap,f__law_is,f__law_next,f__law_refused,f__law_asked,f__law_due,f_law⟩:HS.Fact (L2.KOf KX) "need_rows" Law.QaH/\HS.Fact (L2.KOf KX) "need_heaps" Law.Qaw/\HS.Fact (L2.KOf KX) "steps" Law.Qel/\HS.Fact (L2.KOf KX) "toll_table" Law.Qbr/\HS.Fact (L2.KOf KX) "span_list" Law.QbT/\HS.Fact (L2.KOf KX) "ready_places" Law.Qae/\HS.Fact (L2.KOf KX) "_law_cell_at" Law.Qa6/\HS.Fact (L2.KOf KX) "_law_base" Law.QbQ/\HS.Fact (L2.KOf KX) "_law_fits" Law.QbN/\HS.Fact (L2.KOf KX) "_law_more" Law.QbL/\HS.Fact (L2.KOf KX) "_law_net" Law.Qct/\HS.Fact (L2.KOf KX) "_law_spans" Law.Qbz/\HS.Fact (L2.KOf KX) "_law_heap" Law.QbV/\HS.Fact (L2.KOf KX) "_law_is" Law.QcX/\HS.Fact (L2.KOf KX) "_law_next" Law.QbS/\HS.Fact (L2.KOf KX) "_law_refused" Law.Qa3/\HS.Fact (L2.KOf KX) "_law_asked" Law.Qbu/\HS.Fact (L2.KOf KX) "_law_due" Law.Qcp/\HS.Fact (L2.KOf KX) "law" Law.Qho:=by
   refine⟨?_,?_,?_,?_,?_,?_,?_,?_,?_,?_,?_,?_,?_,?_,?_,?_,?_,?_,?_⟩<;>(dsimp only[L2.KOf];refine' HS.fact_mk ?a ?l ?c ?k;(case a=>k_is);(case l=>k_is);(case c=>k_is);(case k=>k_is))
  have fm_Way_chosen:HS.QfQ (L2.KOf KX) "Way" "chosen" "Way.chosen" Law.Qav:=by dsimp only[L2.KOf];refine' HS.QfU ?a ?c1 ?c2 ?c3 ?c4 ?m1 ?m2 ?k ?l ?cd;(case a=>k_is);(case c1=>k_is);(case c2=>k_is);(case c3=>k_is);(case c4=>k_is);(case m1=>k_is);(case m2=>k_is);(case k=>k_is);(case l=>k_is);(case cd=>k_is)
  have fm_Together_chosen:HS.QfQ (L2.KOf KX) "Together" "chosen" "Together.chosen" Law.QY:=by dsimp only[L2.KOf];refine' HS.QfU ?a ?c1 ?c2 ?c3 ?c4 ?m1 ?m2 ?k ?l ?cd;(case a=>k_is);(case c1=>k_is);(case c2=>k_is);(case c3=>k_is);(case c4=>k_is);(case m1=>k_is);(case m2=>k_is);(case k=>k_is);(case l=>k_is);(case cd=>k_is)
  have fm_Picked___init__:HS.QfQ (L2.KOf KX) "Picked" "__init__" "Picked.__init__" Law.QaA:=by dsimp only[L2.KOf];refine' HS.QfU ?a ?c1 ?c2 ?c3 ?c4 ?m1 ?m2 ?k ?l ?cd;(case a=>k_is);(case c1=>k_is);(case c2=>k_is);(case c3=>k_is);(case c4=>k_is);(case m1=>k_is);(case m2=>k_is);(case k=>k_is);(case l=>k_is);(case cd=>k_is)
  have fm_Picked_chosen:HS.QfQ (L2.KOf KX) "Picked" "chosen" "Picked.chosen" Law.Qaa:=by dsimp only[L2.KOf];refine' HS.QfU ?a ?c1 ?c2 ?c3 ?c4 ?m1 ?m2 ?k ?l ?cd;(case a=>k_is);(case c1=>k_is);(case c2=>k_is);(case c3=>k_is);(case c4=>k_is);(case m1=>k_is);(case m2=>k_is);(case k=>k_is);(case l=>k_is);(case cd=>k_is)
  have fc_Way:HS.QiO (L2.KOf KX) "Way" []:=by dsimp only[L2.KOf];refine' HS.Qiv ?a ?b ?c ?d ?e ?f;(case a=>k_is);(case b=>k_is);(case c=>k_is);(case d=>k_is);(case e=>k_is);(case f=>exact trivial)
  have fc_Together:HS.QiO (L2.KOf KX) "Together" []:=by dsimp only[L2.KOf];refine' HS.Qiv ?a ?b ?c ?d ?e ?f;(case a=>k_is);(case b=>k_is);(case c=>k_is);(case d=>k_is);(case e=>k_is);(case f=>exact trivial)
  have fc_Picked:HS.QiO (L2.KOf KX) "Picked" ["picks","used"]:=by dsimp only[L2.KOf];refine' HS.Qiv ?a ?b ?c ?d ?e ?f;(case a=>k_is);(case b=>k_is);(case c=>k_is);(case d=>k_is);(case e=>k_is);(case f=>exact⟨(by show PySem.W.findIn _ _ _=some none;k_is),(by show PySem.W.findIn _ _ _=some none;k_is),trivial⟩)
  have fk_Way:HS.QkV (L2.KOf KX) "Way" :=by dsimp only[L2.KOf];refine' HS.QlN ?a ?b ?c ?d;(case a=>k_is);(case b=>k_is);(case c=>k_is);(case d=>k_is)
  have fk_Together:HS.QkV (L2.KOf KX) "Together" :=by dsimp only[L2.KOf];refine' HS.QlN ?a ?b ?c ?d;(case a=>k_is);(case b=>k_is);(case c=>k_is);(case d=>k_is)
  have fi_Picked:HS.Qk6 (L2.KOf KX) "Picked" :=by dsimp only[L2.KOf];refine' HS.QrK ?a ?b ?c;(case a=>k_is);(case b=>k_is);(case c=>k_is)
  have M:HS.Qb5 mg Law.cst:=by
   obtain⟨n_range,n_enumerate,n_zip,n_len,n_list,n_min,n_max,n_sum,n_abs,n_isinstance,n_int,n_bool,n_tuple,n_str,n_divmod,n_sorted,n_any,n_all,n_set⟩:PySem.W.nsIn (L2.KOf KX) mainGlobals "range" =some none/\PySem.W.nsIn (L2.KOf KX) mainGlobals "enumerate" =some none/\PySem.W.nsIn (L2.KOf KX) mainGlobals "zip" =some none/\PySem.W.nsIn (L2.KOf KX) mainGlobals "len" =some none/\PySem.W.nsIn (L2.KOf KX) mainGlobals "list" =some none/\PySem.W.nsIn (L2.KOf KX) mainGlobals "min" =some none/\PySem.W.nsIn (L2.KOf KX) mainGlobals "max" =some none/\PySem.W.nsIn (L2.KOf KX) mainGlobals "sum" =some none/\PySem.W.nsIn (L2.KOf KX) mainGlobals "abs" =some none/\PySem.W.nsIn (L2.KOf KX) mainGlobals "isinstance" =some none/\PySem.W.nsIn (L2.KOf KX) mainGlobals "int" =some none/\PySem.W.nsIn (L2.KOf KX) mainGlobals "bool" =some none/\PySem.W.nsIn (L2.KOf KX) mainGlobals "tuple" =some none/\PySem.W.nsIn (L2.KOf KX) mainGlobals "str" =some none/\PySem.W.nsIn (L2.KOf KX) mainGlobals "divmod" =some none/\PySem.W.nsIn (L2.KOf KX) mainGlobals "sorted" =some none/\PySem.W.nsIn (L2.KOf KX) mainGlobals "any" =some none/\PySem.W.nsIn (L2.KOf KX) mainGlobals "all" =some none/\PySem.W.nsIn (L2.KOf KX) mainGlobals "set" =some none:=by refine⟨?_,?_,?_,?_,?_,?_,?_,?_,?_,?_,?_,?_,?_,?_,?_,?_,?_,?_,?_⟩<;>(dsimp only[L2.KOf];k_is)
   exact HS.Qvr ⟨PySem.W.mg_none_of KX G n_range,PySem.W.mg_none_of KX G n_enumerate,PySem.W.mg_none_of KX G n_zip,PySem.W.mg_none_of KX G n_len,PySem.W.mg_none_of KX G n_list,PySem.W.mg_none_of KX G n_min,PySem.W.mg_none_of KX G n_max,PySem.W.mg_none_of KX G n_sum,PySem.W.mg_none_of KX G n_abs,PySem.W.mg_none_of KX G n_isinstance,PySem.W.mg_none_of KX G n_int,PySem.W.mg_none_of KX G n_bool,PySem.W.mg_none_of KX G n_tuple,PySem.W.mg_none_of KX G n_str,PySem.W.mg_none_of KX G n_divmod,PySem.W.mg_none_of KX G n_sorted,PySem.W.mg_none_of KX G n_any,PySem.W.mg_none_of KX G n_all,PySem.W.mg_none_of KX G n_set,True.intro⟩ True.intro
  have t0:∀base:Heap,HS.Qan (PySem.Challenge.rw_heapstill_k11_ways_chosen).prog w (L2.KOf KX) mg base 0 []:=λ_=>HS.Qan.nil
  have o0:∀base:Heap,HS.Qb0 (PySem.Challenge.rw_heapstill_k11_ways_chosen).prog w (L2.KOf KX) mg base 0 Law.T0:=λb=>HS.Qjx KX G ⟨fc_Way,fc_Together,fc_Picked,trivial⟩ trivial trivial trivial ⟨fk_Way,fk_Together,trivial⟩
  have hcl:∀x∈Law.cls,HS.QgL (L2.KOf KX) x:=HS.QnU (by refine⟨?_,?_,trivial⟩<;>(dsimp only[L2.KOf];refine' HS.QuE ?a ?b;(case a=>k_is);(case b=>k_exc)))
  have hsub:HS.QbA (L2.KOf KX) Law.sub:=by
   refine HS.Qt6 ⟨⟨?x0,?y0_0,?y0_1,?y0_2,?y0_3,trivial⟩,⟨?x1,?y1_0,?y1_1,?y1_2,?y1_3,trivial⟩,trivial⟩
   case x0=>(dsimp only[L2.KOf];refine' HS.Qs4 ?a ?b ?c ?d ?e ?f ?g;(case a=>k_is);(case b=>k_is);(case c=>k_is);(case d=>k_is);(case e=>k_is);(case f=>k_is);(case g=>k_is))
   case y0_0=>(dsimp only[L2.KOf];refine' HS.Qds ?a ?b ?c ?d;(case a=>k_is);(case b=>k_is);(case c=>kts_exm);(case d=>kit_is))
   case y0_1=>(dsimp only[L2.KOf];refine' HS.Qds ?a ?b ?c ?d;(case a=>k_is);(case b=>k_is);(case c=>kts_exm);(case d=>kit_is))
   case y0_2=>(dsimp only[L2.KOf];refine' HS.Qds ?a ?b ?c ?d;(case a=>k_is);(case b=>k_is);(case c=>kts_exm);(case d=>kit_is))
   case y0_3=>(dsimp only[L2.KOf];refine' HS.QnD ?a ?b ?c ?d;(case a=>k_is);(case b=>k_is);(case c=>kts_exm);(case d=>kit_is))
   case x1=>(dsimp only[L2.KOf];refine' HS.Qs4 ?a ?b ?c ?d ?e ?f ?g;(case a=>k_is);(case b=>k_is);(case c=>k_is);(case d=>k_is);(case e=>k_is);(case f=>k_is);(case g=>k_is))
   case y1_0=>(dsimp only[L2.KOf];refine' HS.Qds ?a ?b ?c ?d;(case a=>k_is);(case b=>k_is);(case c=>kts_exm);(case d=>kit_is))
   case y1_1=>(dsimp only[L2.KOf];refine' HS.Qds ?a ?b ?c ?d;(case a=>k_is);(case b=>k_is);(case c=>kts_exm);(case d=>kit_is))
   case y1_2=>(dsimp only[L2.KOf];refine' HS.Qds ?a ?b ?c ?d;(case a=>k_is);(case b=>k_is);(case c=>kts_exm);(case d=>kit_is))
   case y1_3=>(dsimp only[L2.KOf];refine' HS.QnD ?a ?b ?c ?d;(case a=>k_is);(case b=>k_is);(case c=>kts_exm);(case d=>kit_is))
  have x0:∀base:Heap,HS.Qd5 (PySem.Challenge.rw_heapstill_k11_ways_chosen).prog w (L2.KOf KX) mg base 0 []:=λ_=>HS.Qd5.nil
  have x_need_rows:=λb=>((x0 b).mono (k:=0) (by decide)).cons (HS.Qjt KX G f_need_rows Law.QgN Law.QhK M ((t0 b).rise (k:=0) (by decide)) ((x0 b).mono (k:=0) (by decide)) hcl Law.QlQ)
  have t_need_rows:=λb=>(t0 b).cons (HS.Qai KX G f_need_rows Law.QgN Law.QhK M (t0 b) Law.Qnc)
  have x_need_heaps:=λb=>((x_need_rows b).mono (k:=1) (by decide)).cons (HS.Qjt KX G f_need_heaps Law.Qgo Law.QgR M ((t_need_rows b).rise (k:=1) (by decide)) ((x_need_rows b).mono (k:=1) (by decide)) hcl Law.QkN)
  have t_need_heaps:=λb=>(t_need_rows b).cons (HS.Qai KX G f_need_heaps Law.Qgo Law.QgR M (t_need_rows b) Law.QmL)
  have t_steps:=λb=>(t_need_heaps b).cons (HS.Qai KX G f_steps Law.Qrh Law.QuN M (t_need_heaps b) Law.Qty)
  have t_toll_table:=λb=>(t_steps b).cons (HS.Qai KX G f_toll_table Law.QkT Law.Qls M (t_steps b) Law.QmR)
  have t_span_list:=λb=>(t_toll_table b).cons (HS.Qai KX G f_span_list Law.Qlo Law.Qnh M (t_toll_table b) Law.Qnj)
  have x_ready_places:=λb=>((x_need_heaps b).mono (k:=5) (by decide)).cons (HS.Qjt KX G f_ready_places Law.QeQ Law.Qfy M ((t_span_list b).rise (k:=5) (by decide)) ((x_need_heaps b).mono (k:=5) (by decide)) hcl Law.Qi1)
  have t_ready_places:=λb=>(t_span_list b).cons (HS.Qai KX G f_ready_places Law.QeQ Law.Qfy M (t_span_list b) Law.QjE)
  have t__law_cell_at:=λb=>(t_ready_places b).cons (HS.Qai KX G f__law_cell_at Law.Qje Law.QjN M (t_ready_places b) Law.QjC)
  have t__law_base:=λb=>(t__law_cell_at b).cons (HS.Qai KX G f__law_base Law.Ql1 Law.Qnq M (t__law_cell_at b) Law.Qno)
  have t__law_fits:=λb=>(t__law_base b).cons (HS.Qai KX G f__law_fits Law.Qmo Law.Qnf M (t__law_base b) Law.Qm5)
  have t__law_more:=λb=>(t__law_fits b).cons (HS.Qai KX G f__law_more Law.Qmy Law.Qna M (t__law_fits b) Law.Qnb)
  have t__law_net:=λb=>(t__law_more b).cons (HS.Qai KX G f__law_net Law.Qnr Law.QoN M (t__law_more b) Law.QoA)
  have t__law_spans:=λb=>(t__law_net b).cons (HS.Qai KX G f__law_spans Law.QkR Law.Ql5 M (t__law_net b) Law.Qmc)
  have t__law_heap:=λb=>(t__law_spans b).cons (HS.Qai KX G f__law_heap Law.Qli Law.Qm7 M (t__law_spans b) Law.Qm6)
  have t__law_is:=λb=>(t__law_heap b).cons (HS.Qai KX G f__law_is Law.Qoj Law.Qqe M (t__law_heap b) Law.QqE)
  have t__law_next:=λb=>(t__law_is b).cons (HS.Qai KX G f__law_next Law.Qlm Law.Qm9 M (t__law_is b) Law.Qnt)
  have m_Way_chosen:=λb=>HS.Qld fm_Way_chosen Law.Qgs Law.QgI M ((t__law_next b).rise (k:=15) (by decide)) ((o0 b).mono (k:=14) (by decide)) Law.QlJ HS.QeI
  have z_Way_chosen:=λb=>HS.Qop fm_Way_chosen Law.Qgs Law.QgI M ((t__law_next b).rise (k:=15) (by decide)) ((o0 b).mono (k:=14) (by decide)) ((x_ready_places b).mono (k:=15) (by decide)) hcl Law.QkQ
  have m_Together_chosen:=λb=>HS.Qld fm_Together_chosen Law.QdP Law.Qd9 M ((t__law_next b).rise (k:=15) (by decide)) ((o0 b).mono (k:=14) (by decide)) Law.QhI HS.QeI
  have z_Together_chosen:=λb=>HS.Qop fm_Together_chosen Law.QdP Law.Qd9 M ((t__law_next b).rise (k:=15) (by decide)) ((o0 b).mono (k:=14) (by decide)) ((x_ready_places b).mono (k:=15) (by decide)) hcl Law.QgU
  have m_Picked___init__:=λb=>HS.Qld fm_Picked___init__ Law.Qg0 Law.QhH M ((t__law_next b).rise (k:=15) (by decide)) ((o0 b).mono (k:=14) (by decide)) Law.QhG HS.QeI
  have m_Picked_chosen:=λb=>HS.Qld fm_Picked_chosen Law.QeC Law.QeV M ((t__law_next b).rise (k:=15) (by decide)) ((o0 b).mono (k:=14) (by decide)) Law.QiG HS.QeI
  have z_Picked_chosen:=λb=>HS.Qop fm_Picked_chosen Law.QeC Law.QeV M ((t__law_next b).rise (k:=15) (by decide)) ((o0 b).mono (k:=14) (by decide)) ((x_ready_places b).mono (k:=15) (by decide)) hcl Law.Qh2
  have tz:∀b:Heap,HS.QoL (PySem.Challenge.rw_heapstill_k11_ways_chosen).prog w (L2.KOf KX) mg b 16 Law.MX:=λb=>HS.QlU ⟨⟨z_Way_chosen b,trivial⟩,⟨z_Together_chosen b,trivial⟩,⟨z_Picked_chosen b,trivial⟩,trivial⟩
  have o1:∀b:Heap,HS.Qb0 (PySem.Challenge.rw_heapstill_k11_ways_chosen).prog w (L2.KOf KX) mg b 16 Law.T1:=λb=>HS.Qjx KX G ⟨fc_Way,fc_Together,fc_Picked,trivial⟩ ⟨⟨(m_Way_chosen b).mono (k:=16) (by decide),trivial⟩,⟨(m_Together_chosen b).mono (k:=16) (by decide),trivial⟩,⟨(m_Picked_chosen b).mono (k:=16) (by decide),trivial⟩,trivial⟩ trivial ⟨⟨fi_Picked,(m_Picked___init__ b).mono (k:=16) (by decide)⟩,trivial⟩ ⟨fk_Way,fk_Together,trivial⟩
  have t__law_refused:=λb=>((t__law_next b).rise (k:=16) (by decide)).cons (HS.Qr0 KX G f__law_refused Law.QiF Law.QjR M ((t__law_next b).rise (k:=16) (by decide)) (λx ms m r e1 e2=>(tz b x ms m r e1 e2).mono (k:=16) (by decide)) hsub HS.QmB.nil Law.QjT)
  have i__law_asked:=λb=>HS.Qxl KX G f__law_asked Law.QkO Law.Qlf M ((t__law_refused b).rise (k:=17) (by decide)) ((o1 b).mono (k:=16) (by decide)) Law.QmO HS.QeI
  have o2:∀b:Heap,HS.Qb0 (PySem.Challenge.rw_heapstill_k11_ways_chosen).prog w (L2.KOf KX) mg b 18 Law.T2:=λb=>HS.Qjx KX G ⟨fc_Way,fc_Together,fc_Picked,trivial⟩ ⟨⟨(m_Way_chosen b).mono (k:=18) (by decide),trivial⟩,⟨(m_Together_chosen b).mono (k:=18) (by decide),trivial⟩,⟨(m_Picked_chosen b).mono (k:=18) (by decide),trivial⟩,trivial⟩ ⟨(i__law_asked b).mono (k:=18) (by decide),trivial⟩ ⟨⟨fi_Picked,(m_Picked___init__ b).mono (k:=18) (by decide)⟩,trivial⟩ ⟨fk_Way,fk_Together,trivial⟩
  have t__law_due:=λb=>(t__law_refused b).cons (HS.Qai KX G f__law_due Law.Qnu Law.Qoo M (t__law_refused b) Law.QoF)
  have hi:HS.Qh9 (L2.KOf KX) HS.wIs:=HS.Ql7 (by refine⟨⟨?_,?_,trivial⟩,⟨?_,trivial⟩,trivial⟩<;>(dsimp only[L2.KOf];refine' HS.Qvj ?a ?b ?c ?d ?e ?f ?g ?h ?i ?j ?k;(case a=>k_is);(case b=>k_is);(case c=>k_is);(case d=>k_is);(case e=>k_is);(case f=>k_is);(case g=>k_is);(case h=>k_is);(case i=>k_is);(case j=>k_is);(case k=>kit_is)))
  exact HS.QtA KX G hmg f_law Law.QvB Law.Qxm M (λb=>((t__law_due b).rise (k:=19) (by decide))) (λb=>((o2 b).mono (k:=18) (by decide))) hi Law.Qyc
