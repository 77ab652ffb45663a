import PyProof.Rows.All
import Wide.All
import OpenK.AllK
import Wide.FinOn
import Lean
import PyProof.EqAt
import PyProof.EqKinds
import PyProof.TupleCall
import PyProof.Rows.TupTab
import PyProof.DictRoadsH
import PyProof.StrWalks
import PyProof.SliceStr2
import PyProof.StrBlockI
import PyProof.StrBlockG
import PyProof.StrCalls2
import KE.KIntText
import PyProof.Rows.StrSplitMax
import PyProof.ZipIter
import PyProof.EnumMake
import PyProof.Rows.FactsT2
import PyProof.Rows.EnumRows
import PyProof.P3In
import PyProof.NeData
import KE.KUnpack
import PyProof.Rows.TupDisplay
import PyProof.Rows.SumAny
import PyProof.Rows.MinMaxN
import PyProof.Rows.ListRangeD
import PyProof.Rows.Range3
import PyProof.Rows.RuleM_int
import PyProof.Rows.SortShell
import PyProof.Rows.SeqMore
import PyProof.DictWalks
import PyProof.ListRange
import PyProof.Rows.SetFrom
import PyProof.CollectIter
import PyProof.SetRoads
import PyProof.Rows.ReprOcc
import PyProof.StrLawsIdx
import PyProof.StrLawsIn
import PyProof.StrLawsJoin
import PyProof.StrLawsTight
import PyProof.StrLawsChain
import KE.IntTextText
import KE.KTryOn
import PyProof.ExcBaseAll.ValueError
import PyProof.RulesAs
import PyProof.ExcAttrAll.ValueError
import PyProof.Rows.RegTopCatchBFacts
import KE.RegKTryMore
import KE.RegKIsAll
import PyProof.StrLawsFirst
import PySem.Challenge.RW_heapstill_k12_run_walked
set_option Elab.async false
set_option linter.all false
set_option maxRecDepth 100000
def Za:= @Option.bind_some
def Zb:= @List.mem_cons_of_mem
def Zc:= @Option.map_eq_some_iff
def Zd:= @List.mem_append_left
def Ze:= @List.mem_append_right
def Zf:= @List.mem_cons_self
def Zg:= @Bool.and_eq_true
def Zh:= @List.getElem?_set_ne
def Zi:= @List.getElem?_eq_some_iff
def Zj:= @List.mem_singleton
def Zk:= @List.length_cons
def Zl:= @List.mem_cons
def Zm:= @List.length_map
def Zn:= @Nat.le_refl
def Zo:= @List.mem_append
def Zp:= @List.length_append
def Zq:= @List.map_cons
def Zr:= @List.getElem?_set_self
def Zs:= @PySem.Heap.get?_push_of_some
def Zt:= @List.lookup_cons
def Zu:= @Nat.lt_of_lt_of_le
def Zv:= @PySem.Heap.lt_size
def Zw:= @List.getElem?_eq_none
def Zx:= @List.size_toArray
def Zy:= @List.getElem?_map
def Zz:= @List.getD_eq_getElem?_getD
def ZA:= @List.getElem?_eq_getElem
def ZC:= @List.append_nil
def ZD:= @Nat.le_trans
def ZE:= @Int.emod_lt_of_pos
def ZF:= @List.map_append
def ZG:= @List.contains_iff_mem
def ZH:= @List.mem_range
def ZI:= @Int.emod_nonneg
def ZJ:= @Bool.false_ne_true
def ZK:= @List.mem_map
def ZL:= @PySem.Heap.get?_push_size
def ZM:= @List.length_range
def ZN:= @Nat.ne_of_lt
def ZO:= @Int.mul_le_mul_of_nonneg_left
def ZP:= @Int.toNat_natCast
def ZQ:= @List.count_eq_zero
def ZR:= @List.map_congr_left
def ZS:= @List.sum_cons
def ZT:= @List.nodup_append
def ZU:= @List.nodup_cons
def ZV:= @List.drop_eq_getElem_cons
def ZW:= @List.all_eq_true
def ZX:= @Option.map_some
def ZY:= @Bool.not_eq_true'
def ZZ:= @Nat.zero_le
def Zaa:= @Nat.lt_irrefl
def Zab:= @List.getElem?_append_left
def Zac:= @List.mem_of_getElem?
def Zad:= @List.count_append
def Zae:= @List.nodup_iff_count
def Zaf:= @List.take_length
def Zag:= @PySem.mem_of_lookup
def Zah:= @List.replicate_succ
def Zai:= @List.getElem?_range
def Zaj:= @List.sum_append_int
def Zak:= @Int.le_refl
def Zal:= @PySem.W.mg_of
def Zam:= @List.map_map
def Zan:= @Int.mul_le_mul_of_nonneg_right
def Zao:= @List.flatten_cons
def Zap:= @List.nodup_nil
def Zaq:= @Int.mul_nonneg
def Zar:= @Int.zero_mul
def Zas:= @List.count_pos_iff
def Zat:= @Array.length_toList
def Zau:= @List.mem_filter
def Zav:= @List.filter_cons
def Zaw:= @Int.mul_comm
def Zax:= @Int.add_mul
def Zay:= @List.count_cons
def Zaz:= @PyProof.Rows.callWith_type1
def ZaA:= @List.take_of_length_le
def ZaB:= @Nat.lt_succ_self
def ZaC:= @List.length_take
def ZaD:= @PySem.Heap.size_push
def ZaE:= @List.getElem?_append_right
def ZaF:= @List.zip_cons_cons
def ZaG:= @List.set_eq_take_append_cons_drop
def ZaH:= @PySem.W.kia_one
def ZaI:= @Nat.le_succ
def ZaJ:= @List.append_assoc
def ZaK:= @Nat.pow_le_pow_right
def ZaL:= @Int.mul_add
def ZaM:= @Int.mul_assoc
def ZaN:= @List.length_pos_iff
def ZaO:= @Int.mul_le_mul
def ZaP:= @List.mem_reverse
def ZaQ:= @List.eq_nil_of_length_eq_zero
def ZaR:= @List.mem_filterMap
def ZaS:= @List.length_set
def ZaT:= @List.length_singleton
def ZaU:= @List.take_append_drop
def ZaV:= @List.reverse_cons
def ZaW:= @Nat.lt_succ_of_lt
def ZaX:= @PySem.W.hideAll_get
def ZaY:= @List.length_reverse
def ZaZ:= @PySem.W.callWith_K
def Zba:= @Int.one_mul
def Zbb:= @List.ext_getElem?
def Zbc:= @List.mem_flatten
def Zbd:= @Nat.min_le_right
def Zbe:= @List.map_take
def Zbf:= @Int.add_assoc
def Zbg:= @Nat.add_le_add_right
def Zbh:= @List.getElem?_zipIdx
def Zbi:= @List.nil_append
def Zbj:= @PyProof.Rows.boot_isinstance
def Zbk:= @List.range_succ
def Zbl:= @List.filterMap_cons
def Zbm:= @PySem.W.plainGet_of
def Zbn:= @List.map_nil
def Zbo:= @Int.add_zero
def Zbp:= @List.getElem?_eq_none_iff
def Zbq:= @Int.mul_one
def Zbr:= @List.take_add_one
def Zbs:= @Int.emod_eq_of_lt
def Zbt:= @Int.mul_sub
def Zbu:= @Int.mul_left_comm
def Zbv:= @Option.isSome_iff_exists
def Zbw:= @List.any_cons
def Zbx:= @List.all_cons
def Zby:= @Bool.and_true
def Zbz:= @List.length_erase_of_mem
def ZbA:= @List.Pairwise.imp_of_mem
def ZbB:= @PySem.W.makes_of
def ZbC:= @List.getElem?_replicate
def ZbD:= @List.length_drop
def ZbE:= @List.not_mem_nil
def ZbF:= @List.cons_append
def ZbG:= @List.foldlM_cons
def ZbH:= @List.drop_length
def ZbI:= @List.getElem_mem
def ZbJ:= @List.isEmpty_iff
def ZbK:= @Classical.axiomOfChoice
def ZbL:= @PySem.W.cellsFrom_some
def ZbM:= @PyProof.Rows.boot_list
def ZbN:= @List.append_eq_nil_iff
def ZbO:= @Nat.sub_zero
def ZbP:= @List.all_nil
def ZbQ:= @Int.mul_zero
def ZbR:= @List.filter_eq_nil_iff
def ZbS:= @Int.le_trans
def ZbT:= @List.of_mem_zip
def ZbU:= @List.foldl_cons
def ZbV:= @Nat.min_eq_left
def ZbW:= @List.sum_append
def ZbX:= @Int.neg_mul_neg
def ZbY:= @List.drop_zero
def ZbZ:= @List.take_zero
def Zca:= @Bool.true_and
namespace L2
open PySem PySem.Spec PyProof.Rows
noncomputable abbrev Key:=Sum Int Str
noncomputable def Qs7:Key->Value->Bool
 | .inl k,v=>Value.isInt k v
 | .inr x,v=>Value.isStrOf x v
noncomputable def Qzc(w:World):Key->Int
 | .inl k=>hashInt k
 | .inr x=>hashStr w x
theorem Qa1:∀{k:Key}{v:Value},Qs7 k v=true->(∃i t,k=Sum.inl i/\v=Value.int i t)∨(∃x t,k=Sum.inr x/\v=Value.str x t)
 | .inl i,v,h=>by
  obtain⟨t,e⟩:=Value.isInt_shape (k:=i) (v:=v) h
  exact .inl ⟨i,t,rfl,e⟩
 | .inr x,v,h=>by
  obtain⟨t,e⟩:=Value.isStrOf_shape (x:=x) (v:=v) h
  exact .inr ⟨x,t,rfl,e⟩
theorem Qxh(a b:Int):decide ((Sum.inl a:Key)=Sum.inl b)=(a == b):=by
 by_cases e:a=b
 ·subst e;simp
 ·have h:¬(Sum.inl a:Key)=Sum.inl b:=λq=>e (Sum.inl.inj q)
  rw[decide_eq_false h]
  exact(beq_eq_false_iff_ne.mpr e).symm
theorem Qwt(a b:Str):decide ((Sum.inr a:Key)=Sum.inr b)=decide (a=b):=by
 by_cases e:a=b
 ·subst e;simp
 ·have h:¬(Sum.inr a:Key)=Sum.inr b:=λq=>e (Sum.inr.inj q)
  rw[decide_eq_false h,decide_eq_false e]
theorem Qwr(a:Int)(b:Str):decide ((Sum.inl a:Key)=Sum.inr b)=false:=decide_eq_false (λq=>nomatch q)
theorem QxP(a:Str)(b:Int):decide ((Sum.inr a:Key)=Sum.inl b)=false:=decide_eq_false (λq=>nomatch q)
noncomputable def Qjt(prog:Program)(w:World):PySem.KeyKind prog w Key where
 is:=Qs7
 hash:=Qzc w
 inj:=λv a b ha hb=>by
  rcases Qa1 ha with⟨i,t,rfl,rfl⟩ | ⟨x,t,rfl,rfl⟩
  ·rcases Qa1 hb with⟨j,u,rfl,e⟩ | ⟨y,u,rfl,e⟩
   ·injection e with e1 _;rw[e1]
   ·exact nomatch e
  ·rcases Qa1 hb with⟨j,u,rfl,e⟩ | ⟨y,u,rfl,e⟩
   ·exact nomatch e
   ·injection e with e1 _;rw[e1]
 byValue:=λk v h=>by
  rcases Qa1 h with⟨i,t,rfl,rfl⟩ | ⟨x,t,rfl,rfl⟩<;>rfl
 pyHash:=λhv h=>by
  rcases Qa1 hv with⟨i,t,rfl,rfl⟩ | ⟨x,t,rfl,rfl⟩
  ·exact wpAny_pyHash_int h
  ·exact wpAny_pyHash_str h
 eqBool:=λhu hv h=>by
  rcases Qa1 hu with⟨i,t,rfl,rfl⟩ | ⟨x,t,rfl,rfl⟩
  ·rcases Qa1 hv with⟨j,u,rfl,rfl⟩ | ⟨y,u,rfl,rfl⟩
   ·rw[Qxh]at h;exact wpAny_eqBool_int h
   ·rw[Qwr]at h;exact SeqAt.EqAt.int_str i t y u _ _ _ _ h
  ·rcases Qa1 hv with⟨j,u,rfl,rfl⟩ | ⟨y,u,rfl,rfl⟩
   ·rw[QxP]at h;exact SeqAt.EqAt.str_int x t j u _ _ _ _ h
   ·rw[Qwt]at h;exact wpAny_eqBool_str h
 «strs» :=λk x t v h=>by
  rcases Qa1 h with⟨i,u,rfl,e⟩ | ⟨y,u,rfl,e⟩
  ·exact nomatch e
  ·injection e with e1 _
   subst e1
   cases v<;>rfl
end L2
namespace L2
open PySem PySem.Spec PyProof.Rows
inductive V where
 | non | bl (b:Bool) | int (i:Int) | str (x:Str) | byt (b:Array UInt8) | flt (b:UInt64) | ref (a:Addr) | ty (n:String)
 deriving DecidableEq
noncomputable def RelV:V->Value->Prop
 | .non,u=>u=Value.none
 | .bl b,u=>u=Value.bool b
 | .int i,u=>∃t,u=Value.int i t
 | .str x,u=>∃t,u=Value.str x t
 | .byt b,u=>∃t,u=Value.bytes b t
 | .flt b,u=>∃t,u=Value.float b t
 | .ref a,u=>u=Value.ref a
 | .ty n,u=>u=Value.type n
noncomputable abbrev Qw:List V->List Value->Prop:=Paired RelV
theorem Qw.length{xs:List V}{us:List Value}(r:Qw xs us):xs.length=us.length:=Paired.length r
theorem Qw.get:∀{xs:List V}{us:List Value}{i:Nat}{x:V},Qw xs us->xs[i]? =some x->∃u,us[i]? =some u/\RelV x u
 | _,_,_,_,.nil,e=>by simp at e
 | _,_,0,_,.cons r _,e=>by simp at e;subst e;exact⟨_,rfl,r⟩
 | _,_,i+1,x,.cons _ t,e=>by
  obtain⟨u,h1,h2⟩:=Qw.get (i:=i) (x:=x) t (by simpa using e)
  exact⟨u,by simpa using h1,h2⟩
theorem Qw.set{x:V}{u:Value}(r:RelV x u):∀{xs:List V}{us:List Value}(i:Nat),Qw xs us->Qw (xs.set i x) (us.set i u)
 | _,_,_,.nil=> .nil
 | _,_,0,.cons _ t=> .cons r t
 | _,_,i+1,.cons q t=> .cons q (Qw.set r i t)
theorem exK{α β γ δ:Type}{P Q R:α->β->γ->δ->Prop}{G:Prop}(k:∀a b c d,P a b c d->Q a b c d->R a b c d->G)(h:∃a b c d,P a b c d/\Q a b c d/\R a b c d):G:=let ⟨a,b,c,d,p,q,r⟩:=h;k a b c d p q r
theorem exJ{α β:Type}{P Q R:α->β->Prop}{G:Prop}(k:∀a b,P a b->Q a b->R a b->G)(h:∃a b,P a b/\Q a b/\R a b):G:=let ⟨a,b,p,q,r⟩:=h;k a b p q r
theorem Qw.append{xs ys:List V}{us ws:List Value}(h:Qw xs us)(s:Qw ys ws):Qw (xs++ys) (us++ws):=by
 induction h with
 | nil=>exact s
 | cons r t ih=>exact .cons r ih
theorem Qw.take:∀{xs:List V}{us:List Value}(n:Nat),Qw xs us->Qw (xs.take n) (us.take n)
 | _,_,0,_=> .nil
 | _,_,_+1,.nil=> .nil
 | _,_,n+1,.cons r t=> .cons r (Qw.take n t)
theorem Qw.drop:∀{xs:List V}{us:List Value}(n:Nat),Qw xs us->Qw (xs.drop n) (us.drop n)
 | _,_,0,r=>r
 | _,_,_+1,.nil=> .nil
 | _,_,n+1,.cons _ t=>Qw.drop n t
theorem Qw.none_of:∀{xs:List V}{us:List Value}{i:Nat},Qw xs us->xs[i]? =none->us[i]? =none:=λ{xs us i} r e=>by
 have h1:=r.length
 have h2:xs.length<=i:=Zbp.mp e
 exact Zbp.mpr (by omega)
noncomputable def Qc0:Option V->Option Value->Prop
 | some v,some u=>RelV v u
 | none,none=>True
 | _,_=>False
noncomputable def KV{κ:Type}:List (κ×V)->List (κ×Value)->Prop:=Paired λ(p:κ×V) (q:κ×Value)=>p.1=q.1/\RelV p.2 q.2
noncomputable def kV:Key->V
 | .inl i=> .int i
 | .inr x=> .str x
inductive HO where
 | lst (xs:List V)
 | tup (xs:List V)
 | dK (kvs:List (Key×V)) | dT (kvs:List (List Key×V))
 | set (S:Int->Bool) (n:Nat)
 | ins (C dx:Addr) (fs:List (Str×V))
 | own (x:Addr)
 | xd (fs:List (Str×V))
 | met (f x:Addr)
 | rng (lo hi:Int)
 | frz (o:Obj) (u:HO)
 | tbl (ps:Array Value)
 | ext (φ:Heap->Prop)
noncomputable abbrev Hp:=Addr->Option HO
noncomputable def upd(H:Hp)(a:Addr)(o:HO):Hp:=λb=>if b=a then some o else H b
theorem Qao{H:Hp}{a:Addr}{o:HO}:upd H a o a=some o:=by unfold upd;rw[if_pos rfl]
theorem QF{H:Hp}{a b:Addr}{o:HO}(h:b≠a):upd H a o b=H b:=by unfold upd;rw[if_neg h]
theorem Qlb{H:Hp}{a b:Addr}{o u:HO}(h:H a=some o)(h':H b=some u)(d:o≠u):a≠b:=by
 intro e;subst e;rw[h]at h';exact d (Option.some.inj h')
theorem QbC{H:Hp}{a b:Addr}{o:HO}(h:H a=some o)(h':H b=none):a≠b:=by
 intro e;subst e;rw[h]at h';cases h'
section
variable (P:Program) (w:World)
noncomputable def QbB(H:Hp)(h:Heap)(a:Addr):HO->Prop
 | .lst xs=>xs.length<=sizeLine/\∃(its:List Value) (n:Nat),Qw xs its/\h.get? a=some {cls:= .type "list",data:= .seq its.toArray n}
 | .tup xs=>xs.length<=sizeLine/\∃its:List Value,Qw xs its/\IsTup h a its.toArray
 | .dK kvs=>kvs.length<=sizeLine/\(a == sysModules)=false/\∃vs,KV kvs vs/\h.DictOf (Qjt P w) a vs
 | .dT kvs=>kvs.length<=sizeLine/\(a == sysModules)=false/\∃xs:List (List Key×Addr×Value),
   Paired (λ(p:List Key×V) (q:List Key×Addr×Value)=>p.1=q.1/\H q.2.1=some (.tup (p.1.map kV))/\RelV p.2 q.2.2) kvs xs∧
   ∃o es ep,h.get? a=some o/\o.ExactDict/\o.data= .dict es ep/\es.toList=xs.map (entryOfKey (tupleKind (Qjt P w)))/\(xs.map (·.1)).Nodup
 | .set S n=>h.SetOf (intKind P w) a S n
 | .ins C dx fs=>H dx=some (.own a)/\fs.length<=1000/\dx≠a/\h.get? a=some (PySem.W.instObj C dx)∧
   ∃mA,h.Ns1 dx mA/\(∀f,Qc0 (fs.lookup f) (mA f))/\PySem.Within mA (fs.map (·.1))
 | .own _=>∃o,h.get? a=some o
 | .xd fs=>∃mA,h.Ns1 a mA/\∀f,Qc0 (fs.lookup f) (mA f)
 | .rng lo hi=>∃t u v,h.get? a=some {cls:= .type "range",data:= .fields #[.int lo t,.int hi u,.int 1 v]}
 | .frz o u=>h.get? a=some o/\QbB H h a u
 | .tbl ps=>h.get? a=some {cls:= .none,data:= .fields ps}
 | .met f x=>h.get? a=some (PySem.W.methodObj (.ref f) (.ref x))
 | .ext φ=>φ h/\(∃o,h.get? a=some o)/\∀h1 h2:Heap,φ h1->(∀o,h1.get? a=some o->h2.get? a=some o)->φ h2
def HOk(H:Hp)(h:Heap):Prop:=∀a o,H a=some o->QbB P w H h a o
end
section
variable {P:Program}{w:World}{H H':Hp}{h h':Heap}{a:Addr}{o:HO}
theorem QbB.lt(x:QbB P w H h a o):a<h.objs.size:=by
 cases o with
 | lst xs=>obtain⟨_,_,_,_,e⟩:=x;exact Zv e
 | tup xs=>obtain⟨_,_,_,p⟩:=x;exact p.lt
 | dK kvs=>obtain⟨_,_,_,_,o,_,_,e,_⟩:=x;exact Zv e
 | dT kvs=>obtain⟨_,_,_,_,o,_,_,e,_⟩:=x;exact Zv e
 | set S n=>obtain⟨o,_,_,_,e,_⟩:=x;exact Zv e
 | ins C dx fs=>obtain⟨_,_,_,e,_⟩:=x;exact Zv e
 | own y=>obtain⟨_,e⟩:=x;exact Zv e
 | xd fs=>obtain⟨_,⟨_,_,_,e,_⟩,_⟩:=x;exact Zv e
 | rng lo hi=>obtain⟨_,_,_,e⟩:=x;exact Zv e
 | frz ob u=>obtain⟨e,_⟩:=x;exact Zv e
 | tbl ps=>exact Zv (show h.get? a=some _ from x)
 | met f y=>exact Zv (show h.get? a=some _ from x)
 | ext φ=>obtain⟨_,⟨_,e⟩,_⟩:=x;exact Zv e
theorem Paired.QeE{α β:Type}{F G:α->β->Prop}:∀{l₁:List α}{l₂:List β},Paired F l₁ l₂->(∀a b,F a b->G a b)->Paired G l₁ l₂
 | _,_,.nil,_=> .nil
 | _,_,.cons r t,f=> .cons (f _ _ r) (Paired.QeE t f)
theorem QbB.QeW(x:QbB P w H h a o)(k:∀b u,(b=a∨H b=some (.own a))->h.get? b=some u->h'.get? b=some u)
  (ho:∀b,H b=some (.own a)->H' b=some (.own a)) (ht:∀b xs,H b=some (.tup xs)->H' b=some (.tup xs)):QbB P w H' h' a o:=by
 induction o with
 | lst xs=>obtain⟨z,its,n,r,e⟩:=x;exact⟨z,its,n,r,k _ _ (.inl rfl) e⟩
 | tup xs=>obtain⟨z,its,r,ob,e,c⟩:=x;exact⟨z,its,r,ob,k _ _ (.inl rfl) e,c⟩
 | dK kvs=>obtain⟨z,y,vs,r,ob,es,ep,e,c⟩:=x;exact⟨z,y,vs,r,ob,es,ep,k _ _ (.inl rfl) e,c⟩
 | dT kvs=>
  obtain⟨z,y,xs,r,ob,es,ep,e,c⟩:=x
  exact⟨z,y,xs,Paired.QeE r λp q z=>⟨z.1,ht _ _ z.2.1,z.2.2⟩,ob,es,ep,k _ _ (.inl rfl) e,c⟩
 | set S n=>obtain⟨ob,es,ep,t,e,c⟩:=x;exact⟨ob,es,ep,t,k _ _ (.inl rfl) e,c⟩
 | ins C dx fs=>
  obtain⟨d,z,ne,e,mA,⟨od,es,ep,e2,c⟩,r⟩:=x
  exact⟨ho _ d,z,ne,k _ _ (.inl rfl) e,mA,⟨od,es,ep,k _ _ (.inr d) e2,c⟩,r⟩
 | own y=>obtain⟨ob,e⟩:=x;exact⟨ob,k _ _ (.inl rfl) e⟩
 | xd fs=>obtain⟨mA,⟨od,es,ep,e,c⟩,r⟩:=x;exact⟨mA,⟨od,es,ep,k _ _ (.inl rfl) e,c⟩,r⟩
 | rng lo hi=>obtain⟨t,u,v,e⟩:=x;exact⟨t,u,v,k _ _ (.inl rfl) e⟩
 | frz ob u ih=>obtain⟨e,q⟩:=x;exact⟨k _ _ (.inl rfl) e,ih q⟩
 | tbl ps=>
  have e:h.get? a=some {cls:= .none,data:= .fields ps}:=x
  show h'.get? a=some {cls:= .none,data:= .fields ps}
  exact k a _ (.inl rfl) e
 | met f y=>
  have e:h.get? a=some (PySem.W.methodObj (.ref f) (.ref y)):=x
  show h'.get? a=some (PySem.W.methodObj (.ref f) (.ref y))
  exact k a _ (.inl rfl) e
 | ext φ=>obtain⟨p,⟨o,e⟩,st⟩:=x;exact⟨st _ _ p λo q=>k _ _ (.inl rfl) q,⟨o,k _ _ (.inl rfl) e⟩,st⟩
theorem HOk.lt(x:HOk P w H h)(e:H a=some o):a<h.objs.size:=(x a o e).lt
theorem HOk.fresh(x:HOk P w H h)(e:h.objs.size<=a):H a=none:=by
 cases q:H a with
 | none=>rfl
 | some u=>exact absurd (Zu (x.lt q) e) (Zaa _)
theorem HOk.kept(x:HOk P w H h)(k:∀b u,h.get? b=some u->h'.get? b=some u):HOk P w H h':=λa o e=>
 (x a o e).QeW (λb u _ q=>k b u q) (λ_ q=>q) λ_ _ q=>q
theorem HOk.laid(x:HOk P w H h)(k:∀b u,h.get? b=some u->h'.get? b=some u)(hp:h.objs.size<=a)(new:QbB P w (upd H a o) h' a o):HOk P w (upd H a o) h':=λb u e=>by
 have hn:=x.fresh hp
 by_cases hb:b=a
 ·subst hb;rw[Qao]at e;cases e;exact new
 ·rw[QF hb]at e
  exact(x b u e).QeW (λc v _ q=>k c v q) (λc q=>by rw[QF (QbC q hn)];exact q) λc xs q=>by rw[QF (QbC q hn)];exact q
end
def Rd(H:Hp)(a:Addr)(u:HO):Prop:=H a=some u∨∃o,H a=some (.frz o u)
theorem Rd.of{H:Hp}{a:Addr}{u:HO}(h:H a=some u):Rd H a u:= .inl h
theorem Rd.ok{P:Program}{w:World}{H:Hp}{h:Heap}{a:Addr}{u:HO}(r:Rd H a u)(x:HOk P w H h):QbB P w H h a u:=by
 rcases r with r | ⟨o,r⟩
 ·exact x a u r
 ·obtain⟨_,q⟩:=x a _ r
  exact q
noncomputable def Mut:Option HO->Prop
 | some (.lst _)=>True
 | some (.dK _)=>True
 | some (.dT _)=>True
 | some (.set _ _)=>True
 | some (.ins _ _ _)=>True
 | some (.ext _)=>True
 | _=>False
section
variable {P:Program}{w:World}{H:Hp}{h h':Heap}{x e:Addr}{o':HO}
theorem HOk.write(ok:HOk P w H h)(mu:Mut (H x))(he:e=x∨H e=some (.own x))(k:∀b u,b≠e->h.get? b=some u->h'.get? b=some u)(heo:∃u,h'.get? e=some u)
  (new:QbB P w (upd H x o') h' x o'):HOk P w (upd H x o') h':=λb u q=>by
 have nown:∀c y,H c=some (.own y)->c≠x:=λc y r z=>by subst z;rw[r]at mu;exact mu
 have ntup:∀c xs,H c=some (.tup xs)->c≠x:=λc xs r z=>by subst z;rw[r]at mu;exact mu
 by_cases hb:b=x
 ·subst hb;rw[Qao]at q;cases q;exact new
 ·rw[QF hb]at q
  by_cases hbe:b=e
  ·have q':H b=some (.own x):=by
    rcases he with z | z
    ·exact absurd (hbe.trans z) hb
    ·rw[hbe];exact z
   rw[q]at q';cases q'
   obtain⟨v,hv⟩:=heo
   exact⟨v,by rw[hbe];exact hv⟩
  ·refine(ok b u q).QeW (λc v hc r=>k c v ?_ r) (λc r=>by rw[QF (nown c b r)];exact r) λc xs r=>by rw[QF (ntup c xs r)];exact r
   rcases hc with rfl | hc
   ·exact hbe
   ·rintro rfl
    rcases he with z | z
    ·exact nown c b hc z
    ·rw[hc]at z;cases z;exact hb rfl
end
structure Un (fs ex:List Addr) (H H':Hp) (h h':Heap):Prop where
 keep:∀b o,h.get? b=some o->H b=none->b∉fs->b∉ex->h'.get? b=some o
 slot:∀b o,h.get? b=some o->H b=none->b∈fs->b∉ex->∃sl,h'.get? b=some {o with slots:=sl}
 free:∀b o,h.get? b=some o->H b=none->b∉ex->H' b=none
 there:∀b o,h.get? b=some o->b∉ex->∃o',h'.get? b=some o'
 tups:∀b xs,H b=some (.tup xs)->H' b=some (.tup xs)
 frzs:∀b o u,H b=some (.frz o u)->H' b=some (.frz o u)
 tbls:∀b ps,H b=some (.tbl ps)->∃more,H' b=some (.tbl (ps++more))
section
variable {fs fs' ex ex':List Addr}{H H1 H2:Hp}{h h1 h2 h':Heap}{a x e:Addr}{o:HO}
theorem Un.any(u:Un fs ex H H1 h h1){b:Addr}{ob:Obj}(q:h.get? b=some ob)(n:H b=none)(hx:b∉ex):∃sl,h1.get? b=some {ob with slots:=sl}:=by
 by_cases hb:b∈fs
 ·exact u.slot b ob q n hb hx
 ·exact⟨ob.slots,u.keep b ob q n hb hx⟩
theorem Un.trans(a:Un fs ex H H1 h h1)(b:Un fs ex H1 H2 h1 h2):Un fs ex H H2 h h2 where
 keep:=λc ob q n hc hx=>b.keep c ob (a.keep c ob q n hc hx) (a.free c ob q n hx) hc hx
 slot:=λc ob q n hc hx=>by
  obtain⟨sl,e1⟩:=a.slot c ob q n hc hx
  obtain⟨sl',e2⟩:=b.slot c _ e1 (a.free c ob q n hx) hc hx
  exact⟨sl',e2⟩
 free:=λc ob q n hx=>by
  obtain⟨o',e1⟩:=a.there c ob q hx
  exact b.free c o' e1 (a.free c ob q n hx) hx
 there:=λc ob q hx=>by
  obtain⟨o',e1⟩:=a.there c ob q hx
  exact b.there c o' e1 hx
 tups:=λc xs q=>b.tups c xs (a.tups c xs q)
 frzs:=λc ob xs q=>b.frzs c ob xs (a.frzs c ob xs q)
 tbls:=λc ps q=>by
  obtain⟨m1,e1⟩:=a.tbls c ps q
  obtain⟨m2,e2⟩:=b.tbls c _ e1
  exact⟨m1++m2,by rw[e2,Array.append_assoc]⟩
theorem Un.kept(k:∀b u,h.get? b=some u->h'.get? b=some u):Un fs ex H H h h':=
 ⟨λb ob q _ _ _=>k b ob q,λb ob q _ _ _=>⟨ob.slots,k b ob q⟩,λ_ _ _ n _=>n,λb ob q _=>⟨ob,k b ob q⟩,λ_ _ q=>q,λ_ _ _ q=>q,λ_ ps q=>⟨#[],by rw[q];simp⟩⟩
theorem Un.refl:Un fs ex H H h h:=Un.kept λ_ _ q=>q
theorem Un.laid(k:∀b u,h.get? b=some u->h'.get? b=some u)(hp:h.objs.size<=a)(hn:H a=none):Un fs ex H (upd H a o) h h' where
 keep:=λb u q _ _ _=>k b u q
 slot:=λb u q _ _ _=>⟨u.slots,k b u q⟩
 free:=λb u q n _=>by rw[QF (ZN (Zu (Zv q) hp))];exact n
 there:=λb u q _=>⟨u,k b u q⟩
 tups:=λb xs q=>by rw[QF (QbC q hn)];exact q
 frzs:=λb u xs q=>by rw[QF (QbC q hn)];exact q
 tbls:=λb ps q=>⟨#[],by rw[QF (QbC q hn),q];simp⟩
theorem Un.write(mu:Mut (H x))(he:e=x∨H e=some (.own x))(k:∀b u,b≠e->h.get? b=some u->h'.get? b=some u)(heo:∃u,h'.get? e=some u):Un fs ex H (upd H x o) h h':=by
 have hx:∀b,H b=none->b≠x:=λb n z=>by subst z;rw[n]at mu;exact mu
 have hb:∀b,H b=none->b≠e:=λb n z=>by
  subst z
  rcases he with r | r
  ·exact hx b n r
  ·rw[n]at r;cases r
 have hm:∀b u,H b=some u->¬Mut (some u)->b≠x:=λb u q nm z=>by subst z;rw[q]at mu;exact nm mu
 refine⟨λb u q n _ _=>k b u (hb b n) q,λb u q n _ _=>⟨u.slots,k b u (hb b n) q⟩,λb u q n _=>by rw[QF (hx b n)];exact n,λb u q _=>?_,
  λb xs q=>by rw[QF (hm b _ q λz=>z)];exact q,λb u xs q=>by rw[QF (hm b _ q λz=>z)];exact q,λb ps q=>⟨#[],by rw[QF (hm b _ q λz=>z),q];simp⟩⟩
 by_cases hbe:b=e
 ·subst hbe;exact heo
 ·exact⟨u,k b u hbe q⟩
theorem Un.mono(u:Un fs ex H H1 h h1)(hs:∀b∈fs,b∈fs')(hx:∀b∈ex,b∈ex'):Un fs' ex' H H1 h h1:=
 ⟨λb ob q n hb he=>u.keep b ob q n (λz=>hb (hs b z)) λz=>he (hx b z),λ_ _ q n _ he=>u.any q n λz=>he (hx _ z),λb ob q n he=>u.free b ob q n λz=>he (hx b z),λb ob q he=>u.there b ob q λz=>he (hx b z),u.tups,u.frzs,u.tbls⟩
end
noncomputable def trk(h:Heap)(H:Hp):List Addr:=(List.range h.objs.size).filter λa=>(H a).isSome
noncomputable def Qgf(h:Heap)(H:Hp):Heap:=PySem.W.hideAll h (trk h H)
theorem Qqn(h:Heap)(H:Hp):(Qgf h H).objs.size=h.objs.size:=PySem.W.hideAll_size _ _
theorem QsO{h:Heap}{H:Hp}{b:Addr}{o:Obj}(e:h.get? b=some o)(n:H b=none):(Qgf h H).get? b=some o:=
 ZaX _ e λhm=>by
  have q:(H b).isSome=true:=(Zau.mp hm).2
  rw[n]at q;simp at q
theorem Qvk{h:Heap}{H:Hp}{b:Addr}{o:Obj}(e:(Qgf h H).get? b=some o):h.get? b=some o/\H b=none:=by
 have e':h.get? b=some o:=PySem.W.of_hideAll (trk h H) e
 refine⟨e',?_⟩
 cases q:H b with
 | none=>rfl
 | some x=>
  have hm:b∈trk h H:=Zau.mpr ⟨ZH.mpr (Zv e'),by simp[q]⟩
  have z:(Qgf h H).get? b=none:=PySem.W.hideAll_none (trk h H) hm
  rw[z]at e;cases e
noncomputable def Quc(g h:Heap)(L:Addr):List (Addr×Obj):=(List.range h.objs.size).filterMap λa=>if a=L∨(g.get? a).isSome=true then none else(h.get? a).map λo=>(a,o)
noncomputable def rest(g h:Heap)(L d:Addr):List (Addr×Obj):=(Quc g h L).filter λp=>decide (p.1≠d)
end L2
namespace L2
open PySem PySem.Spec PyProof.Rows
structure Mod (K:PySem.W.Frag) (mg:Str->Option Value) (base:Heap):Prop where
 kin:K.In base
 glob:base.Ns mainGlobals mg
 blt:∃mb,base.Ns builtinsNs mb/\∀x:Str,x≠ "__name__" ->mb x=bootBuiltins x
 nolimit:base.NoLimit
structure Cx where
 prog:Program
 w:World
 K:PySem.W.Frag
 mg:Str->Option Value
 base:Heap
 A:Around
 N:List Str
 s₀:Shared
 H₀:Hp
 env:Env
 outer:List Env
 stack:List Env
 ex:List Addr
 fn:Str->Bool
 calm:Bool
 pn:List (Addr×Obj)
 xe:Value->Shared->Prop
noncomputable def frs(l:List Env):List Addr:=l.filterMap (·.frame)
noncomputable abbrev Cx.fs(X:Cx):List Addr:=frs X.outer
def Vis(sc:Scope)(x:Str):Prop:=sc.names.lookup x=some .local ∨sc.names.lookup x=some .cell∨sc.names.lookup x=some .free
def Loc(sc:Scope)(x:Str):Prop:=sc.names.lookup x=some .local ∨sc.names.lookup x=some .cell
def Look(env:Env)(h:Heap)(m:Str->Option Value)(x:Str)(u:Value):Prop:=
 (env.kindOf x=some .local /\m x=some u)∨((env.kindOf x=some .cell∨env.kindOf x=some .free)/\∃c,env.cells.lookup x=some c/\h.IsCell c (some u))
structure Cx.Ok (X:Cx):Prop where
 mod:Mod X.K X.mg X.base
 kind:X.env.scope.kind= .function
 glob:X.env.globals=mainGlobals
 blt:X.env.builtins=builtinsNs
 above:X.s₀.heap.objs.size<=X.env.locals
 inj:∀x y c,X.env.cells.lookup x=some c->X.env.cells.lookup y=some c->x=y
 has:∀x,(X.env.kindOf x=some .cell∨X.env.kindOf x=some .free)->∃c,X.env.cells.lookup x=some c
 cab:∀x c,X.fn x=true->X.env.cells.lookup x=some c->X.s₀.heap.objs.size<=c
 hd:X.calm=true->X.A.handled=none
 frames:X.A.frames=some X.stack
 stk:X.stack=X.outer∨(X.stack=X.env::X.outer/\X.env.frame=some X.env.locals)
 exf:∀b∈X.ex,b≠X.env.locals/\∀x c,X.env.cells.lookup x=some c->c≠b
 bs:∀b o,X.base.get? b=some o->X.s₀.heap.get? b=some o/\X.H₀ b=none
 bsz:X.base.objs.size<=X.s₀.heap.objs.size
 noex:∀b o,X.base.get? b=some o->b∉X.ex
 exfs:∀b∈X.ex,b∉X.fs
 QcW:X.s₀.heap.FunFrames X.base X.outer
 frf:∀b∈X.fs,X.H₀ b=none
structure Inv (X:Cx) (pins:List (Addr×Obj)) (σ:List (Option V)) (H:Hp) (s:Shared):Prop where
 ok:X.Ok
 os:s.os=X.s₀.os
 bare:AllBare s.gens
 base:Un X.fs X.ex X.H₀ H X.s₀.heap s.heap
 loc:∃m,s.heap.Ns X.env.locals m/\∀(i:Nat) (x:Str) (v:V),X.N[i]? =some x->σ[i]? =some (some v)->Vis X.env.scope x->∃u,RelV v u/\Look X.env s.heap m x u
 cell:∀x c,X.env.cells.lookup x=some c->∃v,s.heap.IsCell c v
 free:H X.env.locals=none
 freeC:∀x c,X.env.cells.lookup x=some c->H c=none
 pin:∀p∈X.pn++pins,s.heap.get? p.1=some p.2/\H p.1=none/\p.1≠X.env.locals/\p.1∉X.fs/\∀v,p.2.data≠ .cell v
 hok:HOk X.prog X.w H s.heap
 len:σ.length=X.N.length
section
variable {X:Cx}{pins:List (Addr×Obj)}{σ:List (Option V)}{H H':Hp}{s:Shared}{h':Heap}
theorem Cx.Ok.Qzt(ok:X.Ok){b:Addr}{o:Obj}(e:X.base.get? b=some o):b∉X.fs:=λhb=>by
 have:=(ok.QcW.mem hb).1
 rw[e]at this;cases this
theorem Inv.bs(I:Inv X pins σ H s):∀b o,X.base.get? b=some o->s.heap.get? b=some o/\H b=none:=λb o e=>
 ⟨I.base.keep b o (I.ok.bs b o e).1 (I.ok.bs b o e).2 (I.ok.Qzt e) (I.ok.noex b o e),I.base.free b o (I.ok.bs b o e).1 (I.ok.bs b o e).2 (I.ok.noex b o e)⟩
theorem Inv.bk(I:Inv X pins σ H s):∀b o,X.base.get? b=some o->s.heap.get? b=some o:=λb o e=>(I.bs b o e).1
theorem Inv.mod(I:Inv X pins σ H s):Mod X.K X.mg X.base:=I.ok.mod
theorem Inv.kIn(I:Inv X pins σ H s):X.K.In s.heap:=I.ok.mod.kin.keeps I.bk
theorem Inv.nolimit(I:Inv X pins σ H s):s.heap.NoLimit:=I.ok.mod.nolimit.keeps I.bk
theorem Inv.fr(I:Inv X pins σ H s):∃m,Fr X.base X.env.locals s.heap m:=
 let ⟨m,hn,_⟩:=I.loc
 ⟨m,hn,I.bk,ZD I.ok.bsz I.ok.above⟩
theorem Inv.lt(I:Inv X pins σ H s):X.env.locals<s.heap.objs.size:=let ⟨_,hn,_⟩:=I.loc;hn.lt
theorem Inv.sz(I:Inv X pins σ H s):X.s₀.heap.objs.size<=s.heap.objs.size:=ZD I.ok.above (Nat.le_of_lt I.lt)
theorem Inv.Qzw(I:Inv X pins σ H s){a:Addr}(h:s.heap.objs.size<=a):a∉X.fs:=λhb=>by
 obtain⟨_,o,ho,_⟩:=I.ok.QcW.mem hb
 exact absurd (Zu (Zv ho) (ZD I.sz h)) (Zaa _)
theorem Inv.cne(I:Inv X pins σ H s):∀x c,X.env.cells.lookup x=some c->c≠X.env.locals:=λx c e z=>by
 obtain⟨v,o,ho,hd⟩:=I.cell x c e
 obtain⟨m,⟨o',es,ep,ho',hd',_⟩,_⟩:=I.loc
 rw[z,ho']at ho;cases ho;rw[hd']at hd;cases hd
theorem Inv.QcW(I:Inv X pins σ H s):s.heap.FunFrames X.base X.outer:=by
 have all:∀(l:List Env),(∀b∈frs l,b∈X.fs)->X.s₀.heap.FunFrames X.base l->s.heap.FunFrames X.base l:=by
  intro l
  induction l with
  | nil=>intro _ _;trivial
  | cons env r ih=>
   intro hs hl
   obtain⟨hk,⟨L,o,hf,hn,ho,hd⟩,hr⟩:=hl
   have hL:L∈X.fs:=hs L (by unfold frs;rw[Zbl,hf];exact Zf)
   obtain⟨sl,e⟩:=I.base.slot L o ho (I.ok.frf L hL) hL λz=>I.ok.exfs L z hL
   exact⟨hk,⟨L,_,hf,hn,e,hd⟩,ih (λb hb=>hs b (by unfold frs;rw[Zbl,hf];exact Zb _ hb)) hr⟩
 exact all X.outer (λ_ hb=>hb) I.ok.QcW
theorem Inv.stack(I:Inv X pins σ H s):s.heap.FunFrames X.base X.stack:=by
 rcases I.ok.stk with e | ⟨e,hf⟩
 ·rw[e];exact I.QcW
 ·rw[e]
  obtain⟨m,hn,_⟩:=I.loc
  refine .cons (by rw[I.ok.kind];decide) hf hn ?_ I.QcW
  exact Heap.get?_none_of_le (ZD I.ok.bsz I.ok.above)
theorem Inv.QeO(I:Inv X pins σ H s):∀b∈frs X.stack,b∈X.env.locals::X.fs:=λb hb=>by
 rcases I.ok.stk with e | ⟨e,hf⟩
 ·rw[e]at hb;exact Zb _ hb
 ·rw[e]at hb
  unfold frs at hb
  rw[Zbl,hf]at hb
  exact hb
theorem Inv.QjX(I:Inv X pins σ H s):∀b∈frs X.stack,H b=none:=λb hb=>by
 rcases Zl.mp (I.QeO b hb)with e | hb
 ·rw[e];exact I.free
 ·obtain⟨_,o,ho,_⟩:=I.ok.QcW.mem hb
  exact I.base.free b o ho (I.ok.frf b hb) λz=>I.ok.exfs b z hb
theorem Inv.step{g':Array GenState}{t':Nat}{d':Drawn}{ch:List Addr}(I:Inv X pins σ H s)
  (hch:∀b∈ch,(b∈X.ex∨X.s₀.heap.objs.size<=b)/\b≠X.env.locals/\(∀x c,X.env.cells.lookup x=some c->c≠b)/\∀p∈X.pn++pins,p.1≠b)
  (keep:∀b o,b≠X.env.locals->b∉X.fs->b∉ch->s.heap.get? b=some o->H b=none->h'.get? b=some o)
  (slot:∀b o,b≠X.env.locals->b∈X.fs->b∉ch->s.heap.get? b=some o->H b=none->∃sl,h'.get? b=some {o with slots:=sl}) (free:∀b o,b∉ch->s.heap.get? b=some o->H b=none->H' b=none)
  (there:∀b o,b∉ch->s.heap.get? b=some o->∃o',h'.get? b=some o')
  (tups:∀b xs,H b=some (.tup xs)->H' b=some (.tup xs)) (frzs:∀b o u,H b=some (.frz o u)->H' b=some (.frz o u)) (tbls:∀b ps,H b=some (.tbl ps)->∃more,H' b=some (.tbl (ps++more)))
  (ns:∀m,s.heap.Ns X.env.locals m->h'.Ns X.env.locals m) (hok:HOk X.prog X.w H' h') (hg:AllBare g'):
  Inv X pins σ H' {s with heap:=h',gens:=g',drawn:=d',toks:=t'}:=by
 have neL:∀b o,X.s₀.heap.get? b=some o->b≠X.env.locals:=λb o e=>ZN (Zu (Zv e) I.ok.above)
 have neC:∀b o,X.s₀.heap.get? b=some o->b∉X.ex->b∉ch:=λb o e hx hb=>by
  rcases(hch b hb).1 with z | z
  ·exact hx z
  ·exact absurd (Zu (Zv e) z) (Zaa _)
 have cellK:∀x c,X.env.cells.lookup x=some c->∀v,s.heap.IsCell c v->h'.IsCell c v:=λx c e v hpt=>by
  obtain⟨o,ho,hd⟩:=hpt
  have nch:c∉ch:=λz=>(hch c z).2.2.1 x c e rfl
  by_cases hc:c∈X.fs
  ·obtain⟨sl,q⟩:=slot c o (I.cne x c e) hc nch ho (I.freeC x c e)
   exact⟨_,q,hd⟩
  ·exact⟨o,keep c o (I.cne x c e) hc nch ho (I.freeC x c e),hd⟩
 refine⟨I.ok,I.os,hg,⟨λb o e n hb hx=>?_,λb o e n hb hx=>?_,λb o e n hx=>?_,λb o e hx=>?_,λb xs e=>tups b xs (I.base.tups b xs e),λb o xs e=>frzs b o xs (I.base.frzs b o xs e),λb ps e=>?_⟩,?_,λx c e=>?_,?_,λx c e=>?_,λp hp=>?_,hok,I.len⟩
 ·exact keep b o (neL b o e) hb (neC b o e hx) (I.base.keep b o e n hb hx) (I.base.free b o e n hx)
 ·obtain⟨sl,e1⟩:=I.base.slot b o e n hb hx
  obtain⟨sl',e2⟩:=slot b _ (neL b o e) hb (neC b o e hx) e1 (I.base.free b o e n hx)
  exact⟨sl',e2⟩
 ·obtain⟨o',e1⟩:=I.base.there b o e hx
  exact free b o' (neC b o e hx) e1 (I.base.free b o e n hx)
 ·obtain⟨o',e1⟩:=I.base.there b o e hx
  exact there b o' (neC b o e hx) e1
 ·obtain⟨m1,e1⟩:=I.base.tbls b ps e
  obtain⟨m2,e2⟩:=tbls b _ e1
  exact⟨m1++m2,by rw[e2,Array.append_assoc]⟩
 ·obtain⟨m,hn,hl⟩:=I.loc
  refine⟨m,ns m hn,λi x v e1 e2 e3=>?_⟩
  obtain⟨u,r,l⟩:=hl i x v e1 e2 e3
  refine⟨u,r,?_⟩
  rcases l with l | ⟨k,c,e,z⟩
  ·exact .inl l
  ·exact .inr ⟨k,c,e,cellK x c e _ z⟩
 ·obtain⟨v,z⟩:=I.cell x c e
  exact⟨v,cellK x c e v z⟩
 ·obtain⟨m,⟨o,_,_,ho,_⟩,_⟩:=I.loc
  exact free _ o (λz=>(hch _ z).2.1 rfl) ho I.free
 ·obtain⟨v,o,ho,hd⟩:=I.cell x c e
  exact free c o (λz=>(hch c z).2.2.1 x c e rfl) ho (I.freeC x c e)
 ·obtain⟨e,n,ne,nf,d⟩:=I.pin p hp
  have nch:p.1∉ch:=λz=>(hch p.1 z).2.2.2 p hp rfl
  exact⟨keep p.1 p.2 ne nf nch e n,free p.1 p.2 nch e n,ne,nf,d⟩
theorem Inv.un{t':Nat}(I:Inv X pins σ H s)(u:Un X.fs [] H H' s.heap h')(hok:HOk X.prog X.w H' h'):Inv X pins σ H' {s with heap:=h',toks:=t'}:=by
 obtain⟨m,⟨o,es,ep,ho,r⟩,_⟩:=id I.loc
 obtain⟨sl,hL⟩:=u.any ho I.free (by simp)
 exact I.step (g':=s.gens) (d':=s.drawn) (ch:=[]) (λ_ z=>nomatch z) (λb o _ hb _ e n=>u.keep b o e n hb (by simp)) (λb o _ hb _ e n=>u.slot b o e n hb (by simp)) (λb o _ e n=>u.free b o e n (by simp)) (λb o _ e=>u.there b o e (by simp)) u.tups u.frzs u.tbls (λm' hm=>by
  obtain⟨o',es',ep',ho',r'⟩:=hm
  rw[ho]at ho';cases ho'
  exact⟨_,es',ep',hL,r'⟩) hok I.bare
theorem Inv.call{g':Array GenState}{t':Nat}{d':Drawn}{ch:List Addr}(I:Inv X pins σ H s)(u:Un (frs X.stack) ch H H' s.heap h')(hok:HOk X.prog X.w H' h')(hg:AllBare g')
  (hch:∀b∈ch,(b∈X.ex∨X.s₀.heap.objs.size<=b)/\b≠X.env.locals/\(∀x c,X.env.cells.lookup x=some c->c≠b)/\∀p∈X.pn++pins,p.1≠b):
  Inv X pins σ H' {s with heap:=h',gens:=g',drawn:=d',toks:=t'}:=by
 obtain⟨m,⟨o,es,ep,ho,r⟩,_⟩:=id I.loc
 obtain⟨sl,hL⟩:=u.any ho I.free λz=>(hch _ z).2.1 rfl
 exact I.step (ch:=ch) hch (λb o hL hb hc e n=>u.keep b o e n (λz=>(Zl.mp (I.QeO b z)).elim hL hb) hc) (λb o _ _ hc e n=>u.any e n hc) (λb o hc e n=>u.free b o e n hc) (λb o hc e=>u.there b o e hc) u.tups u.frzs u.tbls (λm' hm=>by
  obtain⟨o',es',ep',ho',r'⟩:=hm
  rw[ho]at ho';cases ho'
  exact⟨_,es',ep',hL,r'⟩) hok hg
theorem Inv.turned{t':Nat}{it:Addr}(I:Inv X pins σ H s)(k:∀b o,b≠it->s.heap.get? b=some o->h'.get? b=some o)(hn:H it=none)(hL:it≠X.env.locals)
  (h1:it∈X.ex∨X.s₀.heap.objs.size<=it) (h2:∀x c,X.env.cells.lookup x=some c->c≠it) (h3:∀p∈X.pn++pins,p.1≠it):Inv X pins σ H {s with heap:=h',toks:=t'}:=by
 have nit:∀b u,H b=some u->b≠it:=λb u e z=>by rw[z,hn]at e;cases e
 refine I.step (g':=s.gens) (d':=s.drawn) (ch:=[it]) (λb hb=>?_) (λb o _ _ hc e _=>k b o (λz=>hc (by simp[z])) e) (λb o _ _ hc e _=>⟨o.slots,k b o (λz=>hc (by simp[z])) e⟩) (λ_ _ _ _ n=>n)
  (λb o hc e=>⟨o,k b o (λz=>hc (by simp[z])) e⟩) (λ_ _ e=>e) (λ_ _ _ e=>e) (λb ps e=>⟨#[],by rw[e];simp⟩) (λm hm=>?_) (λb u e=>?_) I.bare
 ·have e:b=it:=by simpa using hb
  subst e
  exact⟨h1,hL,h2,h3⟩
 ·obtain⟨o,es,ep,ho,r⟩:=hm
  exact⟨o,es,ep,k _ o (Ne.symm hL) ho,r⟩
 ·refine(I.hok b u e).QeW (λc v hc q=>k c v ?_ q) (λ_ q=>q) λ_ _ q=>q
  rcases hc with z | z
  ·rw[z];exact nit b u e
  ·exact nit c _ z
theorem Inv.tok(I:Inv X pins σ H s)(t:Nat):Inv X pins σ H {s with toks:=t}:=I.un (h':=s.heap) (t':=t) Un.refl I.hok
theorem Inv.kept{t':Nat}(I:Inv X pins σ H s)(k:∀b u,s.heap.get? b=some u->h'.get? b=some u):Inv X pins σ H {s with heap:=h',toks:=t'}:=I.un (Un.kept k) (I.hok.kept k)
theorem Inv.laid{a:Addr}{o:HO}{t':Nat}(I:Inv X pins σ H s)(k:∀b u,s.heap.get? b=some u->h'.get? b=some u)(hp:s.heap.objs.size<=a)(new:QbB X.prog X.w (upd H a o) h' a o):
  Inv X pins σ (upd H a o) {s with heap:=h',toks:=t'}:=I.un (Un.laid k hp (I.hok.fresh hp)) (I.hok.laid k hp new)
theorem Inv.write{x e:Addr}{o:HO}{t':Nat}(I:Inv X pins σ H s)(mu:Mut (H x))(he:e=x∨H e=some (.own x))(k:∀b u,b≠e->s.heap.get? b=some u->h'.get? b=some u)(heo:∃u,h'.get? e=some u)
  (new:QbB X.prog X.w (upd H x o) h' x o):Inv X pins σ (upd H x o) {s with heap:=h',toks:=t'}:=I.un (Un.write mu he k heo) (I.hok.write mu he k heo new)
theorem Inv.weak{σ':List (Option V)}(I:Inv X pins σ H s)(hl:σ'.length=σ.length)(w:∀(i:Nat) v,σ'[i]? =some (some v)->σ[i]? =some (some v)):Inv X pins σ' H s:=
 ⟨I.ok,I.os,I.bare,I.base,let ⟨m,hn,hl'⟩:=I.loc;⟨m,hn,λi x v e1 e2 e3=>hl' i x v e1 (w i v e2) e3⟩,I.cell,I.free,I.freeC,I.pin,I.hok,hl.trans I.len⟩
theorem Inv.Qn6{pins':List (Addr×Obj)}(I:Inv X pins σ H s)(h:∀p∈pins',s.heap.get? p.1=some p.2/\H p.1=none/\p.1≠X.env.locals/\p.1∉X.fs/\∀v,p.2.data≠ .cell v):Inv X pins' σ H s:=
 ⟨I.ok,I.os,I.bare,I.base,I.loc,I.cell,I.free,I.freeC,λp hp=>(Zo.mp hp).elim (λz=>I.pin p (Zd _ z)) (h p),I.hok,I.len⟩
theorem Qif{N:List Str}(hN:N.Nodup){i j:Nat}{x:Str}(a:N[i]? =some x)(b:N[j]? =some x):i=j:=by
 obtain⟨h1,e1⟩:=Zi.mp a
 obtain⟨h2,e2⟩:=Zi.mp b
 exact(List.getElem_inj hN).mp (e1.trans e2.symm)
theorem QkH{M:Model}{A:Around}{E:Value->Shared->Prop}{i:Nat}{x:Str}{v:V}{u:Value}{Q:Unit->Shared->Prop}(I:Inv X pins σ H s)(hN:X.N.Nodup)(hi:X.N[i]? =some x)(hx:Loc X.env.scope x)(r:RelV v u)
  (h:∀s',Inv X pins (σ.set i (some v)) H s'->(∃a,Heap.SameBut a s.heap s'.heap/\(a=X.env.locals∨X.env.cells.lookup x=some a))->Q () s') (hf:X.fn x=true∨X.env.scope.names.lookup x=some .local :=by first | exact .inl rfl | exact .inr rfl | assumption):wpAny M A (storeName X.env x u) Q E s:=by
 obtain⟨m,hn,hl⟩:=id I.loc
 have hcls:(X.env.scope.kind == .class || (X.env.scope.kind == .module && X.env.locals != X.env.globals))=false:=by rw[I.ok.kind];rfl
 have hiσ:i<σ.length:=by rw[I.len];exact(Zi.mp hi).1
 have cne:=I.cne
 have tracked:∀{a:Addr}{h':Heap},(∃o,s.heap.get? a=some o/\H a=none)->Heap.SameBut a s.heap h'->HOk X.prog X.w H h':=λ{a h'} ha hs b ob e=>by
  obtain⟨_,_,hfree⟩:=ha
  refine(I.hok b ob e).QeW (λc w' hc q=>(hs.2 c ?_).trans q) (λ_ q=>q) λ_ _ q=>q
  rintro rfl
  rcases hc with rfl | hc
  ·rw[hfree]at e;cases e
  ·rw[hfree]at hc;cases hc
 rcases hx with hk | hk
 ·refine wpAny_storeName_local hk hn (λh' hn' hs=>?_) hcls
  obtain⟨oL,_,_,hoL,_⟩:=id hn
  refine h _ ⟨I.ok,I.os,I.bare,⟨λb o e n hb hx=>?_,λb o e n hb hx=>?_,I.base.free,λb o e hx=>?_,I.base.tups,I.base.frzs,I.base.tbls⟩,⟨_,hn',λj y v' e1 e2 e3=>?_⟩,λy c e=>?_,I.free,I.freeC,λp hp=>?_,tracked ⟨oL,hoL,I.free⟩ hs,by simpa using I.len⟩ ⟨_,hs,.inl rfl⟩
  ·exact(hs.2 b (ZN (Zu (Zv e) I.ok.above))).trans (I.base.keep b o e n hb hx)
  ·obtain⟨sl,e1⟩:=I.base.slot b o e n hb hx
   exact⟨sl,(hs.2 b (ZN (Zu (Zv e) I.ok.above))).trans e1⟩
  ·obtain⟨o',e1⟩:=I.base.there b o e hx
   exact⟨o',(hs.2 b (ZN (Zu (Zv e) I.ok.above))).trans e1⟩
  ·by_cases hj:j=i
   ·subst hj
    rw[hi]at e1;cases e1
    rw[Zr hiσ]at e2
    cases e2
    exact⟨u,r,.inl ⟨hk,by simp⟩⟩
   ·rw[Zh (Ne.symm hj)]at e2
    obtain⟨u',r',q⟩:=hl j y v' e1 e2 e3
    refine⟨u',r',?_⟩
    rcases q with⟨k,e⟩ | ⟨k,c,e,z⟩
    ·refine .inl ⟨k,?_⟩
     have:y≠x:=λe=>hj (Qif hN e1 (e▸hi))
     simp[this,e]
    ·exact .inr ⟨k,c,e,z.sameBut hs (cne y c e)⟩
  ·obtain⟨w',z⟩:=I.cell y c e
   exact⟨w',z.sameBut hs (cne y c e)⟩
  ·obtain⟨e,n,ne,nf,d⟩:=I.pin p hp
   exact⟨(hs.2 p.1 ne).trans e,n,ne,nf,d⟩
 ·have hfn:X.fn x=true:=by
   rcases hf with z | z
   ·exact z
   ·rw[z]at hk;cases hk
  obtain⟨c,hc⟩:=I.ok.has x (.inl hk)
  obtain⟨w',z⟩:=I.cell x c hc
  refine wpAny_storeName_cell I.ok.kind hk hc z (λh' hc' hs=>?_)
  obtain⟨oc,hoc,hocd⟩:=id z
  refine h {s with heap:=h'} ⟨I.ok,I.os,I.bare,⟨λb o e n hb hx=>?_,λb o e n hb hx=>?_,I.base.free,λb o e hx=>?_,I.base.tups,I.base.frzs,I.base.tbls⟩,⟨m,hn.sameBut hs (Ne.symm (cne x c hc)),λj y v' e1 e2 e3=>?_⟩,λy c' e=>?_,I.free,I.freeC,λp hp=>?_,tracked ⟨oc,hoc,I.freeC x c hc⟩ hs,by simpa using I.len⟩ ⟨c,hs,.inr hc⟩
  ·exact(hs.2 b (ZN (Zu (Zv e) (I.ok.cab x c hfn hc)))).trans (I.base.keep b o e n hb hx)
  ·obtain⟨sl,e1⟩:=I.base.slot b o e n hb hx
   exact⟨sl,(hs.2 b (ZN (Zu (Zv e) (I.ok.cab x c hfn hc)))).trans e1⟩
  ·obtain⟨o',e1⟩:=I.base.there b o e hx
   exact⟨o',(hs.2 b (ZN (Zu (Zv e) (I.ok.cab x c hfn hc)))).trans e1⟩
  ·by_cases hj:j=i
   ·subst hj
    rw[hi]at e1;cases e1
    rw[Zr hiσ]at e2
    cases e2
    exact⟨u,r,.inr ⟨.inl hk,c,hc,hc'⟩⟩
   ·rw[Zh (Ne.symm hj)]at e2
    obtain⟨u',r',q⟩:=hl j y v' e1 e2 e3
    refine⟨u',r',?_⟩
    rcases q with q | ⟨k,c',e,z'⟩
    ·exact .inl q
    ·refine .inr ⟨k,c',e,z'.sameBut hs ?_⟩
     rintro rfl
     exact hj (Qif hN e1 (I.ok.inj _ _ _ e hc▸hi))
  ·by_cases hcc:c'=c
   ·subst hcc;exact⟨_,hc'⟩
   ·obtain⟨w2,z2⟩:=I.cell y c' e
    exact⟨w2,z2.sameBut hs hcc⟩
  ·obtain⟨e,n,ne,nf,d⟩:=I.pin p hp
   refine⟨(hs.2 p.1 ?_).trans e,n,ne,nf,d⟩
   intro q
   rw[q,hoc]at e
   have q':oc=p.2:=Option.some.inj e
   exact d w' (by rw[← q'];exact hocd)
theorem Qgh{M:Model}{A:Around}{E:Value->Shared->Prop}{i:Nat}{x:Str}{v:V}{u:Value}{Q:Unit->Shared->Prop}(I:Inv X pins σ H s)(hN:X.N.Nodup)(hi:X.N[i]? =some x)(hx:Loc X.env.scope x)(r:RelV v u)
  (h:∀s',Inv X pins (σ.set i (some v)) H s'->Q () s') (hf:X.fn x=true∨X.env.scope.names.lookup x=some .local :=by first | exact .inl rfl | exact .inr rfl | assumption):wpAny M A (storeName X.env x u) Q E s:=
 QkH I hN hi hx r (λs' I' _=>h s' I') hf
theorem Inv.Qts{s':Shared}{ch:List Addr}(I:Inv X pins σ H s)(ho:s'.os=s.os)(u:Un (frs X.stack) ch H H' s.heap s'.heap)(hok:HOk X.prog X.w H' s'.heap)(hg:AllBare s'.gens)
  (hch:∀b∈ch,(b∈X.ex∨X.s₀.heap.objs.size<=b)/\b≠X.env.locals/\(∀x c,X.env.cells.lookup x=some c->c≠b)/\∀p∈X.pn++pins,p.1≠b):Inv X pins σ H' s':=by
 obtain⟨h',g',d',t',o'⟩:=s'
 have e:o'=s.os:=ho
 subst e
 exact I.call (g':=g') (t':=t') (d':=d') u hok hg hch
end
noncomputable abbrev XK:=Value->Option Addr->Hp->Prop
noncomputable abbrev St:=List (Option V)
noncomputable abbrev VK:=V->Hp->Prop
noncomputable abbrev TE:=St->Hp->VK->Prop
noncomputable abbrev TT:=St->Hp->(Bool->Hp->Prop)->Prop
noncomputable abbrev TA:=St->Hp->(List V->Hp->Prop)->Prop
structure Ends where
 nx:St->Hp->Prop
 rt:VK
 bk:St->Hp->Prop:=λ_ _=>False
 ct:St->Hp->Prop:=λ_ _=>False
noncomputable abbrev TS:=Ends->St->Hp->Prop
def EP(X:Cx)(pins:List (Addr×Obj))(σ:St)(Q:VK)(u:Value)(s':Shared):Prop:=∃v H',Inv X pins σ H' s'/\RelV v u/\Q v H'
def TP(X:Cx)(pins:List (Addr×Obj))(σ:St)(Q:Bool->Hp->Prop)(b:Bool)(s':Shared):Prop:=∃H',Inv X pins σ H' s'/\Q b H'
def AP(X:Cx)(pins:List (Addr×Obj))(σ:St)(Q:List V->Hp->Prop)(us:List Value)(s':Shared):Prop:=∃vs H',Inv X pins σ H' s'/\Qw vs us/\Q vs H'
def SP(X:Cx)(pins:List (Addr×Obj))(D:Ends)(f:Flow)(s':Shared):Prop:=
 match f with
 | .next=>∃σ' H',Inv X pins σ' H' s'/\D.nx σ' H'
 | .brk=>∃σ' H',Inv X pins σ' H' s'/\D.bk σ' H'
 | .cont=>∃σ' H',Inv X pins σ' H' s'/\D.ct σ' H'
 | .ret u=>∃v σ' H',Inv X pins σ' H' s'/\RelV v u/\D.rt v H'
def PE(X:Cx)(e:Expr)(t:TE):Prop:=
 ∀(pins:List (Addr×Obj)) (s:Shared) (σ:St) (H:Hp) (Q:VK),Inv X pins σ H s->t σ H Q->wpAny (model X.prog X.w) X.A (eval e X.env) (EP X pins σ Q) X.xe s
def PT(X:Cx)(e:Expr)(t:TT):Prop:=
 ∀(pins:List (Addr×Obj)) (s:Shared) (σ:St) (H:Hp) (Q:Bool->Hp->Prop),Inv X pins σ H s->t σ H Q->wpAny (model X.prog X.w) X.A (isTrue e X.env (eval e X.env)) (TP X pins σ Q) X.xe s
def PW(X:Cx)(e:Expr)(t:TT):Prop:=
 ∀(whole:Sem Value) (pins:List (Addr×Obj)) (s:Shared) (σ:St) (H:Hp) (Q:Bool->Hp->Prop),Inv X pins σ H s->t σ H Q->wpAny (model X.prog X.w) X.A (isTrue e X.env whole) (TP X pins σ Q) X.xe s
theorem PW.pt{X:Cx}{e:Expr}{t:TT}(h:PW X e t):PT X e t:=h _
def PA(X:Cx)(es:List Expr)(t:TA):Prop:=
 ∀(pos:Pos) (pins:List (Addr×Obj)) (s:Shared) (σ:St) (H:Hp) (Q:List V->Hp->Prop),Inv X pins σ H s->t σ H Q->wpAny (model X.prog X.w) X.A (spliced (backTo pos (starEach es X.env))) (AP X pins σ Q) X.xe s
def PS(X:Cx)(st:Stmt)(t:TS):Prop:=
 ∀(pins:List (Addr×Obj)) (s:Shared) (σ:St) (H:Hp) (D:Ends),Inv X pins σ H s->t D σ H->wpAny (model X.prog X.w) X.A (exec st X.env) (SP X pins D) X.xe s
def PSs(X:Cx)(st:List Stmt)(t:TS):Prop:=
 ∀(pins:List (Addr×Obj)) (s:Shared) (σ:St) (H:Hp) (D:Ends),Inv X pins σ H s->t D σ H->wpAny (model X.prog X.w) X.A (execs st X.env) (SP X pins D) X.xe s
theorem thn{α:Type}{t:Sem α}{Q Q':α->Shared->Prop}{M:Model}{A:Around}{E:Value->Shared->Prop}{s:Shared}(h:wpAny M A t Q E s)(hQ:∀a s,Q a s->Q' a s):wpAny M A t Q' E s:=wpAny_mono h hQ λ_ _ x=>x
end L2
namespace L2
open PySem PySem.Spec PyProof.Rows
section
variable {X:Cx}
noncomputable def Qgr(i:Nat):TE:=λσ H Q=>∃v,σ[i]? =some (some v)/\Q v H
noncomputable def tC(v:V):TE:=λ_ H Q=>Q v H
theorem QvM{i:Nat}{x:Str}{pos:Pos}(hN:X.N[i]? =some x)(hv:Vis X.env.scope x)(hd:(x == ("__debug__" :Str))=false:=by decide)(hcd:(x == ("__classdict__" :Str))=false:=by decide):PE X (.Name x pos) (Qgr i):=by
 intro pins s σ H Q I h
 obtain⟨v,e,h⟩:=h
 obtain⟨m,hn,hl⟩:=I.loc
 obtain⟨u,r,l⟩:=hl i x v hN e hv
 have fin:EP X pins σ Q u s:=⟨v,H,I,r,h⟩
 rcases l with⟨hk,hm⟩ | ⟨hk,c,hc,hcell⟩
 ·exact wpAny_Name (wpAny_loadName_local I.ok.kind hk hn hm fin) hd
 ·rcases hk with hk | hk
  ·exact wpAny_Name (wpAny_loadName_cell I.ok.kind hk hc hcell fin) hd
  ·exact wpAny_Name (wpAny_loadName_free I.ok.kind hk hc hcell fin hcd) hd
theorem Qw9{i j pos}:PE X (.Constant (.int i) j pos) (tC (.int i)):=λ_ _ _ H _ I h=>wpAny_Constant_int ⟨.int i,H,I.tok _,⟨_,rfl⟩,h⟩
theorem QtE{b j pos}:PE X (.Constant (.bool b) j pos) (tC (.bl b)):=λ_ _ _ H _ I h=>Constant_bool ⟨.bl b,H,I,rfl,h⟩
theorem Qxu{j pos}:PE X (.Constant .none j pos) (tC .non):=λ_ _ _ H _ I h=>Constant_none ⟨.non,H,I,rfl,h⟩
theorem Qxg{x j pos}:PE X (.Constant (.str x) j pos) (tC (.str x)):=λ_ _ _ H _ I h=>Calls.Constant_str ⟨.str x,H,I.tok _,⟨_,rfl⟩,h⟩
def Gl(X:Cx)(x:Str):Prop:=X.env.kindOf x=some .globalImplicit
theorem Qdq{E:Value->Shared->Prop}{pins:List (Addr×Obj)}{s:Shared}{σ:St}{H:Hp}{x:Str}{u:Value}{pos:Pos}{Q:Value->Shared->Prop}(I:Inv X pins σ H s)(hg:Gl X x)(hm:X.mg x=some u)(h:Q u s)
  (hd:(x == ("__debug__" :Str))=false:=by decide):wpAny (model X.prog X.w) X.A (eval (.Name x pos) X.env) Q E s:=
 Calls.Name_function_global I.ok.kind hg (Calls.loadGlobal_global (by rw[I.ok.glob];exact I.mod.glob.keeps I.bk) hm h) hd
theorem QeN{E:Value->Shared->Prop}{pins:List (Addr×Obj)}{s:Shared}{σ:St}{H:Hp}{x:Str}{u:Value}{pos:Pos}{Q:Value->Shared->Prop}(I:Inv X pins σ H s)(hg:Gl X x)(hm:X.mg x=none)(hv:bootBuiltins x=some u)(h:Q u s)
  (hn:x≠ "__name__" :=by decide) (hd:(x == ("__debug__" :Str))=false:=by decide):wpAny (model X.prog X.w) X.A (eval (.Name x pos) X.env) Q E s:=by
 obtain⟨mb,h1,h2⟩:=I.mod.blt
 exact Calls.Name_function_global I.ok.kind hg (Calls.loadGlobal_builtin (by rw[I.ok.glob];exact I.mod.glob.keeps I.bk) hm (by rw[I.ok.blt];exact h1.keeps I.bk) ((h2 x hn).trans hv) h) hd
theorem Qvs{x:Str}{v:V}{u:Value}{pos:Pos}(hg:Gl X x)(hm:X.mg x=some u)(r:RelV v u)(hd:(x == ("__debug__" :Str))=false:=by decide):PE X (.Name x pos) (tC v):=
 λ_ _ _ H _ I h=>Qdq I hg hm ⟨v,H,I,r,h⟩ hd
theorem QfA{x:Str}{v:V}{u:Value}{pos:Pos}(hg:Gl X x)(hm:X.mg x=none)(hv:bootBuiltins x=some u)(r:RelV v u)(hn:x≠ "__name__" :=by decide)(hd:(x == ("__debug__" :Str))=false:=by decide):PE X (.Name x pos) (tC v):=
 λ_ _ _ H _ I h=>QeN I hg hm hv ⟨v,H,I,r,h⟩ hn hd
variable {a b:Expr}{ta tb:TE}{pos:Pos}
variable {tA tB':TT}{rest:List Expr}
noncomputable def QzW(t u:TT):TT:=λσ H Q=>t σ H λc H1=>if c=true then u σ H1 Q else Q false H1
noncomputable def tOr(t u:TT):TT:=λσ H Q=>t σ H λc H1=>if c=true then Q true H1 else u σ H1 Q
noncomputable def Qy7(t:TT):TT:=λσ H Q=>t σ H λc H1=>Q (!c) H1
theorem QuZ(ha:PT X a tA):PW X (.BoolOp .And [a] pos) tA:=by
 intro wh pins s σ H Q I h
 refine isTrue_and (thn (ha pins s σ H Q I h) λc s1 e=>?_)
 cases c with
 | true=>exact isTrue_and_nil e
 | false=>exact e
theorem QxH(ha:PT X a tA):PW X (.BoolOp .Or [a] pos) tA:=by
 intro wh pins s σ H Q I h
 refine isTrue_or (thn (ha pins s σ H Q I h) λc s1 e=>?_)
 cases c with
 | false=>exact isTrue_or_nil e
 | true=>exact e
theorem Qv5(ha:PT X a tA)(hb:PW X (.BoolOp .And (b::rest) pos) tB'):PW X (.BoolOp .And (a::b::rest) pos) (QzW tA tB'):=by
 intro wh pins s σ H Q I h
 refine isTrue_and (thn (ha pins s σ H _ I h) λc s1 hpt=>?_)
 obtain⟨H1,I1,q1⟩:=hpt
 cases c with
 | true=>exact hb wh pins s1 σ H1 Q I1 q1
 | false=>exact⟨H1,I1,q1⟩
theorem QyN(ha:PT X a tA)(hb:PW X (.BoolOp .Or (b::rest) pos) tB'):PW X (.BoolOp .Or (a::b::rest) pos) (tOr tA tB'):=by
 intro wh pins s σ H Q I h
 refine isTrue_or (thn (ha pins s σ H _ I h) λc s1 hpt=>?_)
 obtain⟨H1,I1,q1⟩:=hpt
 cases c with
 | true=>exact⟨H1,I1,q1⟩
 | false=>exact hb wh pins s1 σ H1 Q I1 q1
theorem Qxv(ha:PT X a tA):PT X (.UnaryOp .Not a pos) (Qy7 tA):=by
 intro pins s σ H Q I h
 exact isTrue_not (ha pins s σ H (λc H1=>Q (!c) H1) I h)
theorem Qxf{op}{t:TE}(h:PE X a t):PE X (.BoolOp op [a] pos) t:=λpins s σ H Q I hw=>BoolOp_one (h pins s σ H Q I hw)
noncomputable def tIf(t:TT)(ta tb:TE):TE:=λσ H Q=>t σ H λc H1=>if c=true then ta σ H1 Q else tb σ H1 Q
theorem Qs6{c:Expr}(hc:PT X c tA)(ha:PE X a ta)(hb:PE X b tb):PE X (.IfExp c a b pos) (tIf tA ta tb):=by
 intro pins s σ H Q I h
 refine wpAny_IfExp (thn (hc pins s σ H _ I h) λd s1 hpt=>?_)
 obtain⟨H1,I1,q1⟩:=hpt
 cases d with
 | true=>exact ha pins s1 σ H1 Q I1 q1
 | false=>exact hb pins s1 σ H1 Q I1 q1
end
end L2
namespace L2
open PySem PySem.Spec PyProof.Rows
def SqL(K:PySem.W.Frag)(H:Hp)(a:Addr)(xs:List V):Prop:=
 Rd H a (.lst xs)∨
  ∃(o:Obj) (its:Array Value) (n:Nat),K.lookup a=some o/\o.cls= .type "list" /\o.dict=none/\o.data= .seq its n/\its.size<=sizeLine/\Qw xs its.toList
def SqT(K:PySem.W.Frag)(H:Hp)(a:Addr)(xs:List V):Prop:=
 Rd H a (.tup xs)∨
  ∃(o:Obj) (its:Array Value) (n:Nat),K.lookup a=some o/\o.cls= .type "tuple" /\o.data= .seq its n/\its.size<=sizeLine/\Qw xs its.toList
noncomputable def QzE:Value->Option V
 | .none=>some .non
 | .bool b=>some (.bl b)
 | .int i _=>some (.int i)
 | .str x _=>some (.str x)
 | .bytes b _=>some (.byt b)
 | .float b _=>some (.flt b)
 | .ref a=>some (.ref a)
 | .type n=>some (.ty n)
 | _=>none
theorem RelV.abs{x:V}{u:Value}(r:RelV x u):QzE u=some x:=by
 cases x with
 | non=>cases r;rfl
 | bl _=>cases r;rfl
 | int _=>obtain⟨t,rfl⟩:=r;rfl
 | str _=>obtain⟨t,rfl⟩:=r;rfl
 | byt _=>obtain⟨t,rfl⟩:=r;rfl
 | flt _=>obtain⟨t,rfl⟩:=r;rfl
 | ref _=>cases r;rfl
 | ty _=>cases r;rfl
theorem RelV.inj{x y:V}{u:Value}(r:RelV x u)(q:RelV y u):x=y:=Option.some.inj (r.abs.symm.trans q.abs)
theorem Qw.inj:∀{xs ys:List V}{us:List Value},Qw xs us->Qw ys us->xs=ys
 | _,_,_,.nil,.nil=>rfl
 | _,_,_,.cons r t,.cons r' t'=>by rw[r.inj r',Qw.inj t t']
section
variable {X:Cx}{pins:List (Addr×Obj)}{σ:St}{H:Hp}{s:Shared}{a:Addr}{xs ys:List V}
theorem SqL.of{K:PySem.W.Frag}(h:H a=some (.lst xs)):SqL K H a xs:= .inl (.inl h)
theorem SqT.of{K:PySem.W.Frag}(h:H a=some (.tup xs)):SqT K H a xs:= .inl (.inl h)
theorem Inv.list(I:Inv X pins σ H s)(h:SqL X.K H a xs):∃its:List Value,Qw xs its/\PlainL s.heap a its.toArray/\xs.length<=sizeLine:=by
 rcases h with h | ⟨o,its,n,hk,hc,hd,hs,hz,r⟩
 ·obtain⟨z,its,n,r,e⟩:=h.ok I.hok
  exact⟨its,r,⟨_,n,e,rfl,rfl,rfl⟩,z⟩
 ·refine⟨its.toList,r,⟨o,n,I.kIn a o hk,hc,hd,by simpa using hs⟩,?_⟩
  have e:=r.length
  simp only[Zat]at e
  omega
theorem Inv.tuple(I:Inv X pins σ H s)(h:SqT X.K H a xs):∃its:List Value,Qw xs its/\IsTup s.heap a its.toArray/\xs.length<=sizeLine:=by
 rcases h with h | ⟨o,its,n,hk,hc,hs,hz,r⟩
 ·obtain⟨z,its,r,p⟩:=h.ok I.hok
  exact⟨its,r,p,z⟩
 ·refine⟨its.toList,r,⟨o,I.kIn a o hk,hc,n,by simpa using hs⟩,?_⟩
  have e:=r.length
  simp only[Zat]at e
  omega
theorem Inv.Qf6(I:Inv X pins σ H s)(h:SqL X.K H a xs)(h':SqL X.K H a ys):xs=ys:=by
 obtain⟨its,r,⟨o,n,e,_,_,d⟩,_⟩:=I.list h
 obtain⟨its',r',⟨o',n',e',_,_,d'⟩,_⟩:=I.list h'
 rw[e]at e';cases e'
 rw[d]at d'
 injection d' with d1 _
 have:its=its':=by simpa using congrArg Array.toList d1
 subst this
 exact r.inj r'
theorem Inv.QpT(I:Inv X pins σ H s)(h:SqT X.K H a xs)(h':SqT X.K H a ys):xs=ys:=by
 obtain⟨its,r,⟨o,e,_,n,d⟩,_⟩:=I.tuple h
 obtain⟨its',r',⟨o',e',_,n',d'⟩,_⟩:=I.tuple h'
 rw[e]at e';cases e'
 rw[d]at d'
 injection d' with d1 _
 have:its=its':=by simpa using congrArg Array.toList d1
 subst this
 exact r.inj r'
end
noncomputable abbrev Cx.QdH(X:Cx)(E:Value->Shared->Prop):Cx:={X with xe:=E}
noncomputable abbrev Cx.nox(X:Cx):Cx:=X.QdH λ_ _=>False
theorem Cx.Ok.QdH{X:Cx}(ok:X.Ok)(E:Value->Shared->Prop):(X.QdH E).Ok:=
 ⟨ok.mod,ok.kind,ok.glob,ok.blt,ok.above,ok.inj,ok.has,ok.cab,ok.hd,ok.frames,ok.stk,ok.exf,ok.bs,ok.bsz,ok.noex,ok.exfs,ok.QcW,ok.frf⟩
theorem Cx.Ok.Qc3{X:Cx}{E:Value->Shared->Prop}(ok:(X.QdH E).Ok):X.Ok:=
 ⟨ok.mod,ok.kind,ok.glob,ok.blt,ok.above,ok.inj,ok.has,ok.cab,ok.hd,ok.frames,ok.stk,ok.exf,ok.bs,ok.bsz,ok.noex,ok.exfs,ok.QcW,ok.frf⟩
section
variable {X:Cx}{pins:List (Addr×Obj)}{σ:St}{H:Hp}{s:Shared}{E:Value->Shared->Prop}
theorem Inv.QdH(I:Inv X pins σ H s)(E:Value->Shared->Prop):Inv (X.QdH E) pins σ H s:=⟨I.ok.QdH E,I.os,I.bare,I.base,I.loc,I.cell,I.free,I.freeC,I.pin,I.hok,I.len⟩
theorem Inv.Qc3(I:Inv (X.QdH E) pins σ H s):Inv X pins σ H s:=⟨I.ok.Qc3,I.os,I.bare,I.base,I.loc,I.cell,I.free,I.freeC,I.pin,I.hok,I.len⟩
theorem SP.Qc3{D:Ends}{f:Flow}{s':Shared}(h:SP (X.QdH E) pins D f s'):SP X pins D f s':=by
 cases f with
 | next=>obtain⟨σ',H',I,q⟩:=h;exact⟨σ',H',I.Qc3,q⟩
 | brk=>obtain⟨σ',H',I,q⟩:=h;exact⟨σ',H',I.Qc3,q⟩
 | cont=>obtain⟨σ',H',I,q⟩:=h;exact⟨σ',H',I.Qc3,q⟩
 | ret u=>obtain⟨v,σ',H',I,r,q⟩:=h;exact⟨v,σ',H',I.Qc3,r,q⟩
theorem PE.nox{e:Expr}{t:TE}(h:PE X.nox e t):PE X e t:=λpins s σ H Q I hw=>
 wpAny_mono (h pins s σ H Q (I.QdH _) hw) (λ_ _ ⟨v,H',I',r,q⟩=>⟨v,H',I'.Qc3,r,q⟩) λ_ _ z=>False.elim z
theorem PT.nox{e:Expr}{t:TT}(h:PT X.nox e t):PT X e t:=λpins s σ H Q I hw=>
 wpAny_mono (h pins s σ H Q (I.QdH _) hw) (λ_ _ ⟨H',I',q⟩=>⟨H',I'.Qc3,q⟩) λ_ _ z=>False.elim z
theorem PSs.nox{st:List Stmt}{t:TS}(h:PSs X.nox st t):PSs X st t:=λpins s σ H D I hw=>
 wpAny_mono (h pins s σ H D (I.QdH _) hw) (λ_ _ q=>q.Qc3) λ_ _ z=>False.elim z
end
section
variable {X:Cx}{st:Stmt}{rest:List Stmt}{t u:TS}{e:Expr}{te:TE}{pos:Pos}
noncomputable def QoI:TS:=λD σ H=>D.nx σ H
noncomputable def QzH(t u:TS):TS:=λD σ H=>t {D with nx:=u D} σ H
theorem Qup:PSs X [] QoI:=λ_ _ σ H _ I h=>wpAny_execs_nil ⟨σ,H,I,h⟩
theorem QlL(h1:PS X st t)(h2:PSs X rest u):PSs X (st::rest) (QzH t u):=by
 intro pins s σ H D I h
 refine wpAny_execs_cons (thn (h1 pins s σ H {D with nx:=u D} I h) λf s1 q=>?_)
 cases f with
 | next=>
  obtain⟨σ',H',I',q⟩:=q
  exact h2 pins s1 σ' H' D I' q
 | ret v=>exact q
 | brk=>exact q
 | cont=>exact q
noncomputable def QwI:TS:=λD σ H=>D.bk σ H
noncomputable def Qyw:TS:=λD σ H=>D.ct σ H
theorem QuF:PS X (.Pass pos) QoI:=λ_ _ σ H _ I h=>wpAny_Pass ⟨σ,H,I,h⟩
theorem QsA:PS X (.Break pos) QwI:=λ_ _ σ H _ I h=>wpAny_Break ⟨σ,H,I,h⟩
theorem QnA:PS X (.Continue pos) Qyw:=λ_ _ σ H _ I h=>wpAny_Continue ⟨σ,H,I,h⟩
theorem Inv.quiet{pins:List (Addr×Obj)}{σ:St}{H:Hp}{s:Shared}(I:Inv X pins σ H s):interactive X.env=false:=by simp[interactive,I.ok.kind]
theorem QxR{x j pos pos'}:PS X (.Expr (.Constant (.str x) j pos) pos') QoI:=λ_ s σ H _ I h=>wpAny_Expr (Calls.Constant_str (show SP X _ _ .next {s with toks:=s.toks+1}from⟨σ,H,I.tok _,h⟩)) I.quiet
noncomputable def Qoe(te:TE):TS:=λD σ H=>te σ H λ_ H1=>D.nx σ H1
theorem Qjp(he:PE X e te)(hs:swapsWith e none pos.line X.env=pure false:=by rfl):PS X (.Expr e pos) (Qoe te):=by
 intro pins s σ H D I h
 exact wpAny_Expr_any (thn (he pins s σ H _ I h) λv s1 ⟨x,H1,I1,r1,q1⟩=>⟨σ,H1,I1,q1⟩) I.quiet hs
noncomputable def QzA(te:TE):TS:=λD σ H=>te σ H D.rt
theorem QqN(he:PE X e te):PS X (.Return (some e) pos) (QzA te):=by
 intro pins s σ H D I h
 exact wpAny_Return_some (thn (he pins s σ H _ I h) λv s1 ⟨x,H1,I1,r1,q1⟩=>⟨x,σ,H1,I1,r1,q1⟩)
noncomputable def Qy8(c:TT)(t u:TS):TS:=λD σ H=>c σ H λb H1=>if b=true then t D σ H1 else u D σ H1
theorem Qtd{c:Expr}{a b:List Stmt}{tc:TT}(hc:PT X c tc)(ha:PSs X a t)(hb:PSs X b u):PS X (.If c a b pos) (Qy8 tc t u):=by
 intro pins s σ H D I h
 refine wpAny_If (thn (hc pins s σ H _ I h) λd s1 hpt=>?_)
 obtain⟨H1,I1,q1⟩:=hpt
 cases d with
 | true=>exact ha pins s1 σ H1 D I1 q1
 | false=>exact hb pins s1 σ H1 D I1 q1
noncomputable def Qv3:TS:=λ_ _ _=>False
theorem QrD:PS X st Qv3:=λ_ _ _ _ _ _ h=>h.elim
end
noncomputable abbrev TG:=V->St->Hp->(St->Hp->Prop)->Prop
noncomputable abbrev TGs:=List V->St->Hp->(St->Hp->Prop)->Prop
def PG(X:Cx)(target:Expr)(t:TG):Prop:=
 ∀(pins:List (Addr×Obj)) (s:Shared) (σ:St) (H:Hp) (v:V) (u:Value) (Q:St->Hp->Prop),Inv X pins σ H s->RelV v u->t v σ H Q→
  wpAny (model X.prog X.w) X.A (assign target X.env u) (λ_ s'=>∃σ' H',Inv X pins σ' H' s'/\Q σ' H') X.xe s
def PGs(X:Cx)(ts:List Expr)(t:TGs):Prop:=
 ∀(pins:List (Addr×Obj)) (s:Shared) (σ:St) (H:Hp) (vs:List V) (us:List Value) (Q:St->Hp->Prop),Inv X pins σ H s->Qw vs us->t vs σ H Q→
  wpAny (model X.prog X.w) X.A (assignInOrder ((assignEach ts X.env).map (·.2)) us) (λ_ s'=>∃σ' H',Inv X pins σ' H' s'/\Q σ' H') X.xe s
noncomputable abbrev Ql2:=V->V->V->Hp->(Hp->Prop)->Prop
def Qrt(X:Cx)(t:Ql2):Prop:=
 ∀(pins:List (Addr×Obj)) (s:Shared) (σ:St) (H:Hp) (o i v:V) (ov iv u:Value) (Q:Hp->Prop),Inv X pins σ H s->RelV o ov->RelV i iv->RelV v u->t o i v H Q→
  wpAny (model X.prog X.w) X.A (setItem ov iv u) (λ_ s'=>∃H',Inv X pins σ H' s'/\Q H') X.xe s
noncomputable abbrev TIp:=V->V->Hp->VK->Prop
def PIp(X:Cx)(op:Operator)(t:TIp):Prop:=
 ∀(pins:List (Addr×Obj)) (s:Shared) (σ:St) (H:Hp) (x y:V) (v u:Value) (Q:VK),Inv X pins σ H s->RelV x v->RelV y u->t x y H Q→
  wpAny (model X.prog X.w) X.A (inplaceOp op v u) (EP X pins σ Q) X.xe s
section
variable {X:Cx}{pos:Pos}
noncomputable def Qhe(i:Nat):TG:=λv σ H Q=>Q (σ.set i (some v)) H
theorem QnV{i:Nat}{x:Str}(hN:X.N.Nodup)(hi:X.N[i]? =some x)(hx:Loc X.env.scope x)(hf:X.fn x=true∨X.env.scope.names.lookup x=some .local :=by first | exact .inl rfl | exact .inr rfl | assumption):PG X (.Name x pos) (Qhe i):=by
 intro pins s σ H v u Q I r h
 exact wpAny_assign_Name (Qgh I hN hi hx r (λs' I'=>⟨_,H,I',h⟩) hf)
noncomputable def QwE:TGs:=λvs σ H Q=>vs=[]/\Q σ H
noncomputable def Qtw(t:TG)(u:TGs):TGs:=λvs σ H Q=>∃v r,vs=v::r/\t v σ H λσ' H'=>u r σ' H' Q
theorem QtK:PGs X [] QwE:=by
 intro pins s σ H vs us Q I r h
 obtain⟨e,h⟩:=h
 subst e
 cases r
 exact assignInOrder_nil ⟨σ,H,I,h⟩
theorem Qri{e:Expr}{es:List Expr}{t:TG}{u:TGs}(h1:PG X e t)(h2:PGs X es u)
  (hs:(assignEach (e::es) X.env).map (·.2)=assign e X.env::(assignEach es X.env).map (·.2):=by rfl):PGs X (e::es) (Qtw t u):=by
 intro pins s σ H vs us Q I r h
 obtain⟨v,vr,e1,h⟩:=h
 subst e1
 cases r with
 | cons r rr=>
  rw[hs]
  refine assignInOrder_cons (thn (h1 pins s σ H _ _ _ I r h) λ_ s1 hpt=>?_)
  obtain⟨σ1,H1,I1,q1⟩:=hpt
  exact h2 pins s1 σ1 H1 _ _ Q I1 rr q1
noncomputable def Qzy(K:PySem.W.Frag)(n:Nat)(t:TGs):TG:=λv σ H Q=>∃a xs,v= .ref a/\SqT K H a xs/\xs.length=n/\t xs σ H Q
theorem QwL{es:List Expr}{k:Nat}{t:TGs}{n:Nat}(hc:X.calm=true)(h:PGs X es t)
  (hn:(assignEach es X.env).length=n:=by rfl) (hst:(assignEach es X.env).findIdx? (·.1)=none:=by rfl):PG X (.Tuple es k pos) (Qzy X.K n t):=by
 intro pins s σ H v u Q I r hw
 obtain⟨a,xs,e1,hq,hl,hw⟩:=hw
 subst e1
 cases r
 obtain⟨its,rv,ht,hz⟩:=I.tuple hq
 refine assign_Tuple_tuple (I.ok.hd hc) ht (by simp[hn,← hl,rv.length]) hst λh' hx=>?_
 have I1:Inv X pins σ H {s with heap:=h'}:=I.kept (t':=s.toks) λb o e=>hx b o (ZN (Zv e)) e
 exact h pins _ σ H xs _ Q I1 (by simpa using rv) hw
noncomputable def QdN(to ti:TE)(t:Ql2):TG:=λv σ H Q=>to σ H λo H1=>ti σ H1 λi H2=>t o i v H2 λH3=>Q σ H3
theorem Qwc{o i:Expr}{to ti:TE}{t:Ql2}(ho:PE X o to)(hi:PE X i ti)(hs:Qrt X t)
  (ha:∀v,assign (.Subscript o i pos) X.env v=(do
   let ov ← holding [v] (eval o X.env)
   let iv ← holding [v,ov] (eval i X.env)
   standAt pos
   holding [v,ov,iv] (setItem ov iv v)
   release [v,ov,iv] []):=by intro _;rfl):PG X (.Subscript o i pos) (QdN to ti t):=by
 intro pins s σ H v u Q I r h
 rw[ha]
 refine wpAny_bind (wpAny_holding (thn (ho pins s σ H _ I h) λov s1=>exJ λx H1 I1 r1 q1=>?_))
 refine wpAny_bind (wpAny_holding (thn (hi pins s1 σ H1 _ I1 q1) λiv s2=>exJ λy H2 I2 r2 q2=>?_))
 refine wpAny_bind (wpAny_standAt (wpAny_bind (wpAny_holding (thn (hs pins s2 σ H2 x y v ov iv u _ I2 r1 r2 r q2) λ_ s3 hpt=>?_))))
 obtain⟨H3,I3,q3⟩:=hpt
 exact wpAny_release ⟨σ,H3,I3,q3⟩
noncomputable def Qlu(te:TE)(g:TG):TS:=λD σ H=>te σ H λx H1=>g x σ H1 D.nx
theorem Qw8{tg e:Expr}{te:TE}{g:TG}(he:PE X e te)(hg:PG X tg g)(hs:swapsWithSole [tg] e pos.line X.env=pure false:=by rfl)(hw:swappedStores [tg] e X.env=pure none:=by rfl)
  (h1:(assignEach [tg] X.env).map (·.2)=[assign tg X.env]:=by rfl):PS X (.Assign [tg] e pos) (Qlu te g):=by
 intro pins s σ H D I h
 refine wpAny_Assign_stores (thn (he pins s σ H _ I h) λv s1 ⟨x,H1,I1,r1,q1⟩=>?_) hs hw
 rw[h1]
 exact thn (hg pins s1 σ H1 x v _ I1 r1 q1) λ_ s2 q=>q
theorem Qd3{i:Nat}{x:Str}{e:Expr}{te:TE}{pos':Pos}(hN:X.N.Nodup)(hi:X.N[i]? =some x)(hx:Loc X.env.scope x)(he:PE X e te)(hs:swapsWith e (some (.Name x pos')) pos.line X.env=pure false:=by rfl)(hf:X.fn x=true∨X.env.scope.names.lookup x=some .local :=by first | exact .inl rfl | exact .inr rfl | assumption):
  PS X (.Assign [.Name x pos'] e pos) (Qlu te (Qhe i)):=by
 intro pins s σ H D I h
 refine wpAny_Assign_Name (thn (he pins s σ H _ I h) λv s1 ⟨y,H1,I1,r1,q1⟩=>?_) hs
 exact Qgh I1 hN hi hx r1 (λs2 I2=>⟨_,H1,I2,q1⟩) hf
noncomputable def Qyx(to ti te:TE)(tget:V->V->Hp->VK->Prop)(tip:TIp)(tset:Ql2):TS:=λD σ H=>to σ H λo H1=>ti σ H1 λi H2=>tget o i H2 λx H3=>te σ H3 λy H4=>tip x y H4 λz H5=>tset o i z H5 λH6=>D.nx σ H6
def Qxm(X:Cx)(t:V->V->Hp->VK->Prop):Prop:=
 ∀(pins:List (Addr×Obj)) (s:Shared) (σ:St) (H:Hp) (o i:V) (ov iv:Value) (Q:VK),Inv X pins σ H s->RelV o ov->RelV i iv->t o i H Q→
  wpAny (model X.prog X.w) X.A (getItem ov iv) (EP X pins σ Q) X.xe s
theorem QuN{o i e:Expr}{to ti te:TE}{tget:V->V->Hp->VK->Prop}{tip:TIp}{tset:Ql2}{op:Operator}{tpos:Pos}(ho:PE X o to)(hi:PE X i ti)(hg:Qxm X tget)(he:PE X e te)(hp:PIp X op tip)(hs:Qrt X tset)
  (ha:∀ov iv new,augStore i ov iv new=(do holding [new,ov,iv] (setItem ov iv new);release [new,ov,iv] [];pure .next):=by intros;rfl):PS X (.AugAssign (.Subscript o i tpos) op e pos) (Qyx to ti te tget tip tset):=by
 intro pins s σ H D I h
 refine wpAny_AugAssign_SubscriptAny (thn (ho pins s σ H _ I h) λov s1 ⟨x1,H1,I1,r1,q1⟩=>?_) ha
 refine thn (hi pins s1 σ H1 _ I1 q1) λiv s2=>exJ λx2 H2 I2 r2 q2=>?_
 refine thn (hg pins s2 σ H2 x1 x2 ov iv _ I2 r1 r2 q2) λold s3=>exJ λx3 H3 I3 r3 q3=>?_
 refine thn (he pins s3 σ H3 _ I3 q3) λv s4=>exJ λx4 H4 I4 r4 q4=>?_
 refine thn (hp pins s4 σ H4 x3 x4 old v _ I4 r3 r4 q4) λnew s5=>exJ λx5 H5 I5 r5 q5=>?_
 exact thn (hs pins s5 σ H5 x1 x2 x5 ov iv new _ I5 r1 r2 r5 q5) λ_ s6 ⟨H6,I6,q6⟩=>⟨σ,H6,I6,q6⟩
end
section
variable {X:Cx}{pos:Pos}
noncomputable def Qwz(c:TT)(tb:TS):TS:=λD σ H=>∃W:Nat->St->Hp->Prop,(∃m,W m σ H)/\∀m σ H,W m σ H→
 c σ H λb H1=>if b=true then ∃N:St->Hp->Prop,(∀σ' H',N σ' H'->∃m',m'<m/\W m' σ' H')/\tb {D with nx:=N,ct:=N,bk:=D.nx} σ H1 else D.nx σ H1
theorem QsR{c:Expr}{body:List Stmt}{tc:TT}{tb:TS}(hp:PassesOwn (model X.prog X.w) X.A X.env X.xe)(hc:PT X c tc)(hb:PSs X body tb):PS X (.While c body [] pos) (Qwz tc tb):=by
 intro pins s σ H D I h
 obtain⟨W,⟨m0,w0⟩,turn⟩:=h
 refine wpAny_While (codeAny_whileLoop (λn s'=>∃σ' H',Inv X pins σ' H' s'/\W n σ' H') ?_ m0 ⟨σ,H,I,w0⟩)
 rintro n s1 ⟨σ1,H1,I1,w1⟩
 refine wpAny_passesOwn hp (thn (hc pins s1 σ1 H1 _ I1 (turn n σ1 H1 w1)) λb s2 hpt=>?_)
 obtain⟨H2,I2,q2⟩:=hpt
 cases b with
 | true=>
  obtain⟨N,hN,q2⟩:=q2
  rw[if_pos rfl]
  refine wpAny_passesOwn hp (thn (hb pins s2 σ1 H2 _ I2 q2) λf s3 q3=>?_)
  cases f with
  | next=>
   obtain⟨σ3,H3,I3,n3⟩:=q3
   obtain⟨m',hm,w3⟩:=hN σ3 H3 n3
   exact⟨m',hm,σ3,H3,I3,w3⟩
  | cont=>
   obtain⟨σ3,H3,I3,n3⟩:=q3
   obtain⟨m',hm,w3⟩:=hN σ3 H3 n3
   exact⟨m',hm,σ3,H3,I3,w3⟩
  | brk=>exact q3
  | ret v=>exact q3
 | false=>
  rw[if_neg ZJ]
  exact wpAny_execs_nil ⟨σ1,H2,I2,q2⟩
end
structure It where
 go:Nat->Hp->Prop
 yld:Nat->Hp->V->Hp->Prop
 stop:Nat->Hp->Prop
def Qdz(X:Cx)(pins:List (Addr×Obj))(H:Hp)(b:Addr):Prop:=
 H b=none/\b≠X.env.locals/\b∉X.fs/\(b∈X.ex∨X.s₀.heap.objs.size<=b)/\(∀x c,X.env.cells.lookup x=some c->c≠b)/\∀p∈X.pn++pins,p.1≠b
theorem Inv.Qmw{X:Cx}{pins:List (Addr×Obj)}{σ:St}{H H':Hp}{s:Shared}{b:Addr}(I:Inv X pins σ H s)(hb:s.heap.objs.size<=b)(hn:H' b=none):Qdz X pins H' b:=by
 refine⟨hn,Nat.ne_of_gt (Zu I.lt hb),I.Qzw hb,.inr (ZD I.sz hb),λx c e z=>?_,λp hp z=>?_⟩
 ·obtain⟨v,q⟩:=I.cell x c e
  exact absurd (Zu q.lt (by rw[z];exact hb)) (Zaa _)
 ·exact absurd (Zu (Zv (I.pin p hp).1) (by rw[z];exact hb)) (Zaa _)
structure Turn (P:Program) (w:World) (K:PySem.W.Frag) (tg:Expr) (J:It) (fp:List Addr) (it:Addr) (tn:Nat->Heap->Prop):Prop where
 mem:it∈fp
 obj:∀i h,tn i h->∀b∈fp,∃o,h.get? b=some o/\∀v,o.data≠ .cell v
 keep:∀i h h',tn i h->(∀b∈fp,∀o,h.get? b=some o->h'.get? b=some o)->tn i h'
 item:∀(X:Cx),X.prog=P->X.w=w->X.K=K->X.calm=true->∀(i:Nat) (pins:List (Addr×Obj)) (s:Shared) (σ:St) (H:Hp) (E:Value->Shared->Prop),Inv X pins σ H s->(∀b∈fp,Qdz X pins H b)->tn i s.heap->J.go i H→
  wpAny (model P w) X.A (pyNext (.ref it)) (λr s1=>∃u,r=some u∧
   wpAny (model P w) X.A (letOwnedTupleGo tg (.ref it) u) (λ_ s2=>∃x H',Inv X pins σ H' s2/\RelV x u/\J.yld i H x H'/\tn (i+1) s2.heap/\∀b∈fp,H' b=none) E s1) E s
 done:∀(X:Cx),X.prog=P->X.w=w->X.K=K->X.calm=true->∀(i:Nat) (pins:List (Addr×Obj)) (s:Shared) (σ:St) (H:Hp) (E:Value->Shared->Prop),Inv X pins σ H s->(∀b∈fp,Qdz X pins H b)->tn i s.heap->J.stop i H→
  wpAny (model P w) X.A (pyNext (.ref it)) (λr s1=>r=none/\Inv X pins σ H s1) E s
 self:∀(A:Around) (i:Nat) (s:Shared) (Q:Value->Shared->Prop) (E:Value->Shared->Prop),tn i s.heap->Q (.ref it) s->wpAny (model P w) A (pyIter (.ref it)) Q E s
noncomputable abbrev TI:=St->Hp->(It->Hp->Prop)->Prop
def PIE(X:Cx)(pins:List (Addr×Obj))(σ:St)(tg:Expr)(R:It->Hp->Prop)(itv:Value)(s2:Shared):Prop:=
 ∃(it:Addr) (fp:List Addr) (tn:Nat->Heap->Prop) (J:It) (H':Hp),itv= .ref it/\Inv X pins σ H' s2/\Turn X.prog X.w X.K tg J fp it tn/\tn 0 s2.heap/\(∀b∈fp,Qdz X pins H' b)/\R J H'
def PI(X:Cx)(tg iter:Expr)(wi:TI):Prop:=
 ∀(pins:List (Addr×Obj)) (s:Shared) (σ:St) (H:Hp) (R:It->Hp->Prop),Inv X pins σ H s->wi σ H R→
  wpAny (model X.prog X.w) X.A (eval iter X.env) (λv s1=>wpAny (model X.prog X.w) X.A (pyIter v) (PIE X pins σ tg R) X.xe s1) X.xe s
theorem Qoo{M:Model}{A:Around}{E:Value->Shared->Prop}{s:Shared}{tg:Expr}{it:Addr}{u:Value}{o:Obj}{n:String}{vs:Array Value}{Q:Unit->Shared->Prop}(ho:s.heap.get? it=some o)(hc:o.cls= .type n)(hd:o.data= .fields vs)
    (hn:["enumerate","zip","dict_itemiterator","dict_reverseitemiterator","odict_iterator","itertools.zip_longest","itertools.pairwise"].contains n=false) (hQ:Q () s):wpAny M A (letOwnedTupleGo tg (.ref it) u) Q E s:=by
  unfold letOwnedTupleGo
  cases tg<;>first
    | exact wpAny_pure hQ
    | (cases u<;>first
        | exact wpAny_pure hQ
        | (refine wpAny_bind (wpAny_load ho ?_)
           rw[hc,hd]
           show wpAny M A (if(["enumerate","zip","dict_itemiterator","dict_reverseitemiterator","odict_iterator","itertools.zip_longest","itertools.pairwise"].contains n && vs[0]? == some (rawInt _))=true then _ else _) Q E s
           rw[if_neg (by intro h;rw[hn,Bool.false_and]at h;cases h)]
           exact wpAny_pure hQ))
noncomputable def Itl(K:PySem.W.Frag)(a:Addr):It:=
 ⟨λi H=>∃xs x,SqL K H a xs/\xs[i]? =some x,λi H x H'=>H'=H/\∀xs,SqL K H a xs->xs[i]? =some x,λi H=>∃xs,SqL K H a xs/\xs.length<=i⟩
noncomputable def Itt(K:PySem.W.Frag)(a:Addr):It:=
 ⟨λi H=>∃xs x,SqT K H a xs/\xs[i]? =some x,λi H x H'=>H'=H/\∀xs,SqT K H a xs->xs[i]? =some x,λi H=>∃xs,SqT K H a xs/\xs.length<=i⟩
noncomputable def Itr(lo:Int)(n:Nat):It:=⟨λi _=>i<n,λi H x H'=>H'=H/\x= .int (lo+i),λi _=>n<=i⟩
theorem QqV{P:Program}{w:World}{K:PySem.W.Frag}{tg:Expr}(a it:Addr):Turn P w K tg (Itl K a) [it] it (λi h=>h.IsListIter it a i) where
 mem:=by simp
 obj:=λi h st b hb=>by
  have e:b=it:=by simpa using hb
  subst e
  obtain⟨o,e,c,d⟩:=st
  exact⟨o,e,λv z=>by rw[d]at z;cases z⟩
 keep:=λi h h' st k=>st.at λo e=>k it (by simp) o e
 item:=by
  intro X hP hw hK hc i pins s σ H E I hf st hg
  subst hP hw hK
  obtain⟨xs,x,hq,hx⟩:=hg
  obtain⟨its,rv,p,hz⟩:=I.list hq
  obtain⟨u,hu,ru⟩:=rv.get hx
  obtain⟨f0,f1,f2,f3,f4,f5⟩:=hf it (by simp)
  refine wpAny_pyNext_list_item st p.isList (x:=u) (by simpa using hu) λh' st' sb=>?_
  have I1:Inv X pins σ H {s with heap:=h'}:=I.turned (t':=s.toks) (λb o hb e=>(sb.2 b hb).trans e) f0 f1 f3 f4 f5
  obtain⟨o,e,c,d⟩:=id st'
  exact⟨u,rfl,Qoo (s:={s with heap:=h'}) e c d (by decide) ⟨x,H,I1,ru,⟨rfl,λys hy=>by rw[I.Qf6 hy hq];exact hx⟩,st',λb hb=>(hf b hb).1⟩⟩
 done:=by
  intro X hP hw hK hc i pins s σ H E I hf st hg
  subst hP hw hK
  obtain⟨xs,hq,hx⟩:=hg
  obtain⟨its,rv,p,hz⟩:=I.list hq
  obtain⟨f0,f1,f2,f3,f4,f5⟩:=hf it (by simp)
  have hl:=rv.length
  exact wpAny_pyNext_list_end (I.ok.hd hc) st p.isList (by simp;omega) λh' eb=>⟨rfl,I.turned (t':=s.toks) (λb o hb e=>eb b o hb e) f0 f1 f3 f4 f5⟩
 self:=λ_ _ _ _ _ st h=>wpAny_pyIter_listiter st h
theorem QoS{P:Program}{w:World}{K:PySem.W.Frag}{tg:Expr}(a it:Addr):Turn P w K tg (Itt K a) [it] it (λi h=>h.IsTupleIter it a i) where
 mem:=by simp
 obj:=λi h st b hb=>by
  have e:b=it:=by simpa using hb
  subst e
  obtain⟨o,e,c,d⟩:=st
  exact⟨o,e,λv z=>by rw[d]at z;cases z⟩
 keep:=λi h h' st k=>st.at λo e=>k it (by simp) o e
 item:=by
  intro X hP hw hK hc i pins s σ H E I hf st hg
  subst hP hw hK
  obtain⟨xs,x,hq,hx⟩:=hg
  obtain⟨its,rv,p,hz⟩:=I.tuple hq
  obtain⟨u,hu,ru⟩:=rv.get hx
  obtain⟨f0,f1,f2,f3,f4,f5⟩:=hf it (by simp)
  refine wpAny_pyNext_tuple_item st (show s.heap.IsTuple a its.toArray from p) (x:=u) (by simpa using hu) λh' st' sb=>?_
  have I1:Inv X pins σ H {s with heap:=h'}:=I.turned (t':=s.toks) (λb o hb e=>(sb.2 b hb).trans e) f0 f1 f3 f4 f5
  obtain⟨o,e,c,d⟩:=id st'
  exact⟨u,rfl,Qoo (s:={s with heap:=h'}) e c d (by decide) ⟨x,H,I1,ru,⟨rfl,λys hy=>by rw[I.QpT hy hq];exact hx⟩,st',λb hb=>(hf b hb).1⟩⟩
 done:=by
  intro X hP hw hK hc i pins s σ H E I hf st hg
  subst hP hw hK
  obtain⟨xs,hq,hx⟩:=hg
  obtain⟨its,rv,p,hz⟩:=I.tuple hq
  obtain⟨f0,f1,f2,f3,f4,f5⟩:=hf it (by simp)
  have hl:=rv.length
  exact wpAny_pyNext_tuple_end (I.ok.hd hc) st (show s.heap.IsTuple a its.toArray from p) (by simp;omega) λh' eb=>⟨rfl,I.turned (t':=s.toks) (λb o hb e=>eb b o hb e) f0 f1 f3 f4 f5⟩
 self:=λ_ _ _ _ _ st h=>wpAny_pyIter_tupleiter st h
theorem Qof{P:Program}{w:World}{K:PySem.W.Frag}{tg:Expr}(it:Addr)(lo:Int)(n:Nat):Turn P w K tg (Itr lo n) [it] it (λi h=>IsRangeIter h it (lo+(i:Nat)*1) ((n:Int)-(i:Nat)) 1) where
 mem:=by simp
 obj:=λi h st b hb=>by
  have e:b=it:=by simpa using hb
  subst e
  exact⟨_,st,λv z=>by
   have z':Data.fields _=Data.cell v:=z
   cases z'⟩
 keep:=λi h h' st k=>k it (by simp) _ st
 item:=by
  intro X hP hw hK hc i pins s σ H E I hf st hg
  subst hP hw hK
  obtain⟨f0,f1,f2,f3,f4,f5⟩:=hf it (by simp)
  have W:=Walks.range (prog:=X.prog) (w:=X.w) (I.ok.hd hc) it lo 1 n
  refine W.item i s _ _ hg st λv h' tk hv st' kk=>?_
  obtain⟨t,rfl⟩:=hv
  have I1:Inv X pins σ H {s with heap:=h',toks:=tk}:=I.turned (λb o hb e=>kk b o (by simpa using hb) e) f0 f1 f3 f4 f5
  refine⟨_,rfl,Qoo (s:={s with heap:=h',toks:=tk}) (n:= "range_iterator") st' rfl rfl (by decide) ⟨.int (lo+i),H,I1,⟨t,?_⟩,⟨rfl,rfl⟩,st',λb hb=>(hf b hb).1⟩⟩
  rw[Zbq]
 done:=by
  intro X hP hw hK hc i pins s σ H E I hf st hg
  subst hP hw hK
  obtain⟨f0,f1,f2,f3,f4,f5⟩:=hf it (by simp)
  exact wpAny_pyNext_range_end (I.ok.hd hc) st (by have:n<=i:=hg;omega) λh' eb=>⟨rfl,I.turned (t':=s.toks) (λb o hb e=>eb b o hb e) f0 f1 f3 f4 f5⟩
 self:=λ_ _ _ _ _ st h=>wpAny_pyIter_rangeiter st h
end L2
namespace L2
open PySem PySem.Spec PyProof.Rows
section
variable {X:Cx}{tg:Expr}
theorem Qr0{pins:List (Addr×Obj)}{σ:St}{H:Hp}{s:Shared}{R:It->Hp->Prop}{E:Value->Shared->Prop}{lo hi:Int}{t u v:Tok}{tk:Nat}(I:Inv X pins σ H s)(h1: -(2^62)<=lo)(h2:lo<2^62)(h3: -(2^62)<=hi)(h4:hi<2^62)
  (q:R (Itr lo (hi-lo).toNat) H):wpAny (model X.prog X.w) X.A (pyIter (.ref s.heap.objs.size)) (PIE X pins σ tg R) E {s with heap:=s.heap.push {cls:= .type "range",data:= .fields #[.int lo t,.int hi u,.int 1 v]},toks:=tk}:=by
 refine wpAny_pyIter_range (IsRange.new ..) (small_one h1 h2 h3 h4) ?_
 have I1:Inv X pins σ H {s with heap:=s.heap.push {cls:= .type "range",data:= .fields #[.int lo t,.int hi u,.int 1 v]},toks:=tk}:=I.kept λb o e=>Zs _ e
 refine⟨(s.heap.push {cls:= .type "range",data:= .fields #[.int lo t,.int hi u,.int 1 v]}).objs.size,[(s.heap.push {cls:= .type "range",data:= .fields #[.int lo t,.int hi u,.int 1 v]}).objs.size],_,_,H,rfl,
  I1.kept (t':=tk) λb o e=>Zs _ e,Qof _ lo (hi-lo).toNat,?_,λb hb=>?_,q⟩
 ·have e1:lo+((0:Nat):Int)*1=lo:=by simp
  have e2:(((hi-lo).toNat:Nat):Int)-((0:Nat):Int)=Builtin.Range.rangeSize lo hi 1:=by rw[rangeSize_one];split<;>omega
  show IsRangeIter _ _ (lo+((0:Nat):Int)*1) ((((hi-lo).toNat:Nat):Int)-((0:Nat):Int)) 1
  rw[e1,e2]
  exact ZL _ rfl
 ·have e:b=(s.heap.push {cls:= .type "range",data:= .fields #[.int lo t,.int hi u,.int 1 v]}).objs.size:=by simpa using hb
  subst e
  exact I1.Qmw (Zn _) (I1.hok.fresh (Zn _))
noncomputable def QyV(ta:TA):TI:=λσ H R=>ta σ H λvs H1=>∃j:Int,vs=[.int j]/\ -(2^62)<=j/\j<2^62/\R (Itr 0 j.toNat) H1
theorem QpS{a:Expr}{ta:TA}{p pos:Pos}(hg:Gl X "range")(hm:X.mg "range" =none)(ha:PA X [a] ta)(hs:starEach [a] X.env=[(false,eval a X.env)]:=by rfl):PI X tg (.Call (.Name "range" p) [a] [] pos) (QyV ta):=by
 intro pins s σ H R I h
 refine Call_ (QeN I hg hm boot_range (Zaz (thn (ha pos pins s σ H _ I h) λus s1 ⟨vs,H1,I1,r1,q1⟩=>?_) hs rfl))
 obtain⟨j,e,q1,q2,q⟩:=q1
 subst e
 cases r1 with
 | cons r rr=>
  cases rr
  obtain⟨t,rfl⟩:=r
  exact call_range_1 (Qr0 I1 (by omega) (by omega) q1 q2 (by simpa using q))
noncomputable def QzN(wi:TI)(g:TG)(tb:TS):TS:=λD σ H=>wi σ H λJ H1=>∃W:Nat->Nat->St->Hp->Prop,(∃m,W 0 m σ H1)/\∀i m σ H,W i m σ H→
 (J.stop i H/\D.nx σ H)∨(J.go i H/\∃N:St->Hp->Prop,(∀σ' H',N σ' H'->∃m',m'<m/\W (i+1) m' σ' H')/\∀x H',J.yld i H x H'->g x σ H' λσ2 H2=>tb {D with nx:=N,ct:=N,bk:=D.nx} σ2 H2)
noncomputable def QgJ(fp:List Addr)(h:Heap):List (Addr×Obj):=fp.filterMap λb=>(h.get? b).map λo=>(b,o)
theorem Qgj{fp:List Addr}{h:Heap}{b:Addr}{o:Obj}(hb:b∈fp)(e:h.get? b=some o):(b,o)∈QgJ fp h:=ZaR.mpr ⟨b,hb,by rw[e];rfl⟩
theorem Qq1{fp:List Addr}{h:Heap}{p:Addr×Obj}(hp:p∈QgJ fp h):p.1∈fp/\h.get? p.1=some p.2:=by
 obtain⟨b,hb,e⟩:=ZaR.mp hp
 cases q:h.get? b with
 | none=>rw[q]at e;cases e
 | some o=>
  rw[q]at e
  have e':(b,o)=p:=Option.some.inj e
  subst e'
  exact⟨hb,q⟩
theorem Inv.pinned{pins:List (Addr×Obj)}{σ:St}{H:Hp}{s:Shared}{fp:List Addr}(I:Inv X pins σ H s)(hf:∀b∈fp,Qdz X pins H b)(ho:∀b∈fp,∃o,s.heap.get? b=some o/\∀v,o.data≠ .cell v):Inv X (pins++QgJ fp s.heap) σ H s:=
 I.Qn6 λp hp=>(Zo.mp hp).elim (λz=>I.pin p (Ze _ z)) λz=>by
  obtain⟨hb,e⟩:=Qq1 z
  obtain⟨f0,f1,f2,_⟩:=hf p.1 hb
  obtain⟨o,e',d⟩:=ho p.1 hb
  rw[e]at e';cases e'
  exact⟨e,f0,f1,f2,d⟩
theorem Inv.Qf4{pins pl:List (Addr×Obj)}{σ:St}{H:Hp}{s:Shared}(I:Inv X (pins++pl) σ H s):Inv X pins σ H s:=I.Qn6 λp hp=>I.pin p (Ze _ (Zd _ hp))
theorem Qpv{iter:Expr}{body:List Stmt}{wi:TI}{g:TG}{tb:TS}{pos:Pos}(hp:PassesOwn (model X.prog X.w) X.A X.env X.xe)(hc:X.calm=true)(hi:PI X tg iter wi)(hg:PG X tg g)(hb:PSs X body tb)
  (hs:∀x,foldedSetIterable iter X.env x=pure x:=by intro _;rfl):PS X (.For tg iter body [] pos) (QzN wi g tb):=by
 intro pins s σ H D I h
 refine wpAny_For (thn (hi pins s σ H _ I h) λv s1 h1=>thn h1 λitv s2 h2=>?_) hs
 obtain⟨it,fp,tn,J,H2,e,I2,T,st2,f2,W,⟨m0,w0⟩,turn⟩:=h2
 subst e
 have stat:∀{H':Hp},(∀b∈fp,H' b=none)->∀b∈fp,Qdz X pins H' b:=λhn b hb=>⟨hn b hb,(f2 b hb).2⟩
 refine codeAny_forLoop_any (λn s'=>∃i σ' H',Inv X pins σ' H' s'/\tn i s'.heap/\(∀b∈fp,H' b=none)/\W i n σ' H') ?_ m0 ⟨0,σ,H2,I2,st2,λb hb=>(f2 b hb).1,w0⟩
 rintro n s3 ⟨i,σ3,H3,I3,st3,fr3,w3⟩
 rcases turn i n σ3 H3 w3 with⟨stop,qn⟩ | ⟨go,N,hN,step⟩
 ·refine wpAny_passesOwn hp (thn (T.done X rfl rfl rfl hc i pins s3 σ3 H3 X.xe I3 (stat fr3) st3 stop) λr s4 hpt=>?_)
  obtain⟨hr,I4⟩:=hpt
  subst hr
  exact wpAny_execs_nil ⟨σ3,H3,I4,qn⟩
 ·refine wpAny_passesOwn hp (thn (T.item X rfl rfl rfl hc i pins s3 σ3 H3 X.xe I3 (stat fr3) st3 go) λr s4 hpt=>?_)
  obtain⟨u,hr,h4⟩:=hpt
  subst hr
  refine wpAny_passesOwn hp (thn h4 λ_ s5 hpt=>?_)
  obtain⟨x,H5,I5,r5,y5,st5,fr5⟩:=hpt
  have I5':=I5.pinned (stat fr5) (T.obj _ _ st5)
  refine wpAny_passesOwn hp (thn (hg _ s5 σ3 H5 x u _ I5' r5 (step x H5 y5)) λ_ s6 hpt=>?_)
  obtain⟨σ6,H6,I6,q6⟩:=hpt
  refine wpAny_passesOwn hp (thn (hb _ s6 σ6 H6 _ I6 q6) λf s7 q7=>?_)
  have again:∀{σ7:St}{H7:Hp},Inv X (pins++QgJ fp s5.heap) σ7 H7 s7->N σ7 H7->∃m,m<n/\∃i σ' H',Inv X pins σ' H' s7/\tn i s7.heap/\(∀b∈fp,H' b=none)/\W i m σ' H':=λ{σ7 H7} I7 n7=>by
   obtain⟨m',hm,w7⟩:=hN σ7 H7 n7
   refine⟨m',hm,i+1,σ7,H7,I7.Qf4,T.keep _ _ _ st5 λb hb o e=>(I7.pin (b,o) (Ze _ (Ze _ (Qgj hb e)))).1,λb hb=>?_,w7⟩
   obtain⟨o,e,d⟩:=T.obj _ _ st5 b hb
   exact(I7.pin (b,o) (Ze _ (Ze _ (Qgj hb e)))).2.1
  cases f with
  | next=>obtain⟨σ7,H7,I7,n7⟩:=q7;exact again I7 n7
  | cont=>obtain⟨σ7,H7,I7,n7⟩:=q7;exact again I7 n7
  | brk=>obtain⟨σ7,H7,I7,q7⟩:=q7;exact⟨σ7,H7,I7.Qf4,q7⟩
  | ret v=>obtain⟨x7,σ7,H7,I7,r7,q7⟩:=q7;exact⟨x7,σ7,H7,I7.Qf4,r7,q7⟩
end
end L2
namespace L2
open PySem PySem.Spec PyProof.Rows
noncomputable abbrev R2:=V->V->Hp->VK->Prop
def OpR(X:Cx)(f:Value->Value->Sem Value)(r:R2):Prop:=
 ∀(pins:List (Addr×Obj)) (s:Shared) (σ:St) (H:Hp) (x y:V) (v u:Value) (Q:VK),Inv X pins σ H s->RelV x v->RelV y u->r x y H Q→
  wpAny (model X.prog X.w) X.A (f v u) (EP X pins σ Q) X.xe s
def UnR(X:Cx)(f:Value->Sem Value)(r:V->Hp->VK->Prop):Prop:=
 ∀(pins:List (Addr×Obj)) (s:Shared) (σ:St) (H:Hp) (x:V) (v:Value) (Q:VK),Inv X pins σ H s->RelV x v->r x H Q→
  wpAny (model X.prog X.w) X.A (f v) (EP X pins σ Q) X.xe s
def Qbf(X:Cx)(f:Value)(r:List V->Hp->VK->Prop):Prop:=
 ∀(pins:List (Addr×Obj)) (s:Shared) (σ:St) (H:Hp) (xs:List V) (us:List Value) (Q:VK),Inv X pins σ H s->Qw xs us->r xs H Q→
  wpAny (model X.prog X.w) X.A (call f us) (EP X pins σ Q) X.xe s
def Qzf(X:Cx)(r:V->Hp->(Bool->Hp->Prop)->Prop):Prop:=
 ∀(pins:List (Addr×Obj)) (s:Shared) (σ:St) (H:Hp) (x:V) (v:Value) (Q:Bool->Hp->Prop),Inv X pins σ H s->RelV x v->r x H Q→
  wpAny (model X.prog X.w) X.A (truthy v) (TP X pins σ Q) X.xe s
noncomputable def tOp(r:R2)(ta tb:TE):TE:=λσ H Q=>ta σ H λx H1=>tb σ H1 λy H2=>r x y H2 Q
noncomputable def tUn(r:V->Hp->VK->Prop)(ta:TE):TE:=λσ H Q=>ta σ H λx H1=>r x H1 Q
noncomputable def rI(C:Int->Int->Prop)(g:Int->Int->V):R2:=λx y H Q=>∃i j,x= .int i/\y= .int j/\C i j/\Q (g i j) H
noncomputable def rI0(g:Int->Int->V):R2:=λx y H Q=>∃i j,x= .int i/\y= .int j/\Q (g i j) H
noncomputable def rU(g:Int->V):V->Hp->VK->Prop:=λx H Q=>∃i,x= .int i/\Q (g i) H
section
variable {X:Cx}{a b c:Expr}{ta tb tc:TE}{pos:Pos}
theorem Qse(ha:PE X a ta)(hb:PE X b tb){pins:List (Addr×Obj)}{s:Shared}{σ:St}{H:Hp}{R:V->V->Hp->Prop}(I:Inv X pins σ H s)
  (h:ta σ H λx H1=>tb σ H1 λy H2=>R x y H2) {Q:Value->Shared->Prop}{f:Value->Value->Sem Value}
  (hf:∀v u s2 x y H2,Inv X pins σ H2 s2->RelV x v->RelV y u->R x y H2->wpAny (model X.prog X.w) X.A (f v u) Q X.xe s2):
  wpAny (model X.prog X.w) X.A (eval a X.env) (λv s₁=>wpAny (model X.prog X.w) X.A (eval b X.env) (λu s₂=>wpAny (model X.prog X.w) X.A (f v u) Q X.xe s₂) X.xe s₁) X.xe s:=by
 refine thn (ha pins s σ H _ I h) λv s1=>exJ λx H1 I1 r1 q1=>?_
 refine thn (hb pins s1 σ H1 _ I1 q1) λu s2=>exJ λy H2 I2 r2 q2=>?_
 exact hf v u s2 x y H2 I2 r1 r2 q2
theorem QoB{op:Operator}{r:R2}(ho:OpR X (binaryOp op) r)(ha:PE X a ta)(hb:PE X b tb):PE X (.BinOp a op b pos) (tOp r ta tb):=by
 intro pins s σ H Q I h
 exact wpAny_BinOp (Qse ha hb I h λv u s2 x y H2 I2 rx ry q=>ho pins s2 σ H2 x y v u Q I2 rx ry q)
theorem QyA{op:UnaryOp}{r:V->Hp->VK->Prop}(ho:UnR X (unaryOp op) r)(ha:PE X a ta):PE X (.UnaryOp op a pos) (tUn r ta):=by
 intro pins s σ H Q I h
 exact UnaryOp_ (thn (ha pins s σ H _ I h) λv s1 ⟨x,H1,I1,r1,q1⟩=>ho pins s1 σ H1 x v Q I1 r1 q1)
theorem Qzj{op:Operator}{r:R2}(ho:OpR X (inplaceOp op) r){pins:List (Addr×Obj)}{s:Shared}{σ:St}{H:Hp}{x y:V}{v u:Value}{Q:VK}(I:Inv X pins σ H s)
  (rx:RelV x v) (ry:RelV y u) (q:r x y H Q):wpAny (model X.prog X.w) X.A (inplaceOp op v u) (EP X pins σ Q) X.xe s:=ho pins s σ H x y v u Q I rx ry q
theorem opI{f:Value->Value->Sem Value}{C:Int->Int->Prop}{g:Int->Int->Int}
  (rule:∀(i j:Int) (t u:Tok) (s:Shared) (Q:Value->Shared->Prop) (E:Value->Shared->Prop),C i j->Q (.int (g i j) s.toks) {s with toks:=s.toks+1}->wpAny (model X.prog X.w) X.A (f (.int i t) (.int j u)) Q E s):
  OpR X f (rI C λi j=> .int (g i j)):=by
 intro pins s σ H x y v u Q I rx ry h
 obtain⟨i,j,rfl,rfl,hc,q⟩:=h
 obtain⟨t,rfl⟩:=rx
 obtain⟨t',rfl⟩:=ry
 exact rule i j t t' s _ _ hc ⟨.int (g i j),H,I.tok _,⟨_,rfl⟩,q⟩
theorem Qow{f:Value->Value->Sem Value}{g:Int->Int->Int}
  (rule:∀(i j:Int) (t u:Tok) (s:Shared) (Q:Value->Shared->Prop) (E:Value->Shared->Prop),Q (.int (g i j) s.toks) {s with toks:=s.toks+1}->wpAny (model X.prog X.w) X.A (f (.int i t) (.int j u)) Q E s):
  OpR X f (rI0 λi j=> .int (g i j)):=by
 intro pins s σ H x y v u Q I rx ry h
 obtain⟨i,j,rfl,rfl,q⟩:=h
 obtain⟨t,rfl⟩:=rx
 obtain⟨t',rfl⟩:=ry
 exact rule i j t t' s _ _ ⟨.int (g i j),H,I.tok _,⟨_,rfl⟩,q⟩
theorem QoW{f:Value->Value->Sem Value}{g:Int->Int->Bool}
  (rule:∀(i j:Int) (t u:Tok) (s:Shared) (Q:Value->Shared->Prop) (E:Value->Shared->Prop),Q (.bool (g i j)) s->wpAny (model X.prog X.w) X.A (f (.int i t) (.int j u)) Q E s):
  OpR X f (rI0 λi j=> .bl (g i j)):=by
 intro pins s σ H x y v u Q I rx ry h
 obtain⟨i,j,rfl,rfl,q⟩:=h
 obtain⟨t,rfl⟩:=rx
 obtain⟨t',rfl⟩:=ry
 exact rule i j t t' s _ _ ⟨.bl (g i j),H,I,rfl,q⟩
def Qwn(i j:Int):Prop:=(-(2^64)<i/\i<2^64)∨(-(2^64)<j/\j<2^64)
theorem Qwn.ok{i j:Int}(h:Qwn i j):IntMulOk i j:=by
 rcases h with⟨h1,h2⟩ | ⟨h1,h2⟩
 ·exact .of_left (intBits_le_64 h1 h2)
 ·exact .of_right (intBits_le_64 h1 h2)
theorem QxA:OpR X (binaryOp .Add) (rI0 λi j=> .int (i+j)):=Qow λ_ _ _ _ _ _ _ q=>add_int q
theorem Qwf:OpR X (binaryOp .Sub) (rI0 λi j=> .int (i-j)):=Qow λ_ _ _ _ _ _ _ q=>sub_int q
theorem QuO:OpR X (inplaceOp .Add) (rI0 λi j=> .int (i+j)):=Qow λ_ _ _ _ _ _ _ q=>iadd_int q
theorem Qvu:OpR X (inplaceOp .Sub) (rI0 λi j=> .int (i-j)):=Qow λ_ _ _ _ _ _ _ q=>isub_int q
theorem unI{f:Value->Sem Value}{g:Int->Int}
  (rule:∀(i:Int) (t:Tok) (s:Shared) (Q:Value->Shared->Prop) (E:Value->Shared->Prop),Q (.int (g i) s.toks) {s with toks:=s.toks+1}->wpAny (model X.prog X.w) X.A (f (.int i t)) Q E s):
  UnR X f (rU λi=> .int (g i)):=by
 intro pins s σ H x v Q I rx h
 obtain⟨i,rfl,q⟩:=h
 obtain⟨t,rfl⟩:=rx
 exact rule i t s _ _ ⟨.int (g i),H,I.tok _,⟨_,rfl⟩,q⟩
theorem QwB:UnR X (unaryOp .USub) (rU λi=> .int (-i)):=unI λ_ _ _ _ _ q=>neg_int q
end
section
variable {X:Cx}{a b c:Expr}{ta tb tc:TE}{pos:Pos}
theorem Qx3:OpR X (compareOp .Lt) (rI0 λi j=> .bl (decide (i<j))):=QoW λ_ _ _ _ _ _ _ q=>lt_int q
theorem Qyk:OpR X (compareOp .LtE) (rI0 λi j=> .bl (decide (i<=j))):=QoW λ_ _ _ _ _ _ _ q=>le_int q
theorem QyJ:OpR X (compareOp .Gt) (rI0 λi j=> .bl (decide (j<i))):=QoW λ_ _ _ _ _ _ _ q=>gt_int q
theorem Qx2:OpR X (compareOp .GtE) (rI0 λi j=> .bl (decide (j<=i))):=QoW λ_ _ _ _ _ _ _ q=>ge_int q
theorem OpR.or{f:Value->Value->Sem Value}{r r':R2}(h:OpR X f r)(h':OpR X f r'):OpR X f (λx y H Q=>r x y H Q∨r' x y H Q):=by
 intro pins s σ H x y v u Q I rx ry q
 rcases q with q | q
 ·exact h pins s σ H x y v u Q I rx ry q
 ·exact h' pins s σ H x y v u Q I rx ry q
theorem Qz4(b:Expr){op:CmpOp}(h:op≠ .In:=by decide)(h2:op≠ .NotIn:=by decide):behindInMarks op b=false:=by
 have e1:(op == CmpOp.In)=false:=by cases op<;>first | rfl | exact absurd rfl h
 have e2:(op == CmpOp.NotIn)=false:=by cases op<;>first | rfl | exact absurd rfl h2
 cases b<;>simp[behindInMarks,e1,e2]
theorem QtL{op:CmpOp}{r:R2}(ho:OpR X (compareOp op) r)(ha:PE X a ta)(hb:PE X b tb)(hm:behindInMarks op b=false):PE X (.Compare a [op] [b] pos) (tOp r ta tb):=by
 intro pins s σ H Q I h
 exact wpAny_Compare1 (Qse ha hb I h λv u s2 x y H2 I2 rx ry q=>ho pins s2 σ H2 x y v u Q I2 rx ry q) hm
noncomputable def Qyu(t:TE):TT:=λσ H Q=>t σ H λx H'=>∃k,x= .bl k/\Q k H'
theorem Qvo{op:CmpOp}{r:R2}(ho:OpR X (compareOp op) r)(ha:PE X a ta)(hb:PE X b tb)(hm:behindInMarks op b=false):PT X (.Compare a [op] [b] pos) (Qyu (tOp r ta tb)):=by
 intro pins s σ H Q I h
 refine wpAny_isTrue_Compare1 (thn (ha pins s σ H _ I h) λv s1 ⟨x,H1,I1,r1,q1⟩=>thn (hb pins s1 σ H1 _ I1 q1) λu s2 ⟨y,H2,I2,r2,q2⟩=>
  thn (ho pins s2 σ H2 x y v u _ I2 r1 r2 q2) λc s3 ⟨z,H3,I3,r3,k,e,q3⟩=>?_) hm
 subst e
 cases r3
 exact wpAny_truthy_bool ⟨H3,I3,q3⟩
def Qsp(K:PySem.W.Frag)(x:V)(H:Hp)(k:Bool):Prop:=
 match x with
 | .non=>k=false
 | .bl b=>k=b
 | .int i=>k=(i != 0)
 | .str y=>y.length<=sizeLine/\k=((y.length:Int) != 0)
 | .byt y=>y.size<=sizeLine/\k=((y.size:Int) != 0)
 | .ref p=>(∃xs,SqL K H p xs/\k= !xs.isEmpty)∨(∃xs,SqT K H p xs/\k= !xs.isEmpty)∨∃kvs,H p=some (.dK kvs)/\k= !kvs.isEmpty
 | _=>False
theorem QoH{κ:Type}{kvs:List (κ×V)}{vs:List (κ×Value)}(r:KV kvs vs):(!vs.isEmpty)= !kvs.isEmpty:=by
 cases r<;>rfl
theorem QiY{xs:List V}{its:List Value}(r:Qw xs its):(!its.toArray.isEmpty)= !xs.isEmpty:=by
 cases r<;>simp
theorem QfJ:(sizeLine:Nat)<2^63:=by rw[sizeLine_eq];decide
theorem Qjb:Qzf X (λx H Q=>∃k,Qsp X.K x H k/\Q k H):=by
 intro pins s σ H x v Q I rx h
 obtain⟨k,e,q⟩:=h
 have hl:=QfJ
 have hs:sizeLine=16777216:=sizeLine_eq
 cases x with
 | non=>
  cases rx
  have e':k=false:=e
  subst e'
  exact truthy_none ⟨H,I,q⟩
 | bl b=>
  cases rx
  have e':k=b:=e
  subst e'
  exact wpAny_truthy_bool ⟨H,I,q⟩
 | int i=>
  obtain⟨t,rfl⟩:=rx
  have e':k=(i != 0):=e
  subst e'
  exact PySem.P.truthy_int ⟨H,I,q⟩
 | str y=>
  obtain⟨t,rfl⟩:=rx
  obtain⟨hy,e'⟩:y.length<=sizeLine/\k=((y.length:Int) != 0):=e
  subst e'
  exact PySem.P.truthy_str (by omega) ⟨H,I.tok _,q⟩
 | byt y=>
  obtain⟨t,rfl⟩:=rx
  obtain⟨hy,e'⟩:y.size<=sizeLine/\k=((y.size:Int) != 0):=e
  subst e'
  exact PySem.W.truthy_bytes (by omega) ⟨H,I.tok _,q⟩
 | ref p=>
  cases rx
  have e':(∃xs,SqL X.K H p xs/\k= !xs.isEmpty)∨(∃xs,SqT X.K H p xs/\k= !xs.isEmpty)∨∃kvs,H p=some (.dK kvs)/\k= !kvs.isEmpty:=e
  rcases e' with⟨xs,hx,e'⟩ | ⟨xs,hx,e'⟩ | ⟨kvs,hx,e'⟩
  ·subst e'
   obtain⟨its,r,pl,hz⟩:=I.list hx
   have hlen:=r.length
   exact wpAny_truthy_list pl.isList (by simp only[Zx];omega) ⟨H,I.tok _,by rw[QiY r];exact q⟩
  ·subst e'
   obtain⟨its,r,pl,hz⟩:=I.tuple hx
   have hlen:=r.length
   exact truthy_tuple pl (by simp only[Zx];omega) ⟨H,I.tok _,by rw[QiY r];exact q⟩
  ·subst e'
   obtain⟨hz,hS,vs,r,m⟩:kvs.length<=sizeLine/\(p == sysModules)=false/\∃vs,KV kvs vs/\s.heap.DictOf (Qjt X.prog X.w) p vs:=I.hok p _ hx
   have hlen:kvs.length=vs.length:=Paired.length r
   exact wpAny_truthy_dict hS m (by omega) ⟨H,I.tok _,by rw[QoH r];exact q⟩
 | _=>exact(show False from e).elim
theorem QsT(ha:PE X a ta)(he:∀whole,isTrue a X.env whole=(do let v ← whole;standAt a.pos;holding [v] (truthy v))):
  PT X a (λσ H Q=>ta σ H λx H'=>∃k,Qsp X.K x H' k/\Q k H'):=by
 intro pins s σ H Q I h
 exact isTrue_plain (thn (ha pins s σ H _ I h) λv s1 ⟨x,H1,I1,r1,q1⟩=>Qjb pins s1 σ H1 x v Q I1 r1 q1) (he _)
theorem vals1{x:V}{us:List Value}(r:Qw [x] us):∃u,us=[u]/\RelV x u:=by
 cases r with
 | cons r1 r2=>cases r2;exact⟨_,rfl,r1⟩
theorem vals2{x y:V}{us:List Value}(r:Qw [x,y] us):∃u w',us=[u,w']/\RelV x u/\RelV y w':=by
 cases r with
 | cons r1 r2=>
  cases r2 with
  | cons r3 r4=>cases r4;exact⟨_,_,rfl,r1,r3⟩
theorem QpK(hc:X.calm=true):Qbf X (.builtin "max") (λxs H Q=>∃i j,xs=[.int i,.int j]/\Q (.int (if j>i then j else i)) H):=by
 intro pins s σ H xs us Q I r h
 obtain⟨i,j,rfl,q⟩:=h
 obtain⟨u,w',rfl,⟨t,rfl⟩,⟨t',rfl⟩⟩:=vals2 r
 refine max_two_ints (I.ok.hd hc) λh' tk k=>⟨_,H,I.kept k,?_,q⟩
 by_cases hj:j>i
 ·rw[if_pos hj,if_pos hj];exact⟨_,rfl⟩
 ·rw[if_neg hj,if_neg hj];exact⟨_,rfl⟩
theorem Qqt(hc:X.calm=true):Qbf X (.builtin "min") (λxs H Q=>∃i j,xs=[.int i,.int j]/\Q (.int (if j<i then j else i)) H):=by
 intro pins s σ H xs us Q I r h
 obtain⟨i,j,rfl,q⟩:=h
 obtain⟨u,w',rfl,⟨t,rfl⟩,⟨t',rfl⟩⟩:=vals2 r
 refine min_two_ints (I.ok.hd hc) λh' tk k=>⟨_,H,I.kept k,?_,q⟩
 by_cases hj:j<i
 ·rw[if_pos hj,if_pos hj];exact⟨_,rfl⟩
 ·rw[if_neg hj,if_neg hj];exact⟨_,rfl⟩
theorem QqG:Qbf X (.type "int") (λxs H Q=>(∃i,xs=[.int i]/\Q (.int i) H)∨∃k,xs=[.bl k]/\Q (.int (if k then 1 else 0)) H):=by
 intro pins s σ H xs us Q I r h
 rcases h with⟨i,rfl,q⟩ | ⟨k,rfl,q⟩
 ·obtain⟨u,rfl,t,rfl⟩:=vals1 r
  exact call_int_int ⟨.int i,H,I,⟨_,rfl⟩,q⟩
 ·obtain⟨u,rfl,r1⟩:=vals1 r
  cases r1
  exact call_int_bool ⟨.int (if k then 1 else 0),H,I.tok _,⟨_,rfl⟩,q⟩
end
end L2
namespace L2
open PySem PySem.Spec PyProof.Rows
structure Qh2 (h:Heap) (x dx C:Addr) (mA:Str->Option Value):Prop where
 obj:h.get? x=some (PySem.W.instObj C dx)
 ns:h.Ns1 dx mA
 ne:dx≠x
theorem QqH{h:Heap}{dx:Addr}{mA:Str->Option Value}(n:h.Ns1 dx mA):∃od,h.get? dx=some od/\∀name,PySem.W.lookIn name od=some (mA name):=by
 obtain⟨o,es,ep,ho,hd,hk,_,hm⟩:=n
 refine⟨o,ho,λname=>?_⟩
 have e:=hm name
 unfold nsFind findBy at e
 rw[← Array.find?_toList]at e
 unfold PySem.W.lookIn
 rw[hd]
 dsimp only
 split
 ·rename_i y q
  rw[q]at e
  exact congrArg some e
 ·rename_i q
  rw[q]at e
  have a:es.toList.any (·.refKey)=false:=by
   rw[List.any_eq_false]
   intro y hy
   obtain⟨z,t,hkey⟩:=hk y (Array.mem_toList_iff.mp hy)
   simp[DictEntry.refKey,hkey]
  have a':¬es.toList.any (·.refKey)=true:=by rw[a];exact ZJ
  rw[if_neg a']
  exact congrArg some e
theorem Qh2.look{h:Heap}{x dx C:Addr}{mA:Str->Option Value}(I:Qh2 h x dx C mA):∃od,PySem.W.InstAt h x (PySem.W.instObj C dx) C (some od)/\∀name,PySem.W.lookIn name od=some (mA name):=
 let ⟨od,ho,hl⟩:=QqH I.ns
 ⟨od,⟨I.obj,rfl,rfl,ho⟩,hl⟩
section
variable {prog:Program}{w:World}{A:Around}{E:Value->Shared->Prop}{s:Shared}{K:PySem.W.Frag}{x dx C f:Addr}{mA:Str->Option Value}{name:Str}{v:Value}
theorem get_map{expr:Bool}{Q:Value->Shared->Prop}(X:K.In s.heap)(I:Qh2 s.heap x dx C mA)(hg:PySem.W.plainGet K C name=true)(hh:PySem.W.hasDictIn K C=true)
  (ha:PySem.W.findIn K (.ref C) name=some none) (hv:mA name=some v) (hv':PySem.W.handedIn v=true) (h:Q v {s with toks:=s.toks+1}):
  wpAny (model prog w) A (getAttr (.ref x) name expr) Q E s:=by
 obtain⟨od,J,hl⟩:=I.look
 exact PySem.W.get_value X J (Zbm hg).1 (PySem.W.findObj_own hh ha rfl (by rw[hl,hv])) hv' h
theorem Qrr{pl:Sem Bool}{Q:Value×List Value->Shared->Prop}(X:K.In s.heap)(I:Qh2 s.heap x dx C mA)(hg:PySem.W.plainGet K C name=true)
  (hf:PySem.W.findIn K (.ref C) name=some (some (.ref f))) (ht:PySem.W.isFn K (.ref f)=true) (hv:mA name=none) (h:Q (.ref f,[.ref x]) s):
  wpAny (model prog w) A (getMethod (.ref x) name pl) Q E s:=by
 obtain⟨od,J,hl⟩:=I.look
 exact PySem.W.method_fn X J (Zbm hg).1 (Zbm hg).2 hf (beq_iff_eq.mp ht) (by show(PySem.W.lookIn name od).map (·.isSome)=some false;rw[hl,hv];rfl) h
theorem Qut{ns:List Str}{Q:Unit->Shared->Prop}(X:K.In s.heap)(I:Qh2 s.heap x dx C mA)
  (hs:PySem.W.findIn K (.ref C) "__setattr__" =some (some (.builtin "object.__setattr__"))) (hp:PySem.W.plainOver K C=true) (ht:PySem.W.takerIn K C name=some none) (hh:PySem.W.hasDictIn K C=true)
  (hw:PySem.Within mA ns) (hsz:ns.length<=sizeLine)
  (h:∀h',Qh2 h' x dx C (λy=>if y=name then some v else mA y)->Heap.SameBut dx s.heap h'->Q () {s with heap:=h',toks:=s.toks+2}):
  wpAny (model prog w) A (setAttr (.ref x) name v) Q E s:=by
 obtain⟨od,J,hl⟩:=I.look
 refine PySem.W.set_plain X J hs (PySem.W.osa_open (s:={s with toks:=s.toks+1}) (r:=none) X J hp ht λb=>?_)
 obtain⟨cd,hc,hd'⟩:=PySem.W.any_some hh
 have hx:s.heap.get? x=some ⟨.ref C,some dx,.plain,#[]⟩:=I.obj
 refine wpAny_bind (wpAny_pure (wpAny_bind (wpAny_bind (wpAny_loadPart hx (wpAny_bind (PySem.W.Looks.here (s:={s with toks:=s.toks+1}) (PySem.W.looks_clsIn X hc) ?_))))))
 rw[hd']
 refine wpAny_pure (a:=some dx) (wpAny_bind (wpAny_pure (wpAny_bind ?_)))
 refine wpAny_nsSet1 (s:={s with toks:=s.toks+1}) I.ns λh' hn2 hs2=>?_
 obtain⟨oD,esD,epD,hoD,hdD,hcD⟩:=hn2.count (PySem.Within.cons name v hw)
 refine wpAny_bind (wpAny_lookBehind hoD (by rw[hdD];exact pastItsLine_dict (ZD hcD (by rw[Zk];omega))) ?_)
 exact wpAny_pure (h _ ⟨(hs2.2 _ (Ne.symm I.ne)).trans I.obj,hn2,I.ne⟩ hs2)
theorem QsK{R:Result->Shared->Prop}{vs:List Value}{kw:List (Str×Value)}(X:K.In s.heap)(hm:PySem.W.makesIn K C=true)
  (hi:PySem.W.findIn K (.ref C) "__init__" =some (some (.ref f))) (hf:PySem.W.typeIn K (.ref f)=some (.type "function"))
  (h:codeAny (model prog w) (A.under (.builtin "type.__call__" ⟨.ref C::vs,kw⟩)) (.call (.ref f) ⟨.ref (s.heap.objs.size+1)::vs,kw⟩) (PySem.W.InitBack (s.heap.objs.size+1) R)
   {s with heap:=(s.heap.push PySem.W.emptyDict).push (PySem.W.instObj C s.heap.objs.size)}):
  codeAny (model prog w) A (.call (.ref C) ⟨vs,kw⟩) R s:=by
 obtain⟨hh,g,d,t,os⟩:=s
 exact PySem.W.make_core (ZbB X hm) (PySem.W.looks_findIn X hi) (λself=>PySem.W.bind_fn X self hf) (.inl rfl) h
theorem Qqw{R:Result->Shared->Prop}(X:K.In s.heap)(hm:PySem.W.makesIn K C=true)
  (hi:PySem.W.findIn K (.ref C) "__init__" =some (some (.builtin "object.__init__")))
  (hb:∀self,PySem.W.Looks (model prog w) s.heap (bindSpecial (.builtin "object.__init__") self) (.builtin "object.__init__",[self]))
  (h:codeAny (model prog w) (A.under (.builtin "type.__call__" ⟨[.ref C],[]⟩)) (.call (.builtin "object.__init__") ⟨[.ref (s.heap.objs.size+1)],[]⟩) (PySem.W.InitBack (s.heap.objs.size+1) R)
   {s with heap:=(s.heap.push PySem.W.emptyDict).push (PySem.W.instObj C s.heap.objs.size)}):
  codeAny (model prog w) A (.call (.ref C) ⟨[],[]⟩) R s:=by
 obtain⟨hh,g,d,t,os⟩:=s
 exact PySem.W.make_core (ZbB X hm) (PySem.W.looks_findIn X hi) hb (.inr ⟨rfl,rfl⟩) h
end
noncomputable def Qba(f:Str)(v:V):List (Str×V)->List (Str×V)
 | []=>[(f,v)]
 | (g,x)::r=>if g=f then(g,v)::r else(g,x)::Qba f v r
theorem QhJ(f g:Str)(v:V):∀fs:List (Str×V),(Qba f v fs).lookup g=if g=f then some v else fs.lookup g
 | []=>by
  show List.lookup g [(f,v)]=_
  by_cases h:g=f
  ·have hb:(g == f)=true:=beq_iff_eq.mpr h
   simp only[List.lookup,hb,if_pos h]
  ·have hb:(g == f)=false:=beq_eq_false_iff_ne.mpr h
   simp only[List.lookup,hb,if_neg h]
 | (k,x)::r=>by
  have ih:=QhJ f g v r
  rw[show Qba f v ((k,x)::r)=(if k=f then(k,v)::r else(k,x)::Qba f v r)from rfl]
  by_cases hk:k=f
  ·rw[if_pos hk]
   by_cases h:g=k
   ·have hb:(g == k)=true:=beq_iff_eq.mpr h
    simp only[List.lookup,hb,if_pos (h.trans hk)]
   ·have hb:(g == k)=false:=beq_eq_false_iff_ne.mpr h
    simp only[List.lookup,hb,if_neg (λe:g=f=>h (e.trans hk.symm))]
  ·rw[if_neg hk]
   by_cases h:g=k
   ·have hb:(g == k)=true:=beq_iff_eq.mpr h
    simp only[List.lookup,hb,if_neg (λe:g=f=>hk (h.symm.trans e))]
   ·have hb:(g == k)=false:=beq_eq_false_iff_ne.mpr h
    simp only[List.lookup,hb]
    exact ih
theorem QgF(f:Str)(v:V):∀fs:List (Str×V),f∈(Qba f v fs).map (·.1)/\∀g,g∈fs.map (·.1)->g∈(Qba f v fs).map (·.1)
 | []=>⟨by simp[Qba],λg h=>by simp at h⟩
 | (k,x)::r=>by
  obtain⟨i1,i2⟩:=QgF f v r
  rw[show Qba f v ((k,x)::r)=(if k=f then(k,v)::r else(k,x)::Qba f v r)from rfl]
  by_cases hk:k=f
  ·rw[if_pos hk]
   subst hk
   exact⟨by simp,λg h=>by simpa using h⟩
  ·rw[if_neg hk]
   refine⟨?_,λg h=>?_⟩
   ·rw[Zq]
    exact Zb _ i1
   ·rw[Zq]at h ⊢
    rcases Zl.mp h with e | e
    ·exact Zl.mpr (.inl e)
    ·exact Zb _ (i2 g e)
theorem QhT(f:Str)(v:V):∀fs:List (Str×V),(Qba f v fs).length<=fs.length+1
 | []=>by simp[Qba]
 | (k,x)::r=>by
  have ih:=QhT f v r
  rw[show Qba f v ((k,x)::r)=(if k=f then(k,v)::r else(k,x)::Qba f v r)from rfl]
  by_cases hk:k=f
  ·rw[if_pos hk,Zk,Zk];omega
  ·rw[if_neg hk,Zk,Zk];omega
theorem Qc0.some_of{v:V}{o:Option Value}(r:Qc0 (some v) o):∃u,o=some u/\RelV v u:=by
 cases o with
 | none=>exact(show False from r).elim
 | some u=>exact⟨u,rfl,r⟩
theorem Qc0.none_of{o:Option Value}(r:Qc0 none o):o=none:=by
 cases o with
 | none=>rfl
 | some u=>exact(show False from r).elim
theorem Qp6{v:V}{u:Value}(r:RelV v u):PySem.W.handedIn u=true:=by
 cases v with
 | non=>cases(show u=Value.none from r);rfl
 | bl b=>cases(show u=Value.bool b from r);rfl
 | int i=>obtain⟨t,e⟩:=(show ∃t,u=Value.int i t from r);cases e;rfl
 | str x=>obtain⟨t,e⟩:=(show ∃t,u=Value.str x t from r);cases e;rfl
 | byt b=>obtain⟨t,e⟩:=(show ∃t,u=Value.bytes b t from r);cases e;rfl
 | flt b=>obtain⟨t,e⟩:=(show ∃t,u=Value.float b t from r);cases e;rfl
 | ref a=>cases(show u=Value.ref a from r);rfl
 | ty n=>cases(show u=Value.type n from r);rfl
section
variable {P:Program}{w:World}{H H':Hp}{h h':Heap}{a C dx:Addr}{fs fs':List (Str×V)}
theorem QjV(hok:HOk P w H h)(e:H a=some (.ins C dx fs)):∃mA,Qh2 h a dx C mA/\(∀f,Qc0 (fs.lookup f) (mA f))/\PySem.Within mA (fs.map (·.1))/\fs.length<=1000/\H dx=some (.own a):=by
 obtain⟨d,z,ne,ob,mA,n,r,q⟩:=(show QbB P w H h a (.ins C dx fs)from hok a _ e)
 exact⟨mA,⟨ob,n,ne⟩,r,q,z,d⟩
end
structure Cls (K:PySem.W.Frag) (C:Addr):Prop where
 pg:PySem.W.plainGet K C Str.empty=true
 hd:PySem.W.hasDictIn K C=true
 po:PySem.W.plainOver K C=true
 sa:PySem.W.findIn K (.ref C) "__setattr__" =some (some (.builtin "object.__setattr__"))
theorem Cls.get{K:PySem.W.Frag}{C:Addr}(c:Cls K C)(f:Str):PySem.W.plainGet K C f=true:=c.pg
def QbX(K:PySem.W.Frag)(C:Addr)(f:Str):Prop:=PySem.W.findIn K (.ref C) f=some none
theorem QbX.Qx1{K:PySem.W.Frag}{C:Addr}{f:Str}(n:QbX K C f):PySem.W.takerIn K C f=some none:=by
 unfold PySem.W.takerIn
 rw[show PySem.W.findIn K (.ref C) f=some none from n]
 rfl
structure Con (K:PySem.W.Frag) (C:Addr) (f:Str) (v:V) (u:Value):Prop where
 at_:PySem.W.findIn K (.ref C) f=some (some u)
 rel:RelV v u
 get:PySem.W.specialIn K u "__get__" =some none
 cp:PySem.W.copiedNames.contains f=false
structure QjE (K:PySem.W.Frag) (C:Addr) (m:Str) (f:Addr):Prop where
 at_:PySem.W.findIn K (.ref C) m=some (some (.ref f))
 fn:PySem.W.isFn K (.ref f)=true
 kp:PySem.W.keepIn K (.ref f)=true
section
variable {X:Cx}{pins:List (Addr×Obj)}{σ:St}{H:Hp}{s:Shared}{a C dx:Addr}{fs:List (Str×V)}{f:Str}{v:V}{A:Around}{E:Value->Shared->Prop}
theorem QiP{b:Bool}{Q:Value->Shared->Prop}(I:Inv X pins σ H s)(e:H a=some (.ins C dx fs))(c:Cls X.K C)(n:QbX X.K C f)(l:fs.lookup f=some v)
  (h:∀u s',Inv X pins σ H s'->RelV v u->Q u s'):wpAny (model X.prog X.w) A (getAttr (.ref a) f b) Q E s:=by
 obtain⟨mA,O,r,_,_,_⟩:=QjV I.hok e
 obtain⟨u,hu,ru⟩:=Qc0.some_of (v:=v) (o:=mA f) (by rw[← l];exact r f)
 exact get_map I.kIn O (c.get f) c.hd n hu (Qp6 ru) (h u _ (I.tok _) ru)
theorem QoK{m:Str}{g:Addr}{pl:Sem Bool}{Q:Value×List Value->Shared->Prop}(I:Inv X pins σ H s)(e:H a=some (.ins C dx fs))(c:Cls X.K C)(k:QjE X.K C m g)(l:fs.lookup m=none)
  (h:Q (.ref g,[.ref a]) s):wpAny (model X.prog X.w) A (getMethod (.ref a) m pl) Q E s:=by
 obtain⟨mA,O,r,_,_,_⟩:=QjV I.hok e
 have hn:mA m=none:=Qc0.none_of (by rw[← l];exact r m)
 exact Qrr I.kIn O (c.get m) k.at_ k.fn hn h
theorem QiK{y:V}{u:Value}{Q:Unit->Shared->Prop}(I:Inv X pins σ H s)(e:H a=some (.ins C dx fs))(c:Cls X.K C)(n:QbX X.K C f)(hl:fs.length<1000)(ry:RelV y u)
  (h:∀s',Inv X pins σ (upd H a (.ins C dx (Qba f y fs))) s'->Q () s'):wpAny (model X.prog X.w) A (setAttr (.ref a) f u) Q E s:=by
 obtain⟨mA,O,r,wi,_,ho⟩:=QjV I.hok e
 have hz:(fs.map (·.1)).length<=sizeLine:=by rw[Zm,sizeLine_eq];omega
 refine Qut I.kIn O c.sa c.po n.Qx1 c.hd wi hz λh' O' sb=>h _ ?_
 have hd:∃o,h'.get? dx=some o:=let ⟨o,_,_,e',_⟩:=O'.ns;⟨o,e'⟩
 refine I.write (x:=a) (e:=dx) (by rw[e];exact True.intro) (.inr ho) (λb q hb z=>(sb.2 b hb).trans z) hd ?_
 refine⟨by rw[QF O.ne];exact ho,?_,O.ne,O'.obj,_,O'.ns,λg=>?_,λg hg=>?_⟩
 ·have:=QhT f y fs;omega
 ·show Qc0 ((Qba f y fs).lookup g) (if g=f then some u else mA g)
  rw[QhJ]
  by_cases q:g=f
  ·rw[if_pos q,if_pos q];exact ry
  ·rw[if_neg q,if_neg q];exact r g
 ·by_cases q:g=f
  ·rw[q];exact(QgF f y fs).1
  ·refine(QgF f y fs).2 g (wi g λz=>hg ?_)
   show(if g=f then some u else mA g)=none
   rw[if_neg q];exact z
theorem Inv.made(I:Inv X pins σ H s):Inv X pins σ (upd (upd H s.heap.objs.size (.own (s.heap.objs.size+1))) (s.heap.objs.size+1) (.ins C s.heap.objs.size []))
  {s with heap:=(s.heap.push PySem.W.emptyDict).push (PySem.W.instObj C s.heap.objs.size)}:=by
 have e1:(s.heap.push PySem.W.emptyDict).get? s.heap.objs.size=some PySem.W.emptyDict:=ZL s.heap rfl
 have e2:((s.heap.push PySem.W.emptyDict).push (PySem.W.instObj C s.heap.objs.size)).get? (s.heap.objs.size+1)=some (PySem.W.instObj C s.heap.objs.size):=by
  have:=ZL (s.heap.push PySem.W.emptyDict) (o:=PySem.W.instObj C s.heap.objs.size) rfl
  rwa[ZaD]at this
 have e3:(s.heap.push PySem.W.emptyDict).Ns s.heap.objs.size (λ_=>none):=⟨PySem.W.emptyDict,#[],_,e1,rfl,(λe he=>absurd he (by simp)),λ_=>rfl⟩
 have I1:=I.laid (a:=s.heap.objs.size) (o:= .own (s.heap.objs.size+1)) (h':=s.heap.push PySem.W.emptyDict) (t':=s.toks) (λb u q=>Zs _ q) (Zn _) ⟨_,e1⟩
 refine I1.laid (a:=s.heap.objs.size+1) (o:= .ins C s.heap.objs.size []) (t':=s.toks) (λb u q=>Zs _ q) (Nat.le_of_eq (ZaD _ _)) ?_
 have ne:s.heap.objs.size≠s.heap.objs.size+1:=ZN (ZaB _)
 refine⟨by rw[QF ne,Qao],ZZ _,ne,e2,λ_=>none,(Heap.Ns1.of_empty e3).at λo q=>Zs _ q,λ_=>True.intro,λy hy=>absurd rfl hy⟩
theorem Que{prog:Program}{w:World}{env:Env}{e:Expr}{f:Str}{pos:Pos}{s:Shared}{Q:Value->Shared->Prop}(hb:attributeBase e f env (eval e env)=eval e env)
  (h:wpAny (model prog w) A (eval e env) (λo s₁=>wpAny (model prog w) A (getAttr o f true) Q E s₁) E s):wpAny (model prog w) A (eval (.Attribute e f pos) env) Q E s:=
 Attribute_any_ h (by rw[arm_eval_Attribute,hb])
end
noncomputable def QzB(K:PySem.W.Frag)(ta:TE)(f:Str):TE:=λσ H Q=>ta σ H λx H1=>∃a C dx fs v,x= .ref a/\H1 a=some (.ins C dx fs)/\Cls K C/\QbX K C f/\fs.lookup f=some v/\Q v H1
noncomputable def Qy6(K:PySem.W.Frag)(ta tv:TE)(f:Str):TS:=λD σ H=>tv σ H λy H1=>ta σ H1 λx H2=>∃a C dx fs,x= .ref a/\H2 a=some (.ins C dx fs)/\Cls K C/\QbX K C f/\fs.length<1000∧
 D.nx σ (upd H2 a (.ins C dx (Qba f y fs)))
def Qw3(X:Cx)(op:Operator)(rd:V->V->Hp->VK->Prop):Prop:=
 ∀(pins:List (Addr×Obj)) (s:Shared) (σ:St) (H:Hp) (x y:V) (u v:Value) (Q:VK),Inv X pins σ H s->RelV x u->RelV y v->rd x y H Q->wpAny (model X.prog X.w) X.A (inplaceOp op u v) (EP X pins σ Q) X.xe s
noncomputable def QuX(K:PySem.W.Frag)(ta tv:TE)(rd:V->V->Hp->VK->Prop)(f:Str):TS:=λD σ H=>ta σ H λx H1=>∃a C dx fs v,x= .ref a/\H1 a=some (.ins C dx fs)/\Cls K C/\QbX K C f/\fs.lookup f=some v∧
 tv σ H1 λy H2=>rd v y H2 λz H3=>∃dx' fs',H3 a=some (.ins C dx' fs')/\fs'.length<1000/\D.nx σ (upd H3 a (.ins C dx' (Qba f z fs')))
section
variable {X:Cx}{o e value:Expr}{f:Str}{pos pos' tpos:Pos}{ta tv:TE}
theorem QxK(he:PE X e ta)(hb:attributeBase e f X.env (eval e X.env)=eval e X.env):PE X (.Attribute e f pos) (QzB X.K ta f):=by
 intro pins s σ H Q I h
 refine Que hb (thn (he pins s σ H _ I h) λu s1 hpt=>?_)
 obtain⟨x,H1,I1,rx,a,C,dx,fs,v,ex,ea,c,n,l,q⟩:=hpt
 subst ex
 obtain rfl:u=Value.ref a:=rx
 exact QiP I1 ea c n l λu' s2 I2 ru=>⟨v,H1,I2,ru,q⟩
theorem QvL(ha:PE X o ta)(hv:PE X value tv)(hs:swapsWith value (some (.Attribute o f pos')) pos.line X.env=pure false):PS X (.Assign [.Attribute o f pos'] value pos) (Qy6 X.K ta tv f):=by
 intro pins s σ H D I h
 refine plainObj_wpAny_Assign_Attribute (thn (hv pins s σ H _ I h) λu s1 ⟨y,H1,I1,ry,q⟩=>thn (ha pins s1 σ H1 _ I1 q) λov s2 ⟨x,H2,I2,rx,a,C,dx,fs,ex,ea,c,n,l,q2⟩=>?_) hs
 subst ex
 obtain rfl:ov=Value.ref a:=rx
 exact QiK I2 ea c n l ry λs3 I3=>⟨σ,_,I3,q2⟩
theorem QpB{op:Operator}{rd:V->V->Hp->VK->Prop}(ha:PE X o ta)(hv:PE X value tv)(hop:Qw3 X op rd):PS X (.AugAssign (.Attribute o f tpos) op value pos) (QuX X.K ta tv rd f):=by
 intro pins s σ H D I h
 refine wpAny_AugAssign_AttributeAny (thn (ha pins s σ H _ I h) λov s1 hpt=>?_)
 obtain⟨x,H1,I1,rx,a,C,dx,fs,v,ex,ea,c,n,l,q⟩:=hpt
 subst ex
 obtain rfl:ov=Value.ref a:=rx
 refine QiP I1 ea c n l λu s2 I2 ru=>thn (hv pins s2 σ H1 _ I2 q) λw3 s3 ⟨y,H2,I3,ry,q3⟩=>thn (hop pins s3 σ H2 v y u w3 _ I3 ru ry q3) λw4 s4 hpt=>?_
 obtain⟨z,H3,I4,rz,dx',fs',ea',l',q4⟩:=hpt
 exact QiK I4 ea' c n l' rz λs5 I5=>⟨σ,_,I5,q4⟩
noncomputable def Qzx:V->V->Hp->VK->Prop:=λx y H Q=>∃i j,x= .int i/\y= .int j/\Q (.int (i+j)) H
theorem QwW:Qw3 X .Add Qzx:=by
 rintro pins s σ H x y u v Q I rx ry ⟨i,j,rfl,rfl,q⟩
 obtain⟨t,rfl⟩:=(show ∃t,u=Value.int i t from rx)
 obtain⟨t',rfl⟩:=(show ∃t',v=Value.int j t' from ry)
 exact PyProof.Rows.iadd_int ⟨.int (i+j),H,I.tok _,⟨_,rfl⟩,q⟩
end
section
variable {X:Cx}{pins:List (Addr×Obj)}{σ:St}{H:Hp}{s:Shared}{A:Around}{E:Value->Shared->Prop}{Q:Value->Shared->Prop}{c:Value}{b:Bool}
end
end L2
namespace L2
open PySem PySem.Spec PyProof.Rows
structure Qag (k:Nat) (A:Around):Prop where
 hd:A.handled=none
 dp:A.depth+3*k+5<recursionLimit
 un:A.units+16*k+200<cLine
theorem Qag.mono{j k:Nat}{A:Around}(r:Qag k A)(h:j<=k):Qag j A:=⟨r.hd,by have:=r.dp;omega,by have:=r.un;omega⟩
theorem Qag.deeper{k:Nat}{A:Around}(r:Qag (k+1) A)(env:Env):Qag k (A.deeper env):=
 ⟨r.hd,by have:=r.dp;show A.depth+1+3*k+5<_;omega,by have:=r.un;show A.units+3+16*k+200<_;omega⟩
theorem Qag.in1{k:Nat}{A:Around}(r:Qag (k+1) A):Qag k A.in1:=
 ⟨r.hd,by have:=r.dp;show A.depth+3*k+5<_;omega,by have:=r.un;show A.units+1+16*k+200<_;omega⟩
theorem Qpi{A:Around}{C:Addr}{us:List Value}{kw:List (Str×Value)}:(A.under (.builtin "type.__call__" ⟨.ref C::us,kw⟩)).depth=A.depth+1:=by
 first | rfl | simp[Around.under,Code.weight,Code.isCreation,Code.isGuard,Code.isCaller,Code.frames,Code.isFrame,guardIds]
theorem Qo2{A:Around}{C:Addr}{us:List Value}{kw:List (Str×Value)}:(A.under (.builtin "type.__call__" ⟨.ref C::us,kw⟩)).units=A.units+1:=by
 first | rfl | simp[Around.under,Code.cUnits,Code.frames,Code.isFrame]
theorem Qag.make{k:Nat}{A:Around}(r:Qag (k+1) A)(C:Addr)(us:List Value)(kw:List (Str×Value)):Qag k (A.under (.builtin "type.__call__" ⟨.ref C::us,kw⟩)):=
 ⟨r.hd,by have:=r.dp;rw[Qpi];omega,by have:=r.un;rw[Qo2];omega⟩
theorem Qag.depth{k:Nat}{A:Around}(r:Qag k A):A.depth<recursionLimit:=by have:=r.dp;omega
theorem Qag.units{k:Nat}{A:Around}(r:Qag k A):A.units+64<cLine:=by have:=r.un;omega
noncomputable def Qo5:TA:=λ_ H Q=>Q [] H
noncomputable def Qom(ta:TE)(tr:TA):TA:=λσ H Q=>ta σ H λx H1=>tr σ H1 λxs H2=>Q (x::xs) H2
section
variable {X:Cx}{e:Expr}{es:List Expr}{te:TE}{t:TA}{pos:Pos}
theorem Qea:PA X [] Qo5:=λ_ _ _ _ H Q I h=>Calls.spliced_nil ⟨[],H,I,.nil,h⟩
theorem Qbu(ha:PE X e te)(hr:PA X es t)(hs:starEach (e::es) X.env=(false,eval e X.env)::starEach es X.env:=by rfl):PA X (e::es) (Qom te t):=by
 intro pos pins s σ H Q I h
 rw[hs]
 show wpAny _ _ (spliced ((false,eval e X.env)::backTo pos (starEach es X.env))) _ _ s
 refine Calls.spliced_cons (thn (ha pins s σ H _ I h) λu s1=>exJ λx H1 I1 r1 q1=>?_)
 exact thn (hr pos pins s1 σ H1 _ I1 q1) λus s2 ⟨xs,H2,I2,r2,q2⟩=>⟨x::xs,H2,I2,.cons r1 r2,q2⟩
noncomputable def Qzk(t:TA):TE:=λσ H Q=>t σ H λxs H1=>xs.length<=sizeLine/\∀p,H1 p=none->Q (.ref p) (upd H1 p (.tup xs))
noncomputable def Qzu(t:TA):TE:=λσ H Q=>t σ H λxs H1=>xs.length<=sizeLine/\∀p,H1 p=none->Q (.ref p) (upd H1 p (.lst xs))
theorem Qwa{x1}(h:PA X es t):PE X (.Tuple es x1 pos) (Qzk t):=by
 intro pins s σ H Q I hq
 refine wpAny_Tuple_spliced (thn (h pos pins s σ H _ I hq) λus s1 ⟨xs,H1,I1,r,z,q⟩=>⟨by rw[← r.length];exact z,?_⟩)
 have hf:H1 s1.heap.objs.size=none:=I1.hok.fresh (Zn _)
 refine⟨.ref s1.heap.objs.size,upd H1 s1.heap.objs.size (.tup xs),I1.laid (t':=s1.toks) (λb u e=>Zs _ e) (Zn _) ?_,rfl,q _ hf⟩
 exact⟨z,us,r,⟨_,ZL _ rfl,rfl,_,rfl⟩⟩
theorem Qwq(h:PA X es t):PE X (.List es pos) (Qzu t):=by
 intro pins s σ H Q I hq
 refine wpAny_List_spliced (thn (h pos pins s σ H _ I hq) λus s1 ⟨xs,H1,I1,r,z,q⟩=>⟨by rw[← r.length];exact z,?_⟩)
 have hf:H1 s1.heap.objs.size=none:=I1.hok.fresh (Zn _)
 refine⟨.ref s1.heap.objs.size,upd H1 s1.heap.objs.size (.lst xs),I1.laid (t':=s1.toks) (λb u e=>Zs _ e) (Zn _) ?_,rfl,q _ hf⟩
 exact⟨z,us,0,r,ZL _ rfl⟩
end
noncomputable abbrev Sp:=List V->Hp->VK->XK->Prop
noncomputable abbrev CXT:=List Env->Hp->Shared->XK->Value->Shared->Prop
structure Qfn (P:Program) (w:World) (K:PySem.W.Frag) (mg:Str->Option Value) (base:Heap) (A:Around) (outer:List Env) (s:Shared) (H:Hp):Prop where
 frames:A.frames=some outer
 mod:Mod K mg base
 bs:∀b o,base.get? b=some o->s.heap.get? b=some o/\H b=none
 bsz:base.objs.size<=s.heap.objs.size
 QcW:s.heap.FunFrames base outer
 frf:∀b∈frs outer,H b=none
 hok:HOk P w H s.heap
 bare:AllBare s.gens
def CE(outer:List Env)(P:Program)(w:World)(H:Hp)(s:Shared)(Q:VK)(u:Value)(s':Shared):Prop:=
 ∃v H',s'.os=s.os/\AllBare s'.gens/\Un (frs outer) [] H H' s.heap s'.heap/\HOk P w H' s'.heap/\RelV v u/\Q v H'
def CR(CX:CXT)(outer:List Env)(P:Program)(w:World)(H:Hp)(s:Shared)(Q:VK)(E:XK)(r:Result)(s':Shared):Prop:=
 match r with
 | .ok (.ret u)=>CE outer P w H s Q u s'
 | .ok _=>False
 | .error e=>CX outer H s E e s'
structure Qaq (P:Program) (w:World) (K:PySem.W.Frag) (mg:Str->Option Value) (base:Heap) (CX:CXT) (k:Nat) (f:Addr) (fd:FuncData) (ps:List Str) (sp:Sp):Prop where
 len:∀vs H Q E,sp vs H Q E->vs.length=ps.length
 run:∀(A:Around) (outer:List Env) (s:Shared) (H:Hp) (args:Args) (us:List Value) (vs:List V) (Q:VK) (E:XK),Qag k A->Qfn P w K mg base A outer s H->BindsTo s fd args (ps.zip us)->Qw vs us->sp vs H Q E→
  codeAny (model P w) A (.call (.ref f) args) (CR CX outer P w H s Q E) s
theorem Qaq.mono{P:Program}{w:World}{K:PySem.W.Frag}{mg:Str->Option Value}{base:Heap}{CX:CXT}{j k:Nat}{f:Addr}{fd:FuncData}{ps:List Str}{sp:Sp}(F:Qaq P w K mg base CX j f fd ps sp)(h:j<=k):
  Qaq P w K mg base CX k f fd ps sp:=⟨F.len,λA outer s H args us vs Q E hr=>F.run A outer s H args us vs Q E (hr.mono h)⟩
theorem Qaq.imp{P:Program}{w:World}{K:PySem.W.Frag}{mg:Str->Option Value}{base:Heap}{CX:CXT}{k:Nat}{f:Addr}{fd:FuncData}{ps:List Str}{sp sp':Sp}(F:Qaq P w K mg base CX k f fd ps sp)
  (h:∀vs H Q E,sp' vs H Q E->sp vs H Q E):Qaq P w K mg base CX k f fd ps sp':=
 ⟨λvs H Q E q=>F.len vs H Q E (h _ _ _ _ q),λA outer s H args us vs Q E hr he hb hv hs=>F.run A outer s H args us vs Q E hr he hb hv (h _ _ _ _ hs)⟩
theorem Qfn.make{P:Program}{w:World}{K:PySem.W.Frag}{mg:Str->Option Value}{base:Heap}{A:Around}{outer:List Env}{s:Shared}{H:Hp}(e:Qfn P w K mg base A outer s H)(C:Addr)(us:List Value)(kw:List (Str×Value)):
  Qfn P w K mg base (A.under (.builtin "type.__call__" ⟨.ref C::us,kw⟩)) outer s H:=⟨by first | exact e.frames | (simpa[Around.under,Code.envs,Code.isFrame,pushEnvs]using e.frames),e.mod,e.bs,e.bsz,e.QcW,e.frf,e.hok,e.bare⟩
theorem Qfn.in1{P:Program}{w:World}{K:PySem.W.Frag}{mg:Str->Option Value}{base:Heap}{A:Around}{outer:List Env}{s:Shared}{H:Hp}(e:Qfn P w K mg base A outer s H):
  Qfn P w K mg base A.in1 outer s H:=⟨e.frames,e.mod,e.bs,e.bsz,e.QcW,e.frf,e.hok,e.bare⟩
section
variable {X:Cx}{pins:List (Addr×Obj)}{σ:St}{H:Hp}{s s':Shared}
theorem Inv.Qrf(I:Inv X pins σ H s):Qfn X.prog X.w X.K X.mg X.base X.A X.stack s H:=
 ⟨I.ok.frames,I.ok.mod,I.bs,ZD I.ok.bsz I.sz,I.stack,I.QjX,I.hok,I.bare⟩
theorem Inv.after{Q:VK}{u:Value}(I:Inv X pins σ H s)(h:CE X.stack X.prog X.w H s Q u s'):EP X pins σ Q u s':=by
 obtain⟨v,H',os,bare,un,hok,r,q⟩:=h
 obtain⟨hh,g,d,t,os'⟩:=s'
 obtain rfl:os'=s.os:=os
 exact⟨v,H',I.call (h':=hh) (g':=g) (d':=d) (t':=t) (ch:=[]) un hok bare (λb z=>absurd z (by simp)),r,q⟩
end
noncomputable def Qo1(sp:Sp)(dvs:List V)(E:XK)(t:TA):TE:=λσ H Q=>t σ H λvs H1=>sp (vs++dvs) H1 Q E
noncomputable def Qyj(C:Addr)(m:Str)(sp:Sp)(dvs:List V)(E:XK)(ta:TE)(t:TA):TE:=λσ H Q=>ta σ H λx H1=>∃a dx fs,x= .ref a/\H1 a=some (.ins C dx fs)/\fs.lookup m=none∧
 t σ H1 λvs H2=>sp (x::(vs++dvs)) H2 Q E
noncomputable def Qyp(C:Addr)(sp:Sp)(dvs:List V)(E:XK)(t:TA):TE:=λσ H Q=>t σ H λvs H1=>∀x dx,H1 x=none->H1 dx=none->dx≠x→
 sp (.ref x::(vs++dvs)) (upd (upd H1 dx (.own x)) x (.ins C dx [])) (λv H2=>v= .non/\Q (.ref x) H2) E
def Binds(K:PySem.W.Frag)(fd:FuncData)(ps:List Str)(ds:List Value):Prop:=
 ∀(s:Shared) (us:List Value),K.In s.heap->(us++ds).length=ps.length->BindsTo s fd ⟨us,[]⟩ (ps.zip (us++ds))
theorem Binds.all{K:PySem.W.Frag}{fd:FuncData}{ps:List Str}(h:∀us:List Value,us.length=ps.length->bindArgs fd ⟨us,[]⟩=pure (ps.zip us)):Binds K fd ps []:=λs us _ hl=>by
 rw[ZC]at hl ⊢
 exact .of_eq (h us hl)
def QeT(CX:CXT)(X:Cx)(E:XK):Prop:=∀(pins:List (Addr×Obj)) (σ:St) (H:Hp) (s:Shared) (e:Value) (s':Shared),Inv X pins σ H s->CX X.stack H s E e s'->X.xe e s'
section
variable {X:Cx}{CX:CXT}{k:Nat}{f C:Addr}{fd:FuncData}{ps:List Str}{sp:Sp}{dvs:List V}{ds:List Value}{E:XK}{x m:Str}{p pos apos:Pos}{e o:Expr}{es:List Expr}{ta:TE}{t:TA}
theorem Qln{pins:List (Addr×Obj)}{σ:St}{H:Hp}{s:Shared}{Q:VK}{us:List Value}{vs:List V}(F:Qaq X.prog X.w X.K X.mg X.base CX k f fd ps sp)(hr:Qag k X.A)(hb:Binds X.K fd ps ds)(hd:Qw dvs ds)(hx:QeT CX X E)
  (I:Inv X pins σ H s) (r:Qw vs us) (h:sp (vs++dvs) H Q E):wpAny (model X.prog X.w) X.A (call (.ref f) us) (EP X pins σ Q) X.xe s:=by
 have r2:Qw (vs++dvs) (us++ds):=r.append hd
 have hl:(us++ds).length=ps.length:=by rw[← r2.length];exact F.len _ _ _ _ h
 refine wpAny_call (codeAny_mono (F.run X.A X.stack s H ⟨us,[]⟩ (us++ds) (vs++dvs) Q E hr I.Qrf (hb s us I.kIn hl) r2 h) λr s' hq=>?_)
 cases r with
 | error e=>exact hx pins σ H s e s' I hq
 | ok fl=>
  cases fl with
  | ret u=>exact I.after hq
  | next=>exact False.elim hq
  | brk=>exact False.elim hq
  | cont=>exact False.elim hq
theorem QjN(F:Qaq X.prog X.w X.K X.mg X.base CX k f fd ps sp)(hr:Qag k X.A)(hg:Gl X x)(hm:X.mg x=some (.ref f))(hk:PySem.W.keepIn X.K (.ref f)=true)(hb:Binds X.K fd ps ds)(hd:Qw dvs ds)(hx:QeT CX X E)
  (ha:PA X (e::es) t) (hdb:(x == ("__debug__" :Str))=false:=by decide) (he:starEach (e::es) X.env=(false,eval e X.env)::starEach es X.env:=by rfl) (hpl:(backTo pos (starEach es X.env)).any (·.1)=false:=by rfl):
  PE X (.Call (.Name x p) (e::es) [] pos) (Qo1 sp dvs E t):=by
 intro pins s σ H Q I h
 refine wpAny_Call_Name_kw (Qdq I hg hm ?_ hdb)
 refine ZaZ (h₀:=X.base) I.ok.mod.kin hk (thn (ha pos pins s σ H _ I h) λus s1 ⟨vs,H1,I1,r,q⟩=>⟨I1.kIn,?_⟩) he hpl
 exact Qln F hr hb hd hx I1 r q
theorem Qr6(F:Qaq X.prog X.w X.K X.mg X.base CX k f fd ps sp)(hr:Qag k X.A)(hg:Gl X x)(hm:X.mg x=some (.ref f))(hk:PySem.W.keepIn X.K (.ref f)=true)(hb:Binds X.K fd ps ds)(hd:Qw dvs ds)(hx:QeT CX X E)
  (hdb:(x == ("__debug__" :Str))=false:=by decide):PE X (.Call (.Name x p) [] [] pos) (Qo1 sp dvs E Qo5):=by
 intro pins s σ H Q I h
 refine wpAny_Call_Name_kw (Qdq I hg hm ?_ hdb)
 exact PySem.W.callWith_K0 I.kIn hk (Qln (us:=[]) F hr hb hd hx I .nil h)
theorem Qui{pl:Sem Bool}(he:PE X o ta)(c:Cls X.K C)(hm:QjE X.K C m f)(F:Qaq X.prog X.w X.K X.mg X.base CX k f fd ps sp)(hr:Qag k X.A)(hb:Binds X.K fd ps ds)(hd:Qw dvs ds)(hx:QeT CX X E)(ha:PA X (e::es) t)
  (hst:starEach (e::es) X.env=(false,eval e X.env)::starEach es X.env:=by rfl) (hpl:(backTo pos (starEach es X.env)).any (·.1)=false:=by rfl)
  (ht:eval (.Call (.Attribute o m apos) (e::es) [] pos) X.env=(do
   let ov ← eval o X.env
   standAt apos.atName
   let (f,first) ← holding [ov] (getMethod ov m pl)
   callWith pos f first (backTo pos (starEach (e::es) X.env)) (backToKw pos (keywordEach [] X.env))):=by rfl):
  PE X (.Call (.Attribute o m apos) (e::es) [] pos) (Qyj C m sp dvs E ta t):=by
 intro pins s σ H Q I h
 refine PySem.W.methodCall_KW (pl:=pl) (thn (he pins s σ H _ I h) λu s1 ⟨x,H1,I1,rx,a,dx,fs,ex,ea,l,q⟩=>?_) ht
 subst ex
 obtain rfl:u=Value.ref a:=rx
 refine QoK I1 ea c hm l ?_
 refine ZaZ (first:=[.ref a]) (h₀:=X.base) I.ok.mod.kin hm.kp (thn (ha pos pins s1 σ H1 _ I1 q) λus s2 ⟨vs,H2,I2,r,q2⟩=>⟨I2.kIn,?_⟩) hst hpl
 exact Qln (us:= .ref a::us) (vs:= .ref a::vs) F hr hb hd hx I2 (.cons rfl r) q2
structure Mk (K:PySem.W.Frag) (C f:Addr):Prop where
 makes:PySem.W.makesIn K C=true
 init:PySem.W.findIn K (.ref C) "__init__" =some (some (.ref f))
 fn:PySem.W.isFn K (.ref f)=true
 kp:PySem.W.keepIn K (.ref C)=true
theorem QsC{pins:List (Addr×Obj)}{σ:St}{H:Hp}{s:Shared}{Q:VK}{us:List Value}{vs:List V}(M:Mk X.K C f)(F:Qaq X.prog X.w X.K X.mg X.base CX k f fd ps sp)(hr:Qag (k+1) X.A)(hb:Binds X.K fd ps ds)(hd:Qw dvs ds)
  (hx:QeT CX X E) (I:Inv X pins σ H s) (r:Qw vs us)
  (h:∀x dx,H x=none->H dx=none->dx≠x->sp (.ref x::(vs++dvs)) (upd (upd H dx (.own x)) x (.ins C dx [])) (λv H2=>v= .non/\Q (.ref x) H2) E):
  wpAny (model X.prog X.w) X.A (call (.ref C) us) (EP X pins σ Q) X.xe s:=by
 have hq:=h (s.heap.objs.size+1) s.heap.objs.size (I.hok.fresh (ZaI _)) (I.hok.fresh (Zn _)) (ZN (ZaB _))
 have I2:=Inv.made (C:=C) I
 have r2:Qw (V.ref (s.heap.objs.size+1)::(vs++dvs)) (Value.ref (s.heap.objs.size+1)::(us++ds)):= .cons rfl (r.append hd)
 have hl:(Value.ref (s.heap.objs.size+1)::us++ds).length=ps.length:=by
  have e:=r2.length
  rw[F.len _ _ _ _ hq]at e
  exact e.symm
 refine wpAny_call (QsK (f:=f) I.kIn M.makes M.init (beq_iff_eq.mp M.fn) (codeAny_mono (F.run _ X.stack _ _ ⟨Value.ref (s.heap.objs.size+1)::us,[]⟩ (Value.ref (s.heap.objs.size+1)::(us++ds)) _ _ E (hr.make C us [])
  (I2.Qrf.make C us []) (hb _ (Value.ref (s.heap.objs.size+1)::us) I2.kIn hl) r2 hq) λr s' hq'=>?_))
 cases r with
 | error e=>exact hx pins σ _ _ e s' I2 hq'
 | ok fl=>
  cases fl with
  | ret u=>
   obtain⟨v,H',I3,rv,ev,q3⟩:=I2.after hq'
   subst ev
   exact⟨rv,⟨V.ref (s.heap.objs.size+1),H',I3,rfl,q3⟩⟩
  | next=>exact False.elim hq'
  | brk=>exact False.elim hq'
  | cont=>exact False.elim hq'
theorem Qvr(M:Mk X.K C f)(F:Qaq X.prog X.w X.K X.mg X.base CX k f fd ps sp)(hr:Qag (k+1) X.A)(hg:Gl X x)(hm:X.mg x=some (.ref C))(hb:Binds X.K fd ps ds)(hd:Qw dvs ds)(hx:QeT CX X E)
  (ha:PA X (e::es) t) (hdb:(x == ("__debug__" :Str))=false:=by decide) (he:starEach (e::es) X.env=(false,eval e X.env)::starEach es X.env:=by rfl) (hpl:(backTo pos (starEach es X.env)).any (·.1)=false:=by rfl):
  PE X (.Call (.Name x p) (e::es) [] pos) (Qyp C sp dvs E t):=by
 intro pins s σ H Q I h
 refine wpAny_Call_Name_kw (Qdq I hg hm ?_ hdb)
 refine ZaZ (h₀:=X.base) I.ok.mod.kin M.kp (thn (ha pos pins s σ H _ I h) λus s1 ⟨vs,H1,I1,r,q⟩=>⟨I1.kIn,?_⟩) he hpl
 exact QsC M F hr hb hd hx I1 r q
end
section
variable {X:Cx}{CX:CXT}{k:Nat}{f C:Addr}{fd:FuncData}{ps ks:List Str}{sp:Sp}{E:XK}{x m:Str}{p pos apos kpos:Pos}{e o:Expr}{es:List Expr}{kws:List Keyword}{te ta:TE}{t tk:TA}{nm:Option Str}
structure Qz3 (K:PySem.W.Frag) (fd:FuncData) (ps ks:List Str) (g:List Value->List Value->List Value) (gV:List V->List V->List V):Prop where
 to:∀(s:Shared) (us ws:List Value),K.In s.heap->(g us ws).length=ps.length->BindsTo s fd ⟨us,ks.zip ws⟩ (ps.zip (g us ws))
 rel:∀{vs:List V}{us:List Value}{zs:List V}{ws:List Value},Qw vs us->Qw zs ws->Qw (gV vs zs) (g us ws)
variable {g:List Value->List Value->List Value}{gV:List V->List V->List V}
end
structure QaA (N P:List Str) (sc:Scope):Prop where
 kind:sc.kind= .function
 co:sc.isCoroutine=false
 gen:sc.isGenerator=false
 nd:N.Nodup
 pre:N.take P.length=P
 par:∀x∈P,sc.names.lookup x=some .local ∨sc.names.lookup x=some .cell
 nofree:∀y∈sc.names,y.2≠ .free
theorem QkJ{kindOf:Str->Option NameKind}{x:Str}:∀{binds:List (Str×Value)}{m:Str->Option Value},(∀v,(x,v)∉binds)->bindL kindOf binds m x=m x
 | [],_,_=>rfl
 | (n,v)::r,m,h=>by
  unfold bindL
  rw[QkJ λw hw=>h w (Zb _ hw)]
  split
  ·have:x≠n:=by rintro rfl;exact h v Zf
   simp[this]
  ·rfl
theorem Qky{kindOf:Str->Option NameKind}{x:Str}:∀{binds:List (Str×Value)}{m:Str->Option Value},(∀v,(x,v)∉binds)->bindC kindOf binds m x=m x
 | [],_,_=>rfl
 | (n,v)::r,m,h=>by
  unfold bindC
  rw[Qky λw hw=>h w (Zb _ hw)]
  split
  ·rfl
  ·have:x≠n:=by rintro rfl;exact h v Zf
   simp[this]
theorem QkG{kindOf:Str->Option NameKind}{x:Str}{v:Value}:∀{P:List Str}{vs:List Value}{i:Nat}{m:Str->Option Value},P.Nodup->P[i]? =some x->vs[i]? =some v->kindOf x=some .local →
  bindL kindOf (P.zip vs) m x=some v
 | [],_,_,_,_,h,_,_=>by simp at h
 | _::_,[],_,_,_,_,h,_=>by simp at h
 | p::P,w::vs,0,m,nd,h1,h2,hk=>by
  simp at h1 h2;subst h1;subst h2
  show bindL kindOf ((p,w)::P.zip vs) m p=_
  unfold bindL
  rw[QkJ λv hv=>(ZU.mp nd).1 (ZbT hv).1,if_pos hk]
  simp
 | p::P,w::vs,i+1,m,nd,h1,h2,hk=>by
  show bindL kindOf ((p,w)::P.zip vs) m x=_
  unfold bindL
  exact QkG (i:=i) (ZU.mp nd).2 (by simpa using h1) (by simpa using h2) hk
theorem Qkz{kindOf:Str->Option NameKind}{x:Str}{v:Value}:∀{P:List Str}{vs:List Value}{i:Nat}{m:Str->Option Value},P.Nodup->P[i]? =some x->vs[i]? =some v->kindOf x≠some .local →
  bindC kindOf (P.zip vs) m x=some v
 | [],_,_,_,_,h,_,_=>by simp at h
 | _::_,[],_,_,_,_,h,_=>by simp at h
 | p::P,w::vs,0,m,nd,h1,h2,hk=>by
  simp at h1 h2;subst h1;subst h2
  show bindC kindOf ((p,w)::P.zip vs) m p=_
  unfold bindC
  rw[Qky λv hv=>(ZU.mp nd).1 (ZbT hv).1,if_neg hk]
  simp
 | p::P,w::vs,i+1,m,nd,h1,h2,hk=>by
  show bindC kindOf ((p,w)::P.zip vs) m x=_
  unfold bindC
  exact Qkz (i:=i) (ZU.mp nd).2 (by simpa using h1) (by simpa using h2) hk
noncomputable def start(N:List Str)(vs:List V):St:=vs.map some++List.replicate (N.length-vs.length) none
noncomputable def Qcr(CX:CXT)(P:Program)(w:World)(K:PySem.W.Frag)(mg:Str->Option Value)(base:Heap)(N:List Str)(qual:Str)(scope:Scope)(f:Addr)(cd:Value)(A:Around)(outer:List Env)(s:Shared)(H:Hp)(E:XK):Cx where
 prog:=P
 w:=w
 K:=K
 mg:=mg
 base:=base
 A:=A.deeper (envOfC qual scope s.heap.objs.size f cd)
 N:=N
 s₀:=s
 H₀:=H
 env:=envOfC qual scope s.heap.objs.size f cd
 outer:=outer
 stack:=envOfC qual scope s.heap.objs.size f cd::outer
 ex:=[]
 calm:=decide (A.handled=none)
 fn:=λ_=>true
 pn:=[]
 xe:=λe s'=>wpAny (model P w) (A.deeper (envOfC qual scope s.heap.objs.size f cd)) (leaving (envOfC qual scope s.heap.objs.size f cd) e) (λ_ s''=>CX outer H s E e s'') (λe' s''=>CX outer H s E e' s'') s'
theorem Qna{sc:Scope}{n:Nat}{x:Str}(h:sc.names.lookup x=some .cell):∃c,(cellsFrom n sc.names []).lookup x=some c:=by
 have q:=ZbL sc.names n [] (.inl h)
 exact Zbv.mp q
theorem QqB{CX:CXT}{P:Program}{w:World}{K:PySem.W.Frag}{mg:Str->Option Value}{base:Heap}{N ps:List Str}{qual:Str}{scope:Scope}{f:Addr}{cd:Value}{A:Around}{outer:List Env}{s s1:Shared}{H:Hp}{E:XK}{us:List Value}{vs:List V}
  (S:QaA N ps scope) (e0:Qfn P w K mg base A outer s H) (hl:vs.length=ps.length) (r:Qw vs us)
  (x:InCallC s s.heap.objs.size (bindL (envOfC qual scope s.heap.objs.size f cd).kindOf (ps.zip us) λ_=>none) (cellsFrom (s.heap.objs.size+1) scope.names []) (bindC (envOfC qual scope s.heap.objs.size f cd).kindOf (ps.zip us) λ_=>none) s1):
  Inv (Qcr CX P w K mg base N qual scope f cd A outer s H E) [] (start N vs) H s1:=by
 have hpl:ps.length<=N.length:=by have:=congrArg List.length S.pre;rw[ZaC]at this;omega
 obtain⟨h1,tk,rfl,hk⟩:=x.done
 have noA:∀b:Addr,b∉(Qcr CX P w K mg base N qual scope f cd A outer s H E).ex:=λb z=>absurd (show b∈([]:List Addr)from z) (by simp)
 refine⟨⟨e0.mod,S.kind,rfl,rfl,Zn _,λy z c h1 h2=>?_,λy hy=>?_,λy c _ h=>?_,λh=>of_decide_eq_true h,Around.frames_deeper e0.frames,.inr ⟨rfl,rfl⟩,λb z=>absurd z (noA b),e0.bs,e0.bsz,λb _ _=>noA b,λb z=>absurd z (noA b),e0.QcW,e0.frf⟩,
  rfl,e0.bare,Un.kept hk,⟨_,x.toInCall.ns,λi y v h1 h2 h3=>?_⟩,λy c h=>⟨_,x.cell y c h⟩,e0.hok.fresh (Zn _),λy c h=>?_,λp hp=>absurd (show p∈([]:List (Addr×Obj))from hp) (by simp),e0.hok.kept hk,?_⟩
 ·exact name_of_addr x.apart (Zag h1) (Zag h2)
 ·have hy:scope.names.lookup y=some .cell∨scope.names.lookup y=some .free:=hy
  rcases hy with hy | hy
  ·exact Qna hy
  ·exact absurd rfl (S.nofree _ (Zag hy))
 ·exact Nat.le_of_lt (x.above y c (Zag h))
 ·have hi:i<vs.length:=by
   unfold start at h2
   by_cases hi:i<vs.length
   ·exact hi
   ·rw[ZaE (by simpa using hi)]at h2
    rw[ZbC]at h2
    split at h2<;>cases h2
  have ha:vs[i]? =some v:=by
   unfold start at h2
   rw[Zab (by simpa using hi),Zy]at h2
   cases e:vs[i]? with
   | none=>rw[e]at h2;cases h2
   | some a=>rw[e]at h2;cases h2;rfl
  obtain⟨u,hu,rv⟩:=r.get ha
  have hp:ps[i]? =some y:=by
   rw[← S.pre,List.getElem?_take_of_lt (by omega)];exact h1
  have ndP:ps.Nodup:=by rw[← S.pre];exact S.nd.sublist (List.take_sublist _ _)
  refine⟨u,rv,?_⟩
  rcases S.par y (Zac hp)with k | k
  ·exact .inl ⟨k,QkG ndP hp hu k⟩
  ·obtain⟨c,e⟩:=Qna (n:=s.heap.objs.size+1) k
   refine .inr ⟨.inl k,c,e,?_⟩
   have q:=x.cell y c e
   rw[Qkz ndP hp hu (by show scope.names.lookup y≠_;rw[k];decide)]at q
   exact q
 ·exact e0.hok.fresh (Nat.le_of_lt (x.above y c (Zag h)))
 ·unfold start
  show _=N.length
  rw[Zp,Zm,List.length_replicate]
  omega
theorem QoU{CX:CXT}{P:Program}{w:World}{K:PySem.W.Frag}{mg:Str->Option Value}{base:Heap}{k:Nat}{f:Addr}{name qual:Str}{params:Arguments}{body:List Stmt}{scope:Scope}{dV kV doc pm cdv ct oc:Value}{an od:Option Addr}
  {osl:Array (Option Value)}{N ps:List Str}{sp:Sp}(lk:K.lookup f=some ⟨oc,od,.func (PySem.W.fnOf name qual params body scope dV kV doc pm an cdv ct),osl⟩) (hcd:PySem.W.codeIn K cdv qual=true) (S:QaA N ps scope)
  (len:∀vs H Q E,sp vs H Q E->vs.length=ps.length)
  (hbody:∀(A:Around) (outer:List Env) (s:Shared) (H:Hp) (vs:List V) (Q:VK) (E:XK),Qag k (A.deeper (envOfC qual scope s.heap.objs.size f cdv))->sp vs H Q E→
   ∃t,PSs (Qcr CX P w K mg base N qual scope f cdv A outer s H E) body t/\t {nx:=λ_ H'=>Q .non H',rt:=Q} (start N vs) H):
  Qaq P w K mg base CX (k+1) f (PySem.W.fnOf name qual params body scope dV kV doc pm an cdv ct) ps sp:=by
 refine⟨len,λA outer s H args us vs Q E hr e0 hb r hsp=>?_⟩
 have hl:=len _ _ _ _ hsp
 have KX:K.In s.heap:=e0.mod.kin.keeps λb o e=>(e0.bs b o e).1
 have lim:s.heap.NoLimit:=e0.mod.nolimit.keeps λb o e=>(e0.bs b o e).1
 have hkind:∀y∈ps.zip us,scope.names.lookup y.1=some .local ∨(scope.names.lookup y.1=some .cell/\((cellsFrom (s.heap.objs.size+1) scope.names []).lookup y.1).isSome=true):=λhpt hy=>by
  obtain⟨n,v⟩:=hpt
  rcases S.par n (ZbT hy).1 with q | q
  ·exact .inl q
  ·exact .inr ⟨q,ZbL _ _ _ (.inl q)⟩
 refine codeAny_call_function hr.depth (KX _ _ lk) rfl S.co S.gen rfl (PySem.W.codeRec_of KX hcd) (hb _ _ _ _ ?_)
 refine wpAny_newFunctionEnv_cells S.kind hkind λenv he s1 x=>?_
 subst he
 refine⟨lim.keeps x.toInCall.keep,codeAny_func ?_⟩
 obtain⟨t,ht,hq⟩:=hbody A outer s H vs Q E (hr.deeper _) hsp
 have I:Inv (Qcr CX P w K mg base N qual scope f cdv A outer s H E) [] (start N vs) H s1:=QqB S e0 hl r x
 refine wpAny_mono (ht [] s1 (start N vs) H _ I hq) (λfl s' hs=>?_) λe s' hs=>hs
 have fin:∀{σ':St}{H':Hp}{v:V}{u:Value},Inv (Qcr CX P w K mg base N qual scope f cdv A outer s H E) [] σ' H' s'->RelV v u->Q v H'->CE outer P w H s Q u s':=
  λ{σ' H' v u} J rv q=>⟨v,H',J.os,J.bare,J.base,J.hok,rv,q⟩
 cases fl with
 | ret u=>
  obtain⟨v,σ',H',J,rv,q⟩:=hs
  exact fin J rv q
 | next=>
  obtain⟨σ',H',J,q⟩:=hs
  exact fin (v:=V.non) (u:=Value.none) J rfl q
 | brk=>
  obtain⟨_,_,_,q⟩:=hs
  exact False.elim q
 | cont=>
  obtain⟨_,_,_,q⟩:=hs
  exact False.elim q
end L2
namespace L2
open PySem PySem.Spec PyProof.Rows
section
variable {X:Cx}{x:Str}{p pos:Pos}{e:Expr}{es:List Expr}{t:TA}{id T:String}{r:List V->Hp->VK->Prop}
noncomputable def tCB(r:List V->Hp->VK->Prop)(t:TA):TE:=λσ H Q=>t σ H λvs H1=>r vs H1 Q
theorem Qh8(hc:Qbf X (.builtin id) r)(hg:Gl X x)(hm:X.mg x=none)(hv:bootBuiltins x=some (.builtin id))(ha:PA X (e::es) t)(hn:x≠ "__name__" :=by decide)(hdb:(x == ("__debug__" :Str))=false:=by decide)
  (he:starEach (e::es) X.env=(false,eval e X.env)::starEach es X.env:=by rfl) (hpl:(backTo pos (starEach es X.env)).any (·.1)=false:=by rfl):PE X (.Call (.Name x p) (e::es) [] pos) (tCB r t):=by
 intro pins s σ H Q I h
 refine wpAny_Call_Name_kw (QeN I hg hm hv ?_ hn hdb)
 exact PyProof.Rows.callWith_builtin1 (thn (ha pos pins s σ H _ I h) λus s1 ⟨vs,H1,I1,r1,q1⟩=>hc pins s1 σ H1 vs us Q I1 r1 q1) he hpl
theorem Qkg(hc:Qbf X (.type T) r)(hg:Gl X x)(hm:X.mg x=none)(hv:bootBuiltins x=some (.type T))(ha:PA X (e::es) t)(hn:x≠ "__name__" :=by decide)(hdb:(x == ("__debug__" :Str))=false:=by decide)
  (he:starEach (e::es) X.env=(false,eval e X.env)::starEach es X.env:=by rfl) (hpl:(backTo pos (starEach es X.env)).any (·.1)=false:=by rfl):PE X (.Call (.Name x p) (e::es) [] pos) (tCB r t):=by
 intro pins s σ H Q I h
 refine wpAny_Call_Name_kw (QeN I hg hm hv ?_ hn hdb)
 exact Zaz (thn (ha pos pins s σ H _ I h) λus s1 ⟨vs,H1,I1,r1,q1⟩=>hc pins s1 σ H1 vs us Q I1 r1 q1) he hpl
end
end L2
namespace HT
open PySem PyProof.Rows
section
open PySem.SeqAt
open PySem.AutoSeq1 (wpAny_loadPart')
open PySem.MeetsSeq PySem.MeetsSeq2 PySem.MeetsSeq3
end
section
variable {prog:Program}{w:World}{A:Around}{E:Value->Shared->Prop}{s:Shared}
noncomputable def sIx(n d:Nat):Option Int->Nat
 | none=>d
 | some v=>if v<0 then(v+(n:Int)).toNat else min v.toNat n
theorem Qgo(n d:Nat):sIx n d none=d:=rfl
theorem Qhs(n d k:Nat):sIx n d (some (k:Int))=min k n:=by
 show(if(k:Int)<0 then((k:Int)+(n:Int)).toNat else min (k:Int).toNat n)=min k n
 rw[if_neg (by omega),ZP]
end
end HT
namespace L2
open PySem PySem.Spec PyProof.Rows
noncomputable abbrev TO:=St->Hp->(Option Int->Hp->Prop)->Prop
def PO(X:Cx)(e:Option Expr)(t:TO):Prop:=
 ∀(pins:List (Addr×Obj)) (s:Shared) (σ:St) (H:Hp) (Q:Option Int->Hp->Prop),Inv X pins σ H s->t σ H Q→
  wpAny (model X.prog X.w) X.A (evalPart e X.env) (λu s'=>∃o H',Inv X pins σ H' s'/\IsPart u o/\Q o H') X.xe s
noncomputable def QuM:TO:=λ_ H Q=>Q none H
noncomputable def QyT(t:TE):TO:=λσ H Q=>t σ H λx H1=>∃i,x= .int i/\Q (some i) H1
theorem intsAre_of{ns:List Int}:∀{us:List Value},Qw (ns.map V.int) us->IntsAre us ns:=by
 induction ns with
 | nil=>intro us r;rw[Zbn]at r;cases r;exact .nil
 | cons n ns ih=>
  intro us r
  rw[Zq]at r
  cases r with
  | cons r1 r2=>
   obtain⟨t,e⟩:=r1
   subst e
   exact .cons n t (ih r2)
section
variable {X:Cx}{e:Expr}{te:TE}{lo hi:Option Expr}{tl th:TO}{pos p2:Pos}
theorem QuQ:PO X none QuM:=by
 intro pins s σ H Q I h
 rw[evalPart_none]
 exact wpAny_pure ⟨none,H,I,.none,h⟩
theorem Qum(h:PE X e te):PO X (some e) (QyT te):=by
 intro pins s σ H Q I hw
 rw[evalPart_some]
 refine thn (h pins s σ H _ I hw) λu s1=>exJ λx H1 I1 r1 q1=>?_
 obtain⟨i,rfl,q⟩:=q1
 obtain⟨t,rfl⟩:=r1
 exact⟨some i,H1,I1,.int i t,q⟩
def SlR(X:Cx)(r:V->Option Int->Option Int->Hp->VK->Prop):Prop:=
 ∀(pins:List (Addr×Obj)) (s:Shared) (σ:St) (H:Hp) (x:V) (v vl vu:Value) (lo hi:Option Int) (sl:Addr) (Q:VK),Inv X pins σ H s->RelV x v->s.heap.IsSliceOf sl vl vu .none->IsPart vl lo->IsPart vu hi->r x lo hi H Q→
  ∃T id,typeLookup (.type T) "__getitem__" =pure (some (.builtin id))/\s.TypeIs v T/\wpAny (model X.prog X.w) X.A (getItem v (.ref sl)) (EP X pins σ Q) X.xe s
theorem SlR.or{r r':V->Option Int->Option Int->Hp->VK->Prop}(h:SlR X r)(h':SlR X r'):SlR X (λx lo hi H Q=>r x lo hi H Q∨r' x lo hi H Q):=by
 intro pins s σ H x v vl vu lo hi sl Q I rx hs pl pu q
 rcases q with q | q
 ·exact h pins s σ H x v vl vu lo hi sl Q I rx hs pl pu q
 ·exact h' pins s σ H x v vl vu lo hi sl Q I rx hs pl pu q
noncomputable def tSl(r:V->Option Int->Option Int->Hp->VK->Prop)(te:TE)(tl th:TO):TE:=λσ H Q=>te σ H λx H1=>tl σ H1 λl H2=>th σ H2 λu H3=>r x l u H3 Q
theorem QsW{r:V->Option Int->Option Int->Hp->VK->Prop}(hr:SlR X r)(he:PE X e te)(hl:PO X lo tl)(hu:PO X hi th):PE X (.Subscript e (.Slice lo hi none p2) pos) (tSl r te tl th):=by
 intro pins s σ H Q I h
 refine Subscript_ (thn (he pins s σ H _ I h) λv s1=>exJ λx H1 I1 r1 q1=>?_)
 refine wpAny_Slice (thn (hl pins s1 σ H1 _ I1 q1) λvl s2 ⟨l,H2,I2,pl,q2⟩=>thn (hu pins s2 σ H2 _ I2 q2) λvu s3=>exJ λu H3 I3 pu q3=>?_)
 rw[evalPart_none]
 refine wpAny_pure ?_
 have I4:Inv X pins σ H3 {s3 with heap:=s3.heap.push {cls:= .type "slice",data:= .fields #[vl,vu,.none]}}:=I3.kept (t':=s3.toks) λb ob q=>Zs _ q
 obtain⟨T,id,hT,ht,hg⟩:=hr pins {s3 with heap:=s3.heap.push {cls:= .type "slice",data:= .fields #[vl,vu,.none]}} σ H3 x v vl vu l u s3.heap.objs.size Q I4 r1 (Heap.IsSliceOf.new ..) pl pu q3
 show wpAny (model X.prog X.w) X.A (subscriptTail e (.Slice lo hi none p2) v (.ref s3.heap.objs.size)) (EP X pins σ Q) X.xe {s3 with heap:=s3.heap.push {cls:= .type "slice",data:= .fields #[vl,vu,.none]}}
 exact tail_any (ops:=[.ref s3.heap.objs.size,v]) ht hT hg (by with_unfolding_all rfl)
noncomputable def QjJ(xs:List V)(lo hi:Option Int):List V:=(xs.drop (HT.sIx xs.length 0 lo)).take (HT.sIx xs.length xs.length hi-HT.sIx xs.length 0 lo)
theorem Qnn(xs:List V)(lo hi:Option Int):(QjJ xs lo hi).length<=xs.length:=by
 unfold QjJ
 rw[ZaC,ZbD]
 omega
end
end L2
namespace L2
open PySem PySem.Spec PyProof.Rows
noncomputable def ixN(n:Nat)(i:Int):Option Nat:=if 0<=i then(if i<n then some i.toNat else none)else if-(n:Int)<=i then some (i+n).toNat else none
noncomputable def atI{α:Type}(xs:List α)(i:Int):Option α:=(ixN xs.length i).bind λj=>xs[j]?
theorem Qhn{n:Nat}{i:Int}{j:Nat}(h:ixN n i=some j):seqIndex? i n=some j/\j<n/\ -(n:Int)<=i/\i<n:=by
 unfold ixN at h
 by_cases h0:0<=i
 ·rw[if_pos h0]at h
  by_cases h1:i<n
  ·rw[if_pos h1]at h
   have e:i.toNat=j:=Option.some.inj h
   exact⟨by rw[seqIndex_of h0 h1,e],by omega,by omega,h1⟩
  ·rw[if_neg h1]at h;cases h
 ·rw[if_neg h0]at h
  by_cases h1: -(n:Int)<=i
  ·rw[if_pos h1]at h
   have e:(i+n).toNat=j:=Option.some.inj h
   exact⟨by rw[seqIndex_neg (by omega) h1,e],by omega,h1,by omega⟩
  ·rw[if_neg h1]at h;cases h
theorem Qjr{α:Type}{xs:List α}{i:Int}{v:α}(h:atI xs i=some v):∃j,seqIndex? i xs.length=some j/\xs[j]? =some v/\j<xs.length/\ -(xs.length:Int)<=i/\i<xs.length:=by
 unfold atI at h
 cases e:ixN xs.length i with
 | none=>rw[e]at h;cases h
 | some j=>
  rw[e]at h
  obtain⟨h1,h2,h3,h4⟩:=Qhn e
  exact⟨j,h1,h,h2,h3,h4⟩
def Qhj(b:Expr):Prop:=∀o i,subscripted b false o i=operate [o,i] (getItem o i)
def IxR(X:Cx)(r:R2):Prop:=
 ∀(value slice:Expr) (pins:List (Addr×Obj)) (s:Shared) (σ:St) (H:Hp) (x y:V) (v u:Value) (Q:VK),Inv X pins σ H s->RelV x v->RelV y u->r x y H Q→
  subscripted slice false v u=operate [v,u] (getItem v u)->wpAny (model X.prog X.w) X.A (subscriptTail value slice v u) (EP X pins σ Q) X.xe s
def MtR(X:Cx)(id:String)(r:V->List V->Hp->VK->Prop):Prop:=
 ∀(pins:List (Addr×Obj)) (s:Shared) (σ:St) (H:Hp) (x:V) (xs:List V) (v:Value) (us:List Value) (Q:VK),Inv X pins σ H s->RelV x v->Qw xs us->r x xs H Q→
  wpAny (model X.prog X.w) X.A (call (.builtin id) (v::us)) (EP X pins σ Q) X.xe s
section
variable {X:Cx}{a b:Expr}{ta tb:TE}{pos:Pos}
theorem IxR.or{r r':R2}(h:IxR X r)(h':IxR X r'):IxR X (λx y H Q=>r x y H Q∨r' x y H Q):=by
 intro value slice pins s σ H x y v u Q I rx ry q hs
 rcases q with q | q
 ·exact h value slice pins s σ H x y v u Q I rx ry q hs
 ·exact h' value slice pins s σ H x y v u Q I rx ry q hs
theorem MtR.or{id:String}{r r':V->List V->Hp->VK->Prop}(h:MtR X id r)(h':MtR X id r'):MtR X id (λx xs H Q=>r x xs H Q∨r' x xs H Q):=by
 intro pins s σ H x xs v us Q I rx rs q
 rcases q with q | q
 ·exact h pins s σ H x xs v us Q I rx rs q
 ·exact h' pins s σ H x xs v us Q I rx rs q
theorem Qtq{r:R2}(hr:IxR X r)(ha:PE X a ta)(hb:PE X b tb)(hs:Qhj b):PE X (.Subscript a b pos) (tOp r ta tb):=by
 intro pins s σ H Q I h
 exact Subscript_ (Qse ha hb I h λv u s2 x y H2 I2 rx ry q=>hr a b pins s2 σ H2 x y v u Q I2 rx ry q (hs _ _))
noncomputable def Qv6(K:PySem.W.Frag):R2:=λx y H Q=>∃p xs i v,x= .ref p/\y= .int i/\SqL K H p xs/\atI xs i=some v/\Q v H
noncomputable def Qzn(K:PySem.W.Frag):R2:=λx y H Q=>∃p xs i v,x= .ref p/\y= .int i/\SqT K H p xs/\atI xs i=some v/\Q v H
theorem Qoa:IxR X (Qv6 X.K):=by
 intro value slice pins s σ H x y v u Q I rx ry h hs
 obtain⟨p,xs,i,z,rfl,rfl,hq,he,q⟩:=h
 cases rx
 obtain⟨t,rfl⟩:=ry
 obtain⟨its,r,pl,hz⟩:=I.list hq
 obtain⟨j,h1,h2,h3,h4,h5⟩:=Qjr he
 obtain⟨w,ew,rw'⟩:=r.get h2
 have hl:=r.length
 have hn:=QfJ
 have fin:EP X pins σ Q w s:=⟨z,H,I,rw',q⟩
 by_cases h0:0<=i
 ·have hj:i.toNat=j:=by
   rw[seqIndex_of h0 h5]at h1
   exact Option.some.inj h1
  exact item_listR pl.isList h0 (by omega) (by rw[hj];simpa using ew) fin hs
 ·have hj:(i+(its.toArray.size:Int)).toNat=j:=by
   rw[seqIndex_neg (by omega) h4]at h1
   rw[Zx,← hl]
   exact Option.some.inj h1
  exact subscriptTail_builtinR (x:=w) pl.isList.typeIs slot_list_getitem.lookup
   (wpAny_getItem_list_neg (Q:=λr s'=>r=w/\EP X pins σ Q r s') pl.isList (by omega) (by rw[Zx]<;>omega) (by omega) (by rw[hj];simpa using ew) ⟨rfl,fin⟩) hs
theorem Qpw:IxR X (Qzn X.K):=by
 intro value slice pins s σ H x y v u Q I rx ry h hs
 obtain⟨p,xs,i,z,rfl,rfl,hq,he,q⟩:=h
 cases rx
 obtain⟨t,rfl⟩:=ry
 obtain⟨its,r,pl,hz⟩:=I.tuple hq
 obtain⟨j,h1,h2,h3,h4,h5⟩:=Qjr he
 obtain⟨w,ew,rw'⟩:=r.get h2
 have hl:=r.length
 have hn:=QfJ
 have fin:EP X pins σ Q w s:=⟨z,H,I,rw',q⟩
 exact subscriptTail_builtinR (x:=w) pl.typeIs slot_tuple_getitem.lookup
  (getItem_tuple (j:=j) (Q:=λr s'=>r=w/\EP X pins σ Q r s') pl (by omega) (by omega) (by rw[Zx,← hl];exact h1) (by simpa using ew) ⟨rfl,fin⟩) hs
theorem QoV(its:List Value)(n j:Nat)(u:Value):Obj.mapSeq (·.setIfInBounds j u) {cls:= .type "list",data:= .seq its.toArray n}={cls:= .type "list",data:= .seq (its.set j u).toArray n}:=by
 simp[Obj.mapSeq]
theorem Inv.lst{pins:List (Addr×Obj)}{σ:St}{H:Hp}{s:Shared}{p:Addr}{xs:List V}(I:Inv X pins σ H s)(h:H p=some (.lst xs)):
  ∃(its:List Value) (n:Nat),Qw xs its/\s.heap.get? p=some {cls:= .type "list",data:= .seq its.toArray n}/\xs.length<=sizeLine:=by
 obtain⟨z,its,n,r,e⟩:=I.hok p _ h
 exact⟨its,n,r,e,z⟩
theorem Inv.Qv2{pins:List (Addr×Obj)}{σ:St}{H:Hp}{s:Shared}{p:Addr}{xs ys:List V}{its its':List Value}{n n':Nat}{f:Obj->Obj}(I:Inv X pins σ H s)(h:H p=some (.lst xs))
  (ho:s.heap.get? p=some {cls:= .type "list",data:= .seq its.toArray n}) (hf:f {cls:= .type "list",data:= .seq its.toArray n}={cls:= .type "list",data:= .seq its'.toArray n'}) (r:Qw ys its') (hz:ys.length<=sizeLine) (t:Nat):
  Inv X pins σ (upd H p (.lst ys)) {s with heap:=s.heap.update p f,toks:=t}:=by
 have e:(s.heap.update p f).get? p=some {cls:= .type "list",data:= .seq its'.toArray n'}:=by
  rw[Heap.get?_update_self f ho (by rw[hf]<;>rfl),hf]
 refine I.write (x:=p) (e:=p) (by rw[h];trivial) (.inl rfl) (λb u hb q=>(Heap.get?_update_other _ _ (Ne.symm hb)).trans q) ⟨_,e⟩ ?_
 exact⟨hz,its',n',r,e⟩
noncomputable def Qtn:V->V->V->Hp->(Hp->Prop)->Prop:=λo i v H Q=>∃p xs k j,o= .ref p/\i= .int k/\H p=some (.lst xs)/\ixN xs.length k=some j/\Q (upd H p (.lst (xs.set j v)))
theorem set_list:Qrt X Qtn:=by
 intro pins s σ H o i v ov iv u Q I ro ri rv h
 obtain⟨p,xs,k,j,rfl,rfl,hp,hj,q⟩:=h
 cases ro
 obtain⟨t,rfl⟩:=ri
 obtain⟨its,n,r,ho,hz⟩:=I.lst hp
 obtain⟨h1,h2,h3,h4⟩:=Qhn hj
 have hl:=r.length
 have hn:=QfJ
 have I':Inv X pins σ (upd H p (.lst (xs.set j v))) {s with heap:=s.heap.update p (Obj.mapSeq (·.setIfInBounds j u))}:=
  I.Qv2 hp ho (QoV its n j u) (r.set rv j) (by rw[ZaS];exact hz) s.toks
 by_cases h0:0<=k
 ·have hk:k.toNat=j:=by
   rw[seqIndex_of h0 h4]at h1
   exact Option.some.inj h1
  exact PySem.W.ki_setAt ho h0 (by omega) (by rw[Zx,← hl];exact h4) (by rw[hk];exact⟨_,I',q⟩)
 ·have hk:(k+(its.toArray.size:Int)).toNat=j:=by
   rw[seqIndex_neg (by omega) h3]at h1
   rw[Zx,← hl]
   exact Option.some.inj h1
  exact PySem.W.ki_setBack ho (by omega) (by rw[Zx,← hl];exact h3) (by omega) (by rw[hk];exact⟨_,I',q⟩)
theorem Qm7(lo hi:Option Int)(n:Nat):(sliceBounds lo hi none n).1=((HT.sIx n 0 lo:Nat):Int)/\(sliceBounds lo hi none n).2.1=((HT.sIx n n hi:Nat):Int)/\(sliceBounds lo hi none n).2.2=1:=by
 refine⟨?_,?_,rfl⟩
 ·cases lo with
  | none=>simp[sliceBounds,HT.sIx]
  | some i=>
   simp only[sliceBounds,HT.sIx,Option.getD_none,show(1:Int)>0 by decide,if_true]
   by_cases h:i<0
   ·simp only[h,if_true]<;>omega
   ·simp only[h,if_false]<;>omega
 ·cases hi with
  | none=>simp[sliceBounds,HT.sIx]
  | some i=>
   simp only[sliceBounds,HT.sIx,Option.getD_none,show(1:Int)>0 by decide,if_true]
   by_cases h:i<0
   ·simp only[h,if_true]<;>omega
   ·simp only[h,if_false]<;>omega
theorem QkZ(its:List Value)(lo hi:Option Int):slicePick its.toArray lo hi none=((its.drop (HT.sIx its.length 0 lo)).take (HT.sIx its.length its.length hi-HT.sIx its.length 0 lo)).toArray:=by
 obtain⟨h1,h2,h3⟩:=Qm7 lo hi its.toArray.size
 unfold slicePick
 rw[h1,h2,h3]
 simp only[sliceRange_one,pick_run,Zx]<;>rfl
noncomputable def QzQ(K:PySem.W.Frag):V->Option Int->Option Int->Hp->VK->Prop:=λx lo hi H Q=>∃a xs,x= .ref a/\SqL K H a xs/\∀p,H p=none->Q (.ref p) (upd H p (.lst (QjJ xs lo hi)))
theorem QtU:SlR X (QzQ X.K):=by
 intro pins s σ H x v vl vu lo hi sl Q I rx hs pl pu h
 obtain⟨a,xs,rfl,hx,q⟩:=h
 cases rx
 obtain⟨its,r,ht,hz⟩:=I.list hx
 have hlen:=r.length
 refine⟨"list",_,slot_list_getitem.lookup,ht.isList.typeIs,?_⟩
 refine wpAny_getItem_list_slice ht.isList hs pl pu .none (by simp) ?_ (by rw[Zx]<;>omega)
 rw[QkZ,← hlen]
 refine⟨.ref s.heap.objs.size,_,I.laid (t':=s.toks) (o:= .lst (QjJ xs lo hi)) (λb ob q=>Zs _ q) (Zn _) ?_,rfl,q _ (I.hok.fresh (Zn _))⟩
 exact⟨ZD (Qnn xs lo hi) hz,_,0,(r.drop (HT.sIx xs.length 0 lo)).take (HT.sIx xs.length xs.length hi-HT.sIx xs.length 0 lo),ZL _ rfl⟩
theorem QlV:Qbf X (.builtin "len") (λxs H Q=>∃p ys,xs=[.ref p]/\(SqL X.K H p ys∨SqT X.K H p ys)/\Q (.int ys.length) H):=by
 intro pins s σ H xs us Q I r h
 obtain⟨p,ys,rfl,hq,q⟩:=h
 obtain⟨u,rfl,rx⟩:=vals1 r
 cases rx
 have hn:=QfJ
 rcases hq with hq | hq
 ·obtain⟨its,r',pl,hz⟩:=I.list hq
  have hlen:=r'.length
  exact Calls.call_len_list pl.isList (by simp only[Zx]<;>omega) ⟨.int ys.length,H,I.tok _,⟨s.toks+1,by rw[Zx,hlen]⟩,q⟩
 ·obtain⟨its,r',pl,hz⟩:=I.tuple hq
  have hlen:=r'.length
  exact len_tuple pl (by simp only[Zx]<;>omega) ⟨.int ys.length,H,I.tok _,⟨s.toks+1,by rw[Zx,hlen]⟩,q⟩
theorem Qbf.or{f:Value}{r r':List V->Hp->VK->Prop}(h:Qbf X f r)(h':Qbf X f r'):Qbf X f (λxs H Q=>r xs H Q∨r' xs H Q):=by
 intro pins s σ H xs us Q I rs q
 rcases q with q | q
 ·exact h pins s σ H xs us Q I rs q
 ·exact h' pins s σ H xs us Q I rs q
theorem QmG:Qbf X (.type "list") (λxs H Q=>∃p ys,xs=[.ref p]/\(SqL X.K H p ys∨SqT X.K H p ys)/\∀l,H l=none->Q (.ref l) (upd H l (.lst ys))):=by
 intro pins s σ H xs us Q I r h
 obtain⟨p,ys,rfl,hq,q⟩:=h
 obtain⟨u,rfl,rx⟩:=vals1 r
 cases rx
 have fin:∀(its:List Value),Qw ys its->ys.length<=sizeLine->∀(h':Heap) (c':Nat),(∀b o',s.heap.get? b=some o'->h'.get? b=some o')→
   h'.get? s.heap.objs.size=some {cls:= .type "list",dict:=none,data:= .seq its.toArray c',slots:= #[]}->EP X pins σ Q (.ref s.heap.objs.size) {s with heap:=h'}:=λits r' hz h' c' kp e=>
  ⟨.ref s.heap.objs.size,_,I.laid (t':=s.toks) kp (Zn _) (show QbB X.prog X.w _ h' _ (.lst ys)from⟨hz,its,c',r',e⟩),rfl,q _ (I.hok.fresh (Zn _))⟩
 rcases hq with hq | hq
 ·obtain⟨its,r',pl,hz⟩:=I.list hq
  have hlen:=r'.length
  obtain⟨o,ho,hc,n,hd⟩:=pl.isList
  exact call_list_seq p (.inl rfl) ho hc hd (λh' c' kp e=>fin its r' hz h' c' kp e) (by simp only[Zx]<;>omega)
 ·obtain⟨its,r',pl,hz⟩:=I.tuple hq
  have hlen:=r'.length
  obtain⟨o,ho,hc,n,hd⟩:=pl
  exact call_list_seq p (.inr rfl) ho hc hd (λh' c' kp e=>fin its r' hz h' c' kp e) (by simp only[Zx]<;>omega)
def tyV(K:PySem.W.Frag)(T:String)(x:V)(H:Hp):Prop:=match x with
 | .str _=>T= "str"
 | .int _=>T= "int"
 | .ref p=>(T= "list" /\∃xs,SqL K H p xs)∨(T= "tuple" /\∃o,K.lookup p=some o/\o.cls= .type "tuple" /\o.dict=none)∨
   (T= "dict" /\((∃kvs,H p=some (.dK kvs))∨∃kvs,H p=some (.dT kvs)))∨(T= "set" /\∃S n,H p=some (.set S n))
 | _=>False
theorem QwS{pins:List (Addr×Obj)}{σ:St}{H:Hp}{s:Shared}{T:String}{x:V}{v:Value}(I:Inv X pins σ H s)(r:RelV x v)(ty:tyV X.K T x H):
  s.TypeIs v T/\∀a,v= .ref a->∃ob,s.heap.get? a=some ob/\ob.dict=none:=by
 cases x with
 | str z=>
  obtain⟨t,rfl⟩:=r
  cases(show T= "str" from ty)
  exact⟨typeIs_str s z t,λ_ e=>nomatch e⟩
 | int i=>
  obtain⟨t,rfl⟩:=r
  cases(show T= "int" from ty)
  exact⟨typeIs_int s i t,λ_ e=>nomatch e⟩
 | ref p=>
  cases r
  rcases ty with⟨rfl,xs,hq⟩ | ⟨rfl,o,hk,hc,hd⟩ | ⟨rfl,hk⟩ | ⟨rfl,S,n,hk⟩
  ·obtain⟨its,_,pl,_⟩:=I.list hq
   refine⟨pl.isList.typeIs,λa e=>?_⟩
   cases e
   obtain⟨o,n,e,c,hd,_⟩:=pl
   exact⟨o,e,hd⟩
  ·refine⟨⟨o,I.kIn p o hk,hc⟩,λa e=>?_⟩
   cases e
   exact⟨o,I.kIn _ o hk,hd⟩
  ·have z:∃o,s.heap.get? p=some o/\o.ExactDict:=by
    rcases hk with⟨kvs,hk⟩ | ⟨kvs,hk⟩
    ·obtain⟨_,_,_,_,o,_,_,e,ex,_⟩:=I.hok p _ hk
     exact⟨o,e,ex⟩
    ·obtain⟨_,_,_,_,o,_,_,e,ex,_⟩:=I.hok p _ hk
     exact⟨o,e,ex⟩
   obtain⟨o,e,ex⟩:=z
   refine⟨⟨o,e,ex.1⟩,λa e2=>?_⟩
   cases e2
   exact⟨o,e,ex.2.1⟩
  ·obtain⟨o,_,_,_,e,ex,_⟩:=I.hok p _ hk
   refine⟨⟨o,e,ex.1⟩,λa e2=>?_⟩
   cases e2
   exact⟨o,e,ex.2.1⟩
 | _=>exact False.elim ty
noncomputable def tBM(K:PySem.W.Frag)(T:String)(r:V->List V->Hp->VK->Prop)(to:TE)(t:TA):TE:=λσ H Q=>to σ H λx H1=>tyV K T x H1/\t σ H1 λxs H2=>r x xs H2 Q
variable {o e:Expr}{es:List Expr}{to:TE}{t:TA}{name:Str}{apos cpos:Pos}{T id:String}{r:V->List V->Hp->VK->Prop}
theorem Qx8(pa:PlainAttrs T)(slot:Slot T name id)(hty:typeOf (.builtin id)=pure (.type "method_descriptor"))(hm:MtR X id r)(ho:PE X o to)(ha:PA X (e::es) t)
  (hbase:attributeBase o name X.env (eval o X.env)=eval o X.env:=by rfl)
  (hfew:((backTo cpos (starEach (e::es) X.env)).all (λx=> !x.1) && (backToKw cpos (keywordEach [] X.env)).all (λx=>x.1.isSome)
   && decide ((e::es).length+([]:List Keyword).length+(if([]:List Keyword).isEmpty then 0 else 1)<30))=true:=by rfl)
  (hline:(apos.endLine == cpos.line)=true:=by rfl) (hs:starEach (e::es) X.env=(false,eval e X.env)::starEach es X.env:=by rfl) (hplain:(backTo cpos (starEach es X.env)).any (·.1)=false:=by rfl):
  PE X (.Call (.Attribute o name apos) (e::es) [] cpos) (tBM X.K T r to t):=by
 intro pins s σ H Q I h
 refine wpAny_Call_method_late hbase hfew hline rfl (thn (ho pins s σ H _ I h) λv s1 hpt=>?_)
 obtain⟨x,H1,I1,r1,ty,q1⟩:=hpt
 obtain⟨h1,h2⟩:=QwS I1 r1 ty
 refine⟨T,id,pa,slot,hty,h1,h2,?_⟩
 have hA:=ha cpos pins s1 σ H1 _ I1 q1
 rw[hs]at hA ⊢
 refine Calls.callWith_builtin (by show(false || (backTo cpos (starEach es X.env)).any (·.1))=false;rw[hplain]<;>rfl) (Calls.evalArgs_plain ?_)
 exact thn hA λus s2 ⟨vs,H2,I2,r2,q2⟩=>hm pins s2 σ H2 x vs v us Q I2 r1 r2 q2
end
end L2
namespace L2
open PySem PySem.Spec PyProof.Rows
def MtM(X:Cx)(id:String)(r:V->List V->Hp->VK->Prop):Prop:=
 ∀(pins:List (Addr×Obj)) (s:Shared) (σ:St) (H:Hp) (x:V) (xs:List V) (v:Value) (us:List Value) (Q:VK),Inv X pins σ H s->RelV x v->Qw xs us->r x xs H Q→
  wpAny (model X.prog X.w) X.A (call (.builtin id) (v::us)) (EP X pins σ Q) X.xe s
theorem Qw.one{x:V}{us:List Value}(r:Qw [x] us):∃u,us=[u]/\RelV x u:=vals1 r
theorem Qw.two{x y:V}{us:List Value}(r:Qw [x,y] us):∃u v,us=[u,v]/\RelV x u/\RelV y v:=vals2 r
theorem Qw.zero:∀{us:List Value},Qw [] us->us=[]
 | _,.nil=>rfl
theorem Qw.eraseIdx:∀{xs:List V}{us:List Value}(i:Nat),Qw xs us->Qw (xs.eraseIdx i) (us.eraseIdx i)
 | _,_,_,.nil=> .nil
 | _,_,0,.cons _ t=>t
 | _,_,i+1,.cons r t=> .cons r (Qw.eraseIdx i t)
theorem Qw.reverse{xs:List V}{us:List Value}(h:Qw xs us):Qw xs.reverse us.reverse:=by
 induction h with
 | nil=>exact .nil
 | cons r t ih=>rw[ZaV,ZaV];exact Qw.append ih (.cons r .nil)
theorem Qw.rep{xs:List V}{us:List Value}(h:Qw xs us):∀k:Nat,Qw (List.replicate k xs).flatten (List.replicate k us).flatten
 | 0=> .nil
 | k+1=>by
  rw[Zah,Zah,Zao,Zao]
  exact Qw.append h (Qw.rep h k)
theorem foldl_rep(its:List Value):∀(k:Nat) (acc:List Value),
  List.foldl (λx1 x2=>x1++x2) acc.toArray (List.replicate k its.toArray)=(acc++(List.replicate k its).flatten).toArray
 | 0,acc=>by simp
 | k+1,acc=>by
  have e:acc.toArray++its.toArray=(acc++its).toArray:=by simp
  have e2:(acc++its)++(List.replicate k its).flatten=acc++(List.replicate (k+1) its).flatten:=by
   rw[Zah,Zao,ZaJ]
  rw[← e2,← foldl_rep its k (acc++its),← e,Zah,ZbU]
section
variable {X:Cx}{pins:List (Addr×Obj)}{σ:St}{H:Hp}{s:Shared}{l b:Addr}{xs ys zs:List V}
theorem Inv.Qzo{its its':List Value}{n:Nat}{f:Array Value->Array Value}{t':Nat}(I:Inv X pins σ H s)(hH:H l=some (.lst xs))
  (e:s.heap.get? l=some {cls:= .type "list",data:= .seq its.toArray n}) (hf:f its.toArray=its'.toArray) (hv:Qw ys its') (hz:ys.length<=sizeLine):
  Inv X pins σ (upd H l (.lst ys)) {s with heap:=s.heap.update l (Obj.mapSeq f),toks:=t'}:=by
 have q:=PySem.IsL.update e f
 rw[hf]at q
 refine I.write (x:=l) (e:=l) (by rw[hH];exact trivial) (.inl rfl) (λb' u hb hu=>(Heap.get?_update_other s.heap (Obj.mapSeq f) (Ne.symm hb)).trans hu) ⟨_,q⟩ ?_
 exact⟨hz,its',_,hv,q⟩
theorem Inv.Qxw{its:List Value}{t':Nat}(I:Inv X pins σ H s)(hv:Qw ys its)(hz:ys.length<=sizeLine):
  Inv X pins σ (upd H s.heap.objs.size (.lst ys)) {s with heap:=s.heap.push {cls:= .type "list",data:= .seq its.toArray},toks:=t'}:=
 I.laid (λ_ _ q=>Zs _ q) (Zn _) ⟨hz,its,0,hv,ZL _ rfl⟩
theorem Inv.fresh(I:Inv X pins σ H s):H s.heap.objs.size=none:=I.hok.fresh (Zn _)
theorem Inv.QwN(I:Inv X pins σ H s)(hH:H l=some (.lst xs)):xs.length<=sizeLine/\∃(its:List Value) (n:Nat),Qw xs its/\xs.length=its.length/\s.heap.get? l=some {cls:= .type "list",data:= .seq its.toArray n}:=by
 obtain⟨z,its,n,r,e⟩:=I.hok l _ hH
 exact⟨z,its,n,r,r.length,e⟩
theorem QrF{n:Nat}(h:n<=sizeLine):Builtin.List.listTooLong n=false:=by
 unfold Builtin.List.listTooLong
 exact decide_eq_false (by omega)
end
section
variable {X:Cx}
noncomputable def QnQ:V->List V->Hp->VK->Prop:=λx vs H Q=>∃l xs y,x= .ref l/\vs=[y]/\H l=some (.lst xs)/\xs.length<sizeLine/\Q .non (upd H l (.lst (xs++[y])))
theorem Qkk:MtM X "list.append" QnQ:=by
 intro pins s σ H x vs v us Q I rx rv h
 obtain⟨l,xs,y,rfl,rfl,hH,hz,q⟩:=h
 cases rx
 obtain⟨u,rfl,ru⟩:=rv.one
 obtain⟨z,its,n,r,hl,e⟩:=I.QwN hH
 refine call_meets F.slot_list_append ⟨_,e,rfl⟩ F.entry_list_append (F.args_list_append_2 _ _) (PySem.list_append l its.toArray n u (by rw[Zx];omega)) ⟨e,?_⟩
 refine⟨.non,_,I.Qzo (its':=its++[u]) hH e (by simp) (r.append (.cons ru .nil)) ?_,rfl,q⟩
 rw[Zp,ZaT]
 omega
theorem len_rep{α:Type}(xs:List α)(k:Nat):(List.replicate k xs).flatten.length=k*xs.length:=by
 induction k with
 | zero=>simp
 | succ k ih=>rw[Zah,Zao,Zp,ih,Nat.succ_mul,Nat.add_comm]
end
section
variable {prog:Program}{w:World}{A:Around}{E:Value->Shared->Prop}{s:Shared}
end
section
variable {X:Cx}
end
end L2
namespace Att
open PySem PySem.W PySem.Calls PyProof.Rows
theorem QiB{P:Params}{h:Heap}:∀(ns:List Int) (vs:List Value),WellAll P h vs (ns.map WData.int)->IntsAre vs ns:=by
 intro ns
 induction ns with
 | nil=>
  intro vs w
  rw[Zbn]at w
  cases w
  exact .nil
 | cons n ns ih=>
  intro vs w
  rw[Zq]at w
  cases w with
  | cons a b=>
   cases a
   exact .cons _ _ (ih _ b)
theorem Qp2{l:OpenLaw}{n:Nat}(hn:l.most=some n){P:Params}{h:Heap}{args:List WData}{vals:List Value}
  (hpre:l.row.toRowW.claim.pre args=true) (hwl:WellAll P h vals args):
  ∃a vs ns,vals=[Value.ref a]/\args=[WData.list (ns.map WData.int)]/\h.get? a=some {cls:= .type "list",data:= .seq vs.toArray}/\IntsAre vs ns/\ns.length<=n:=by
 have hsh:WShape.hasAll [] args [.list .int]=true:=(pre_splitW hpre).1
 have hc:l.pre.holds [] {args:=args}=true:=(pre_splitW hpre).2
 obtain⟨d,r,rfl,h1,h2⟩:=hasAllW_cons hsh
 obtain rfl:=hasAllW_nil h2
 obtain⟨xs,rfl,h3⟩:=hasW_list h1
 obtain⟨ns,rfl⟩:=items_int h3
 have hlen:ns.length<=n:=by
  unfold OpenLaw.pre at hc
  have h4:(WTm.not (.lt (.lit (.int (n:Int))) (.len (.arg 0)))).holds [] {args:=[.list (ns.map .int)]}=true:=by
   have h4:=(holds_andW hc).1
   rw[hn]at h4
   exact h4
  have h5:=condW_of h4 (w_not (w_lt w_lit (w_len_list (w_arg rfl))))
  rw[Zm]at h5
  refine Nat.le_of_not_lt λq=>?_
  have q':(n:Int)<((ns.length:Nat):Int):=by omega
  first
   | (rw[decide_eq_true q']at h5;exact absurd h5 (by decide))
   | (simp at h5;omega)
 cases hwl with
 | cons w1 w2=>
  cases w2
  cases w1 with
  | list ho hall=>exact⟨_,_,ns,rfl,rfl,ho,QiB ns _ hall,hlen⟩
theorem QpJ(l:OpenLaw)(args:List WData):l.row.toRowW.claim.post args (.bool true) args=true:=
 postW_of (r:=l.row.toRowW) (X:=(true == true))
  (show WShape.has [] (.bool true) .bool=true by first | rfl | decide | simp[WShape.has,WShape.arms,WShape.armsAll])
  (show(WTm.eq .res (.lit (.bool true))).value [] {args:=args,res:=some (.bool true),after:=args}=some (.bool (true == true))from w_eq_bool (w_res rfl) w_lit) rfl
theorem QhV{l:OpenLaw}{n:Nat}{q:Program}{loose:List Str}{XP:(Str->Option Value)->Heap->Prop}{YP:World->Heap->Prop}{d:DefRec}
  (hn:l.most=some n) (hdf:d.params.defaults=[])
  (call:∀(w:World) (s₀ s₁:Shared) (mg mb:Str->Option Value) (fa:Addr) (o:Obj) (pm cd doc:Value) (a:Addr) (vs:List Value) (ns:List Int),
   Ground q loose [] XP w s₀ mg mb s₁.heap->YP w s₁.heap→
   s₁.heap.get? fa=some o->o.data= .func (docDef d.name d.params d.body d.scope pm cd doc)->s₁.heap.CodeRec cd d.name->mg d.name=some (.ref fa)→
   s₁.heap.get? a=some {cls:= .type "list",data:= .seq vs.toArray}->IntsAre vs ns->ns.length<=n->s₁.gens= #[]→
   codeAny (model l.prog w) callerA (.call (.ref fa) ⟨[.ref a],[]⟩) (λr s'=>r= .ok (.ret (.bool true))/\OldK s₁.heap s'.heap/\s'.os=s₁.os/\AllBare s'.gens) s₁):
  WalkO q loose XP YP l.row.toRowW d [] (λf vs=>PySem.call f vs):=by
 intro w s₀ s₁ mg mb G Y fa o pm cd doc dV kV ho hd hcd hD hmg hg args vals as hpre hlay hrd hwl hlo
 obtain rfl:dV= .none:=Dflts.none hD hdf
 obtain rfl:kV= .none:=Dflts.noKw hD
 obtain⟨a,vs,ns,rfl,rfl,hobj,hints,hlen⟩:=Qp2 hn hpre hwl
 refine enter_call (codeAny_mono (call w s₀ s₁ mg mb fa o pm cd doc a vs ns G Y ho (fd_plain hd) hcd hmg hobj hints hlen hg) λr s' hq=>?_)
 obtain⟨rfl,h2,h3,h4⟩:=hq
 exact⟨.inl ⟨.bool true,.bool true,[],rfl,λ_=>rfl,.bool true,QpJ l _,λ_=>⟨List.Pairwise.nil,λ_ hm=>(nomatch hm)⟩⟩,h2,h3,h4⟩
section
variable {prog:Program}{w:World}{A:Around}{E:Value->Shared->Prop}{s:Shared}{K:Frag}
noncomputable def ledger(h:Heap)(L d:Addr):List (Addr×Obj):=(List.range h.objs.size).filterMap λa=>if a=L∨a=d then none else(h.get? a).map λo=>(a,o)
end
end Att
namespace L2
open PySem PySem.Spec PyProof.Rows
theorem QcE:∀{vs:List Value}{ns:List Int},IntsAre vs ns->Qw (ns.map V.int) vs
 | _,_,.nil=> .nil
 | _,_,.cons n t h=> .cons ⟨t,rfl⟩ (QcE h)
def Qsw(H:Hp):Prop:=∀b,H b=none∨∃o xs,H b=some (.frz o (.lst xs))
theorem QlF{P:Program}{w:World}{K:PySem.W.Frag}{mg mb:Str->Option Value}{CX:CXT}{k:Nat}{fa a:Addr}{fd:FuncData}{x:Str}{sp:Sp}{s₁:Shared}{vs:List Value}{ns:List Int}
  (KX:K.In s₁.heap) (hns:s₁.heap.Ns mainGlobals mg) (hb:s₁.heap.Ns builtinsNs mb) (hbb:∀x:Str,x≠ "__name__" ->mb x=bootBuiltins x) (hlim:s₁.heap.NoLimit) (hg:s₁.gens= #[])
  (ha:s₁.heap.get? a=some {cls:= .type "list",data:= .seq vs.toArray}) (hi:IntsAre vs ns) (hl:ns.length<=sizeLine) (hr:Qag k callerA)
  (F:∀base:Heap,K.In base->base.Ns mainGlobals mg->Qaq P w K mg base CX k fa fd [x] sp) (hbind:∀(s:Shared) (u:Value),BindsTo s fd ⟨[u],[]⟩ [(x,u)])
  (hsp:∀H:Hp,Qsw H->SqL K H a (ns.map V.int)->sp [.ref a] H (λv _=>v= .bl true) λ_ _ _=>False)
  (hCX:∀H e s',CX [] H s₁ (λ_ _ _=>False) e s'->False):
  codeAny (model P w) callerA (.call (.ref fa) ⟨[.ref a],[]⟩) (λr s'=>r= .ok (.ret (.bool true))/\OldK s₁.heap s'.heap/\s'.os=s₁.os/\AllBare s'.gens) s₁:=by
 have rv:=QcE hi
 have lenV:=hi.length
 have core:∀H:Hp,Qsw H->SqL K H a (ns.map V.int)->HOk P w H s₁.heap->(∀b,H b≠none->b=a)->(H a≠none->K.lookup a=none)→
   codeAny (model P w) callerA (.call (.ref fa) ⟨[.ref a],[]⟩) (λr s'=>r= .ok (.ret (.bool true))/\OldK s₁.heap s'.heap/\s'.os=s₁.os/\AllBare s'.gens) s₁:=by
  intro H hO hS hok hA hK
  have base_of:∀{b:Addr}{o:Obj},s₁.heap.get? b=some o->H b=none->(Qgf s₁.heap H).get? b=some o:=λe n=>QsO e n
  have noA:∀{b:Addr}{o:Obj}{es:Array DictEntry}{ep:Nat},s₁.heap.get? b=some o->o.data= .dict es ep->H b=none:=λ{b o es ep} e d=>by
   cases q:H b with
   | none=>rfl
   | some u=>
    have e':b=a:=hA b (by rw[q];simp)
    subst e'
    rw[ha]at e;cases e
    have d':Data.seq vs.toArray _=Data.dict es ep:=d
    cases d'
  have nsK:∀{b:Addr}{m:Str->Option Value},s₁.heap.Ns b m->(Qgf s₁.heap H).Ns b m:=λ{b m} ⟨o,es,ep,e,d,r⟩=>⟨o,es,ep,base_of e (noA e d),d,r⟩
  have hKb:K.In (Qgf s₁.heap H):=λb o e=>base_of (KX b o e) (by
   cases q:H b with
   | none=>rfl
   | some u=>
    have e':b=a:=hA b (by rw[q];simp)
    subst e'
    rw[hK (by rw[q];simp)]at e;cases e)
  have hM:Mod K mg (Qgf s₁.heap H):=⟨hKb,nsK hns,⟨mb,nsK hb,hbb⟩,let ⟨mc,h1,h2⟩:=hlim;⟨mc,nsK h1,h2⟩⟩
  have e0:Qfn P w K mg (Qgf s₁.heap H) callerA [] s₁ H:=⟨rfl,hM,λb o e=>Qvk e,Nat.le_of_eq (Qqn _ _),trivial,λb hb=>absurd (show b∈([]:List Addr)from hb) (by simp),hok,.of_eq hg⟩
  refine codeAny_mono ((F _ hKb (nsK hns)).run callerA [] s₁ H ⟨[.ref a],[]⟩ [.ref a] [.ref a] _ _ hr e0 (hbind s₁ (.ref a)) (.cons rfl .nil) (hsp H hO hS)) λr s' h=>?_
  cases r with
  | error e=>exact(hCX H e s' h).elim
  | ok fl=>
   cases fl with
   | next=>exact False.elim h
   | brk=>exact False.elim h
   | cont=>exact False.elim h
   | ret u=>
    obtain⟨v,H',os,bare,un,hok',r',q⟩:=h
    have q':v= .bl true:=q
    subst q'
    obtain rfl:u=Value.bool true:=r'
    refine⟨rfl,OldK.of_keep λb o e=>?_,os,bare⟩
    cases q:H b with
    | none=>exact un.keep b o e q (by intro z;exact absurd (show b∈([]:List Addr)from z) (by simp)) (by simp)
    | some u=>
     rcases hO b with z | ⟨ob,xs,z⟩
     ·rw[q]at z;cases z
     ·have z2:=un.frzs b ob _ z
      obtain⟨e1,_⟩:=hok b _ z
      obtain⟨e2,_⟩:=hok' b _ z2
      rw[e]at e1;cases e1
      exact e2
 cases hk:K.lookup a with
 | some o=>
  have e:=KX a o hk
  rw[ha]at e
  cases e
  refine core (λ_=>none) (λ_=> .inl rfl) (.inr ⟨_,vs.toArray,_,hk,rfl,rfl,rfl,by rw[Zx,lenV];exact hl,by simpa using rv⟩) (λb u z=>by have z':(none:Option HO)=some u:=z;cases z') (λb z=>absurd rfl z) λz=>absurd rfl z
 | none=>
  refine core (λb=>if b=a then some (.frz {cls:= .type "list",data:= .seq vs.toArray} (.lst (ns.map V.int)))else none) (λb=>?_) (.inl (.inr ⟨{cls:= .type "list",data:= .seq vs.toArray},if_pos rfl⟩)) (λb u z=>?_) (λb z=>?_) λ_=>hk
  ·by_cases hb:b=a
   ·exact .inr ⟨_,_,if_pos hb⟩
   ·exact .inl (if_neg hb)
  ·by_cases hb:b=a
   ·have z':=(if_pos hb).symm.trans z
    cases z'
    subst hb
    exact⟨ha,by rw[Zm];exact hl,vs,_,rv,ha⟩
   ·have z':=(if_neg hb).symm.trans z
    cases z'
  ·by_cases hb:b=a
   ·exact hb
   ·exact absurd (if_neg hb) z
end L2
namespace L2
open PySem PySem.Spec PyProof.Rows
noncomputable abbrev KOf{K:PySem.W.Frag}{h:Heap}(_:K.In h):PySem.W.Frag:=K
theorem Qz2{l:PySem.W.OpenLaw}{n k:Nat}{q:Program}{loose:List Str}{XP:(Str->Option Value)->Heap->Prop}{YP:World->Heap->Prop}{d:DefRec}{K:Params->PySem.W.Frag}{CX:World->CXT}{sp:World->Sp}{x:Str}
  (hn:l.most=some n) (hn2:n<=sizeLine) (hdf:d.params.defaults=[]) (hr:Qag k callerA)
  (hY:∀(w:World) (h:Heap),YP w h->(K w.params).In h)
  (F:∀(w:World) (mg:Str->Option Value) (fa:Addr) (h:Heap),(K w.params).In h->h.Ns mainGlobals mg->mg d.name=some (.ref fa)→
   ∃fd:FuncData,(∀(s:Shared) (u:Value),BindsTo s fd ⟨[u],[]⟩ [(x,u)])∧
    ∀base:Heap,(K w.params).In base->base.Ns mainGlobals mg->Qaq l.prog w (K w.params) mg base (CX w) k fa fd [x] (sp w))
  (hsp:∀(w:World) (H:Hp) (a:Addr) (ns:List Int),ns.length<=n->Qsw H->SqL (K w.params) H a (ns.map V.int)->sp w [.ref a] H (λv _=>v= .bl true) λ_ _ _=>False)
  (hCX:∀(w:World) (H:Hp) (s:Shared) (e:Value) (s':Shared),CX w [] H s (λ_ _ _=>False) e s'->False):
  PySem.W.WalkO q loose XP YP l.row.toRowW d [] (λf vs=>PySem.call f vs):=by
 refine Att.QhV hn hdf λw s₀ s₁ mg mb fa o pm cd doc a vs ns G Y ho hd hcd hmg hobj hints hlen hg=>?_
 have KX:=hY w _ Y
 obtain⟨fd,hb,hF⟩:=F w mg fa _ KX G.T.g hmg
 exact QlF KX G.T.g G.T.b G.T.builtins G.T.nolimit hg hobj hints (ZD hlen hn2) hr hF hb (λH hO hS=>hsp w H a ns hlen hO hS) λH e s'=>hCX w H s₁ e s'
end L2
namespace L2
open PySem PySem.Spec PyProof.Rows
noncomputable def inClass(s:Stmt)(j:Nat):Stmt:=match s with
 | .ClassDef _ _ _ body _ _ _ _ _ _ _=>body.getD j (.Pass ⟨0,0,0,0⟩)
 | _=> .Pass ⟨0,0,0,0⟩
noncomputable def Qdi(s:Stmt):Arguments:=match s with
 | .FunctionDef _ a _ _ _ _ _ _ _ _=>a
 | _=>{posonlyargs:=[],args:=[],vararg:=none,kwonlyargs:=[],kw_defaults:=[],kwarg:=none,defaults:=[]}
noncomputable def Q2(s:Stmt):List Stmt:=match s with
 | .FunctionDef _ _ b _ _ _ _ _ _ _=>b
 | _=>[]
noncomputable def Qg(s:Stmt):Scope:=match s with
 | .FunctionDef _ _ _ _ _ _ sc _ _ _=>sc
 | _=>{kind:= .function,names:=[],isGenerator:=false,isCoroutine:=false}
noncomputable abbrev CX0:CXT:=λ_ _ _ _ _ _=>False
noncomputable abbrev E0:XK:=λ_ _ _=>False
theorem Qho{X:Cx}:QeT CX0 X E0:=λ_ _ _ _ _ _ _ h=>h.elim
structure Fun (K:PySem.W.Frag) (x qual:Str) (st:Stmt) (f:Addr) (fd:FuncData):Prop where
 ex:∃(oc:Value) (od:Option Addr) (kV doc pm:Value) (an:Option Addr) (cdv ct:Value) (osl:Array (Option Value)),
  fd=PySem.W.fnOf x qual (Qdi st) (Q2 st) (Qg st) .none kV doc pm an cdv ct/\K.lookup f=some ⟨oc,od,.func fd,osl⟩/\PySem.W.codeIn K cdv qual=true
 kp:PySem.W.keepIn K (.ref f)=true
section
variable {P:Program}{w:World}{K:PySem.W.Frag}{mg:Str->Option Value}{base:Heap}
theorem Fun.ok{x qual:Str}{st:Stmt}{f:Addr}{fd:FuncData}{N ps:List Str}{k:Nat}{sp:Sp}(F:Fun K x qual st f fd)(S:QaA N ps (Qg st))(len:∀vs H Q E,sp vs H Q E->vs.length=ps.length)
  (hbody:∀(cdv:Value) (A:Around) (outer:List Env) (s:Shared) (H:Hp) (vs:List V) (Q:VK) (E:XK),Qag k (A.deeper (envOfC qual (Qg st) s.heap.objs.size f cdv))->sp vs H Q E→
   ∃t,PSs (Qcr CX0 P w K mg base N qual (Qg st) f cdv A outer s H E).nox (Q2 st) t/\t {nx:=λ_ H'=>Q .non H',rt:=Q} (start N vs) H):Qaq P w K mg base CX0 (k+1) f fd ps sp:=by
 obtain⟨oc,od,kV,doc,pm,an,cdv,ct,osl,rfl,lk,hcd⟩:=F.ex
 refine QoU lk hcd S len λA outer s H vs Q E hr hsp=>?_
 obtain⟨t,h,q⟩:=hbody cdv A outer s H vs Q E hr hsp
 exact⟨t,h.nox,q⟩
theorem Fun.binds{x qual:Str}{st:Stmt}{f:Addr}{fd:FuncData}{ps:List Str}(F:Fun K x qual st f fd)
  (h:∀(kV doc pm:Value) (an:Option Addr) (cdv ct:Value) (us:List Value),us.length=ps.length->bindArgs (PySem.W.fnOf x qual (Qdi st) (Q2 st) (Qg st) .none kV doc pm an cdv ct) ⟨us,[]⟩=pure (ps.zip us)):Binds K fd ps []:=by
 obtain⟨oc,od,kV,doc,pm,an,cdv,ct,osl,rfl,lk,hcd⟩:=F.ex
 exact .all (h kV doc pm an cdv ct)
theorem Qp7{x qual:Str}{st:Stmt}{f:Addr}{oc:Value}{od an:Option Addr}{osl:Array (Option Value)}{kV doc pm cdv ct:Value}(l:K.lookup f=some ⟨oc,od,.func (PySem.W.fnOf x qual (Qdi st) (Q2 st) (Qg st) .none kV doc pm an cdv ct),osl⟩)
  (c:PySem.W.codeIn K cdv qual=true) (k:PySem.W.keepIn K (.ref f)=true):Fun K x qual st f (PySem.W.fnOf x qual (Qdi st) (Q2 st) (Qg st) .none kV doc pm an cdv ct):=⟨⟨oc,od,kV,doc,pm,an,cdv,ct,osl,rfl,l,c⟩,k⟩
end
section
variable {X:Cx}
end
theorem Qoi{A B:Prop}(h:B):if false=true then A else B:=by
 rw[if_neg ZJ]
 exact h
theorem Qpc{A B:Prop}(h:A):if true=true then A else B:=by
 rw[if_pos rfl]
 exact h
def QD(H H':Hp):Prop:=∀b o,H b=some o->H' b=some o
theorem QD.refl(H:Hp):QD H H:=λ_ _ h=>h
theorem QD.trans{H H1 H2:Hp}(a:QD H H1)(b:QD H1 H2):QD H H2:=λc o h=>b c o (a c o h)
theorem QD.free{H H':Hp}(e:QD H H'){l:Addr}(h:H' l=Option.none):H l=Option.none:=by
 cases q:H l with
 | none=>rfl
 | some o=>
  rw[e l o q]at h
  cases h
theorem QD.seq{K:PySem.W.Frag}{H H':Hp}{a:Addr}{xs:List V}(e:QD H H')(h:SqL K H a xs):SqL K H' a xs:=by
 rcases h with(h | ⟨o,h⟩) | h
 ·exact .inl (.inl (e _ _ h))
 ·exact .inl (.inr ⟨o,e _ _ h⟩)
 ·exact .inr h
end L2
namespace L2
open PySem PySem.Spec PyProof.Rows
section
variable {κ:Type} [DecidableEq κ]
noncomputable def Qeh(kvs:List (κ×V))(k:κ):Option V:=(kvs.find? λkv=>decide (kv.1=k)).map (·.2)
noncomputable def putK(kvs:List (κ×V))(k:κ)(v:V):List (κ×V):=
 if(kvs.any λkv=>decide (kv.1=k))=true then kvs.map (λkv=>if kv.1=k then(kv.1,v)else kv)else kvs++[(k,v)]
noncomputable def QtD(kvs:List (κ×V))(k:κ):List (κ×V):=kvs.filter λkv=>decide (kv.1≠k)
theorem Qih{p:κ×V}{r:List (κ×V)}{k:κ}(e:p.1=k):Qeh (p::r) k=some p.2:=by simp[Qeh,List.find?_cons,e]
theorem Qid{p:κ×V}{r:List (κ×V)}{k:κ}(e:¬p.1=k):Qeh (p::r) k=Qeh r k:=by simp[Qeh,List.find?_cons,e]
theorem Qme(k:κ):∀kvs:List (κ×V),(kvs.any λkv=>decide (kv.1=k))=(Qeh kvs k).isSome
 | []=>rfl
 | p::r=>by
  rw[Zbw]
  by_cases e:p.1=k
  ·simp only[Qih e,decide_eq_true e,Bool.true_or,Option.isSome_some]
  ·rw[Qid e,decide_eq_false e,Bool.false_or];exact Qme k r
theorem Qc0.QqO{o:Option V}{u:Option Value}(r:Qc0 o u):o.isSome=u.isSome:=by
 cases o with
 | none=>cases u with
  | none=>rfl
  | some _=>exact(show False from r).elim
 | some _=>cases u with
  | none=>exact(show False from r).elim
  | some _=>rfl
theorem Qc0.getD{o:Option V}{u:Option Value}{d:V}{d':Value}(r:Qc0 o u)(rd:RelV d d'):RelV (o.getD d) (u.getD d'):=by
 cases o with
 | none=>cases u with
  | none=>exact rd
  | some _=>exact(show False from r).elim
 | some _=>cases u with
  | none=>exact(show False from r).elim
  | some _=>exact r
theorem KV.val{kvs:List (κ×V)}{vs:List (κ×Value)}(r:KV kvs vs)(k:κ):Qc0 (Qeh kvs k) (valueAt vs k):=by
 unfold KV at r
 induction r with
 | nil=>exact True.intro
 | @cons p q ps qs h t ih=>
  obtain⟨h1,h2⟩:=h
  by_cases e:p.1=k
  ·have e':q.1=k:=h1.symm.trans e
   have b:valueAt (q::qs) k=some q.2:=by simp[valueAt,List.find?_cons,e']
   rw[Qih e,b];exact h2
  ·have e':¬q.1=k:=λz=>e (h1.trans z)
   have b:valueAt (q::qs) k=valueAt qs k:=by simp[valueAt,List.find?_cons,e']
   rw[Qid e,b];exact ih
theorem KV.any{kvs:List (κ×V)}{vs:List (κ×Value)}(r:KV kvs vs)(k:κ):(kvs.any λkv=>decide (kv.1=k))=vs.any λkv=>decide (kv.1=k):=by
 unfold KV at r
 induction r with
 | nil=>rfl
 | cons h t ih=>rw[Zbw,Zbw,ih,h.1]
theorem KV.QrJ{kvs:List (κ×V)}{vs:List (κ×Value)}(r:KV kvs vs)(k:κ){y:V}{u:Value}(ry:RelV y u):
  KV (kvs.map λkv=>if kv.1=k then(kv.1,y)else kv) (vs.map λkv=>if kv.1=k then(kv.1,u)else kv):=by
 unfold KV at r ⊢
 induction r with
 | nil=>exact .nil
 | @cons p q ps qs h t ih=>
  rw[Zq,Zq]
  refine .cons ?_ ih
  obtain⟨h1,h2⟩:=h
  by_cases e:p.1=k
  ·rw[if_pos e,if_pos (h1.symm.trans e)];exact⟨h1,ry⟩
  ·rw[if_neg e,if_neg (λz=>e (h1.trans z))];exact⟨h1,h2⟩
theorem KV.put{kvs:List (κ×V)}{vs:List (κ×Value)}(r:KV kvs vs)(k:κ){y:V}{u:Value}(ry:RelV y u):KV (putK kvs k y) (stored vs k u):=by
 unfold putK stored
 rw[r.any k]
 by_cases e:(vs.any λkv=>decide (kv.1=k))=true
 ·rw[if_pos e,if_pos e];exact r.QrJ k ry
 ·rw[if_neg e,if_neg e];exact Paired.snoc r ⟨rfl,ry⟩
theorem KV.drop{kvs:List (κ×V)}{vs:List (κ×Value)}(r:KV kvs vs)(k:κ):KV (QtD kvs k) (without vs k):=by
 unfold KV at r ⊢
 unfold QtD without
 induction r with
 | nil=>exact .nil
 | @cons p q ps qs h t ih=>
  obtain⟨h1,h2⟩:=h
  rw[Zav,Zav]
  by_cases e:p.1=k
  ·have a:¬decide (p.1≠k)=true:=by simp[e]
   have b:¬decide (q.1≠k)=true:=by simp[h1.symm.trans e]
   rw[if_neg a,if_neg b];exact ih
  ·have e':¬q.1=k:=λz=>e (h1.trans z)
   have a:decide (p.1≠k)=true:=by simp[e]
   have b:decide (q.1≠k)=true:=by simp[e']
   rw[if_pos a,if_pos b];exact .cons ⟨h1,h2⟩ ih
theorem KV.keys{kvs:List (κ×V)}{vs:List (κ×Value)}(r:KV kvs vs):kvs.map (·.1)=vs.map (·.1):=by
 unfold KV at r
 induction r with
 | nil=>rfl
 | cons h t ih=>rw[Zq,Zq,ih,h.1]
theorem KV.length{kvs:List (κ×V)}{vs:List (κ×Value)}(r:KV kvs vs):kvs.length=vs.length:=Paired.length r
end
noncomputable abbrev KT(H:Hp):List (List Key×V)->List (List Key×Addr×Value)->Prop:=Paired λp q=>p.1=q.1/\H q.2.1=some (.tup (p.1.map kV))/\RelV p.2 q.2.2
theorem KT.val{H:Hp}{kvs:List (List Key×V)}{xs:List (List Key×Addr×Value)}(r:KT H kvs xs)(k:List Key):Qc0 (Qeh kvs k) ((atKey xs k).map (·.2)):=by
 induction r with
 | nil=>exact True.intro
 | @cons p q ps qs h t ih=>
  obtain⟨h1,_,h2⟩:=h
  by_cases e:p.1=k
  ·have e':q.1=k:=h1.symm.trans e
   have b:atKey (q::qs) k=some q.2:=by simp[atKey,List.find?_cons,e']
   rw[Qih e,b];exact h2
  ·have e':¬q.1=k:=λz=>e (h1.trans z)
   have b:atKey (q::qs) k=atKey qs k:=by simp[atKey,List.find?_cons,e']
   rw[Qid e,b];exact ih
theorem KT.QrJ{H:Hp}{kvs:List (List Key×V)}{xs:List (List Key×Addr×Value)}(r:KT H kvs xs)(k:List Key){y:V}{u:Value}(ry:RelV y u):
  KT H (kvs.map λkv=>if kv.1=k then(kv.1,y)else kv) (xs.map (putAt k u)):=by
 induction r with
 | nil=>exact .nil
 | @cons p q ps qs h t ih=>
  rw[Zq,Zq]
  refine .cons ?_ ih
  obtain⟨h1,h2,h3⟩:=h
  unfold putAt
  by_cases e:p.1=k
  ·rw[if_pos e,if_pos (h1.symm.trans e)];exact⟨h1,h2,ry⟩
  ·rw[if_neg e,if_neg (λz=>e (h1.trans z))];exact⟨h1,h2,h3⟩
theorem KT.put{H:Hp}{kvs:List (List Key×V)}{xs:List (List Key×Addr×Value)}(r:KT H kvs xs)(k:List Key){b:Addr}{y:V}{u:Value}(hb:H b=some (.tup (k.map kV)))(ry:RelV y u):
  KT H (putK kvs k y) (storedH xs k b u):=by
 have e:(kvs.any λkv=>decide (kv.1=k))=(atKey xs k).isSome:=by
  rw[Qme,(r.val k).QqO,Option.isSome_map]
 unfold putK storedH
 rw[e]
 by_cases q:(atKey xs k).isSome=true
 ·rw[if_pos q,if_pos q];exact r.QrJ k ry
 ·rw[if_neg q,if_neg q];exact Paired.snoc r ⟨rfl,hb,ry⟩
theorem KT.keeps{H H':Hp}{kvs:List (List Key×V)}{xs:List (List Key×Addr×Value)}(r:KT H kvs xs)(ht:∀b ys,H b=some (.tup ys)->H' b=some (.tup ys)):KT H' kvs xs:=
 Paired.QeE r λ_ _ z=>⟨z.1,ht _ _ z.2.1,z.2.2⟩
section
variable {P:Program}{w:World}{H:Hp}{h:Heap}{a:Addr}
end
def Qpe(H:Hp)(a:Addr)(y:V)(r:Option V):Prop:=
 (∃kvs k,Rd H a (.dK kvs)/\y=kV k/\r=Qeh kvs k)∨∃kvs k b,Rd H a (.dT kvs)/\y= .ref b/\H b=some (.tup (k.map kV))/\r=Qeh kvs k
def Qpk(H:Hp)(a:Addr)(y v:V)(H':Hp):Prop:=
 (∃kvs k,H a=some (.dK kvs)/\y=kV k/\kvs.length<sizeLine/\H'=upd H a (.dK (putK kvs k v)))∨
 ∃kvs k b,H a=some (.dT kvs)/\y= .ref b/\H b=some (.tup (k.map kV))/\kvs.length<sizeLine/\H'=upd H a (.dT (putK kvs k v))
theorem Qpe.k{H:Hp}{a:Addr}{kvs:List (Key×V)}{k:Key}(e:H a=some (.dK kvs)):Qpe H a (kV k) (Qeh kvs k):= .inl ⟨kvs,k,.inl e,rfl,rfl⟩
theorem Qpe.t{H:Hp}{a b:Addr}{kvs:List (List Key×V)}{k:List Key}(e:H a=some (.dT kvs))(eb:H b=some (.tup (k.map kV))):Qpe H a (.ref b) (Qeh kvs k):= .inr ⟨kvs,k,b,.inl e,rfl,eb,rfl⟩
theorem Qpk.k{H:Hp}{a:Addr}{kvs:List (Key×V)}{k:Key}{v:V}(e:H a=some (.dK kvs))(hl:kvs.length<sizeLine):Qpk H a (kV k) v (upd H a (.dK (putK kvs k v))):= .inl ⟨kvs,k,e,rfl,hl,rfl⟩
theorem Qpk.t{H:Hp}{a b:Addr}{kvs:List (List Key×V)}{k:List Key}{v:V}(e:H a=some (.dT kvs))(eb:H b=some (.tup (k.map kV)))(hl:kvs.length<sizeLine):
  Qpk H a (.ref b) v (upd H a (.dT (putK kvs k v))):= .inr ⟨kvs,k,b,e,rfl,eb,hl,rfl⟩
section
variable {X:Cx}{pins:List (Addr×Obj)}{σ:St}{H:Hp}{s:Shared}{a:Addr}{y v:V}{u r:Value}{o:Option V}{A:Around}{E:Value->Shared->Prop}
theorem Inv.big(I:Inv X pins σ H s):sysModules<s.heap.objs.size:=by
 have h:mainGlobals<s.heap.objs.size:=(I.mod.glob.keeps I.bk).lt
 exact Nat.lt_trans (by decide) h
end
section
variable {X:Cx}{pins:List (Addr×Obj)}{σ:St}{H:Hp}{s:Shared}{a:Addr}{kvs:List (Key×V)}{k:Key}{u:Value}{A:Around}{E:Value->Shared->Prop}
end
section
variable {X:Cx}{o i e value:Expr}{pos pos' tpos:Pos}{td ty tv:TE}
end
section
variable {X:Cx}{pos:Pos}
end
end L2
namespace HS
open PySem PySem.Spec L2 PyProof.Rows
end HS
namespace L2
open PySem PySem.Spec PyProof.Rows
theorem QjT(env:Env)(body:Str×NameKind->List (Str×Addr)->Sem (ForInStep (List (Str×Addr))))
  (hb:∀n k cs,body (n,k) cs=if(k == NameKind.free)=true then(do let c ← cellOf env n;pure (ForInStep.yield ((n,c)::cs)))else pure (ForInStep.yield cs)):
  ∀(names:List (Str×NameKind)) (acc:List (Str×Addr)),(∀y∈names,y.2= .free->∃c,env.cells.lookup y.1=some c)->(∀x c,acc.lookup x=some c->env.cells.lookup x=some c)→
   ∃cl,forIn names acc body=(pure cl:Sem _)/\(∀x c,cl.lookup x=some c->env.cells.lookup x=some c)/\(∀x,acc.lookup x≠none->cl.lookup x≠none)/\∀y∈names,y.2= .free->cl.lookup y.1≠none
 | [],acc,_,ha=>⟨acc,rfl,ha,λ_ h=>h,λy hy=>by simp at hy⟩
 | (n,k)::r,acc,hn,ha=>by
  rw[List.forIn_cons,hb]
  have hr:∀y∈r,y.2= .free->∃c,env.cells.lookup y.1=some c:=λy hy=>hn y (Zb _ hy)
  by_cases hk:k= .free
  ·subst hk
   obtain⟨c,hc⟩:=hn (n,.free) Zf rfl
   have hce:cellOf env n=pure c:=by unfold cellOf;rw[show env.cells.lookup n=some c from hc]
   rw[if_pos (by rfl),hce]
   obtain⟨cl,e,h1,h2,h3⟩:=QjT env body hb r ((n,c)::acc) hr (λx c' e=>by
    rw[Zt]at e
    cases q:x == n with
    | true=>rw[q]at e;cases e;rw[beq_iff_eq]at q;rw[q];exact hc
    | false=>rw[q]at e;exact ha x c' e)
   have hcons:∀x,((n,c)::acc).lookup x≠none->cl.lookup x≠none:=h2
   refine⟨cl,by simpa using e,h1,λx hx=>hcons x ?_,λy hy hf=>?_⟩
   ·rw[Zt];cases x == n with
    | true=>simp
    | false=>exact hx
   ·rcases Zl.mp hy with rfl | hy
    ·exact hcons _ (by simp[Zt])
    ·exact h3 y hy hf
  ·rw[if_neg (by simpa using hk)]
   obtain⟨cl,e,h1,h2,h3⟩:=QjT env body hb r acc hr ha
   refine⟨cl,by simpa using e,h1,h2,λy hy hf=>?_⟩
   rcases Zl.mp hy with rfl | hy
   ·exact absurd hf hk
   ·exact h3 y hy hf
theorem QtT(h:∀y∈scope.names,y.2= .free->∃c,env.cells.lookup y.1=some c):
  ∃cl,closureFor scope env=pure cl/\(∀x c,cl.lookup x=some c->env.cells.lookup x=some c)/\∀y∈scope.names,y.2= .free->∃c,cl.lookup y.1=some c:=by
 unfold closureFor
 obtain⟨cl,e,h1,_,h3⟩:=QjT env (λx cs=>match x with | (name,kind)=>if(kind == NameKind.free)=true then(do let c ← cellOf env name;pure (ForInStep.yield ((name,c)::cs)))else pure (ForInStep.yield cs)) (λ_ _ _=>rfl) scope.names [] h (λx c e=>by simp at e)
 refine⟨cl,?_,h1,λy hy hf=>Option.ne_none_iff_exists'.mp (h3 y hy hf)⟩
 show(forIn scope.names [] _ >>= λr=>pure r)=_
 rw[e];rfl
noncomputable def cxc(X:Cx)(N':List Str)(scope:Scope)(cl:List (Str×Addr))(C:Addr)(fp:List Addr)(s3:Shared)(H3:Hp):Cx:=
 {X with N:=N',s₀:=s3,H₀:=H3,env:=compEnvC scope cl C X.env,outer:=X.stack,ex:=fp,fn:=λx=>decide (scope.names.lookup x=some .cell),pn:=[],xe:=λ_ _=>False}
def PTs(X:Cx)(ifs:List Expr)(t:TT):Prop:=
 ∀(pins:List (Addr×Obj)) (s:Shared) (σ:St) (H:Hp) (Q:Bool->Hp->Prop),Inv X pins σ H s->t σ H Q→
  wpAny (model X.prog X.w) X.A (forIn ifs true λc r=>if r=true then do let ok ← isTrue c X.env (eval c X.env);pure (ForInStep.yield ok)else pure (ForInStep.yield r)) (TP X pins σ Q) X.xe s
noncomputable def Qzv:TT:=λ_ H Q=>Q true H
theorem QvB:PTs X [] Qzv:=λ_ _ _ H _ I h=>wpAny_tests_nil ⟨H,I,h⟩
theorem QvI(h:PT X c t):PTs X [c] t:=λpins s σ H Q I q=>wpAny_tests_one (h pins s σ H Q I q)
def Qiv(X:Cx)(N':List Str)(scope:Scope)(σ σ':St):Prop:=
 σ'.length=N'.length/\∀(j:Nat) (x:Str) (v:V),N'[j]? =some x->σ'[j]? =some (some v)->scope.names.lookup x=some .free/\∃i:Nat,X.N[i]? =some x/\σ[i]? =some (some v)/\(X.env.kindOf x=some .cell∨X.env.kindOf x=some .free)
noncomputable def Qk9(wi:TI)(cap:St->St->Prop)(g:TG)(tc:TT)(te:TE):TE:=λσ H Q=>wi σ H λJ H1=>∃σc,cap σ σc/\∀D,H1 D=none->∃W:Nat->Nat->List V->Hp->Prop,
 (∃m,W 0 m [] (upd H1 D (.lst [])))/\∀i m acc H2,W i m acc H2->(J.stop i H2/\Q (.ref D) H2)∨
  (J.go i H2/\∀x H3,J.yld i H2 x H3->g x σc H3 λσ2 H4=>(∀(j:Nat) v,σc[j]? =some (some v)->σ2[j]? =some (some v))/\tc σ2 H4 λb H5=>if b=true then
   te σ2 H5 λy H6=>H6 D=some (.lst acc)/\acc.length<sizeLine/\∃m',m'<m/\W (i+1) m' (acc++[y]) (upd H6 D (.lst (acc++[y])))
   else ∃m',m'<m/\W (i+1) m' acc H5)
theorem Qcu{env:Env}:∀{names:List (Str×NameKind)}{x:Str},names.lookup x=some .free→
  (names.map λ(n,k)=>if(k == NameKind.free && env.scope.kind == .function && env.kindOf n == some .cell)then(n,NameKind.cell)else(n,k)).lookup x=some .cell∨
  (names.map λ(n,k)=>if(k == NameKind.free && env.scope.kind == .function && env.kindOf n == some .cell)then(n,NameKind.cell)else(n,k)).lookup x=some .free
 | [],_,h=>by simp at h
 | (n,k)::r,x,h=>by
  have ih:= @Qcu env r x
  rw[Zq]
  cases hx:x == n with
  | true=>
   simp only[Zt,hx]at h
   cases h
   dsimp only
   split
   ·left;simp[Zt,hx]
   ·right;simp[Zt,hx]
  | false=>
   simp only[Zt,hx]at h
   dsimp only
   split
   ·simp only[Zt,hx];exact ih h
   ·simp only[Zt,hx];exact ih h
theorem Qd6{env:Env}:∀{names:List (Str×NameKind)}{x:Str},
  ((names.map λ(n,k)=>if(k == NameKind.free && env.scope.kind == .function && env.kindOf n == some .cell)then(n,NameKind.cell)else(n,k)).lookup x=some .cell∨
  (names.map λ(n,k)=>if(k == NameKind.free && env.scope.kind == .function && env.kindOf n == some .cell)then(n,NameKind.cell)else(n,k)).lookup x=some .free)→
  ∃k,(x,k)∈names/\(k= .free∨k= .cell)
 | [],_,h=>by simp at h
 | (n,k)::r,x,h=>by
  have ih:= @Qd6 env r x
  rw[Zq]at h
  cases hx:x == n with
  | true=>
   have hn:x=n:=by simpa using hx
   subst hn
   dsimp only at h
   split at h
   ·rename_i hc
    simp only[Zg]at hc
    refine⟨k,Zf,.inl (by simpa using hc.1.1)⟩
   ·simp only[Zt,hx]at h
    refine⟨k,Zf,?_⟩
    rcases h with h | h
    ·exact .inr (Option.some.inj h)
    ·exact .inl (Option.some.inj h)
  | false=>
   dsimp only at h
   have:∃k,(x,k)∈r/\(k= .free∨k= .cell):=by
    apply ih
    split at h
    ·simpa only[Zt,hx]using h
    ·simpa only[Zt,hx]using h
   obtain⟨k',h1,h2⟩:=this
   exact⟨k',Zb _ h1,h2⟩
theorem QfB:∀(names:List (Str×NameKind)) (n:Nat) (acc:List (Str×Addr)) (x:Str) (c:Addr),(cellsFrom n names acc).lookup x=some c->acc.lookup x=some c∨(n<=c/\(x,NameKind.cell)∈names)
 | [],_,_,_,_,h=> .inl h
 | (nm,k)::r,n,acc,x,c,h=>by
  unfold cellsFrom at h
  split at h
  ·rename_i hk
   have hk:k= .cell:=by simpa using hk
   rcases QfB r (n+1) ((nm,n)::acc) x c h with h | ⟨h1,h2⟩
   ·rw[Zt]at h
    cases q:x == nm with
    | true=>
     rw[q]at h
     cases h
     have:x=nm:=by simpa using q
     exact .inr ⟨Zn _,by rw[this,hk];exact Zf⟩
    | false=>rw[q]at h;exact .inl h
   ·exact .inr ⟨by omega,Zb _ h2⟩
  ·rcases QfB r n acc x c h with h | ⟨h1,h2⟩
   ·exact .inl h
   ·exact .inr ⟨h1,Zb _ h2⟩
theorem QlG:∀(names:List (Str×NameKind)) (n:Nat) (acc:List (Str×Addr)) (x:Str) (c:Addr),(x,NameKind.cell)∈names->(cellsFrom n names acc).lookup x=some c->n<=c
 | (nm,k)::r,n,acc,x,c,hm,h=>by
  unfold cellsFrom at h
  split at h
  ·by_cases hr:(x,NameKind.cell)∈r
   ·have:=QlG r (n+1) _ x c hr h
    omega
   ·have hx:x=nm:=by
     rcases Zl.mp hm with e | e
     ·exact(Prod.mk.inj e).1
     ·exact absurd e hr
    rcases QfB r (n+1) ((nm,n)::acc) x c h with h | ⟨h1,_⟩
    ·rw[Zt,show(x == nm)=true by simpa using hx]at h
     cases h
     exact Zn _
    ·omega
  ·rename_i hk
   rcases Zl.mp hm with e | e
   ·exact absurd (by rw[← (Prod.mk.inj e).2];rfl) hk
   ·exact QlG r n acc x c e h
theorem QlN:∀(names:List (Str×NameKind)) (n:Nat) (acc:List (Str×Addr)),(∀x y c,acc.lookup x=some c->acc.lookup y=some c->x=y)->(∀x c,acc.lookup x=some c->c<n)→
  ∀x y c,(cellsFrom n names acc).lookup x=some c->(cellsFrom n names acc).lookup y=some c->x=y
 | [],_,_,hi,_,x,y,c,h1,h2=>hi x y c h1 h2
 | (nm,k)::r,n,acc,hi,hb,x,y,c,h1,h2=>by
  unfold cellsFrom at h1 h2
  split at h1
  ·rename_i hk
   rw[if_pos hk]at h2
   refine QlN r (n+1) ((nm,n)::acc) (λx y c h1 h2=>?_) (λx c h=>?_) x y c h1 h2
   ·rw[Zt]at h1 h2
    cases qx:x == nm with
    | true=>
     rw[qx]at h1
     cases h1
     cases qy:y == nm with
     | true=>rw[show x=nm by simpa using qx,show y=nm by simpa using qy]
     | false=>rw[qy]at h2;exact absurd (hb y _ h2) (Zaa _)
    | false=>
     rw[qx]at h1
     cases qy:y == nm with
     | true=>rw[qy]at h2;cases h2;exact absurd (hb x _ h1) (Zaa _)
     | false=>rw[qy]at h2;exact hi x y c h1 h2
   ·rw[Zt]at h
    cases qx:x == nm with
    | true=>rw[qx]at h;cases h;exact ZaB _
    | false=>rw[qx]at h;exact ZaW (hb x c h)
  ·rename_i hk
   rw[if_neg hk]at h2
   exact QlN r n acc hi hb x y c h1 h2
theorem QfD:∀(names:List (Str×NameKind)) (n:Nat) (acc:List (Str×Addr)) (x:Str),(∃c,acc.lookup x=some c)->∃c,(cellsFrom n names acc).lookup x=some c
 | [],_,_,_,h=>h
 | (nm,k)::r,n,acc,x,h=>by
  unfold cellsFrom
  split
  ·refine QfD r (n+1) _ x ?_
   rw[Zt]
   cases x == nm with
   | true=>exact⟨n,rfl⟩
   | false=>exact h
  ·exact QfD r n acc x h
theorem QlO:∀(names:List (Str×NameKind)) (n:Nat) (acc:List (Str×Addr)) (x:Str),(x,NameKind.cell)∈names->∃c,(cellsFrom n names acc).lookup x=some c
 | (nm,k)::r,n,acc,x,hm=>by
  unfold cellsFrom
  rcases Zl.mp hm with e | e
  ·obtain⟨e1,e2⟩:=Prod.mk.inj e
   subst e1
   rw[← e2,if_pos (by rfl)]
   exact QfD r (n+1) _ x ⟨n,by simp[Zt]⟩
  ·split
   ·exact QlO r (n+1) _ x e
   ·exact QlO r n acc x e
theorem Qj9(lo:Nat):∀(names:List (Str×NameKind)) (h:Heap) (acc:List (Str×Addr)),(∀x c,acc.lookup x=some c->lo<=c->h.IsCell c none)->lo<=h.objs.size→
  ∀x c,(cellsFrom h.objs.size names acc).lookup x=some c->lo<=c->(pushCells h names).IsCell c none
 | [],_,_,ha,_,x,c,e,hl=>ha x c e hl
 | (nm,k)::r,h,acc,ha,hlo,x,c,e,hl=>by
  unfold cellsFrom at e
  unfold pushCells
  split at e
  ·rename_i hk
   rw[if_pos hk]
   have hs:=ZaD h {cls:= .type "cell",data:= .cell none}
   refine Qj9 lo r (h.push {cls:= .type "cell",data:= .cell none}) ((nm,h.objs.size)::acc) (λx c e hl=>?_) (by rw[hs];omega) x c (by rw[hs];exact e) hl
   rw[Zt]at e
   cases q:x == nm with
   | true=>rw[q]at e;cases e;exact⟨_,ZL _ rfl,rfl⟩
   | false=>rw[q]at e;exact(ha x c e hl).keeps λb o e=>Zs _ e
  ·rename_i hk
   rw[if_neg hk]
   exact Qj9 lo r h acc ha hlo x c e hl
theorem Qpj
  (hQ:∀h':Heap,h'.Ns s.heap.objs.size (λ_=>none)->(∀b o,s.heap.get? b=some o->h'.get? b=some o)->((∀x c,cl.lookup x=some c->c<s.heap.objs.size)->∀x c,(cellsFrom (s.heap.objs.size+1) scope.names cl).lookup x=some c->s.heap.objs.size+1<=c->h'.IsCell c none)→
   Q (newEnv scope s.heap.objs.size globals (cellsFrom (s.heap.objs.size+1) scope.names cl) qual none .none (some env) builtins) {s with heap:=h'}):
  wpAny M A (newFunctionEnv scope globals cl [] qual none .none (some env) builtins) Q E s:=by
 simp only[newFunctionEnv,Option.isSome_some,if_true]
 refine wpAny_bind (wpAny_alloc ?_)
 refine wpAny_bind (wpAny_layCells _ (λname kind cells=>by cases hkc:kind == NameKind.cell<;>simp[hkc]) _ _ _ _ ?_)
 have hs:=ZaD s.heap {cls:= .type "dict",data:= .dict #[]}
 rw[show({s with heap:=s.heap.push {cls:= .type "dict",data:= .dict #[]}}:Shared).heap.objs.size=s.heap.objs.size+1 from hs]
 refine wpAny_bind (wpAny_pure (wpAny_pure ?_))
 refine hQ _ ((Heap.Ns.new s.heap (.type "dict")).keeps (pushCells_keeps _ _)) (λb o e=>pushCells_keeps _ _ b o (Zs _ e)) λhb x c e hl=>?_
 refine Qj9 (s.heap.objs.size+1) scope.names (s.heap.push {cls:= .type "dict",data:= .dict #[]}) cl (λx c e hl=>?_) (by rw[hs];exact Zn _) x c (by rw[hs];exact e) hl
 exact absurd (Zu (hb x c e) (ZD (ZaI _) hl)) (Zaa _)
section
variable {X:Cx}{tg iter elt:Expr}{ifs:List Expr}{scope:Scope}{N':List Str}{pos:Pos}
structure Qec (X:Cx) (N':List Str) (scope:Scope):Prop where
 kind:scope.kind= .function
 own:∀y∈scope.names,y.2= .cell->scope.names.lookup y.1=some .cell
 loc:∀y∈scope.names,y.2= .local ->scope.names.lookup y.1=some .local
 free:∀y∈scope.names,y.2= .free->X.env.kindOf y.1=some .cell∨X.env.kindOf y.1=some .free
theorem Qro{pins:List (Addr×Obj)}{σ σc:St}{H3:Hp}{s3:Shared}{fp:List Addr}{cl:List (Str×Addr)}{h':Heap}{tk:Nat}(S:Qec X N' scope)(I:Inv X pins σ H3 s3)
  (hf:∀b∈fp,Qdz X pins H3 b) (hfl:∀b∈fp,b<s3.heap.objs.size) (hc1:∀x c,cl.lookup x=some c->X.env.cells.lookup x=some c) (hc2:∀y∈scope.names,y.2= .free->∃c,cl.lookup y.1=some c) (cap:Qiv X N' scope σ σc)
  (hns:h'.Ns s3.heap.objs.size (λ_=>none)) (hk:∀b o,s3.heap.get? b=some o->h'.get? b=some o)
  (hown:(∀x c,cl.lookup x=some c->c<s3.heap.objs.size)->∀x c,(cellsFrom (s3.heap.objs.size+1) scope.names cl).lookup x=some c->s3.heap.objs.size+1<=c->h'.IsCell c none):
  Inv (cxc X N' scope (cellsFrom (s3.heap.objs.size+1) scope.names cl) s3.heap.objs.size fp s3 H3) [] σc H3 {s3 with heap:=h',toks:=tk}:=by
 have nold:∀b,b∈fp->b≠s3.heap.objs.size:=λb hb e=>absurd (hfl b hb) (by rw[e];exact Zaa _)
 have cellOld:∀x c,cl.lookup x=some c->∃v,s3.heap.IsCell c v:=λx c e=>I.cell x c (hc1 x c e)
 have cellLt:∀x c,cl.lookup x=some c->c<s3.heap.objs.size:=λx c e=>let ⟨v,q⟩:=cellOld x c e;q.lt
 have cellNew:∀c v,s3.heap.IsCell c v->h'.IsCell c v:=λc v ⟨o,ho,hd⟩=>⟨o,hk c o ho,hd⟩
 have hown:=hown cellLt
 have look:∀x c,(cellsFrom (s3.heap.objs.size+1) scope.names cl).lookup x=some c->cl.lookup x=some c∨(s3.heap.objs.size+1<=c/\(x,NameKind.cell)∈scope.names):=QfB scope.names _ cl
 refine⟨⟨I.ok.mod,S.kind,I.ok.glob,I.ok.blt,Zn _,QlN scope.names _ cl (λx y c h1 h2=>I.ok.inj x y c (hc1 x c h1) (hc1 y c h2)) (λx c e=>ZaW (cellLt x c e)),λx hx=>?_,λx c e1 e2=>?_,I.ok.hd,I.ok.frames,.inl rfl,λb hb=>⟨nold b hb,λx c e=>?_⟩,
  I.bs,ZD I.ok.bsz I.sz,λb o e hb=>?_,λb hb hs=>?_,I.stack,I.QjX⟩,rfl,I.bare,Un.kept hk,⟨_,hns,λj x v h1 h2 h3=>?_⟩,λx c e=>?_,I.hok.fresh (Zn _),λx c e=>?_,λp hp=>absurd (show p∈([]:List (Addr×Obj))from hp) (by simp),I.hok.kept hk,cap.1⟩
 ·obtain⟨k,hm,hk'⟩:=Qd6 hx
  rcases hk' with rfl | rfl
  ·exact QfD scope.names _ cl x (hc2 _ hm rfl)
  ·exact QlO scope.names _ cl x hm
 ·have e1:decide (scope.names.lookup x=some .cell)=true:=e1
  have:=QlG scope.names _ cl x c (Zag (of_decide_eq_true e1)) e2
  exact ZD (ZaI _) this
 ·rcases look x c e with e | ⟨e,_⟩
  ·exact(hf b hb).2.2.2.2.1 x c (hc1 x c e)
  ·intro z
   rw[z]at e
   exact absurd (Zu (hfl b hb) (ZD (ZaI _) e)) (Zaa _)
 ·rcases(hf b hb).2.2.2.1 with z | z
  ·exact I.ok.noex b o e z
  ·exact absurd (Zu (Zv e) (ZD I.ok.bsz z)) (Zaa _)
 ·rcases Zl.mp (I.QeO b hs)with e | z
  ·exact(hf b hb).2.1 e
  ·exact(hf b hb).2.2.1 z
 ·obtain⟨hl,i,e1,e2,e3⟩:=cap.2 j x v h1 h2
  obtain⟨m,hn,look'⟩:=I.loc
  obtain⟨u,r,l⟩:=look' i x v e1 e2 (e3.elim (λz=> .inr (.inl z)) λz=> .inr (.inr z))
  refine⟨u,r,.inr ⟨Qcu hl,?_⟩⟩
  rcases l with⟨k,_⟩ | ⟨_,c,ec,hcell⟩
  ·rcases e3 with z | z<;>(rw[k]at z;cases z)
  ·obtain⟨c',ec'⟩:=QfD scope.names (s3.heap.objs.size+1) cl x (hc2 (x,.free) (Zag hl) rfl)
   rcases look x c' ec' with q | ⟨_,q⟩
   ·have:=hc1 x c' q
    rw[ec]at this;cases this
    exact⟨c,ec',cellNew c _ hcell⟩
   ·have:=S.own _ q rfl
    rw[hl]at this
    cases this
 ·rcases look x c e with q | ⟨q,_⟩
  ·obtain⟨v,q⟩:=cellOld x c q
   exact⟨v,cellNew c v q⟩
  ·exact⟨none,hown x c e q⟩
 ·rcases look x c e with q | ⟨q,_⟩
  ·exact I.freeC x c (hc1 x c q)
  ·exact I.hok.fresh (by omega)
theorem Qpx(J:Nat->Shared->Prop)
  (turn:∀n s,J n s->wpAny (model prog w) A (pyNext it) (λr s1=>match r with
   | none=>R (.ok .next) s1
   | some v=>wpAny (model prog w) A (letOwnedTupleGo tg it v) (λ_ s2=>wpAny (model prog w) A (assign tg env v) (λ_ s3=>
     wpAny (model prog w) A (forIn ifs true λc r=>if r=true then do let ok ← isTrue c env (eval c env);pure (ForInStep.yield ok)else pure (ForInStep.yield r)) (λok s4=>
      if ok=true then wpAny (model prog w) A (eval elt env) (λx s5=>wpAny (model prog w) A (call (.builtin "list.append") [acc,x]) (λ_ s6=>∃m,m<n/\J m s6) (λ_ _=>False) s5) (λ_ _=>False) s4
      else ∃m,m<n/\J m s4) (λ_ _=>False) s3) (λ_ _=>False) s2) (λ_ _=>False) s1) (λ_ _=>False) s)
  (n:Nat) (h:J n s0):codeAny (model prog w) A (.compLoop (.ListComp elt [⟨tg,iter,ifs,0⟩] scope pos) 0 it acc env) R s0:=by
 have up:∀{α:Type}{t:Sem α}{Q:α->Shared->Prop}{E:Value->Shared->Prop}{s:Shared},wpAny (model prog w) A t Q (λ_ _=>False) s->wpAny (model prog w) A t Q E s:=λh=>wpAny_mono h (λ_ _ q=>q) λ_ _ f=>f.elim
 refine codeAny_loop (by rfl) J (λk sk hk=>?_) n h
 show wpAny (model prog w) A ((compTurn (.ListComp elt [⟨tg,iter,ifs,0⟩] scope pos) 0 it acc env).onRaise (λx=>do noteFrame x env;theTreesLotGoes x)) _ _ sk
 refine wpAny_noted (up ?_)
 rw[compTurn_list]
 refine wpAny_bind (wpAny_standAt (wpAny_bind (thn (turn k sk hk) λr s1 h1=>?_)))
 cases r with
 | none=>exact wpAny_pure h1
 | some v=>
  refine wpAny_bind (thn h1 λ_ s2 h2=>wpAny_bind (thn h2 λ_ s3 h3=>wpAny_bind (thn h3 λok s4 h4=>?_)))
  cases ok with
  | false=>exact wpAny_pure ⟨rfl,h4⟩
  | true=>exact wpAny_bind (wpAny_bind (thn h4 λx s5 h5=>wpAny_bind (thn h5 λ_ s6 h6=>wpAny_pure (wpAny_pure ⟨rfl,h6⟩))))
theorem Qr9{it D C:Addr}{fp:List Addr}{tn:Nat->Heap->Prop}{J:It}{cl:List (Str×Addr)}{s3 s4:Shared}{H3:Hp}{σc:St}{g:TG}{tc:TT}{te:TE}{Q:Hp->Prop}(hcalm:X.calm=true)
  (T:Turn X.prog X.w X.K tg J fp it tn)
  (hg:PG (cxc X N' scope cl C fp s3 H3) tg g) (ht:PTs (cxc X N' scope cl C fp s3 H3) ifs tc) (he:PE (cxc X N' scope cl C fp s3 H3) elt te)
  (I:Inv (cxc X N' scope cl C fp s3 H3) [] σc H3 s4) (st:tn 0 s4.heap) (ff:∀b∈fp,Qdz (cxc X N' scope cl C fp s3 H3) [] H3 b)
  (W:Nat->Nat->List V->Hp->Prop) (hw:∃m,W 0 m [] H3)
  (turn:∀i m acc H2,W i m acc H2->(J.stop i H2/\Q H2)∨
   (J.go i H2/\∀x H5,J.yld i H2 x H5->g x σc H5 λσ2 H6=>(∀(j:Nat) v,σc[j]? =some (some v)->σ2[j]? =some (some v))/\tc σ2 H6 λb H7=>if b=true then
    te σ2 H7 λy H8=>H8 D=some (.lst acc)/\acc.length<sizeLine/\∃m',m'<m/\W (i+1) m' (acc++[y]) (upd H8 D (.lst (acc++[y])))
    else ∃m',m'<m/\W (i+1) m' acc H7))
  {R:Result->Shared->Prop}(hR:∀H' s',Inv (cxc X N' scope cl C fp s3 H3) [] σc H' s'->Q H'->R (.ok .next) s'):
  codeAny (model X.prog X.w) X.A (.compStart (.ListComp elt [⟨tg,iter,ifs,0⟩] scope pos) 0 (.ref it) (.ref D) (compEnvC scope cl C X.env)) R s4:=by
 obtain⟨m0,w0⟩:=hw
 have stat:∀{H':Hp},(∀b∈fp,H' b=none)->∀b∈fp,Qdz (cxc X N' scope cl C fp s3 H3) [] H' b:=λhn b hb=>⟨hn b hb,(ff b hb).2⟩
 have loop:codeAny (model X.prog X.w) X.A (.compLoop (.ListComp elt [⟨tg,iter,ifs,0⟩] scope pos) 0 (.ref it) (.ref D) (compEnvC scope cl C X.env)) R s4:=by
  refine Qpx (λn s'=>∃i acc H',Inv (cxc X N' scope cl C fp s3 H3) [] σc H' s'/\tn i s'.heap/\(∀b∈fp,H' b=none)/\W i n acc H') ?_ m0 ⟨0,[],H3,I,st,λb hb=>(ff b hb).1,w0⟩
  rintro n s5 ⟨i,acc,H5,I5,st5,fr5,w5⟩
  rcases turn i n acc H5 w5 with⟨stop,q⟩ | ⟨go,step⟩
  ·refine thn (T.done (cxc X N' scope cl C fp s3 H3) rfl rfl rfl hcalm i [] s5 σc H5 _ I5 (stat fr5) st5 stop) λr s6 hpt=>?_
   obtain⟨hr,I6⟩:=hpt
   subst hr
   exact hR H5 s6 I6 q
  ·refine thn (T.item (cxc X N' scope cl C fp s3 H3) rfl rfl rfl hcalm i [] s5 σc H5 _ I5 (stat fr5) st5 go) λr s6 hpt=>?_
   obtain⟨u,hr,h6⟩:=hpt
   subst hr
   refine thn h6 λ_ s7 hpt=>?_
   obtain⟨x,H7,I7,r7,y7,st7,fr7⟩:=hpt
   have I7':=I7.pinned (stat fr7) (T.obj _ _ st7)
   refine thn (hg _ s7 σc H7 x u _ I7' r7 (step x H7 y7)) λ_ s8=>exJ λσ8 H8 I8 k8 q8=>?_
   refine thn (ht _ s8 σ8 H8 _ I8 q8) λok s9 hpt=>?_
   obtain⟨H9,I9,q9⟩:=hpt
   have again:∀{H':Hp}{s':Shared}{acc':List V},Inv (cxc X N' scope cl C fp s3 H3) ([]++QgJ fp s7.heap) σ8 H' s'->(∃m',m'<n/\W (i+1) m' acc' H')→
     ∃m,m<n/\∃i acc H',Inv (cxc X N' scope cl C fp s3 H3) [] σc H' s'/\tn i s'.heap/\(∀b∈fp,H' b=none)/\W i m acc H':=λ{H' s' acc'} I' ⟨m',hm,w'⟩=>by
    have pin:∀b∈fp,∀o,s7.heap.get? b=some o->s'.heap.get? b=some o/\H' b=none:=λb hb o e=>by
     have z:=I'.pin (b,o) (Ze _ (Ze _ (Qgj hb e)))
     exact⟨z.1,z.2.1⟩
    refine⟨m',hm,i+1,acc',H',?_,T.keep _ _ _ st7 λb hb o e=>(pin b hb o e).1,λb hb=>?_,w'⟩
    ·exact I'.Qf4.weak (I.len.trans I8.len.symm) k8
    ·obtain⟨o,e,_⟩:=T.obj _ _ st7 b hb
     exact(pin b hb o e).2
   cases ok with
   | false=>
    rw[if_neg ZJ]at q9 ⊢
    exact again I9 q9
   | true=>
    rw[if_pos rfl]at q9 ⊢
    refine thn (he _ s9 σ8 H9 _ I9 q9) λyv s10 hpt=>?_
    obtain⟨y,H10,I10,r10,e10,l10,q10⟩:=hpt
    refine thn (Qkk _ s10 σ8 H10 (.ref D) [y] (.ref D) [yv] (λv H11=>H11=upd H10 D (.lst (acc++[y]))) I10 rfl (.cons r10 .nil) ⟨D,acc,y,rfl,rfl,e10,l10,rfl⟩) λ_ s11 hpt=>?_
    obtain⟨_,H11,I11,_,e11⟩:=hpt
    subst e11
    exact again I11 q10
 exact codeAny_compStart_list loop (T.self _ 0 _ _ _ st loop)
theorem Qmz{wi:TI}{g:TG}{tc:TT}{te:TE}{cp:Pos}{use:Option (Value->Sem Unit)}{pins:List (Addr×Obj)}{s:Shared}{σ:St}{H:Hp}{QV:Value->Shared->Prop}{Q:VK}(hcalm:X.calm=true)(S:Qec X N' scope)(hi:PI X tg iter wi)
  (hin:∀cl C fp s3 H3,PG (cxc X N' scope cl C fp s3 H3) tg g/\PTs (cxc X N' scope cl C fp s3 H3) ifs tc/\PE (cxc X N' scope cl C fp s3 H3) elt te)
  (hs:∀x,foldedSetIterable iter X.env x=pure x) (I:Inv X pins σ H s) (h:Qk9 wi (Qiv X N' scope) g tc te σ H Q)
  (fin:∀(D C:Addr) (H':Hp) (s':Shared),Inv X pins σ H' s'->H' C=none->C≠X.env.locals->X.s₀.heap.objs.size<=C->(∀x c,X.env.cells.lookup x=some c->c≠C)->(∀p∈X.pn++pins,p.1≠C)->(∃m,s'.heap.Ns C m)->Q (.ref D) H'→
   compPost (model X.prog X.w) X.A X.xe use QV (.ref D) C (.ok .next) s'):
  wpAny (model X.prog X.w) X.A (comprehension (.ListComp elt [⟨tg,iter,ifs,0⟩] scope pos) scope X.env cp (newList []) false (eval iter X.env) use) QV X.xe s:=by
 obtain⟨cl,hcl,hc1,hc2⟩:=QtT λy hy hf=>I.ok.has y.1 (S.free y hy hf)
 refine wpAny_comprehension_free rfl hs hcl S.kind S.loc ?_
 refine thn (hi pins s σ H _ I h) λv s1 h1=>thn h1 λitv s2 h2=>?_
 obtain⟨it,fp,tn,J,H2,e,I2,T,st2,f2,σc,cap,hw⟩:=h2
 subst e
 have hD0:H2 s2.heap.objs.size=none:=I2.hok.fresh (Zn _)
 obtain⟨W,hW0,turn⟩:=hw _ hD0
 have fpl:∀b∈fp,b<s2.heap.objs.size:=λb hb=>let ⟨o,e,_⟩:=T.obj _ _ st2 b hb;Zv e
 have hlist:∀D:Addr,D=s2.heap.objs.size->∃x,x=D:=λD _=>⟨D,rfl⟩
 refine wpAny_newObj_type ?_
 have I3:Inv X pins σ (upd H2 s2.heap.objs.size (.lst [])) {s2 with heap:=s2.heap.push {cls:= .type "list",dict:=none,data:= .seq ([]:List Value).toArray}}:=
  I2.laid (t':=s2.toks) (λb o e=>Zs _ e) (Zn _) ⟨ZZ _,[],0,.nil,ZL _ rfl⟩
 generalize hs3:({s2 with heap:=s2.heap.push {cls:= .type "list",dict:=none,data:= .seq ([]:List Value).toArray}}:Shared)=s3 at I3
 have hs3':s3.heap=s2.heap.push {cls:= .type "list",dict:=none,data:= .seq ([]:List Value).toArray}:=by rw[← hs3]
 have sz3:s3.heap.objs.size=s2.heap.objs.size+1:=by rw[hs3',ZaD]
 have old3:∀b o,s2.heap.get? b=some o->s3.heap.get? b=some o:=λb o e=>by rw[hs3'];exact Zs _ e
 have f3:∀b∈fp,Qdz X pins (upd H2 s2.heap.objs.size (.lst [])) b:=λb hb=>⟨by rw[QF (ZN (fpl b hb))];exact(f2 b hb).1,(f2 b hb).2⟩
 have fpl3:∀b∈fp,b<s3.heap.objs.size:=λb hb=>by rw[sz3];exact ZaW (fpl b hb)
 refine Qpj (λh4 hns4' keep4 hown4=>?_)
 have I4:=Qro (tk:=s3.toks) S I3 f3 fpl3 hc1 hc2 cap hns4' keep4 hown4
 have hout:∀H' s',Inv (cxc X N' scope (cellsFrom (s3.heap.objs.size+1) scope.names cl) s3.heap.objs.size fp s3 (upd H2 s2.heap.objs.size (.lst []))) [] σc H' s'->Inv X pins σ H' s':=λH' s' J'=>
  I3.Qts J'.os J'.base J'.hok J'.bare λb hb=>⟨(f3 b hb).2.2.2.1,(f3 b hb).2.1,(f3 b hb).2.2.2.2.1,(f3 b hb).2.2.2.2.2⟩
 obtain⟨hg,ht,he⟩:=hin (cellsFrom (s3.heap.objs.size+1) scope.names cl) s3.heap.objs.size fp s3 (upd H2 s2.heap.objs.size (.lst []))
 have fc:∀b∈fp,Qdz (cxc X N' scope (cellsFrom (s3.heap.objs.size+1) scope.names cl) s3.heap.objs.size fp s3 (upd H2 s2.heap.objs.size (.lst []))) [] (upd H2 s2.heap.objs.size (.lst [])) b:=λb hb=>
  ⟨(f3 b hb).1,ZN (fpl3 b hb),λhs'=>(Zl.mp (I3.QeO b hs')).elim (f3 b hb).2.1 (f3 b hb).2.2.1,.inl hb,λx c e=>(by
   rcases QfB scope.names _ cl x c e with e | ⟨e,_⟩
   ·exact(f3 b hb).2.2.2.2.1 x c (hc1 x c e)
   ·intro z
    rw[z]at e
    exact absurd (Zu (fpl3 b hb) (ZD (ZaI _) e)) (Zaa _)),λp hp=>absurd (show p∈([]:List (Addr×Obj))from hp) (by simp)⟩
 have hC1:s3.heap.objs.size≠X.env.locals:=Ne.symm (ZN I3.lt)
 refine Qr9 (W:=W) hcalm T hg ht he I4 (T.keep _ _ _ st2 λb hb o e=>keep4 b o (old3 b o e)) fc hW0 turn λH' s' J' q=>?_
 have O:=hout H' s' J'
 refine fin _ _ H' s' O J'.free hC1 (ZD I3.sz (Zn _)) (λx c e z=>?_) (λp hp z=>?_) (let ⟨m,hn,_⟩:=J'.loc;⟨m,hn⟩) q
 ·obtain⟨v,o,ho,_⟩:=I3.cell x c e
  exact absurd (Zv ho) (by rw[z];exact Zaa _)
 ·exact absurd (Zv (I3.pin p hp).1) (by rw[z];exact Zaa _)
theorem Inv.Qtv(I:Inv X pins σ H s)(hs:Heap.SameBut C s.heap h')(hn:H C=none)(hL:C≠X.env.locals)(h1:X.s₀.heap.objs.size<=C)
  (h2:∀x c,X.env.cells.lookup x=some c->c≠C) (h3:∀p∈X.pn++pins,p.1≠C):Inv X pins σ H {s with heap:=h'}:=
 I.turned (t':=s.toks) (λb o hb e=>(hs.2 b hb).trans e) hn hL (.inr h1) h2 h3
theorem QnE(hcalm:X.calm=true)(S:Qec X N' scope)(hi:PI X tg iter wi)
  (hin:∀cl C fp s3 H3,PG (cxc X N' scope cl C fp s3 H3) tg g/\PTs (cxc X N' scope cl C fp s3 H3) ifs tc/\PE (cxc X N' scope cl C fp s3 H3) elt te)
  (hs:∀x,foldedSetIterable iter X.env x=pure x:=by intro _;rfl):PE X (.ListComp elt [⟨tg,iter,ifs,0⟩] scope pos) (Qk9 wi (Qiv X N' scope) g tc te):=by
 intro pins s σ H Q I h
 rw[eval_ListComp]
 refine Qmz hcalm S hi hin hs I h λD C H' s' O h1 h2 h3 h4 h5 hpt q=>?_
 obtain⟨m,hm⟩:=hpt
 exact⟨m,hm,λh' hs'=>⟨.ref D,H',O.Qtv hs' h1 h2 h3 h4 h5,rfl,q⟩⟩
theorem QvC(hN:X.N.Nodup)(hx1:X.N[i]? =some x)(hx:Loc X.env.scope x)(hf:X.fn x=true∨X.env.scope.names.lookup x=some .local)(hcalm:X.calm=true)(S:Qec X N' scope)(hi:PI X tg iter wi)
  (hin:∀cl C fp s3 H3,PG (cxc X N' scope cl C fp s3 H3) tg g/\PTs (cxc X N' scope cl C fp s3 H3) ifs tc/\PE (cxc X N' scope cl C fp s3 H3) elt te)
  (hs:∀x,foldedSetIterable iter X.env x=pure x:=by intro _;rfl):
  PS X (.Assign [.Name x pos'] (.ListComp elt [⟨tg,iter,ifs,0⟩] scope pos) spos) (Qlu (Qk9 wi (Qiv X N' scope) g tc te) (Qhe i)):=by
 have hb:∃b,swapsWith (.ListComp elt [⟨tg,iter,ifs,0⟩] scope pos) (some (.Name x pos')) spos.line X.env=pure b:=⟨_,rfl⟩
 obtain⟨b,hb⟩:=hb
 cases b with
 | false=>exact Qd3 hN hx1 hx (QnE hcalm S hi hin hs) hb hf
 | true=>
  intro pins s σ H D I h
  rw[exec_Assign_Name_used _ _ _ _ hb]
  refine wpAny_bind (wpAny_standAt (wpAny_bind ?_))
  show wpAny _ X.A (do let _ ← comprehension (.ListComp elt [⟨tg,iter,ifs,0⟩] scope pos) scope X.env _ (newList []) false (eval iter X.env) (some (assign (.Name x pos') X.env))) _ _ s
  refine wpAny_bind (thn (Qmz hcalm S hi hin hs I h λDl C H' s' O h1 h2 h3 h4 h5 ⟨m,hm⟩ q=>?_) λ_ s' hq=>wpAny_pure (wpAny_pure hq))
  refine wpAny_assign_Name (QkH O hN hx1 hx (v:= .ref Dl) rfl (λs2 I2 hsb=>?_) hf)
  obtain⟨a,sb,ha⟩:=hsb
  have haC:C≠a:=by
   rcases ha with rfl | ha
   ·exact h2
   ·exact Ne.symm (h4 _ _ ha)
  exact⟨m,hm.sameBut sb haC,λh' hs'=>⟨_,H',I2.Qtv hs' h1 h2 h3 h4 h5,q⟩⟩
end
end L2
namespace L2
open PySem PySem.Spec PyProof.Rows
section
theorem Inv.Qtg{t':Nat}{ch:List Addr}{T:Addr}{ts:List V}(I:Inv X pins σ H s)(hf:∀b∈ch,Qdz X pins H b)(k:∀b o,b∉ch->s.heap.get? b=some o->h'.get? b=some o)(hp:∀b∈ch,∃o,h'.get? b=some o)
  (hT:s.heap.objs.size<=T) (hnew:ts.length<=sizeLine/\∃its:List Value,Qw ts its/\IsTup h' T its.toArray):Inv X pins σ (upd H T (.tup ts)) {s with heap:=h',toks:=t'}:=by
 have hn:H T=none:=I.hok.fresh hT
 have neT:∀b u,H b=some u->b≠T:=λb u e=>QbC e hn
 have nch:∀b u,H b=some u->b∉ch:=λb u e hb=>by rw[(hf b hb).1]at e;cases e
 have ltT:∀b o,s.heap.get? b=some o->b≠T:=λb o e=>ZN (Zu (Zv e) hT)
 refine I.step (g':=s.gens) (d':=s.drawn) (ch:=ch) (λb hb=>?_) (λb o _ _ hc e _=>k b o hc e) (λb o _ _ hc e _=>⟨o.slots,k b o hc e⟩) (λb o _ e n=>by rw[QF (ltT b o e)];exact n)
  (λb o hc e=>⟨o,k b o hc e⟩) (λb xs e=>by rw[QF (neT b _ e)];exact e) (λb o u e=>by rw[QF (neT b _ e)];exact e) (λb ps e=>⟨#[],by rw[QF (neT b _ e),e];simp⟩) (λm hm=>?_) (λb u e=>?_) I.bare
 ·obtain⟨f0,f1,f2,f3,f4,f5⟩:=hf b hb
  exact⟨f3,f1,f4,f5⟩
 ·obtain⟨o,es,ep,ho,r⟩:=hm
  exact⟨o,es,ep,k _ o (λz=>(hf _ z).2.1 rfl) ho,r⟩
 ·by_cases hb:b=T
  ·subst hb
   rw[Qao]at e
   cases e
   exact hnew
  ·rw[QF hb]at e
   refine(I.hok b u e).QeW (λc v hc q=>k c v ?_ q) (λc q=>by rw[QF (neT c _ q)];exact q) λc xs q=>by rw[QF (neT c _ q)];exact q
   rcases hc with z | z
   ·rw[z];exact nch b u e
   ·exact nch c _ z
theorem Inv.turns{t':Nat}{ch:List Addr}(I:Inv X pins σ H s)(hf:∀b∈ch,Qdz X pins H b)(k:∀b o,b∉ch->s.heap.get? b=some o->h'.get? b=some o):Inv X pins σ H {s with heap:=h',toks:=t'}:=by
 have nch:∀b u,H b=some u->b∉ch:=λb u e hb=>by rw[(hf b hb).1]at e;cases e
 refine I.step (g':=s.gens) (d':=s.drawn) (ch:=ch) (λb hb=>?_) (λb o _ _ hc e _=>k b o hc e) (λb o _ _ hc e _=>⟨o.slots,k b o hc e⟩) (λb o _ e n=>n)
  (λb o hc e=>⟨o,k b o hc e⟩) (λb xs e=>e) (λb o u e=>e) (λb ps e=>⟨#[],by rw[e];simp⟩) (λm hm=>?_) (λb u e=>?_) I.bare
 ·obtain⟨f0,f1,f2,f3,f4,f5⟩:=hf b hb
  exact⟨f3,f1,f4,f5⟩
 ·obtain⟨o,es,ep,ho,r⟩:=hm
  exact⟨o,es,ep,k _ o (λz=>(hf _ z).2.1 rfl) ho,r⟩
 ·refine(I.hok b u e).QeW (λc v hc q=>k c v ?_ q) (λc q=>q) λc xs q=>q
  rcases hc with z | z
  ·rw[z];exact nch b u e
  ·exact nch c _ z
end
noncomputable def Ite(K:PySem.W.Frag)(a:Addr):It:=
 ⟨λi H=>∃xs x,SqL K H a xs/\xs[i]? =some x,λi H v H'=>∃p x,v= .ref p/\H p=none/\H'=upd H p (.tup [.int i,x])/\∀xs,SqL K H a xs->xs[i]? =some x,λi H=>∃xs,SqL K H a xs/\xs.length<=i⟩
theorem mm0{a:Addr}{l:List Addr}:a∈a::l:= .head _
theorem mm1{a b:Addr}{l:List Addr}:a∈b::a::l:= .tail _ mm0
theorem mm2{a b c:Addr}{l:List Addr}:a∈b::c::a::l:= .tail _ mm1
theorem mm3{a b c d:Addr}{l:List Addr}:a∈b::c::d::a::l:= .tail _ mm2
theorem mm4{a b c d e:Addr}{l:List Addr}:a∈b::c::d::e::a::l:= .tail _ mm3
theorem nmm{a b:Addr}{l:List Addr}(hb:b∉l)(ha:a∈l):b≠a:=λe=>hb (e▸ha)
theorem fa1{p:Addr->Prop}{a:Addr}{l:List Addr}(h:p a)(t:∀x∈l,p x):∀x∈a::l,p x:=List.forall_mem_cons.2 ⟨h,t⟩
def NL(h:Heap)(b:Addr):Prop:=∃o,h.get? b=some o/\o.cls≠ .type "list" /\∀v,o.data≠ .cell v
theorem NL.it{h:Heap}(q:h.IsListIter b l k):NL h b:=by
 obtain⟨o,ho,hc,hd⟩:=q
 exact⟨o,ho,by rw[hc];simp,λv z=>by rw[hd]at z;cases z⟩
theorem NL.zip(hz:IsZip h z T1 T2 x):NL h z:=⟨_,hz,by simp,λv z=>by cases z⟩
theorem NL.tup{h:Heap}(q:h.get? b=some {cls:= .type "tuple",data:= .seq a}):NL h b:=⟨_,q,by simp,λv z=>by cases z⟩
theorem NL.obj(n:NL h b):∃o,h.get? b=some o/\∀v,o.data≠ .cell v:=let ⟨o,e,_,v⟩:=n;⟨o,e,v⟩
theorem NL.ex(n:NL h b):∃o,h.get? b=some o:=let ⟨o,e,_⟩:=n;⟨o,e⟩
theorem NL.lt(n:NL h b):b<h.objs.size:=let ⟨_,e⟩:=n.ex;Zv e
theorem NL.apart{X:Cx}{H:Hp}{s:Shared}(n:NL s.heap b)(I:Inv X pins σ H s)(hn:H b=none)(hq:SqL X.K H l ys):l≠b:=λe=>by
 subst e
 rcases hq with(hq | ⟨_,hq⟩) | ⟨o',its,k,hk,hc',_⟩
 ·rw[hn]at hq;cases hq
 ·rw[hn]at hq;cases hq
 ·obtain⟨o,ho,hc,_⟩:=n
  rw[I.kIn l o' hk]at ho
  exact hc (Option.some.inj ho▸hc')
theorem QqI{P:Program}{w:World}{K:PySem.W.Frag}{es:List Expr}{tk:Nat}{tpos:Pos}(a e it:Addr)(hne:e≠it):Turn P w K (.Tuple es tk tpos) (Ite K a) [e,it] e (λi h=>∃old,IsEnum h e it (i:Int) old/\h.IsListIter it a i) where
 mem:=mm0
 obj:=λi h st b hb=>by
  obtain⟨old,he,hi⟩:=st
  exact(fa1 (p:=NL h) ⟨_,he,by simp,λv z=>by cases z⟩ (fa1 (.it hi) (List.forall_mem_nil _)) b hb).obj
 keep:=λi h h' st k=>by
  obtain⟨old,he,hi⟩:=st
  exact⟨old,k e mm0 _ he,hi.at (k it mm1)⟩
 item:=by
  intro X hP hw hK hc i pins s σ H E I hf st hg
  subst hP hw hK
  obtain⟨old,he,hi⟩:=st
  obtain⟨xs,x,hq,hx⟩:=hg
  obtain⟨its,rv,p,hz⟩:=I.list hq
  obtain⟨u,hu,ru⟩:=rv.get hx
  refine wpAny_pyNext_enum_item he hi p.isList (x:=u) (by simpa using hu) hne λh1 heo hi1 ht1 hz1 hk1=>?_
  refine⟨.ref s.heap.objs.size,rfl,wpAny_letOwnedTupleGo_enum heo λh2 he2 hs2=>?_⟩
  replace hs2:Heap.SameBut e h1 h2:=hs2
  have helt:e<s.heap.objs.size:=Zv he
  have hilt:it<s.heap.objs.size:=by obtain⟨o,ho,_⟩:=hi;exact Zv ho
  have ht2:IsTup h2 s.heap.objs.size [Value.int i s.toks,u].toArray:=⟨_,(hs2.2 _ (Nat.ne_of_gt helt)).trans ht1,rfl,_,rfl⟩
  have hi2:h2.IsListIter it a (i+1):=hi1.extBut hs2.extBut (Ne.symm hne)
  have kk:∀b o,b∉[e,it]->s.heap.get? b=some o->h2.get? b=some o:=λb o hb q=>by
   have h1:b≠e:=λz=>hb (by simp[z])
   have h2:b≠it:=λz=>hb (by simp[z])
   exact hs2.extBut b o h1 (hk1 b o h1 h2 q)
  refine⟨.ref s.heap.objs.size,upd H s.heap.objs.size (.tup [.int i,x]),I.Qtg (t':=s.toks+1) hf kk (λb hb=>?_) (Zn _) ⟨by show 2<=sizeLine;decide,_,.cons ⟨_,rfl⟩ (.cons ru .nil),ht2⟩,rfl,
   ⟨_,x,rfl,I.hok.fresh (Zn _),rfl,λys hy=>by rw[I.Qf6 hy hq];exact hx⟩,⟨u,?_,hi2⟩,λb hb=>?_⟩
  ·have hb:b=e∨b=it:=by simpa using hb
   rcases hb with rfl | rfl
   ·exact⟨_,he2⟩
   ·obtain⟨o,ho,_⟩:=hi2;exact⟨o,ho⟩
  ·have:((i+1:Nat):Int)=(i:Int)+1:=by push_cast;rfl
   rw[this];exact he2
  ·have hb':b=e∨b=it:=by simpa using hb
   have:b≠s.heap.objs.size:=by
    rcases hb' with rfl | rfl
    ·exact ZN helt
    ·exact ZN hilt
   rw[QF this];exact(hf b hb).1
 done:=by
  intro X hP hw hK hc i pins s σ H E I hf st hg
  subst hP hw hK
  obtain⟨old,he,hi⟩:=st
  obtain⟨xs,hq,hx⟩:=hg
  obtain⟨its,rv,p,hz⟩:=I.list hq
  have hl:=rv.length
  refine wpAny_pyNext_enum_end (I.ok.hd hc) he hi p.isList (by simp;omega) λh1 eb=>⟨rfl,?_⟩
  exact I.turns (t':=s.toks) hf λb o hb q=>eb b o (λz=>hb (by simp[z])) q
 self:=λ_ _ _ _ _ st h=>by
  obtain⟨old,he,hi⟩:=st
  exact wpAny_pyIter_enum he h
section
noncomputable def Qx9(K:PySem.W.Frag)(ta:TA):TI:=λσ H R=>ta σ H λvs H1=>∃a,vs=[.ref a]/\(∃xs,SqL K H1 a xs)/\R (Ite K a) H1
theorem Qu8{a:Expr}{ta:TA}{p pos:Pos}{es:List Expr}{tk:Nat}{tpos:Pos}(hg:Gl X "enumerate")(hm:X.mg "enumerate" =none)(ha:PA X [a] ta)(hs:starEach [a] X.env=[(false,eval a X.env)]):
  PI X (.Tuple es tk tpos) (.Call (.Name "enumerate" p) [a] [] pos) (Qx9 X.K ta):=by
 intro pins s σ H R I h
 refine Call_ (QeN I hg hm PyProof.Rows.boot_enumerate (Zaz (thn (ha pos pins s σ H _ I h) λus s1 ⟨vs,H1,I1,r1,q1⟩=>?_) hs rfl))
 obtain⟨l,e,⟨xs,hq⟩,q⟩:=q1
 subst e
 obtain⟨u,rfl,ru⟩:=vals1 r1
 cases ru
 obtain⟨its,rv,pl,hz⟩:=I1.list hq
 refine call_enumerate_list pl.isList λh2 he2 hi2 hz2 hk2=>?_
 have I2:Inv X pins σ H1 {s1 with heap:=h2}:=I1.kept (t':=s1.toks) hk2
 refine wpAny_pyIter_enum he2 ⟨_,[s1.heap.objs.size+1,s1.heap.objs.size],_,_,H1,rfl,I2,QqI l _ _ (Nat.succ_ne_self _),⟨_,he2,hi2⟩,λb hb=>?_,q⟩
 have hb:b=s1.heap.objs.size+1∨b=s1.heap.objs.size:=by simpa using hb
 have hle:s1.heap.objs.size<=b:=by rcases hb with rfl | rfl<;>omega
 exact I1.Qmw hle (I1.hok.fresh hle)
end
noncomputable def Itz(K:PySem.W.Frag)(a b:Addr):It:=
 ⟨λi H=>∃xs ys x y,SqL K H a xs/\SqL K H b ys/\xs[i]? =some x/\ys[i]? =some y,λi H v H'=>∃p x y,v= .ref p/\H p=none/\H'=upd H p (.tup [x,y])/\(∀xs,SqL K H a xs->xs[i]? =some x)/\∀ys,SqL K H b ys->ys[i]? =some y,
  λi H=>∃xs ys,SqL K H a xs/\SqL K H b ys/\(xs.length<=i∨ys.length<=i)⟩
structure QnC (z TI TO i1 i2:Addr):Prop where
 a:TI≠z
 b:TO≠z
 c:i1≠z
 d:i2≠z
 e:TI≠TO
 f:TI≠i1
 g:TI≠i2
 h:TO≠i1
 i:TO≠i2
 j:i1≠i2
theorem Qi3{h:Heap}(hz:IsZip h z T1 T2 x)(hA:IsPair h T1 a b)(hB:IsPair h T2 c d)(h1:h.IsListIter i1 l1 k)(h2:h.IsListIter i2 l2 k):∀b∈[z,T1,T2,i1,i2],NL h b:=
 fa1 (.zip hz) (fa1 (.tup hA) (fa1 (.tup hB) (fa1 (.it h1) (fa1 (.it h2) λ_ h=>nomatch h))))
theorem QqR{X:Cx}{s:Shared}(D:QnC z T1 T2 i1 i2)(I:Inv X pins σ H s)(hf:∀b∈[z,T1,T2,i1,i2],Qdz X pins H b)(O:∀b∈[z,T1,T2,i1,i2],NL s.heap b)(hq1:SqL X.K H l1 xs)(hq2:SqL X.K H l2 ys):ZipApart z T1 T2 i1 i2 l1 l2:=by
 have A1:=λb hb=>(O b hb).apart I (hf b hb).1 hq1
 have A2:=λb hb=>(O b hb).apart I (hf b hb).1 hq2
 exact⟨D.a,D.b,D.c,D.d,D.e,D.f,D.g,D.h,D.i,D.j,A1 z mm0,A1 T2 mm2,A1 i1 mm3,A1 i2 mm4,A2 z mm0,A2 T2 mm2,A2 i1 mm3,A2 i2 mm4⟩
theorem QsG{P:Program}{w:World}{K:PySem.W.Frag}{es:List Expr}{tk:Nat}{tpos:Pos}(l1 l2 z TI TO i1 i2:Addr)(D:QnC z TI TO i1 i2):
  Turn P w K (.Tuple es tk tpos) (Itz K l1 l2) [z,TI,TO,i1,i2] z (λi h=>IsZip h z TI TO .none/\IsPair h TI (.ref i1) (.ref i2)/\(∃a b,IsPair h TO a b)/\h.IsListIter i1 l1 i/\h.IsListIter i2 l2 i) where
 mem:=mm0
 obj:=λi h st b hb=>by
  obtain⟨hz,hTI,⟨p,q,hTO⟩,h1,h2⟩:=st
  exact(Qi3 hz hTI hTO h1 h2 b hb).obj
 keep:=λi h h' st k=>by
  obtain⟨hz,hTI,⟨p,q,hTO⟩,h1,h2⟩:=st
  exact⟨k z mm0 _ hz,k TI mm1 _ hTI,⟨p,q,k TO mm2 _ hTO⟩,h1.at (k i1 mm3),h2.at (k i2 mm4)⟩
 item:=by
  intro X hP hw hK hc i pins s σ H E I hf st hg
  subst hP hw hK
  obtain⟨hz,hTI,⟨a0,b0,hTO⟩,h1,h2⟩:=st
  obtain⟨xs,ys,x,y,hq1,hq2,hx,hy⟩:=hg
  obtain⟨its,rv,p,hzz⟩:=I.list hq1
  obtain⟨its2,rv2,p2,hzz2⟩:=I.list hq2
  obtain⟨u,hu,ru⟩:=rv.get hx
  obtain⟨u2,hu2,ru2⟩:=rv2.get hy
  have O:=Qi3 hz hTI hTO h1 h2
  refine wpAny_pyNext_zip_item (QqR D I hf O hq1 hq2) hz hTI hTO h1 h2 p.isList p2.isList (x:=u) (y:=u2) (by simpa using hu) (by simpa using hu2) λh3 z3 TO3 a3 b3 T3 sz3 k3=>?_
  refine⟨.ref s.heap.objs.size,rfl,wpAny_letOwnedTupleGo_zip z3 λh4 z4 hs4=>?_⟩
  replace hs4:Heap.SameBut z h3 h4:=hs4
  have kk:∀b o,b∉[z,TI,TO,i1,i2]->s.heap.get? b=some o->h4.get? b=some o:=λb o hb q=>
   hs4.extBut b o (nmm hb mm0) (k3 b o (nmm hb mm0) (nmm hb mm2) (nmm hb mm3) (nmm hb mm4) q)
  have TI4:IsPair h4 TI (.ref i1) (.ref i2):=hs4.extBut _ _ D.a (k3 _ _ D.a D.e D.f D.g hTI)
  have TO4:IsPair h4 TO u u2:=hs4.extBut _ _ D.b TO3
  have a4:h4.IsListIter i1 l1 (i+1):=a3.extBut hs4.extBut D.c
  have b4:h4.IsListIter i2 l2 (i+1):=b3.extBut hs4.extBut D.d
  exact⟨.ref s.heap.objs.size,upd H s.heap.objs.size (.tup [x,y]),I.Qtg (t':=s.toks) hf kk (λb hb=>(Qi3 z4 TI4 TO4 a4 b4 b hb).ex) (Zn _) ⟨by show 2<=sizeLine;decide,_,.cons ru (.cons ru2 .nil),_,(hs4.2 _ (Nat.ne_of_gt (O z mm0).lt)).trans T3,rfl,_,rfl⟩,rfl,
   ⟨_,x,y,rfl,I.hok.fresh (Zn _),rfl,λzs hy'=>by rw[I.Qf6 hy' hq1];exact hx,λzs hy'=>by rw[I.Qf6 hy' hq2];exact hy⟩,⟨z4,TI4,⟨_,_,TO4⟩,a4,b4⟩,λb hb=>by rw[QF (ZN (O b hb).lt)];exact(hf b hb).1⟩
 done:=by
  intro X hP hw hK hc i pins s σ H E I hf st hg
  subst hP hw hK
  obtain⟨hz,hTI,⟨a0,b0,hTO⟩,h1,h2⟩:=st
  obtain⟨xs,ys,hq1,hq2,hx⟩:=hg
  obtain⟨its,rv,p,hzz⟩:=I.list hq1
  obtain⟨its2,rv2,p2,hzz2⟩:=I.list hq2
  have hl:=rv.length
  have hl2:=rv2.length
  refine wpAny_pyNext_zip_end (I.ok.hd hc) (QqR D I hf (Qi3 hz hTI hTO h1 h2) hq1 hq2) hz hTI hTO h1 h2 p.isList p2.isList (by rcases hx with hx | hx;(left;simp;omega);(right;simp;omega)) λh3 k3=>⟨rfl,?_⟩
  exact I.turns (t':=s.toks) hf λb o hb q=>k3 b o (nmm hb mm0) (nmm hb mm2) (nmm hb mm3) (nmm hb mm4) q
 self:=λ_ _ _ _ _ st h=>wpAny_pyIter_zip st.1 h
section
noncomputable def QzU(K:PySem.W.Frag)(ta:TA):TI:=λσ H R=>ta σ H λvs H1=>∃a b,vs=[.ref a,.ref b]/\(∃xs,SqL K H1 a xs)/\(∃ys,SqL K H1 b ys)/\R (Itz K a b) H1
theorem Qxd{a b:Expr}{ta:TA}{p pos:Pos}{es:List Expr}{tk:Nat}{tpos:Pos}(hg:Gl X "zip")(hm:X.mg "zip" =none)(ha:PA X [a,b] ta)(hs:starEach [a,b] X.env=[(false,eval a X.env),(false,eval b X.env)])(hs2:starEach [b] X.env=[(false,eval b X.env)]):
  PI X (.Tuple es tk tpos) (.Call (.Name "zip" p) [a,b] [] pos) (QzU X.K ta):=by
 intro pins s σ H R I h
 refine Call_ (QeN I hg hm PyProof.Rows.boot_zip (Zaz (thn (ha pos pins s σ H _ I h) λus s1 ⟨vs,H1,I1,r1,q1⟩=>?_) (by rw[hs,hs2]) (by rw[hs2];rfl)))
 obtain⟨l,l2,e,⟨xs,hq⟩,⟨ys,hq2⟩,q⟩:=q1
 subst e
 obtain⟨u,u2,rfl,ru,ru2⟩:=vals2 r1
 cases ru
 cases ru2
 obtain⟨its,rv,pl,hz⟩:=I1.list hq
 obtain⟨its2,rv2,pl2,hz2⟩:=I1.list hq2
 refine call_zip_2 pl.isList pl2.isList λh2 hz hTI hTO h1 h2' hsz hk2=>?_
 have I2:Inv X pins σ H1 {s1 with heap:=h2}:=I1.kept (t':=s1.toks) hk2
 refine wpAny_pyIter_zip hz ⟨_,[s1.heap.objs.size+4,s1.heap.objs.size+2,s1.heap.objs.size+3,s1.heap.objs.size,s1.heap.objs.size+1],_,_,H1,rfl,I2,QsG l l2 _ _ _ _ _ ⟨?_,?_,?_,?_,?_,?_,?_,?_,?_,?_⟩,⟨hz,hTI,⟨_,_,hTO⟩,h1,h2'⟩,λb hb=>?_,q⟩
 iterate 10 (exact(by intro e;first | (have e':(s1.heap.objs.size:Nat)+_=_:=e;omega) | (have e':(s1.heap.objs.size:Nat)=_:=e;omega)))
 have hle:s1.heap.objs.size<=b:=by
  simp only[Zl,ZbE,or_false]at hb
  rcases hb with rfl | rfl | rfl | rfl | rfl<;>first | exact Zn _ | exact Nat.le_add_right _ _
 exact I1.Qmw hle (I1.hok.fresh hle)
end
end L2
namespace L2
open PySem PySem.Spec
section
variable {prog:Program}{w:World}{A:Around}{E:Value->Shared->Prop}{s:Shared}
structure Six (z TI TO i1 i2 i3:Addr):Prop where
 TIz:TI≠z
 TOz:TO≠z
 i1z:i1≠z
 i2z:i2≠z
 i3z:i3≠z
 TITO:TI≠TO
 TIi1:TI≠i1
 TIi2:TI≠i2
 TIi3:TI≠i3
 TOi1:TO≠i1
 TOi2:TO≠i2
 TOi3:TO≠i3
 i12:i1≠i2
 i13:i1≠i3
 i23:i2≠i3
end
section
variable {prog:Program}{w:World}{A:Around}{E:Value->Shared->Prop}{s:Shared}
end
open PyProof.Rows
section
end
end L2
namespace HS
open PySem PySem.Spec PyProof.Rows L2
inductive Ob where
 | ins (x:Str) (ns:List Str) | pin (a:Addr) | pair
noncomputable def Ob.n:Ob->Nat
 | .ins _ _=>1
 | .pin _=>0
 | .pair=>0
inductive D where
 | non | bl (b:Bool) | int (i:Int) | str (x:Str) | tup (xs:List D) | lst (xs:List D) | exc (x:Str) | dk (ks:List (List Int))
 | obj (o:Ob) (xs:List D)
mutual
noncomputable def D.flat:D->Bool
 | .lst _=>false
 | .tup xs=>Qab xs
 | .non=>true
 | .bl _=>true
 | .int _=>true
 | .str _=>true
 | .exc _=>true
 | .dk _=>false
 | .obj _ _=>false
noncomputable def Qab:List D->Bool
 | []=>true
 | d::ds=>d.flat && Qab ds
end
mutual
noncomputable def D.nl:D->Nat
 | .lst xs=>nls xs+1
 | .tup xs=>nls xs
 | .non=>0
 | .bl _=>0
 | .int _=>0
 | .str _=>0
 | .exc _=>0
 | .dk _=>1
 | .obj o xs=>nls xs+o.n
noncomputable def nls:List D->Nat
 | []=>0
 | d::ds=>d.nl+nls ds
end
mutual
theorem Qdm:∀(d:D),d.flat=true->d.nl=0
 | .non,_=>rfl
 | .bl _,_=>rfl
 | .int _,_=>rfl
 | .str _,_=>rfl
 | .exc _,_=>rfl
 | .dk _,h=>by simp[D.flat]at h
 | .obj _ _,h=>by simp[D.flat]at h
 | .tup xs,h=>by simp only[D.nl];simp only[D.flat]at h;exact Qh6 xs h
 | .lst xs,h=>by simp[D.flat]at h
theorem Qh6:∀(ds:List D),Qab ds=true->nls ds=0
 | [],_=>rfl
 | d::ds,h=>by simp only[Qab,Zg]at h;simp only[nls,Qdm d h.1,Qh6 ds h.2]
end
def Fix(K:PySem.W.Frag)(H:Hp)(a:Addr)(vs:List V):Prop:=
 (∃o,H a=some (.frz o (.lst vs)))∨
  ∃(its:List Value) (n:Nat),K.lookup a=some {cls:= .type "list",data:= .seq its.toArray n}/\vs.length<=sizeLine/\Qw vs its
def Qdd(a C:Addr)(h:Heap):Prop:=∃o vs,h.get? a=some o/\o.cls= .ref C/\o.data= .fields vs
def ExcAt(K:PySem.W.Frag)(H:Hp)(a:Addr)(x:Str):Prop:=∃C,PySem.W.nsIn K mainGlobals x=some (some (.ref C))/\H a=some (.ext (Qdd a C))
theorem QoP{K:PySem.W.Frag}{H H':Hp}{a:Addr}{x:Str}(s:QD H H')(h:ExcAt K H a x):ExcAt K H' a x:=by
 obtain⟨C,h1,h2⟩:=h
 exact⟨C,h1,s _ _ h2⟩
theorem Qqg{K:PySem.W.Frag}{H:Hp}{a p:Addr}{x:Str}{zs ys:List V}(hp:H p=some (.lst zs))(h:ExcAt K H a x):ExcAt K (upd H p (.lst ys)) a x:=by
 obtain⟨C,h1,h2⟩:=h
 exact⟨C,h1,by rw[QF (Qlb h2 hp (by intro z;cases z))];exact h2⟩
noncomputable def dkC(ks:List (List Int)):List (List Key×V):=ks.map λk=>(k.map Sum.inl,V.bl true)
noncomputable def Qct(K:PySem.W.Frag)(H:Hp)(v:V)(vs:List V)(A:List Addr):Ob->Prop
 | .ins x ns=>∃a C dx,v= .ref a/\A=[a]/\PySem.W.nsIn K mainGlobals x=some (some (.ref C))/\H a=some (.ins C dx (ns.zip vs))/\ns.length=vs.length
 | .pin a=>v= .ref a/\vs=[v]/\A=[]
 | .pair=>A=[]/\v≠ .non/\∃u,vs=[v,u]
theorem Qct.same{K:PySem.W.Frag}{H H':Hp}{v:V}{vs:List V}{A:List Addr}(s:QD H H'):∀{o:Ob},Qct K H v vs A o->Qct K H' v vs A o
 | .ins _ _,⟨a,C,dx,e1,e2,e3,e4,e5⟩=>⟨a,C,dx,e1,e2,e3,s _ _ e4,e5⟩
 | .pin _,h=>h
 | .pair,h=>h
theorem Qct.upd{K:PySem.W.Frag}{H:Hp}{v:V}{vs:List V}{A:List Addr}{p:Addr}{u:HO}(hn:p∉A):∀{o:Ob},Qct K H v vs A o->Qct K (upd H p u) v vs A o
 | .ins _ _,⟨a,C,dx,e1,e2,e3,e4,e5⟩=>⟨a,C,dx,e1,e2,e3,by rw[QF (λz=>hn (by rw[e2,← z];exact List.mem_singleton_self a))];exact e4,e5⟩
 | .pin _,h=>h
 | .pair,h=>h
theorem Qct.mem{K:PySem.W.Frag}{H:Hp}{v:V}{vs:List V}{A:List Addr}:∀{o:Ob},Qct K H v vs A o->∀a∈A,∃u,H a=some u
 | .ins _ _,⟨a,C,dx,e1,e2,e3,e4,e5⟩,b,hb=>by rw[e2]at hb;rw[Zj.mp hb];exact⟨_,e4⟩
 | .pin _,⟨_,_,e⟩,b,hb=>by rw[e]at hb;simp at hb
 | .pair,⟨e,_⟩,b,hb=>by rw[e]at hb;simp at hb
theorem Qct.len{K:PySem.W.Frag}{H:Hp}{v:V}{vs:List V}{A:List Addr}:∀{o:Ob},Qct K H v vs A o->A.length=o.n
 | .ins _ _,⟨a,C,dx,e1,e2,e3,e4,e5⟩=>by rw[e2];rfl
 | .pin _,⟨_,_,e⟩=>by rw[e];rfl
 | .pair,⟨e,_⟩=>by rw[e];rfl
theorem Qct.ne{K:PySem.W.Frag}{H:Hp}{v:V}{vs:List V}{A:List Addr}:∀{o:Ob},Qct K H v vs A o->v≠ .non
 | .ins _ _,⟨a,C,dx,e1,_⟩=>by rw[e1];exact V.noConfusion
 | .pin _,⟨e,_,_⟩=>by rw[e];exact V.noConfusion
 | .pair,⟨_,h,_⟩=>h
mutual
noncomputable def Rp(K:PySem.W.Frag)(H:Hp):D->V->List Addr->Prop
 | .non,v,F=>v= .non/\F=[]
 | .bl b,v,F=>v= .bl b/\F=[]
 | .int i,v,F=>v= .int i/\F=[]
 | .str x,v,F=>v= .str x/\F=[]
 | .exc x,v,F=>(∃a,v= .ref a/\ExcAt K H a x)/\F=[]
 | .dk ks,v,F=>∃a,v= .ref a/\F=[a]/\H a=some (.dT (dkC ks))
 | .obj o ds,v,F=>∃vs A G,F=A++G/\Qct K H v vs A o/\Rps K H ds vs G
 | .tup ds,v,F=>∃a vs,v= .ref a/\SqT K H a vs/\Rps K H ds vs F
 | .lst ds,v,F=>ds.length<=sizeLine/\∃a vs,v= .ref a/\((∃G,F=a::G/\H a=some (.lst vs)/\Rps K H ds vs G)∨(Fix K H a vs/\Rps K H ds vs F))
noncomputable def Rps(K:PySem.W.Frag)(H:Hp):List D->List V->List Addr->Prop
 | [],vs,F=>vs=[]/\F=[]
 | d::ds,vs,F=>∃v ws F1 F2,vs=v::ws/\F=F1++F2/\Rp K H d v F1/\Rps K H ds ws F2
end
theorem Qlp{K:PySem.W.Frag}{H H':Hp}{a:Addr}{vs:List V}(s:QD H H')(h:SqT K H a vs):SqT K H' a vs:=by
 rcases h with(h | ⟨o,h⟩) | h
 ·exact .inl (.inl (s _ _ h))
 ·exact .inl (.inr ⟨o,s _ _ h⟩)
 ·exact .inr h
theorem QmD{K:PySem.W.Frag}{H H':Hp}{a:Addr}{vs:List V}(s:QD H H')(h:Fix K H a vs):Fix K H' a vs:=by
 rcases h with⟨o,h⟩ | h
 ·exact .inl ⟨o,s _ _ h⟩
 ·exact .inr h
theorem Qn4{K:PySem.W.Frag}{H:Hp}{a p:Addr}{vs zs ys:List V}(hp:H p=some (.lst zs))(h:SqT K H a vs):SqT K (upd H p (.lst ys)) a vs:=by
 rcases h with(h | ⟨o,h⟩) | h
 ·exact .inl (.inl (by rw[QF (Qlb h hp (by intro z;cases z))];exact h))
 ·exact .inl (.inr ⟨o,by rw[QF (Qlb h hp (by intro z;cases z))];exact h⟩)
 ·exact .inr h
theorem Qu3{K:PySem.W.Frag}{H:Hp}{a p:Addr}{vs zs ys:List V}(hp:H p=some (.lst zs))(h:Fix K H a vs):Fix K (upd H p (.lst ys)) a vs:=by
 rcases h with⟨o,h⟩ | h
 ·exact .inl ⟨o,by rw[QF (Qlb h hp (by intro z;cases z))];exact h⟩
 ·exact .inr h
section
variable {K:PySem.W.Frag}{H H':Hp}
mutual
theorem Rp.same(s:QD H H'):∀{d:D}{v:V}{F:List Addr},Rp K H d v F->Rp K H' d v F
 | .exc _,_,_,h=>by
  simp only[Rp]at h ⊢
  obtain⟨⟨a,e,q⟩,z⟩:=h
  exact⟨⟨a,e,QoP s q⟩,z⟩
 | .dk _,_,_,h=>by
  simp only[Rp]at h ⊢
  obtain⟨a,e,eF,q⟩:=h
  exact⟨a,e,eF,s _ _ q⟩
 | .obj _ _,_,_,h=>by
  simp only[Rp]at h ⊢
  obtain⟨vs,A,G,eF,q,r⟩:=h
  exact⟨vs,A,G,eF,q.same s,Rps.same s r⟩
 | .non,_,_,h=>h
 | .bl _,_,_,h=>h
 | .int _,_,_,h=>h
 | .str _,_,_,h=>h
 | .tup ds,_,_,h=>by
  simp only[Rp]at h ⊢
  obtain⟨a,vs,e,q,r⟩:=h
  exact⟨a,vs,e,Qlp s q,Rps.same s r⟩
 | .lst ds,_,_,h=>by
  simp only[Rp]at h ⊢
  obtain⟨hz,a,vs,e,⟨G,eF,q,r⟩ | ⟨q,r⟩⟩:=h
  ·exact⟨hz,a,vs,e,.inl ⟨G,eF,s _ _ q,Rps.same s r⟩⟩
  ·exact⟨hz,a,vs,e,.inr ⟨QmD s q,Rps.same s r⟩⟩
theorem Rps.same(s:QD H H'):∀{ds:List D}{vs:List V}{F:List Addr},Rps K H ds vs F->Rps K H' ds vs F
 | [],_,_,h=>h
 | d::ds,_,_,h=>by
  simp only[Rps]at h ⊢
  obtain⟨v,ws,F1,F2,e,eF,r,q⟩:=h
  exact⟨v,ws,F1,F2,e,eF,Rp.same s r,Rps.same s q⟩
end
mutual
theorem Rp.upd{p:Addr}{zs ys:List V}(hp:H p=some (.lst zs)):∀{d:D}{v:V}{F:List Addr},Rp K H d v F->p∉F->Rp K (upd H p (.lst ys)) d v F
 | .exc _,_,_,h,_=>by
  simp only[Rp]at h ⊢
  obtain⟨⟨a,e,q⟩,z⟩:=h
  exact⟨⟨a,e,Qqg hp q⟩,z⟩
 | .dk _,_,_,h,hn=>by
  simp only[Rp]at h ⊢
  obtain⟨a,e,eF,q⟩:=h
  subst eF
  exact⟨a,e,rfl,by rw[QF (λz=>hn (by rw[z];exact Zf))];exact q⟩
 | .obj _ _,_,_,h,hn=>by
  simp only[Rp]at h ⊢
  obtain⟨vs,A,G,eF,q,r⟩:=h
  subst eF
  exact⟨vs,A,G,rfl,q.upd λz=>hn (Zd _ z),Rps.upd hp r λz=>hn (Ze _ z)⟩
 | .non,_,_,h,_=>h
 | .bl _,_,_,h,_=>h
 | .int _,_,_,h,_=>h
 | .str _,_,_,h,_=>h
 | .tup ds,_,_,h,hn=>by
  simp only[Rp]at h ⊢
  obtain⟨a,vs,e,q,r⟩:=h
  exact⟨a,vs,e,Qn4 hp q,Rps.upd hp r hn⟩
 | .lst ds,_,_,h,hn=>by
  simp only[Rp]at h ⊢
  obtain⟨hz,a,vs,e,⟨G,eF,q,r⟩ | ⟨q,r⟩⟩:=h
  ·subst eF
   have h1:a≠p:=λz=>hn (by rw[z];exact Zf)
   exact⟨hz,a,vs,e,.inl ⟨G,rfl,by rw[QF h1];exact q,Rps.upd hp r λz=>hn (Zb _ z)⟩⟩
  ·exact⟨hz,a,vs,e,.inr ⟨Qu3 hp q,Rps.upd hp r hn⟩⟩
theorem Rps.upd{p:Addr}{zs ys:List V}(hp:H p=some (.lst zs)):∀{ds:List D}{vs:List V}{F:List Addr},Rps K H ds vs F->p∉F->Rps K (upd H p (.lst ys)) ds vs F
 | [],_,_,h,_=>h
 | d::ds,_,_,h,hn=>by
  simp only[Rps]at h ⊢
  obtain⟨v,ws,F1,F2,e,eF,r,q⟩:=h
  subst eF
  exact⟨v,ws,F1,F2,e,rfl,Rp.upd hp r λz=>hn (Zd _ z),Rps.upd hp q λz=>hn (Ze _ z)⟩
end
mutual
theorem Rp.mem:∀{d:D}{v:V}{F:List Addr},Rp K H d v F->∀a∈F,∃u,H a=some u
 | .non,_,_,h,a,ha=>by simp only[Rp]at h;rw[h.2]at ha;simp at ha
 | .bl _,_,_,h,a,ha=>by simp only[Rp]at h;rw[h.2]at ha;simp at ha
 | .int _,_,_,h,a,ha=>by simp only[Rp]at h;rw[h.2]at ha;simp at ha
 | .str _,_,_,h,a,ha=>by simp only[Rp]at h;rw[h.2]at ha;simp at ha
 | .exc _,_,_,h,a,ha=>by simp only[Rp]at h;rw[h.2]at ha;simp at ha
 | .dk _,_,_,h,a,ha=>by simp only[Rp]at h;obtain⟨b,e,eF,q⟩:=h;subst eF;rw[Zj.mp ha];exact⟨_,q⟩
 | .obj _ _,_,_,h,a,ha=>by
  simp only[Rp]at h
  obtain⟨vs,A,G,eF,q,r⟩:=h
  subst eF
  rcases Zo.mp ha with z | z
  ·exact q.mem a z
  ·exact Rps.mem r a z
 | .tup ds,_,_,h,a,ha=>by
  simp only[Rp]at h
  obtain⟨_,vs,e,q,r⟩:=h
  exact Rps.mem r a ha
 | .lst ds,_,_,h,a,ha=>by
  simp only[Rp]at h
  obtain⟨_,b,vs,e,⟨G,eF,q,r⟩ | ⟨q,r⟩⟩:=h
  ·subst eF
   rcases Zl.mp ha with z | z
   ·exact⟨_,by rw[z];exact q⟩
   ·exact Rps.mem r a z
  ·exact Rps.mem r a ha
theorem Rps.mem:∀{ds:List D}{vs:List V}{F:List Addr},Rps K H ds vs F->∀a∈F,∃u,H a=some u
 | [],_,_,h,a,ha=>by simp only[Rps]at h;rw[h.2]at ha;simp at ha
 | d::ds,_,_,h,a,ha=>by
  simp only[Rps]at h
  obtain⟨v,ws,F1,F2,e,eF,r,q⟩:=h
  subst eF
  rcases Zo.mp ha with z | z
  ·exact Rp.mem r a z
  ·exact Rps.mem q a z
end
mutual
theorem Rp.QbF:∀{d:D}{v:V}{F:List Addr},Rp K H d v F->d.flat=true->F=[]
 | .non,_,_,h,_=>by simp only[Rp]at h;exact h.2
 | .bl _,_,_,h,_=>by simp only[Rp]at h;exact h.2
 | .int _,_,_,h,_=>by simp only[Rp]at h;exact h.2
 | .str _,_,_,h,_=>by simp only[Rp]at h;exact h.2
 | .exc _,_,_,h,_=>by simp only[Rp]at h;exact h.2
 | .dk _,_,_,h,hf=>by simp[D.flat]at hf
 | .obj _ _,_,_,h,hf=>by simp[D.flat]at hf
 | .tup ds,_,_,h,hf=>by
  simp only[Rp]at h
  simp only[D.flat]at hf
  obtain⟨_,vs,e,q,r⟩:=h
  exact Rps.QbF r hf
 | .lst ds,_,_,h,hf=>by simp[D.flat]at hf
theorem Rps.QbF:∀{ds:List D}{vs:List V}{F:List Addr},Rps K H ds vs F->Qab ds=true->F=[]
 | [],_,_,h,_=>by simp only[Rps]at h;exact h.2
 | d::ds,_,_,h,hf=>by
  simp only[Rps]at h
  simp only[Qab,Zg]at hf
  obtain⟨v,ws,F1,F2,e,eF,r,q⟩:=h
  rw[eF,Rp.QbF r hf.1,Rps.QbF q hf.2];rfl
end
mutual
theorem Rp.Qas:∀{d:D}{v:V}{F:List Addr},Rp K H d v F->F.length<=d.nl
 | .non,_,_,h=>by simp only[Rp]at h;rw[h.2];exact ZZ _
 | .bl _,_,_,h=>by simp only[Rp]at h;rw[h.2];exact ZZ _
 | .int _,_,_,h=>by simp only[Rp]at h;rw[h.2];exact ZZ _
 | .str _,_,_,h=>by simp only[Rp]at h;rw[h.2];exact ZZ _
 | .exc _,_,_,h=>by simp only[Rp]at h;rw[h.2];exact ZZ _
 | .dk _,_,_,h=>by simp only[Rp]at h;obtain⟨b,e,eF,q⟩:=h;subst eF;exact Zn _
 | .obj _ _,_,_,h=>by
  simp only[Rp]at h
  obtain⟨vs,A,G,eF,q,r⟩:=h
  rw[eF,Zp,q.len]
  simp only[D.nl]
  have:=Rps.Qas r
  omega
 | .tup ds,_,_,h=>by
  simp only[Rp]at h
  obtain⟨_,vs,e,q,r⟩:=h
  simp only[D.nl]
  exact Rps.Qas r
 | .lst ds,_,_,h=>by
  simp only[Rp]at h
  simp only[D.nl]
  obtain⟨_,b,vs,e,⟨G,eF,q,r⟩ | ⟨q,r⟩⟩:=h
  ·rw[eF,Zk];have:=Rps.Qas r;omega
  ·have:=Rps.Qas r;omega
theorem Rps.Qas:∀{ds:List D}{vs:List V}{F:List Addr},Rps K H ds vs F->F.length<=nls ds
 | [],_,_,h=>by simp only[Rps]at h;rw[h.2];exact ZZ _
 | d::ds,_,_,h=>by
  simp only[Rps]at h
  obtain⟨v,ws,F1,F2,e,eF,r,q⟩:=h
  simp only[nls]
  rw[eF,Zp]
  have:=Rp.Qas r
  have:=Rps.Qas q
  omega
end
theorem Rps.length:∀{ds:List D}{vs:List V}{F:List Addr},Rps K H ds vs F->ds.length=vs.length
 | [],_,_,h=>by simp only[Rps]at h;rw[h.1];rfl
 | d::ds,_,_,h=>by
  simp only[Rps]at h
  obtain⟨v,ws,F1,F2,e,eF,r,q⟩:=h
  rw[e,Zk,Zk,Rps.length q]
theorem Rps.append:∀{ds es:List D}{vs ws:List V}{F G:List Addr},Rps K H ds vs F->Rps K H es ws G->Rps K H (ds++es) (vs++ws) (F++G)
 | [],_,_,_,_,_,h,g=>by simp only[Rps]at h;rw[h.1,h.2];exact g
 | d::ds,_,_,_,_,_,h,g=>by
  simp only[Rps,ZbF]at h ⊢
  obtain⟨v,ws,F1,F2,e,eF,r,q⟩:=h
  subst e eF
  exact⟨v,_,F1,_,rfl,by rw[ZaJ],r,Rps.append q g⟩
theorem Rps.get:∀{ds:List D}{vs:List V}{F:List Addr}{i:Nat}{d:D},Rps K H ds vs F->ds[i]? =some d->∃v F1 G F2,vs[i]? =some v/\F=F1++(G++F2)/\Rp K H d v G/\(F.length=nls ds->G.length=d.nl)
 | [],_,_,_,_,_,e=>by simp at e
 | d::ds,_,_,0,_,h,e=>by
  simp only[Rps]at h
  obtain⟨v,ws,F1,F2,e1,eF,r,q⟩:=h
  simp at e;subst e e1 eF
  refine⟨v,[],F1,F2,by simp,rfl,r,λhl=>?_⟩
  simp only[nls,Zp]at hl
  have:=Rp.Qas r
  have:=Rps.Qas q
  omega
 | d::ds,_,_,i+1,_,h,e=>by
  simp only[Rps]at h
  obtain⟨v,ws,F1,F2,e1,eF,r,q⟩:=h
  obtain⟨v',G1,G,G2,h1,h2,h3,h4⟩:=Rps.get q (by simpa using e)
  have l1:=Rp.Qas r
  have l2:=Rps.Qas q
  subst e1 eF
  refine⟨v',F1++G1,G,G2,by simpa using h1,by rw[h2,ZaJ],h3,λhl=>h4 ?_⟩
  simp only[nls,Zp]at hl
  omega
theorem Fix.sq{K:PySem.W.Frag}{H:Hp}{a:Addr}{vs:List V}(h:Fix K H a vs):SqL K H a vs:=by
 rcases h with⟨o,h⟩ | ⟨its,n,h,hz,r⟩
 ·exact .inl (.inr ⟨o,h⟩)
 ·exact .inr ⟨_,its.toArray,n,h,rfl,rfl,rfl,by rw[Zx,← r.length];exact hz,by simpa using r⟩
theorem _root_.L2.Inv.Ql0(I:Inv X pins σ H s)(h:H a=some (.lst vs)∨Fix X.K H a vs):
  vs.length<=sizeLine/\∃(its:List Value) (n:Nat),Qw vs its/\vs.length=its.length/\s.heap.get? a=some {cls:= .type "list",data:= .seq its.toArray n}:=by
 rcases h with h | ⟨o,h⟩ | ⟨its,n,h,hz,r⟩
 ·exact I.QwN h
 ·obtain⟨e,hz,its,n,r,e2⟩:=I.hok a _ h
  exact⟨hz,its,n,r,r.length,e2⟩
 ·exact⟨hz,its,n,r,r.length,I.kIn _ _ h⟩
theorem Rp.lst_inv{K:PySem.W.Frag}{H:Hp}{ds:List D}{v:V}{F:List Addr}(h:Rp K H (.lst ds) v F):
  ∃a vs G,v= .ref a/\(H a=some (.lst vs)∨Fix K H a vs)/\Rps K H ds vs G/\ds.length<=sizeLine/\(F=a::G∨F=G):=by
 simp only[Rp]at h
 obtain⟨hz,a,vs,e,⟨G,eF,q,r⟩ | ⟨q,r⟩⟩:=h
 ·exact⟨a,vs,G,e,.inl q,r,hz,.inl eF⟩
 ·exact⟨a,vs,F,e,.inr q,r,hz,.inr rfl⟩
theorem Qak{K:PySem.W.Frag}{H:Hp}{a:Addr}{vs:List V}(h:H a=some (.lst vs)∨Fix K H a vs):SqL K H a vs:=h.elim (λh=>SqL.of h) Fix.sq
theorem Rp.Qa0{K:PySem.W.Frag}{H:Hp}{ds:List D}{v:V}{F:List Addr}(h:Rp K H (.tup ds) v F):∃a vs,v= .ref a/\SqT K H a vs/\Rps K H ds vs F:=by
 simp only[Rp]at h
 exact h
theorem Rp.QfP{K:PySem.W.Frag}{H:Hp}{ds:List D}{a:Addr}{vs:List V}{G:List Addr}(h:H a=some (.lst vs))(r:Rps K H ds vs G)(hz:ds.length<=sizeLine):Rp K H (.lst ds) (.ref a) (a::G):=by
 simp only[Rp]
 exact⟨hz,a,vs,rfl,.inl ⟨G,rfl,h,r⟩⟩
theorem Rp.QmL{K:PySem.W.Frag}{H:Hp}{ds:List D}{a:Addr}{vs:List V}{G:List Addr}(h:H a=some (.tup vs))(r:Rps K H ds vs G):Rp K H (.tup ds) (.ref a) G:=by
 simp only[Rp]
 exact⟨a,vs,rfl,SqT.of h,r⟩
theorem Rp.int_inv{K:PySem.W.Frag}{H:Hp}{i:Int}{v:V}{F:List Addr}(h:Rp K H (.int i) v F):v= .int i:=by simp only[Rp]at h;exact h.1
theorem Rp.QeB{K:PySem.W.Frag}{H:Hp}{i:Bool}{v:V}{F:List Addr}(h:Rp K H (.bl i) v F):v= .bl i:=by simp only[Rp]at h;exact h.1
theorem Rp.Qfy{K:PySem.W.Frag}{H:Hp}{v:V}{F:List Addr}(h:Rp K H .non v F):v= .non:=by simp only[Rp]at h;exact h.1
theorem Rp.str_inv{K:PySem.W.Frag}{H:Hp}{i:Str}{v:V}{F:List Addr}(h:Rp K H (.str i) v F):v= .str i:=by simp only[Rp]at h;exact h.1
theorem Rp.int_mk{K:PySem.W.Frag}{H:Hp}{i:Int}:Rp K H (.int i) (.int i) []:=by simp[Rp]
theorem Rp.QcI{K:PySem.W.Frag}{H:Hp}{i:Bool}:Rp K H (.bl i) (.bl i) []:=by simp[Rp]
theorem Rp.QgO{K:PySem.W.Frag}{H:Hp}:Rp K H .non .non []:=by simp[Rp]
theorem Rp.str_mk{K:PySem.W.Frag}{H:Hp}{i:Str}:Rp K H (.str i) (.str i) []:=by simp[Rp]
theorem Qbc(h:H p=none):QD H (L2.upd H p o):=λb u e=>by rw[QF (QbC e h)];exact e
end
end HS
namespace HS
open PySem PySem.Spec L2
noncomputable abbrev En:=List (Option (D×Bool))
structure R where
 d:D
 fr:Bool
 M:List Nat
structure RA where
 ds:List D
 fr:Bool
 M:List Nat
noncomputable abbrev DE:=En->Option R
noncomputable abbrev DA:=En->Option RA
noncomputable abbrev DT:=En->Option Bool
structure Rel (K:PySem.W.Frag) (H0:Hp) (A0:List Addr) (hs:List (V×D×List Addr)) (ρ:En) (F:Nat->List Addr) (σ:St) (H:Hp):Prop where
 len:ρ.length=σ.length
 val:∀(i:Nat) d b,ρ[i]? =some (some (d,b))->∃v,σ[i]? =some (some v)/\Rp K H d v (F i)
 own:∀(i:Nat) d,ρ[i]? =some (some (d,true))->(F i).length=d.nl/\(F i).Nodup/\(∀a∈F i,H0 a=none)/\(∀(j:Nat) d' b',j≠i->ρ[j]? =some (some (d',b'))->∀a∈F i,a∉F j)/\∀t∈hs,∀a∈F i,a∉t.2.2
 src:∀(i:Nat) d b,ρ[i]? =some (some (d,b))->∀a∈F i,H0 a=none∨a∈A0
 held:∀t∈hs,Rp K H t.2.1 t.1 t.2.2/\∀a∈t.2.2,H0 a=none∨a∈A0
 same:QD H0 H
def Src(ρ:En)(F:Nat->List Addr)(H:Hp)(M:List Nat)(G:List Addr):Prop:=
 ∀a∈G,H a=none∨∃(i:Nat) (d:D) (b:Bool),ρ[i]? =some (some (d,b))/\a∈F i/\(b=true->i∈M)
noncomputable def nw(H:Hp)(a:Addr):Nat:=match H a with | none=>1 | some _=>0
def Cnt(F:Nat->List Addr)(H:Hp)(M:List Nat)(G:List Addr):Prop:=
 ∀a,G.count a<=nw H a+((M.map F).flatten).count a
def Qbg(ρ:En)(M:List Nat):Prop:=∀i∈M,∃d,ρ[i]? =some (some (d,true))
structure Q6 (K:PySem.W.Frag) (ρ:En) (F:Nat->List Addr) (H H':Hp) (r:R) (v:V) (G:List Addr):Prop where
 same:QD H H'
 rp:Rp K H' r.d v G
 src:Src ρ F H r.M G
 cnt:r.fr=true->Cnt F H r.M G/\G.length=r.d.nl
 own:Qbg ρ r.M
structure Qop (K:PySem.W.Frag) (ρ:En) (F:Nat->List Addr) (H H':Hp) (r:RA) (vs:List V) (G:List Addr):Prop where
 same:QD H H'
 rp:Rps K H' r.ds vs G
 src:Src ρ F H r.M G
 cnt:r.fr=true->Cnt F H r.M G/\G.length=nls r.ds
 own:Qbg ρ r.M
noncomputable def tV(K:PySem.W.Frag)(H0:Hp)(A0:List Addr)(f:DE):TE:=λσ H Q=>∃ρ hs F r,Rel K H0 A0 hs ρ F σ H/\f ρ=some r/\∀v H' G,Q6 K ρ F H H' r v G->Q v H'
noncomputable def tVA(K:PySem.W.Frag)(H0:Hp)(A0:List Addr)(f:DA):TA:=λσ H Q=>∃ρ hs F r,Rel K H0 A0 hs ρ F σ H/\f ρ=some r/\∀v H' G,Qop K ρ F H H' r v G->Q v H'
noncomputable def tVT(K:PySem.W.Frag)(H0:Hp)(A0:List Addr)(f:DT):TT:=λσ H Q=>∃ρ hs F b,Rel K H0 A0 hs ρ F σ H/\f ρ=some b/\∀H',QD H H'->Q b H'
def SE(X:Cx)(e:Expr)(f:DE):Prop:=∀H0 A0,PE X e (tV X.K H0 A0 f)
def SA(X:Cx)(es:List Expr)(f:DA):Prop:=∀H0 A0,PA X es (tVA X.K H0 A0 f)
def ST(X:Cx)(e:Expr)(f:DT):Prop:=∀H0 A0,PT X e (tVT X.K H0 A0 f)
theorem _root_.L2.PE.mono(h:PE X e t)(m:∀σ H Q,t' σ H Q->t σ H Q):PE X e t':=λpins s σ H Q I q=>h pins s σ H Q I (m σ H Q q)
theorem _root_.L2.PT.mono(h:PT X e t)(m:∀σ H Q,t' σ H Q->t σ H Q):PT X e t':=λpins s σ H Q I q=>h pins s σ H Q I (m σ H Q q)
theorem _root_.L2.PA.mono(h:PA X e t)(m:∀σ H Q,t' σ H Q->t σ H Q):PA X e t':=λpos pins s σ H Q I q=>h pos pins s σ H Q I (m σ H Q q)
section
theorem Rel.ext(r:Rel K H0 A0 hs ρ F σ H)(s:QD H H'):Rel K H0 A0 hs ρ F σ H' where
 len:=r.len
 val:=λi d b e=>let ⟨v,h1,h2⟩:=r.val i d b e;⟨v,h1,h2.same s⟩
 own:=r.own
 src:=r.src
 held:=λt ht=>⟨(r.held t ht).1.same s,(r.held t ht).2⟩
 same:=r.same.trans s
theorem Rel.mem(r:Rel K H0 A0 hs ρ F σ H)(e:ρ[i]? =some (some (d,b)))(h:a∈F i):∃u,H a=some u:=
 let ⟨_,_,h2⟩:=r.val i d b e;h2.mem a h
theorem Qdk(h:H a=some o):nw H a=0:=by simp[nw,h]
theorem QaS(h:H a=none):nw H a=1:=by simp[nw,h]
theorem Rel.fl0(r:Rel K H0 A0 hs ρ F σ H)(ow:Qbg ρ M)(h:H a=none):((M.map F).flatten).count a=0:=by
 rw[ZQ]
 intro hm
 obtain⟨l,hl,ha⟩:=Zbc.mp hm
 obtain⟨i,hi,rfl⟩:=ZK.mp hl
 obtain⟨d,e⟩:=ow i hi
 obtain⟨vs,q⟩:=r.mem e ha
 rw[h]at q;cases q
theorem Cnt.append(r:Rel K H0 A0 hs ρ F σ H)(c1:Cnt F H M1 G1)(c2:Cnt F H1 M2 G2)(s:QD H H1)(m1:∀a∈G1,∃u,H1 a=some u):Cnt F H (M1++M2) (G1++G2):=λa=>by
 rw[Zad,ZF,List.flatten_append,Zad]
 have h1:=c1 a
 have h2:=c2 a
 cases q:H1 a with
 | some o=>rw[Qdk q]at h2;omega
 | none=>
  rw[QaS q]at h2
  have h3:H a=none:=s.free q
  rw[QaS h3]at h1 ⊢
  have h4:G1.count a=0:=ZQ.mpr λhm=>by obtain⟨vs,z⟩:=m1 a hm;rw[q]at z;cases z
  omega
theorem Src.append(c1:Src ρ F H M1 G1)(c2:Src ρ F H1 M2 G2)(s:QD H H1):Src ρ F H (M1++M2) (G1++G2):=λa ha=>by
 rcases Zo.mp ha with h | h
 ·rcases c1 a h with z | ⟨i,d,b,e,m,w⟩
  ·exact .inl z
  ·exact .inr ⟨i,d,b,e,m,λhb=>Zd _ (w hb)⟩
 ·rcases c2 a h with z | ⟨i,d,b,e,m,w⟩
  ·exact .inl (s.free z)
  ·exact .inr ⟨i,d,b,e,m,λhb=>Ze _ (w hb)⟩
theorem Qbg.append(h1:Qbg ρ M1)(h2:Qbg ρ M2):Qbg ρ (M1++M2):=λi hi=>(Zo.mp hi).elim (h1 i) (h2 i)
theorem Qbg.nil:Qbg ρ []:=λi hi=>by simp at hi
theorem Src.nil:Src ρ F H M []:=λa ha=>by simp at ha
theorem Cnt.nil:Cnt F H M []:=λa=>by simp
theorem Q6.flat(s:QD H H')(r:Rp K H' d v [])(hf:d.flat=true:=by rfl):Q6 K ρ F H H' ⟨d,true,[]⟩ v []:=⟨s,r,Src.nil,λ_=>⟨Cnt.nil,(Qdm d hf).symm⟩,Qbg.nil⟩
theorem Q6.sub(p:Q6 K ρ F H H1 r v G)(rp:Rp K H1 d u G')(hs:∀a,G'.count a<=G.count a)(hn:G.length=r.d.nl->G'.length=d.nl):Q6 K ρ F H H1 ⟨d,r.fr,r.M⟩ u G' where
 same:=p.same
 rp:=rp
 src:=λa ha=>p.src a (by
  have:=hs a
  have h1:0<G'.count a:=Zas.mpr ha
  exact Zas.mp (by omega))
 cnt:=λh=>⟨λa=>ZD (hs a) ((p.cnt h).1 a),hn (p.cnt h).2⟩
 own:=p.own
noncomputable def R.norm(r:R):R:=if r.d.flat then⟨r.d,true,[]⟩else r
theorem R.Qc6(r:R):r.norm.d=r.d:=by unfold R.norm;split<;>rfl
theorem Q6.norm(p:Q6 K ρ F H H' r v G):Q6 K ρ F H H' r.norm v G:=by
 unfold R.norm
 split
 ·rename_i h
  have:=p.rp.QbF h
  subst this
  exact .flat p.same p.rp h
 ·exact p
end
noncomputable def Qa(i:Nat):DE:=λρ=>match ρ[i]? with
 | some (some (d,b))=>if d.flat then some ⟨d,true,[]⟩else if b then some ⟨d,true,[i]⟩else some ⟨d,false,[]⟩
 | _=>none
noncomputable def dC(d:D):DE:=λ_=>some ⟨d,true,[]⟩
section
theorem Qms(h:PE X (.Name x pos) (Qgr i)):SE X (.Name x pos) (Qa i):=λH0 A0=>h.mono λσ H Q=>exK λρ hs F r rel e q=>by
 unfold Qa at e
 split at e
 ·rename_i d b q1
  obtain⟨v,h1,h2⟩:=rel.val i d b q1
  refine⟨v,h1,q v H (F i) ?_⟩
  split at e
  ·rename_i hf
   cases e
   have:=h2.QbF hf
   rw[this]at h2 ⊢
   exact .flat (QD.refl _) h2 hf
  ·split at e
   ·rename_i hb
    cases e
    subst hb
    exact⟨QD.refl _,h2,λa ha=> .inr ⟨i,d,true,q1,ha,λ_=>by simp⟩,λ_=>⟨λa=>(by simp),(rel.own i d q1).1⟩,λj hj=>by simp at hj;subst hj;exact⟨d,q1⟩⟩
   ·rename_i hb
    cases e
    simp at hb
    subst hb
    exact⟨QD.refl _,h2,λa ha=> .inr ⟨i,d,false,q1,ha,λz=>by cases z⟩,λz=>(by cases z),Qbg.nil⟩
 ·cases e
theorem QjB(h:PE X e (tC v))(r:∀K H,Rp K H d v [])(hf:d.flat=true):SE X e (dC d):=λH0 A0=>h.mono λσ H Q=>exK λρ hs F r' rel e q=>by
 cases e
 exact q v H [] (.flat (QD.refl _) (r _ _) hf)
theorem two{K:PySem.W.Frag}{H0:Hp}{A0:List Addr}{fa fb:DE}{σ:St}{H:Hp}{hs:List (V×D×List Addr)}{ρ:En}{F:Nat->List Addr}{ra rb:R}{Rr:V->V->Hp->Prop}(rel:Rel K H0 A0 hs ρ F σ H)(ea:fa ρ=some ra)(eb:fb ρ=some rb)
  (k:∀x y H1 H2 G1 G2,Q6 K ρ F H H1 ra x G1->Q6 K ρ F H1 H2 rb y G2->Rr x y H2):tV K H0 A0 fa σ H λx H1=>tV K H0 A0 fb σ H1 λy H2=>Rr x y H2:=
 ⟨ρ,hs,F,ra,rel,ea,λx H1 G1 p1=>⟨ρ,hs,F,rb,rel.ext p1.same,eb,λy H2 G2 p2=>k x y H1 H2 G1 G2 p1 p2⟩⟩
noncomputable def dOp(g:D->D->Option D)(fa fb:DE):DE:=λρ=>(fa ρ).bind λra=>(fb ρ).bind λrb=>(g ra.d rb.d).map λd=>⟨d,true,[]⟩
theorem Qj8(e:dOp g fa fb ρ=some r):∃ra rb d,fa ρ=some ra/\fb ρ=some rb/\g ra.d rb.d=some d/\r=⟨d,true,[]⟩:=by
 unfold dOp at e
 cases h1:fa ρ with
 | none=>rw[h1]at e;cases e
 | some ra=>
  cases h2:fb ρ with
  | none=>rw[h1,h2]at e;cases e
  | some rb=>
   rw[h1,h2]at e
   cases h3:g ra.d rb.d with
   | none=>simp[h3]at e
   | some d=>simp[h3]at e;exact⟨ra,rb,d,rfl,rfl,h3,e.symm⟩
def Qcs(K:PySem.W.Frag)(g:D->D->Option D)(r:R2):Prop:=∀a b d,g a b=some d->d.flat=true/\∀H x y F G (Q:VK),Rp K H a x F->Rp K H b y G->(∀v,(∀H',Rp K H' d v [])->Q v H)->r x y H Q
theorem Qk8(ho:OpR X (binaryOp op) r)(hg:Qcs X.K g r)(ha:SE X a fa)(hb:SE X b fb):SE X (.BinOp a op b pos) (dOp g fa fb):=λH0 A0=>
 (QoB ho (ha H0 A0) (hb H0 A0)).mono λσ H Q=>exK λρ hs F r' rel e q=>by
  obtain⟨ra,rb,d,ea,eb,eg,rfl⟩:=Qj8 e
  refine two rel ea eb λx y H1 H2 G1 G2 p1 p2=>(hg _ _ _ eg).2 H2 x y G1 G2 Q (p1.rp.same p2.same) p2.rp λv hv=>?_
  exact q v H2 [] (.flat (p1.same.trans p2.same) (hv H2) (hg _ _ _ eg).1)
theorem Qxc(ho:OpR X (compareOp op) r)(hg:Qcs X.K g r)(ha:SE X a fa)(hb:SE X b fb)(hm:behindInMarks op b=false):SE X (.Compare a [op] [b] pos) (dOp g fa fb):=λH0 A0=>
 (QtL ho (ha H0 A0) (hb H0 A0) hm).mono λσ H Q=>exK λρ hs F r' rel e q=>by
  obtain⟨ra,rb,d,ea,eb,eg,rfl⟩:=Qj8 e
  refine two rel ea eb λx y H1 H2 G1 G2 p1 p2=>(hg _ _ _ eg).2 H2 x y G1 G2 Q (p1.rp.same p2.same) p2.rp λv hv=>?_
  exact q v H2 [] (.flat (p1.same.trans p2.same) (hv H2) (hg _ _ _ eg).1)
end
noncomputable def QfY(i j:Int):Int:=if 0<=j then i / j else i.fdiv j
noncomputable def Qg9(i j:Int):Int:=if 0<=j then i % j else i.fmod j
theorem Qvz(i j:Int):QfY i j=i.fdiv j:=by
 unfold QfY;split
 ·rw[Int.fdiv_eq_ediv_of_nonneg _ (by assumption)]
 ·rfl
theorem Qu1(i j:Int):Qg9 i j=i.fmod j:=by
 unfold Qg9;split
 ·rw[Int.fmod_eq_emod_of_nonneg _ (by assumption)]
 ·rfl
noncomputable def Qeq(i j:Int):Bool:=decide (i.natAbs<2^64) || decide (j.natAbs<2^64) || (decide (Builtin.Int.intBits i<=2^20) && decide (Builtin.Int.intBits j<=2^20))
noncomputable def QdU(j:Int):Bool:=decide (j≠0) && decide (j.natAbs<2^8000)
noncomputable def gI(f:Int->Int->Option D)(a b:D):Option D:=match a,b with
 | .int i,.int j=>f i j
 | _,_=>none
noncomputable def QdN:=gI λi j=>some (.int (i-j))
noncomputable def Qdh:=gI λi j=>if QdU j then some (.int (QfY i j))else none
noncomputable def Q4:=gI λi j=>if j≠0 then some (.int (Qg9 i j))else none
noncomputable def Qol:=gI λi j=>if 0<=j/\j<=1000/\i.natAbs<2^200 then some (.int (i^j.toNat))else none
noncomputable def Qrg:=gI λi j=>if 0<=j then some (.int (i / 2^j.toNat))else none
noncomputable def gLt:=gI λi j=>some (.bl (decide (i<j)))
noncomputable def gLe:=gI λi j=>some (.bl (decide (i<=j)))
noncomputable def gGt:=gI λi j=>some (.bl (decide (j<i)))
noncomputable def gGe:=gI λi j=>some (.bl (decide (j<=i)))
theorem Qrd(h:gI f a b=some d):∃i j,a= .int i/\b= .int j/\f i j=some d:=by
 unfold gI at h
 split at h
 ·exact⟨_,_,rfl,rfl,h⟩
 ·cases h
section
theorem QfX(hf:∀i j d,f i j=some d->d.flat=true)(h:∀i j d,f i j=some d->∀H (Q:VK),(∀v,(∀H',Rp K H' d v [])->Q v H)->r (.int i) (.int j) H Q):Qcs K (gI f) r:=λa b d e=>by
 obtain⟨i,j,rfl,rfl,ef⟩:=Qrd e
 refine⟨hf i j d ef,λH x y F G Q ha hb q=>?_⟩
 rw[ha.int_inv,hb.int_inv]
 exact h i j d ef H Q q
theorem Qq7:Qcs K QdN (rI0 λi j=> .int (i-j)):=QfX (λi j d e=>by cases e;rfl) λi j d e H Q q=>by cases e;exact⟨i,j,rfl,rfl,q _ λ_=> .int_mk⟩
theorem Qsa(h:Qeq i j=true):IntMulOk i j:=by
 have small:∀k:Int,k.natAbs<2^64->Builtin.Int.intBits k<=64:=λk hk=>by
  unfold Builtin.Int.intBits
  split
  ·omega
  ·rename_i h0;have h0':k.natAbs≠0:=λz=>by simp_all
   have:=(Nat.log2_lt h0').mpr hk;omega
 unfold Qeq at h
 simp only[Bool.or_eq_true,Zg,decide_eq_true_eq]at h
 rcases h with(h | h) | ⟨h1,h2⟩
 ·exact .of_left (small i h)
 ·exact .of_right (small j h)
 ·exact .of_bits h1 h2
theorem QuK:OpR X (binaryOp .Mult) (rI (λi j=>Qeq i j=true) λi j=> .int (i*j)):=opI λ_ _ _ _ _ _ _ hc q=>PyProof.Rows.mul_int q (Qsa hc)
theorem QtV:OpR X (binaryOp .FloorDiv) (rI (λi j=>QdU j=true) λi j=> .int (QfY i j)):=opI λi j _ _ _ _ _ hc q=>by
 unfold QdU at hc
 simp only[Zg,decide_eq_true_eq]at hc
 rw[Qvz]at q
 refine PyProof.Rows.floordiv_int hc.1 q (.inl (PyProof.noPylong_of_log2 ?_))
 have h0:j.natAbs≠0:=by omega
 exact Nat.lt_trans ((Nat.log2_lt h0).mpr hc.2) (by decide)
theorem Qul:OpR X (binaryOp .Mod) (rI (λi j=>j≠0) λi j=> .int (Qg9 i j)):=opI λi j _ _ _ _ _ hc q=>by
 rw[Qu1]at q
 exact PyProof.Rows.mod_int' hc q
theorem QxB:Qcs K Qdh (rI (λi j=>QdU j=true) λi j=> .int (QfY i j)):=QfX (λi j d e=>by split at e<;>cases e;rfl) λi j d e H Q q=>by
 split at e
 ·cases e;exact⟨i,j,rfl,rfl,by assumption,q _ λ_=> .int_mk⟩
 ·cases e
theorem QxE:Qcs K Q4 (rI (λi j=>j≠0) λi j=> .int (Qg9 i j)):=QfX (λi j d e=>by split at e<;>cases e;rfl) λi j d e H Q q=>by
 split at e
 ·cases e;exact⟨i,j,rfl,rfl,by assumption,q _ λ_=> .int_mk⟩
 ·cases e
theorem Qvm:OpR X (binaryOp .Pow) (rI (λi j=>0<=j/\j<=1000/\i.natAbs<2^200) λi j=> .int (i^j.toNat)):=opI λi j _ _ _ _ _ hc q=>by
 refine PyProof.Rows.pow_int hc.1 ?_ q
 have hb:Builtin.Int.intBits i<=200:=by
  unfold Builtin.Int.intBits
  split
  ·omega
  ·rename_i h0;have h0':i.natAbs≠0:=λz=>by simp_all
   have:=(Nat.log2_lt h0').mpr hc.2.2;omega
 have h1:((Builtin.Int.intBits i:Nat):Int)*j<=200*1000:=ZaO (by omega) hc.2.1 hc.1 (by decide)
 omega
theorem Qxt:Qcs K Qol (rI (λi j=>0<=j/\j<=1000/\i.natAbs<2^200) λi j=> .int (i^j.toNat)):=QfX (λi j d e=>by split at e<;>cases e;rfl) λi j d e H Q q=>by
 split at e
 ·rename_i h;cases e;exact⟨i,j,rfl,rfl,h,q _ λ_=> .int_mk⟩
 ·cases e
theorem QxX:Qcs K gLt (rI0 λi j=> .bl (decide (i<j))):=QfX (λi j d e=>by cases e;rfl) λi j d e H Q q=>by cases e;exact⟨i,j,rfl,rfl,q _ λ_=> .QcI⟩
theorem Qx6:Qcs K gLe (rI0 λi j=> .bl (decide (i<=j))):=QfX (λi j d e=>by cases e;rfl) λi j d e H Q q=>by cases e;exact⟨i,j,rfl,rfl,q _ λ_=> .QcI⟩
theorem QyI:Qcs K gGt (rI0 λi j=> .bl (decide (j<i))):=QfX (λi j d e=>by cases e;rfl) λi j d e H Q q=>by cases e;exact⟨i,j,rfl,rfl,q _ λ_=> .QcI⟩
theorem Qyg:Qcs K gGe (rI0 λi j=> .bl (decide (j<=i))):=QfX (λi j d e=>by cases e;rfl) λi j d e H Q q=>by cases e;exact⟨i,j,rfl,rfl,q _ λ_=> .QcI⟩
end
theorem Qcz:∀(xs ys:List D),Qab (xs++ys)=(Qab xs && Qab ys)
 | [],ys=>by simp[Qab]
 | x::xs,ys=>by simp[Qab,Qcz xs ys,Bool.and_assoc]
noncomputable def QaE(ds:List D)(M:List Nat):R:=if Qab ds then⟨.lst ds,true,[]⟩else⟨.lst ds,false,M⟩
section
variable {K:PySem.W.Frag}{H0 H H':Hp}{A0:List Addr}{hs:List (V×D×List Addr)}{ρ:En}{F:Nat->List Addr}{σ:L2.St}
theorem Q6.QaE(s:QD H H1)(hp:H1 p=none)(r:Rps K H1 ds vs G)(hz:ds.length<=sizeLine)(src:Src ρ F H M G)(ow:Qbg ρ M):
  Q6 K ρ F H (upd H1 p (.lst vs)) (QaE ds M) (.ref p) (p::G):=by
 have s2:QD H1 (upd H1 p (.lst vs)):=Qbc hp
 have rp:Rp K (upd H1 p (.lst vs)) (.lst ds) (.ref p) (p::G):=Rp.QfP Qao (r.same s2) hz
 have hH:H p=none:=s.free hp
 unfold HS.QaE
 split
 ·rename_i hf
  have:=r.QbF hf
  subst this
  refine⟨s.trans s2,rp,λa ha=>?_,λ_=>⟨λa=>?_,by simp only[D.nl,Qh6 ds hf];rfl⟩,Qbg.nil⟩
  ·have:a=p:=by simpa using ha
   subst this;exact .inl hH
  ·rw[List.count_singleton]
   split
   ·rename_i e;have e':p=a:=by simpa using e
    subst e';rw[QaS hH];omega
   ·omega
 ·refine⟨s.trans s2,rp,λa ha=>?_,λz=>(by cases z),ow⟩
  rcases Zl.mp ha with rfl | h
  ·exact .inl hH
  ·exact src a h
end
noncomputable def QC(fa fb:DE):DE:=λρ=>(fa ρ).bind λra=>(fb ρ).bind λrb=>match ra.d,rb.d with
 | .int i,.int j=>some ⟨.int (i+j),true,[]⟩
 | .lst xs,.lst ys=>if xs.length+ys.length<=sizeLine then some (QaE (xs++ys) (ra.M++rb.M))else none
 | _,_=>none
noncomputable def QaD(fa fb:DE):DE:=λρ=>(fa ρ).bind λra=>(fb ρ).bind λrb=>match ra.d,rb.d with
 | .int i,.int j=>if Qeq i j then some ⟨.int (i*j),true,[]⟩else none
 | .lst xs,.int j=>if xs.length*j.toNat<=sizeLine/\ -(2^63)<=j/\j<2^63/\Qab xs=true then some ⟨.lst (List.replicate j.toNat xs).flatten,true,[]⟩else none
 | _,_=>none
theorem Qot{fa fb:DE}{ρ:En}{k:R->R->Option R}{r:R}(e:((fa ρ).bind λra=>(fb ρ).bind λrb=>k ra rb)=some r):∃ra rb,fa ρ=some ra/\fb ρ=some rb/\k ra rb=some r:=by
 cases h1:fa ρ with
 | none=>rw[h1]at e;cases e
 | some ra=>
  cases h2:fb ρ with
  | none=>rw[h1,h2]at e;cases e
  | some rb=>rw[h1,h2]at e;exact⟨ra,rb,rfl,rfl,e⟩
theorem bind1{α β:Type}{x:Option α}{k:α->Option β}{r:β}(e:x.bind k=some r):∃a,x=some a/\k a=some r:=by
 cases x with
 | none=>cases e
 | some a=>exact⟨a,rfl,e⟩
section
noncomputable def Qyi(K:PySem.W.Frag):R2:=λx y H Q=>∃l c xs zs,x= .ref l/\y= .ref c/\(H l=some (.lst xs)∨Fix K H l xs)/\(H c=some (.lst zs)∨Fix K H c zs)/\xs.length+zs.length<=sizeLine/\∀p,H p=none->Q (.ref p) (upd H p (.lst (xs++zs)))
theorem mapR{α γ:Type}{x:Option α}{f:α->γ}{r:γ}{M:γ->Prop}(e:x.map f=some r)(g:∀a,x=some a->M (f a)):M r:=by
 obtain⟨a,h,rfl⟩:=Zc.mp e
 exact g a h
theorem Qf{α β:Type}{x:Option α}{k:α->Option β}{r:β}{G:Prop}(e:x.bind k=some r)(g:∀a,x=some a->k a=some r->G):G:=let ⟨a,h1,h2⟩:=bind1 e;g a h1 h2
theorem QvJ:OpR X (binaryOp .Add) (Qyi X.K):=by
 intro pins s σ H x y v u Q I rx ry h
 obtain⟨l,c,xs,zs,rfl,rfl,hH,hB,hz,q⟩:=h
 cases rx
 cases ry
 obtain⟨z,its,n,r,hl,e⟩:=I.Ql0 hH
 obtain⟨z2,its2,n2,r2,hl2,e2⟩:=I.Ql0 hB
 refine PySem.P.add_list e e2 ?_ (by rw[Zx,Zx];omega)
 have ea:its.toArray++its2.toArray=(its++its2).toArray:=by simp
 rw[ea]
 exact⟨.ref _,_,I.Qxw (t':=s.toks) (r.append r2) (by rw[Zp];omega),rfl,q _ I.fresh⟩
theorem Qv8(ha:SE X a fa)(hb:SE X b fb):SE X (.BinOp a .Add b pos) (QC fa fb):=λH0 A0=>
 (QoB (QxA.or QvJ) (ha H0 A0) (hb H0 A0)).mono λσ H Q=>exK λρ hs F r' rel e q=>by
  obtain⟨ra,rb,ea,eb,ek⟩:=Qot e
  refine two rel ea eb λx y H1 H2 G1 G2 p1 p2=>?_
  have p1':=p1.rp.same p2.same
  have p2':=p2.rp
  have c1:=p1.src.append p2.src p1.same
  have o1:=p1.own.append p2.own
  revert ek
  revert p1' p2'
  cases ra.d<;>cases rb.d<;>intro p1' p2' ek<;>first | (cases ek;done) | skip
  ·cases ek
   rw[p1'.int_inv,p2'.int_inv]
   exact .inl ⟨_,_,rfl,rfl,q _ H2 [] (.flat (p1.same.trans p2.same) .int_mk)⟩
  ·rename_i xs ys
   dsimp only at ek
   split at ek
   ·rename_i hz
    cases ek
    obtain⟨l,vs,L1,rfl,hl,rl,zl,el⟩:=p1'.lst_inv
    obtain⟨c,ws,L2',rfl,hc,rc,zc,ec⟩:=p2'.lst_inv
    have n1:=rl.length
    have n2:=rc.length
    refine .inr ⟨l,c,vs,ws,rfl,rfl,hl,hc,by omega,λp hp=>?_⟩
    refine q _ _ (p::(L1++L2')) (Q6.QaE (p1.same.trans p2.same) hp (rl.append rc) (by rw[Zp];exact hz) (λa ha=>c1 a ?_) o1)
    rcases Zo.mp ha with h | h
    ·refine Zd _ ?_
     rcases el with rfl | rfl
     ·exact Zb _ h
     ·exact h
    ·refine Ze _ ?_
     rcases ec with rfl | rfl
     ·exact Zb _ h
     ·exact h
   ·cases ek
noncomputable def Qya(K:PySem.W.Frag):R2:=λx y H Q=>∃l k xs,x= .ref l/\y= .int k/\(H l=some (.lst xs)∨Fix K H l xs)/\ -(2^63)<=k/\k<2^63/\xs.length*k.toNat<=sizeLine∧
 ∀p,H p=none->Q (.ref p) (upd H p (.lst (List.replicate k.toNat xs).flatten))
theorem Qvc:OpR X (binaryOp .Mult) (Qya X.K):=by
 intro pins s σ H x y v u Q I rx ry h
 obtain⟨l,k,xs,rfl,rfl,hH,h1,h2,hz,q⟩:=h
 cases rx
 obtain⟨t,rfl⟩:=ry
 obtain⟨z,its,n,r,hl,e⟩:=I.Ql0 hH
 have hlen:its.toArray.size*k.toNat<=sizeLine:=by rw[Zx,← hl];exact hz
 have hcap:¬its.toArray.size*k.toNat>(2^63-1) / 8:=by
  have:(sizeLine:Nat)<=(2^63-1) / 8:=by decide
  omega
 have hfit:¬(!Builtin.List.listFitsIndex k)=true:=by
  rw[fitsIndex_both h1 h2]
  exact ZJ
 have hlong:¬Builtin.List.listTooLong (its.toArray.size*k.toNat)=true:=by
  rw[QrF hlen]
  exact ZJ
 have hnew:List.foldl (λx1 x2=>x1++x2) #[] (List.replicate (if its.toArray.isEmpty=true then 0 else k.toNat) its.toArray)=(List.replicate k.toNat its).flatten.toArray:=by
  have f0:∀m:Nat,List.foldl (λx1 x2=>x1++x2) #[] (List.replicate m its.toArray)=(List.replicate m its).flatten.toArray:=λm=>by
   have:=foldl_rep its m []
   rw[Zbi]at this
   exact this
  rw[f0]
  cases its with
  | nil=>simp
  | cons a r'=>rw[if_neg (by simp)]
 open PyProof.Rows in
 refine wpAny_binaryOp_repeat_ref (by decide) ⟨_,e,rfl⟩ (λs'=>typeIs_int s' k t) noFill_list_mul F.fills_int_mul F.slot_int_rmul repeat_list F.slot_int_index.lookup
  (call_meets F.slot_int_rmul (typeIs_int s k t) F.entry_int_rmul (F.args_int_rmul_2 _ _) (int___rmul___int_list k t l its.toArray n)
   ⟨e,rfl,⟨_,e,rfl⟩,call_meets F.slot_list_mul ⟨_,e,rfl⟩ F.entry_list_mul (F.args_list_mul_2 _ _) (AutoListH.list___mul___list_int_3 l its.toArray n k t hfit hcap hlong) ⟨e,?_⟩⟩)
 rw[hnew]
 exact⟨.ref _,_,I.Qxw (t':=s.toks) (r.rep k.toNat) (by rw[len_rep,Nat.mul_comm];exact hz),rfl,q _ I.fresh⟩
theorem Qkx(h:Qab xs=true):∀n:Nat,Qab (List.replicate n xs).flatten=true
 | 0=>by simp[Qab]
 | n+1=>by rw[Zah,Zao,Qcz,h,Qkx h n];rfl
theorem Rps.rep(h:Rps K H ds vs []):∀n:Nat,Rps K H (List.replicate n ds).flatten (List.replicate n vs).flatten []
 | 0=>by simp[Rps]
 | n+1=>by rw[Zah,Zao,Zah,Zao];exact h.append (Rps.rep h n)
theorem Qxe(ha:SE X a fa)(hb:SE X b fb):SE X (.BinOp a .Mult b pos) (QaD fa fb):=λH0 A0=>
 (QoB (QuK.or Qvc) (ha H0 A0) (hb H0 A0)).mono λσ H Q=>exK λρ hs F r' rel e q=>by
  obtain⟨ra,rb,ea,eb,ek⟩:=Qot e
  refine two rel ea eb λx y H1 H2 G1 G2 p1 p2=>?_
  have p1':=p1.rp.same p2.same
  have p2':=p2.rp
  revert ek
  revert p1' p2'
  cases ra.d<;>cases rb.d<;>intro p1' p2' ek<;>first | (cases ek;done) | skip
  ·dsimp only at ek
   split at ek
   ·rename_i hm
    cases ek
    rw[p1'.int_inv,p2'.int_inv]
    exact .inl ⟨_,_,rfl,rfl,hm,q _ H2 [] (.flat (p1.same.trans p2.same) .int_mk)⟩
   ·cases ek
  ·rename_i xs j
   dsimp only at ek
   split at ek
   ·rename_i hz
    cases ek
    obtain⟨hz1,hz2,hz3,hf⟩:=hz
    obtain⟨l,vs,L1,rfl,hl,rl,zl,el⟩:=p1'.lst_inv
    have n1:=rl.length
    have e0:=rl.QbF hf
    subst e0
    rw[p2'.int_inv]
    refine .inr ⟨l,j,vs,rfl,rfl,hl,hz2,hz3,by rw[← n1];exact hz1,λp hp=>?_⟩
    have w:HS.QaE (List.replicate j.toNat xs).flatten []=⟨.lst (List.replicate j.toNat xs).flatten,true,[]⟩:=by
     unfold HS.QaE;rw[if_pos (Qkx hf _)]
    rw[← w]at q
    exact q _ _ (p::[]) (Q6.QaE (p1.same.trans p2.same) hp (rl.rep _) (by rw[len_rep,Nat.mul_comm];exact hz1) Src.nil Qbg.nil)
   ·cases ek
end
end HS
namespace HS
open PySem PySem.Spec L2
noncomputable def Qe:DA:=λ_=>some ⟨[],true,[]⟩
noncomputable def Qb(fa:DE)(fr:DA):DA:=λρ=>(fa ρ).bind λr=>(fr ρ).bind λrs=>some ⟨r.d::rs.ds,r.fr && rs.fr,r.M++rs.M⟩
noncomputable def QaH(fa:DA):DE:=λρ=>(fa ρ).bind λr=>if r.ds.length<=64 then some ⟨.tup r.ds,r.fr,r.M⟩else none
noncomputable def QT(fa:DA):DE:=λρ=>(fa ρ).bind λr=>if r.ds.length<=64 then some ⟨.lst r.ds,r.fr,r.M⟩else none
section
variable {X:Cx}{a b e:Expr}{es:List Expr}{fa fb:DE}{fs:DA}{pos:Pos}
theorem QmJ:SA X [] Qe:=λH0 A0=>Qea.mono λσ H Q=>exK λρ hs F r' rel e q=>by
 cases e
 exact q [] H [] ⟨QD.refl _,by simp[Rps],Src.nil,λ_=>⟨Cnt.nil,rfl⟩,Qbg.nil⟩
theorem Qhr(ha:SE X e fa)(hr:SA X es fs)(hs:starEach (e::es) X.env=(false,eval e X.env)::starEach es X.env):SA X (e::es) (Qb fa fs):=λH0 A0=>
 (Qbu (ha H0 A0) (hr H0 A0) hs).mono λσ H Q=>exK λρ hs F r' rel e q=>by
  refine Qf e λr e1 e=>?_
  refine Qf e λrs e2 e=>?_
  cases e
  refine⟨ρ,hs,F,r,rel,e1,λx H1 G1 p1=>⟨ρ,hs,F,rs,rel.ext p1.same,e2,λxs H2 G2 p2=>?_⟩⟩
  refine q _ H2 (G1++G2) ⟨p1.same.trans p2.same,?_,p1.src.append p2.src p1.same,λh=>?_,p1.own.append p2.own⟩
  ·simp only[Rps]
   exact⟨x,xs,G1,G2,rfl,rfl,p1.rp.same p2.same,p2.rp⟩
  ·simp only[Zg]at h
   exact⟨(p1.cnt h.1).1.append rel (p2.cnt h.2).1 p1.same p1.rp.mem,by simp only[nls,Zp,(p1.cnt h.1).2,(p2.cnt h.2).2]⟩
theorem Qf7{n:Nat}(h:n<=64):n<=sizeLine:=ZD h (by decide)
theorem QvS{k:Nat}(ha:SA X es fs):SE X (.Tuple es k pos) (QaH fs):=λH0 A0=>
 (Qwa (ha H0 A0)).mono λσ H Q=>exK λρ hs F r' rel e q=>by
  refine Qf e λr e1 e=>?_
  split at e
  ·rename_i hz
   cases e
   refine⟨ρ,hs,F,r,rel,e1,λxs H1 G p=>⟨by rw[← p.rp.length];exact Qf7 hz,λc hc=>q _ _ G ⟨p.same.trans (Qbc hc),Rp.QmL Qao (p.rp.same (Qbc hc)),p.src,λh=>⟨(p.cnt h).1,by simp only[D.nl];exact(p.cnt h).2⟩,p.own⟩⟩⟩
  ·cases e
theorem Qxn(ha:SA X es fs):SE X (.List es pos) (QT fs):=λH0 A0=>
 (Qwq (ha H0 A0)).mono λσ H Q=>exK λρ hs F r' rel e q=>by
  refine Qf e λr e1 e=>?_
  split at e
  ·rename_i hz
   cases e
   refine⟨ρ,hs,F,r,rel,e1,λxs H1 G p=>⟨by rw[← p.rp.length];exact Qf7 hz,λc hc=>?_⟩⟩
   have hH:H c=none:=p.same.free hc
   refine q _ _ (c::G) ⟨p.same.trans (Qbc hc),Rp.QfP Qao (p.rp.same (Qbc hc)) (Qf7 hz),λz hz'=>?_,λh=>⟨λz=>?_,by simp only[D.nl,Zk,(p.cnt h).2]⟩,p.own⟩
   ·rcases Zl.mp hz' with rfl | h
    ·exact .inl hH
    ·exact p.src z h
   ·rw[Zay]
    have:=(p.cnt h).1 z
    split
    ·rename_i e'
     have e':c=z:=by simpa using e'
     subst e'
     have h0:G.count c=0:=ZQ.mpr λhm=>by obtain⟨vs,w⟩:=p.rp.mem c hm;rw[hc]at w;cases w
     rw[QaS hH];omega
    ·exact this
  ·cases e
noncomputable def D.items:D->Option (List D)
 | .lst xs=>some xs
 | .tup xs=>some xs
 | _=>none
noncomputable def Qm(fa fb:DE):DE:=λρ=>(fa ρ).bind λra=>(fb ρ).bind λrb=>match rb.d with
 | .int i=>(ra.d.items).bind λxs=>(atI xs i).map λd=>(R.norm ⟨d,ra.fr,ra.M⟩)
 | _=>none
theorem QuJ{α β:Type}{xs:List α}{i:Int}{d:α}(h:atI xs i=some d):∃j:Nat,xs[j]? =some d/\∀(ys:List β),ys.length=xs.length->∀y,ys[j]? =some y->atI ys i=some y:=by
 unfold atI at h
 cases e:ixN xs.length i with
 | none=>rw[e]at h;cases h
 | some j=>
  rw[e]at h
  refine⟨j,h,λys hl y hy=>?_⟩
  unfold atI
  rw[hl,e]
  exact hy
theorem QwA(ha:SE X a fa)(hb:SE X b fb)(hs:Qhj b):SE X (.Subscript a b pos) (Qm fa fb):=λH0 A0=>
 (Qtq (Qoa.or Qpw) (ha H0 A0) (hb H0 A0) hs).mono λσ H Q=>exK λρ hs F r' rel e q=>by
  obtain⟨ra,rb,ea,eb,ek⟩:=Qot e
  refine two rel ea eb λx y H1 H2 G1 G2 p1 p2=>?_
  have p1':=p1.rp.same p2.same
  have p2':=p2.rp
  have pp:Q6 X.K ρ F H H2 ra x G1:=⟨p1.same.trans p2.same,p1',p1.src,p1.cnt,p1.own⟩
  cases hb':rb.d with
  | int i=>
   rw[hb']at ek p2'
   rw[p2'.int_inv]
   refine Qf ek λxs ex ek=>?_
   obtain⟨d,ed,ek⟩:=Zc.mp ek
   subst ek
   obtain⟨j,hj,hm⟩:=QuJ ed
   have fin:∀(L:List Addr) (vs:List V),Rps X.K H2 xs vs L->(∀z,L.count z<=G1.count z)->(G1.length=ra.d.nl->L.length=nls xs)->∃v,atI vs i=some v/\Q v H2:=λL vs rl hc hn=>by
    obtain⟨v,F1,G,F2,hv,eF,rv,hx⟩:=rl.get hj
    refine⟨v,hm vs rl.length.symm v hv,q v H2 G (Q6.norm (Q6.sub pp rv (λz=>ZD ?_ (hc z)) λz=>hx (hn z)))⟩
    rw[eF,Zad,Zad];omega
   cases hra:ra.d with
   | lst ys=>
    rw[hra]at ex p1'
    cases ex
    obtain⟨l,vs,L,rfl,hl,rl,zl,el⟩:=p1'.lst_inv
    have hn:G1.length=ra.d.nl->L.length=nls xs:=λhz=>by
     have:=rl.Qas
     simp only[hra,D.nl]at hz
     rcases el with rfl | rfl
     ·rw[Zk]at hz;omega
     ·omega
    have hc:∀z,L.count z<=G1.count z:=λz=>by
     rcases el with rfl | rfl
     ·rw[Zay];omega
     ·exact Zn _
    obtain⟨v,h1,h2⟩:=fin L vs rl hc hn
    exact .inl ⟨l,vs,i,v,rfl,rfl,Qak hl,h1,h2⟩
   | tup ys=>
    rw[hra]at ex p1'
    cases ex
    obtain⟨l,vs,rfl,hl,rl⟩:=p1'.Qa0
    obtain⟨v,h1,h2⟩:=fin G1 vs rl (λz=>Zn _) λz=>(by simpa only[hra,D.nl]using z)
    exact .inr ⟨l,vs,i,v,rfl,rfl,hl,h1,h2⟩
   | _=>rw[hra]at ex;cases ex
  | _=>rw[hb']at ek;cases ek
noncomputable abbrev DO:=En->Option (Option Int)
noncomputable def QaJ:DO:=λ_=>some none
noncomputable def Qae(f:DE):DO:=λρ=>(f ρ).bind λr=>match r.d with
 | .int i=>some (some i)
 | _=>none
noncomputable def tVO(K:PySem.W.Frag)(H0:Hp)(A0:List Addr)(f:DO):TO:=λσ H Q=>∃ρ hs F o,Rel K H0 A0 hs ρ F σ H/\f ρ=some o/\∀H',QD H H'->Q o H'
def SO(X:Cx)(e:Option Expr)(f:DO):Prop:=∀H0 A0,PO X e (tVO X.K H0 A0 f)
theorem _root_.L2.PO.mono{X:Cx}{e:Option Expr}{t t':TO}(h:PO X e t)(m:∀σ H Q,t' σ H Q->t σ H Q):PO X e t':=by
 intro pins s σ H Q I q
 exact h pins s σ H Q I (m σ H Q q)
theorem Qve:SO X none QaJ:=λH0 A0=>QuQ.mono λσ H Q=>exK λρ hs F o rel e q=>by
 cases e
 exact q H (QD.refl _)
theorem QuB(h:SE X a fa):SO X (some a) (Qae fa):=λH0 A0=>(Qum (h H0 A0)).mono λσ H Q=>exK λρ hs F o rel e q=>by
 refine Qf e λr e1 e=>?_
 refine⟨ρ,hs,F,r,rel,e1,λv H1 G p=>?_⟩
 have rp:=p.rp
 cases hr:r.d with
 | int i=>
  rw[hr]at e rp
  cases e
  exact⟨i,rp.int_inv,q H1 p.same⟩
 | _=>rw[hr]at e;cases e
noncomputable def cutD(xs:List D)(lo hi:Option Int):List D:=(xs.drop (HT.sIx xs.length 0 lo)).take (HT.sIx xs.length xs.length hi-HT.sIx xs.length 0 lo)
noncomputable def QaO(fa:DE)(lo hi:DO):DE:=λρ=>(fa ρ).bind λra=>(lo ρ).bind λl=>(hi ρ).bind λh=>match ra.d with
 | .lst xs=>some (QaE (cutD xs l h) ra.M)
 | _=>none
theorem Rps.drop:∀{ds:List D}{vs:List V}{F:List Addr}{K:PySem.W.Frag}{H:Hp}(n:Nat),Rps K H ds vs F->∃G,Rps K H (ds.drop n) (vs.drop n) G/\∀a∈G,a∈F
 | [],vs,F,K,H,n,h=>by simp only[Rps]at h;rw[h.1,h.2];exact⟨[],by simp[Rps],λ_ h=>h⟩
 | d::ds,vs,F,K,H,0,h=>⟨F,by simpa using h,λ_ h=>h⟩
 | d::ds,vs,F,K,H,n+1,h=>by
  simp only[Rps]at h
  obtain⟨v,ws,F1,F2,e,eF,r,q⟩:=h
  subst e eF
  obtain⟨G,h1,h2⟩:=Rps.drop n q
  exact⟨G,by simpa using h1,λa ha=>Ze _ (h2 a ha)⟩
theorem Rps.take:∀{ds:List D}{vs:List V}{F:List Addr}{K:PySem.W.Frag}{H:Hp}(n:Nat),Rps K H ds vs F->∃G,Rps K H (ds.take n) (vs.take n) G/\∀a∈G,a∈F
 | [],vs,F,K,H,n,h=>by simp only[Rps]at h;rw[h.1,h.2];exact⟨[],by simp[Rps],λ_ h=>h⟩
 | d::ds,vs,F,K,H,0,h=>⟨[],by simp[Rps],λ_ h=>by simp at h⟩
 | d::ds,vs,F,K,H,n+1,h=>by
  simp only[Rps]at h
  obtain⟨v,ws,F1,F2,e,eF,r,q⟩:=h
  subst e eF
  obtain⟨G,h1,h2⟩:=Rps.take n q
  refine⟨F1++G,?_,λa ha=>?_⟩
  ·simp only[List.take_succ_cons,Rps]
   exact⟨v,_,F1,G,rfl,rfl,r,h1⟩
  ·rcases Zo.mp ha with h | h
   ·exact Zd _ h
   ·exact Ze _ (h2 a h)
theorem QwY{lo hi:Option Expr}{fl fh:DO}{p2:Pos}(ha:SE X a fa)(hl:SO X lo fl)(hh:SO X hi fh):SE X (.Subscript a (.Slice lo hi none p2) pos) (QaO fa fl fh):=λH0 A0=>
 (QsW QtU (ha H0 A0) (hl H0 A0) (hh H0 A0)).mono λσ H Q=>exK λρ hs F r' rel e q=>by
  refine Qf e λra e1 e=>?_
  refine Qf e λl e2 e=>?_
  refine Qf e λh e3 e=>?_
  refine⟨ρ,hs,F,ra,rel,e1,λx H1 G1 p1=>⟨ρ,hs,F,l,rel.ext p1.same,e2,λH2 s2=>⟨ρ,hs,F,h,(rel.ext p1.same).ext s2,e3,λH3 s3=>?_⟩⟩⟩
  have rp:=p1.rp.same (s2.trans s3)
  cases hra:ra.d with
  | lst xs=>
   rw[hra]at e rp
   cases e
   obtain⟨c,vs,L,rfl,hc,rl,zl,el⟩:=rp.lst_inv
   refine⟨c,vs,rfl,Qak hc,λp hp=>?_⟩
   obtain⟨G2,h2,m2⟩:=rl.drop (HT.sIx xs.length 0 l)
   obtain⟨G3,h3,m3⟩:=h2.take (HT.sIx xs.length xs.length h-HT.sIx xs.length 0 l)
   have n1:=rl.length
   rw[show QjJ vs l h=(vs.drop (HT.sIx xs.length 0 l)).take (HT.sIx xs.length xs.length h-HT.sIx xs.length 0 l) by unfold QjJ;rw[n1]]
   refine q _ _ (p::G3) (Q6.QaE (p1.same.trans (s2.trans s3)) hp h3 ?_ (λz hz=>p1.src z ?_) p1.own)
   ·unfold cutD;rw[ZaC,ZbD];omega
   ·have:=m2 z (m3 z hz)
    rcases el with rfl | rfl
    ·exact Zb _ this
    ·exact this
  | _=>rw[hra]at e;cases e
noncomputable def dBf(g:List D->Option D)(fs:DA):DE:=λρ=>(fs ρ).bind λr=>(g r.ds).map λd=>⟨d,true,[]⟩
def Qd7(K:PySem.W.Frag)(g:List D->Option D)(r:List V->Hp->VK->Prop):Prop:=∀ds d,g ds=some d->d.flat=true/\∀H vs F (Q:VK),Rps K H ds vs F->(∀v,(∀H',Rp K H' d v [])->Q v H)->r vs H Q
theorem Qiz{x:Str}{id:String}{g:List D->Option D}{r:List V->Hp->VK->Prop}{p:Pos}(hc:Qbf X (.builtin id) r)(hk:Qd7 X.K g r)(hg:Gl X x)(hm:X.mg x=none)(hv:bootBuiltins x=some (.builtin id))(ha:SA X (e::es) fs)(hn:x≠ "__name__")(hdb:(x == ("__debug__" :Str))=false)
  (he:starEach (e::es) X.env=(false,eval e X.env)::starEach es X.env) (hpl:(backTo pos (starEach es X.env)).any (·.1)=false):SE X (.Call (.Name x p) (e::es) [] pos) (dBf g fs):=λH0 A0=>
 (Qh8 hc hg hm hv (ha H0 A0) hn hdb he hpl).mono λσ H Q=>exK λρ hs F r' rel e q=>by
  refine Qf e λra e1 e=>?_
  obtain⟨d,ed,e⟩:=Zc.mp e
  subst e
  exact⟨ρ,hs,F,ra,rel,e1,λvs H1 G p1=>(hk _ _ ed).2 H1 vs G Q p1.rp λv hv=>q v H1 [] (.flat p1.same (hv _) (hk _ _ ed).1)⟩
theorem Rps.one{K:PySem.W.Frag}{H:Hp}{d:D}{vs:List V}{F:List Addr}(h:Rps K H [d] vs F):∃v,vs=[v]/\Rp K H d v F:=by
 simp only[Rps]at h
 obtain⟨v,ws,F1,F2,rfl,rfl,r,rfl,rfl⟩:=h
 exact⟨v,rfl,by simpa using r⟩
theorem Rps.two{K:PySem.W.Frag}{H:Hp}{d e:D}{vs:List V}{F:List Addr}(h:Rps K H [d,e] vs F):∃v w F1 F2,vs=[v,w]/\Rp K H d v F1/\Rp K H e w F2:=by
 simp only[Rps]at h
 obtain⟨v,ws,F1,F2,rfl,rfl,r,w,ws',F3,F4,rfl,rfl,r2,rfl,rfl⟩:=h
 exact⟨v,w,F1,F3,rfl,r,r2⟩
noncomputable def Qbo:List D->Option D
 | [.lst xs]=>some (.int xs.length)
 | [.tup xs]=>some (.int xs.length)
 | _=>none
noncomputable def Qtr(K:PySem.W.Frag):List V->Hp->VK->Prop:=λxs H Q=>∃p ys,xs=[.ref p]/\(SqL K H p ys∨SqT K H p ys)/\Q (.int ys.length) H
theorem QpY{X:Cx}:Qbf X (.builtin "len") (Qtr X.K):=QlV
theorem QwP{K:PySem.W.Frag}:Qd7 K Qbo (Qtr K):=λds d e=>by
 unfold Qbo at e
 split at e
 ·cases e
  refine⟨rfl,λH vs F Q r q=>?_⟩
  obtain⟨v,rfl,rp⟩:=r.one
  obtain⟨l,ws,L,rfl,hl,rl,zl,el⟩:=rp.lst_inv
  exact⟨l,ws,rfl,.inl (Qak hl),by rw[← rl.length];exact q _ λ_=> .int_mk⟩
 ·cases e
  refine⟨rfl,λH vs F Q r q=>?_⟩
  obtain⟨v,rfl,rp⟩:=r.one
  obtain⟨l,ws,rfl,hl,rl⟩:=rp.Qa0
  exact⟨l,ws,rfl,.inr hl,by rw[← rl.length];exact q _ λ_=> .int_mk⟩
 ·cases e
noncomputable def QiO:List D->Option D
 | [.int i,.int j]=>some (.int (if j<i then j else i))
 | _=>none
noncomputable def Qje:List D->Option D
 | [.int i,.int j]=>some (.int (if j>i then j else i))
 | _=>none
theorem Qvg{K:PySem.W.Frag}:Qd7 K QiO (λxs H Q=>∃i j,xs=[.int i,.int j]/\Q (.int (if j<i then j else i)) H):=λds d e=>by
 unfold QiO at e
 split at e
 ·cases e
  refine⟨rfl,λH vs F Q r q=>?_⟩
  obtain⟨v,w,F1,F2,rfl,r1,r2⟩:=r.two
  exact⟨_,_,by rw[r1.int_inv,r2.int_inv],q _ λ_=> .int_mk⟩
 ·cases e
theorem Quj{K:PySem.W.Frag}:Qd7 K Qje (λxs H Q=>∃i j,xs=[.int i,.int j]/\Q (.int (if j>i then j else i)) H):=λds d e=>by
 unfold Qje at e
 split at e
 ·cases e
  refine⟨rfl,λH vs F Q r q=>?_⟩
  obtain⟨v,w,F1,F2,rfl,r1,r2⟩:=r.two
  exact⟨_,_,by rw[r1.int_inv,r2.int_inv],q _ λ_=> .int_mk⟩
 ·cases e
noncomputable def dList(fs:DA):DE:=λρ=>(fs ρ).bind λr=>match r.ds with
 | [.lst xs]=>some (QaE xs r.M)
 | [.tup xs]=>if xs.length<=sizeLine then some (QaE xs r.M)else none
 | _=>none
end
end HS
namespace HS
open PySem PySem.Spec L2 PyProof.Rows
end HS
namespace HS
open PySem PySem.Spec L2
mutual
noncomputable def D.py:D->PyData
 | .non=> .none
 | .bl b=> .bool b
 | .int i=> .int i
 | .str x=> .str x
 | .tup xs=> .tuple (pys xs)
 | .lst xs=> .list (pys xs)
 | .exc _=> .none
 | .dk _=> .none
 | .obj _ _=> .none
noncomputable def pys:List D->List PyData
 | []=>[]
 | d::ds=>d.py::pys ds
end
theorem Qn3:∀ds:List D,pys ds=ds.map D.py
 | []=>rfl
 | d::ds=>by simp[pys,Qn3 ds]
noncomputable def D.sim:Nat->D->Bool
 | _,.non=>true
 | _,.bl _=>true
 | _,.int _=>true
 | _,.str x=>PyData.canLay0 (.str x)
 | 0,.tup xs=>xs.isEmpty
 | 0,.lst xs=>xs.isEmpty
 | n+1,.tup xs=>xs.all (D.sim n)
 | n+1,.lst xs=>xs.all (D.sim n)
 | _,.exc _=>false
 | _,.dk _=>false
 | _,.obj _ _=>false
theorem QeQ:∀{ds:List D},(∀d∈ds,d.py.canLay0=true)->PyData.canLayAll0 (pys ds)=true
 | [],_=>rfl
 | d::ds,h=>by
  simp only[pys,PyData.canLayAll0,Zg]
  exact⟨h d Zf,QeQ λe he=>h e (Zb _ he)⟩
theorem Qfo:∀{ds:List D},(∀d∈ds,d.py.depth<=n)->PyData.depthAll (pys ds)<=n
 | [],_=>ZZ _
 | d::ds,h=>by
  simp only[pys,PyData.depthAll]
  exact Nat.max_le.mpr ⟨h d Zf,Qfo λe he=>h e (Zb _ he)⟩
theorem QbR:∀(n:Nat) (d:D),d.sim n=true->d.py.canLay0=true/\d.py.depth<=n+1
 | n,.exc _,h=>by cases n<;>cases h
 | n,.dk _,h=>by cases n<;>cases h
 | n,.obj _ _,h=>by cases n<;>cases h
 | n,.non,_=>by simp[D.py,PyData.canLay0,PyData.depth]
 | n,.bl _,_=>by simp[D.py,PyData.canLay0,PyData.depth]
 | n,.int _,_=>by simp[D.py,PyData.canLay0,PyData.depth]
 | n,.str x,h=>by
  simp only[D.py,PyData.depth]
  refine⟨?_,ZZ _⟩
  cases n<;>exact h
 | 0,.tup xs,h=>by
  have:xs=[]:=by simpa[D.sim]using h
  subst this
  simp[D.py,pys,PyData.canLay0,PyData.canLayAll0,PyData.depth,PyData.depthAll]
 | 0,.lst xs,h=>by
  have:xs=[]:=by simpa[D.sim]using h
  subst this
  simp[D.py,pys,PyData.canLay0,PyData.canLayAll0,PyData.depth,PyData.depthAll]
 | n+1,.tup xs,h=>by
  simp only[D.sim,ZW]at h
  simp only[D.py,PyData.canLay0,PyData.depth]
  exact⟨QeQ λd hd=>(QbR n d (h d hd)).1,Zbg (Qfo λd hd=>(QbR n d (h d hd)).2) 1⟩
 | n+1,.lst xs,h=>by
  simp only[D.sim,ZW]at h
  simp only[D.py,PyData.canLay0,PyData.depth]
  exact⟨QeQ λd hd=>(QbR n d (h d hd)).1,Zbg (Qfo λd hd=>(QbR n d (h d hd)).2) 1⟩
noncomputable def deq(a b:D):Bool:=PyData.eqv a.py b.py
theorem QmP(h:d.sim n=true):deq d d=true:=SeqAt.eqv_refl _ (QbR n d h).1
mutual
noncomputable def D.noX:D->Bool
 | .exc _=>false
 | .dk _=>false
 | .obj _ _=>false
 | .tup xs=>Qib xs
 | .lst xs=>Qib xs
 | .non=>true
 | .bl _=>true
 | .int _=>true
 | .str _=>true
noncomputable def Qib:List D->Bool
 | []=>true
 | d::ds=>d.noX && Qib ds
end
theorem Qjg:∀{ds:List D},(∀d∈ds,d.noX=true)->Qib ds=true
 | [],_=>rfl
 | d::ds,h=>by
  simp only[Qib,Zg]
  exact⟨h d Zf,Qjg λe he=>h e (Zb _ he)⟩
theorem Qcj:∀(n:Nat) (d:D),d.sim n=true->d.noX=true
 | n,.exc _,h=>by cases n<;>cases h
 | n,.dk _,h=>by cases n<;>cases h
 | n,.obj _ _,h=>by cases n<;>cases h
 | n,.non,_=>rfl
 | n,.bl _,_=>rfl
 | n,.int _,_=>rfl
 | n,.str x,_=>rfl
 | 0,.tup xs,h=>by
  have:xs=[]:=by simpa[D.sim]using h
  subst this;rfl
 | 0,.lst xs,h=>by
  have:xs=[]:=by simpa[D.sim]using h
  subst this;rfl
 | n+1,.tup xs,h=>by
  simp only[D.sim,ZW]at h
  simp only[D.noX]
  exact Qjg λd hd=>Qcj n d (h d hd)
 | n+1,.lst xs,h=>by
  simp only[D.sim,ZW]at h
  simp only[D.noX]
  exact Qjg λd hd=>Qcj n d (h d hd)
section
variable {X:Cx}{pins:List (Addr×Obj)}{σ:L2.St}{H:Hp}{s:Shared}
mutual
theorem Rp.reads(I:Inv X pins σ H s):∀{d:D}{v:V}{F:List Addr}{u:Value},d.noX=true->Rp X.K H d v F->RelV v u->∃as,Reads s.heap u d.py as
 | .exc _,v,_,u,hx,h,r=>by cases hx
 | .dk _,v,_,u,hx,h,r=>by cases hx
 | .obj _ _,v,_,u,hx,h,r=>by cases hx
 | .non,v,_,u,hx,h,r=>by
  rw[h.Qfy]at r
  cases(show u=Value.none from r)
  exact⟨_,.none⟩
 | .bl b,v,_,u,hx,h,r=>by
  rw[h.QeB]at r
  cases(show u=Value.bool b from r)
  exact⟨_,.bool b⟩
 | .int i,v,_,u,hx,h,r=>by
  rw[h.int_inv]at r
  obtain⟨t,rfl⟩:=(show ∃t,u=Value.int i t from r)
  exact⟨_,.int i t⟩
 | .str i,v,_,u,hx,h,r=>by
  rw[h.str_inv]at r
  obtain⟨t,rfl⟩:=(show ∃t,u=Value.str i t from r)
  exact⟨_,.str i t⟩
 | .tup ds,v,_,u,hx,h,r=>by
  obtain⟨a,vs,rfl,hq,rs⟩:=h.Qa0
  cases(show u=Value.ref a from r)
  obtain⟨its,rv,⟨o,h1,h2,n,h3⟩,_⟩:=I.tuple hq
  obtain⟨as,ra⟩:=Rps.reads I (by simpa only[D.noX]using hx) rs rv
  exact⟨_,.tuple h1 h2 h3 (by simpa using ra)⟩
 | .lst ds,v,_,u,hx,h,r=>by
  simp only[Rp]at h
  obtain⟨hz,a,vs,rfl,h⟩:=h
  have key:∃G,(H a=some (.lst vs)∨Fix X.K H a vs)/\Rps X.K H ds vs G:=by
   rcases h with⟨G,_,q,rs⟩ | ⟨q,rs⟩
   ·exact⟨G,.inl q,rs⟩
   ·exact⟨_,.inr q,rs⟩
  obtain⟨G,hq,rs⟩:=key
  cases(show u=Value.ref a from r)
  obtain⟨_,its,n,rv,_,e⟩:=I.Ql0 hq
  obtain⟨as,ra⟩:=Rps.reads I (by simpa only[D.noX]using hx) rs rv
  exact⟨_,.list e rfl rfl (by simpa using ra)⟩
theorem Rps.reads(I:Inv X pins σ H s):∀{ds:List D}{vs:List V}{F:List Addr}{us:List Value},Qib ds=true->Rps X.K H ds vs F->Qw vs us->∃as,ReadsAll s.heap us (pys ds) as
 | [],vs,_,us,_,h,r=>by
  simp only[Rps]at h
  rw[h.1]at r
  cases r
  exact⟨_,.nil⟩
 | d::ds,vs,_,us,hx,h,r=>by
  simp only[Qib,Zg]at hx
  simp only[Rps]at h
  obtain⟨v,ws,F1,F2,rfl,rfl,h1,h2⟩:=h
  cases r with
  | cons r rr=>
   obtain⟨as,ra⟩:=Rp.reads I hx.1 h1 r
   obtain⟨bs,rb⟩:=Rps.reads I hx.2 h2 rr
   exact⟨_,.cons ra rb⟩
end
end
noncomputable def gEq(a b:D):Option D:=if a.sim 8 && b.sim 8 then some (.bl (deq a b))else none
noncomputable def gNe(a b:D):Option D:=if a.sim 8 && b.sim 8 then some (.bl (!deq a b))else none
noncomputable def gIn(neg:Bool)(a b:D):Option D:=match b with
 | .lst xs=>if a.sim 8 && b.sim 8 then some (.bl (if neg then !(xs.any λy=>deq y a)else xs.any λy=>deq y a))else none
 | .tup xs=>if a.sim 8 && b.sim 8 then some (.bl (if neg then !(xs.any λy=>deq y a)else xs.any λy=>deq y a))else none
 | _=>none
theorem Qqb{neg:Bool}:∀a b d,gIn neg a b=some d->∃k,d= .bl k:=λa b d h=>by
 unfold gIn at h
 split at h
 ·split at h<;>cases h;exact⟨_,rfl⟩
 ·split at h<;>cases h;exact⟨_,rfl⟩
 ·cases h
noncomputable def QvK(K:PySem.W.Frag):R2:=λx y H Q=>∃a b F G,Rp K H a x F/\Rp K H b y G/\a.sim 8=true/\b.sim 8=true/\Q (.bl (deq a b)) H
noncomputable def QvY(K:PySem.W.Frag):R2:=λx y H Q=>∃a b F G,Rp K H a x F/\Rp K H b y G/\a.sim 8=true/\b.sim 8=true/\Q (.bl (!deq a b)) H
section
variable {X:Cx}
theorem Qv4(hu:X.A.units+64<cLine):OpR X (compareOp .Eq) (QvK X.K):=by
 intro pins s σ H x y v u Q I rx ry h
 obtain⟨a,b,F,G,ha,hb,sa,sb,q⟩:=h
 obtain⟨as,ra⟩:=Rp.reads I (Qcj 8 _ sa) ha rx
 obtain⟨bs,rb⟩:=Rp.reads I (Qcj 8 _ sb) hb ry
 have h1:=QbR 8 a sa
 have h2:=QbR 8 b sb
 exact SeqAt.compareEq_reads ra rb h1.1 h2.1 (by have:=Nat.min_le_left a.py.depth b.py.depth;omega) ⟨.bl _,H,I,rfl,q⟩
theorem Qxa(hu:X.A.units+64<cLine):OpR X (compareOp .NotEq) (QvY X.K):=by
 intro pins s σ H x y v u Q I rx ry h
 obtain⟨a,b,F,G,ha,hb,sa,sb,q⟩:=h
 obtain⟨as,ra⟩:=Rp.reads I (Qcj 8 _ sa) ha rx
 obtain⟨bs,rb⟩:=Rp.reads I (Qcj 8 _ sb) hb ry
 have h1:=QbR 8 a sa
 have h2:=QbR 8 b sb
 exact SeqAt.compareNe_reads ra rb h1.1 h2.1 (by have:=Nat.min_le_left a.py.depth b.py.depth;omega) ⟨.bl _,H,I,rfl,q⟩
theorem QyW:Qcs K gEq (QvK K):=λa b d e=>by
 unfold gEq at e
 split at e
 ·rename_i h
  simp only[Zg]at h
  cases e
  exact⟨rfl,λH x y F G Q ha hb q=>⟨a,b,F,G,ha,hb,h.1,h.2,q _ λ_=> .QcI⟩⟩
 ·cases e
theorem QyY:Qcs K gNe (QvY K):=λa b d e=>by
 unfold gNe at e
 split at e
 ·rename_i h
  simp only[Zg]at h
  cases e
  exact⟨rfl,λH x y F G Q ha hb q=>⟨a,b,F,G,ha,hb,h.1,h.2,q _ λ_=> .QcI⟩⟩
 ·cases e
noncomputable def QsI(K:PySem.W.Frag)(neg:Bool):R2:=λx y H Q=>∃a b F G xs,Rp K H a x F/\Rp K H b y G/\a.sim 8=true/\b.sim 8=true/\(b= .lst xs∨b= .tup xs)/\Q (.bl (if neg then !(xs.any λy=>deq y a)else xs.any λy=>deq y a)) H
noncomputable def Qkc(K:PySem.W.Frag)(neg:Bool):R2:=λx y H Q=>QsI K neg x y H Q
theorem inS{K:PySem.W.Frag}{neg:Bool}{x y:V}{H:Hp}{Q:VK}(h:QsI K neg x y H Q):Qkc K neg x y H Q:=by first | exact h | exact .inl h
theorem QqA{K:PySem.W.Frag}{neg:Bool}{x y:V}{H:Hp}{Q:VK}{P:Prop}(h:Qkc K neg x y H Q)(h1:QsI K neg x y H Q->P)
 :P:=by
 unfold Qkc at h
 first
  | exact h1 h
theorem QpW(xs:List D)(a:D):((pys xs).any λy=>PyData.eqv y a.py)=xs.any λy=>deq y a:=by
 rw[Qn3,List.any_map];rfl
theorem Qwm(hu:X.A.units+64<cLine):OpR X (compareOp .In) (Qkc X.K false):=by
 intro pins s σ H x y v u Q I rx ry h
 refine QqA h (λh=>?_)
 obtain⟨a,b,F,G,xs,ha,hb,sa,sb,hk,q⟩:=h
 obtain⟨as,ra⟩:=Rp.reads I (Qcj 8 _ sa) ha rx
 obtain⟨bs,rb⟩:=Rp.reads I (Qcj 8 _ sb) hb ry
 have h1:=QbR 8 a sa
 have h2:=QbR 8 b sb
 have q':Q (.bl ((pys xs).any λy=>PyData.eqv y a.py)) H:=by rw[QpW];exact q
 rcases hk with rfl | rfl
 ·exact SeqAt.in_list_reads rb ra h2.1 h1.1 (by have:=Zbd (PyData.depthAll (pys xs)) a.py.depth;omega) ⟨.bl _,H,I,rfl,q'⟩
 ·exact SeqAt.in_tuple_reads rb ra h2.1 h1.1 (by have:=Zbd (PyData.depthAll (pys xs)) a.py.depth;omega) ⟨.bl _,H,I,rfl,q'⟩
theorem QpZ(hu:X.A.units+64<cLine):OpR X (compareOp .NotIn) (Qkc X.K true):=by
 intro pins s σ H x y v u Q I rx ry h
 refine QqA h (λh=>?_)
 obtain⟨a,b,F,G,xs,ha,hb,sa,sb,hk,q⟩:=h
 obtain⟨as,ra⟩:=Rp.reads I (Qcj 8 _ sa) ha rx
 obtain⟨bs,rb⟩:=Rp.reads I (Qcj 8 _ sb) hb ry
 have h1:=QbR 8 a sa
 have h2:=QbR 8 b sb
 have q':Q (.bl (!(pys xs).any λy=>PyData.eqv y a.py)) H:=by rw[QpW];exact q
 rcases hk with rfl | rfl
 ·exact SeqAt.notIn_list_reads rb ra h2.1 h1.1 (by have:=Zbd (PyData.depthAll (pys xs)) a.py.depth;omega) ⟨.bl _,H,I,rfl,q'⟩
 ·exact SeqAt.notIn_tuple_reads rb ra h2.1 h1.1 (by have:=Zbd (PyData.depthAll (pys xs)) a.py.depth;omega) ⟨.bl _,H,I,rfl,q'⟩
theorem QtC:Qcs K (gIn neg) (Qkc K neg):=λa b d e=>by
 unfold gIn at e
 split at e
 ·split at e
  ·rename_i h
   simp only[Zg]at h
   cases e
   exact⟨rfl,λH x y F G Q ha hb q=>inS ⟨a,_,F,G,_,ha,hb,h.1,h.2,.inl rfl,q _ λ_=> .QcI⟩⟩
  ·cases e
 ·split at e
  ·rename_i h
   simp only[Zg]at h
   cases e
   exact⟨rfl,λH x y F G Q ha hb q=>inS ⟨a,_,F,G,_,ha,hb,h.1,h.2,.inr rfl,q _ λ_=> .QcI⟩⟩
  ·cases e
 ·cases e
noncomputable def D.Qpf:D->Bool
 | .non=>true
 | _=>false
theorem Qu0(h:Rp K H d v F):decide (v= .non)=d.Qpf:=by
 cases d with
 | obj o ds=>simp only[Rp]at h;obtain⟨vs,A,G,_,q,_⟩:=h;exact decide_eq_false q.ne
 | non=>rw[h.Qfy];rfl
 | bl b=>rw[h.QeB];rfl
 | int b=>rw[h.int_inv];rfl
 | str b=>rw[h.str_inv];rfl
 | tup b=>obtain⟨a,vs,rfl,_⟩:=h.Qa0;rfl
 | lst b=>obtain⟨a,vs,G,rfl,_⟩:=h.lst_inv;rfl
 | exc b=>simp only[Rp]at h;obtain⟨⟨a,rfl,_⟩,_⟩:=h;rfl
 | dk b=>simp only[Rp]at h;obtain⟨a,rfl,_⟩:=h;rfl
noncomputable def D.tyN:D->String
 | .non=> "NoneType" | .bl _=> "bool" | .int _=> "int" | .str _=> "str" | .tup _=> "tuple" | .lst _=> "list" | .exc _=> "?" | .dk _=> "?"
 | .obj _ _=> "?"
noncomputable def D.isE:D->Bool
 | .exc _=>true
 | .dk _=>true
 | .obj _ _=>true
 | _=>false
noncomputable def D.isa(T:String)(d:D):Option Bool:=if(T == "int" || T == "bool" || T == "list" || T == "tuple" || T == "str") && !d.isE then some (d.tyN == T || (d.tyN == "bool" && T == "int"))else none
theorem Qwi(I:Inv X pins σ H s)(rp:Rp X.K H d v F)(rx:RelV v u)(e:d.isa T=some b)(h:∀tk,Q (.bool b) {s with toks:=tk}):
  wpAny (model X.prog X.w) A (call (.builtin "isinstance") [u,.type T]) Q E s:=by
 have kit:PySem.W.kitOne X.K (.type d.tyN) (.type T)=some b:=by
  unfold D.isa at e
  split at e
  ·rename_i hT
   cases e
   simp only[Zg,Bool.or_eq_true,beq_iff_eq]at hT
   obtain⟨hT,hE⟩:=hT
   rcases hT with(((rfl | rfl) | rfl) | rfl) | rfl<;>cases d<;>first | rfl | (cases hE)
  ·cases e
 cases d with
 | exc x=>unfold D.isa at e;split at e;(rename_i hT;exfalso;simp only[Zg]at hT;exact nomatch hT.2);cases e
 | dk x=>unfold D.isa at e;split at e;(rename_i hT;exfalso;simp only[Zg]at hT;exact nomatch hT.2);cases e
 | obj _ _=>unfold D.isa at e;split at e;(rename_i hT;exfalso;simp only[Zg]at hT;exact nomatch hT.2);cases e
 | non=>rw[rp.Qfy]at rx;cases(show u=Value.none from rx);exact ZaH PySem.W.kitx_none I.kIn True.intro kit (λz=>nomatch z) h
 | bl y=>rw[rp.QeB]at rx;cases(show u=Value.bool y from rx);exact ZaH PySem.W.kitx_bool I.kIn True.intro kit (λz=>nomatch z) h
 | int i=>rw[rp.int_inv]at rx;obtain⟨t,q⟩:=(show ∃t,u=Value.int i t from rx);cases q;exact ZaH PySem.W.kitx_int I.kIn True.intro kit (λz=>nomatch z) h
 | str y=>rw[rp.str_inv]at rx;obtain⟨t,q⟩:=(show ∃t,u=Value.str y t from rx);cases q;exact ZaH PySem.W.kitx_str I.kIn True.intro kit (λz=>nomatch z) h
 | tup ds=>
  obtain⟨a,vs,rfl,hq,_⟩:=rp.Qa0
  cases(show u=Value.ref a from rx)
  obtain⟨its,rv,⟨o,h1,h2,n,h3⟩,_⟩:=I.tuple hq
  exact ZaH PySem.W.kitx_tuple I.kIn ⟨o,h1,h2⟩ kit (λz=>nomatch z) h
 | lst ds=>
  obtain⟨a,vs,G,rfl,hq,_⟩:=rp.lst_inv
  cases(show u=Value.ref a from rx)
  obtain⟨_,its,n,rv,_,e1⟩:=I.Ql0 hq
  exact ZaH PySem.W.kitx_list I.kIn ⟨_,e1,rfl⟩ kit (λz=>nomatch z) h
noncomputable def Qzg(K:PySem.W.Frag):List V->Hp->VK->Prop:=λxs H Q=>∃x T d F b,xs=[x,.ty T]/\Rp K H d x F/\d.isa T=some b/\Q (.bl b) H
theorem QsB:Qbf X (.builtin "isinstance") (Qzg X.K):=by
 intro pins s σ H xs us Q I r h
 obtain⟨x,T,d,F,b,rfl,rp,e,q⟩:=h
 obtain⟨u,w,rfl,ru,rw'⟩:=vals2 r
 cases(show w=Value.type T from rw')
 exact Qwi I rp ru e λtk=>⟨.bl b,H,I.tok _,rfl,q⟩
noncomputable def Qff(T:String)(fa:DE):DE:=λρ=>(fa ρ).bind λr=>(r.d.isa T).map λb=>⟨.bl b,true,[]⟩
theorem QwF(hg:Gl X "isinstance")(hm:X.mg "isinstance" =none)(ha:SE X a fa)(hT:PE X (.Name x p2) (tC (.ty T)))
  (he:starEach [a,.Name x p2] X.env=(false,eval a X.env)::starEach [.Name x p2] X.env):SE X (.Call (.Name "isinstance" p) [a,.Name x p2] [] pos) (Qff T fa):=λH0 A0=>
 (Qh8 QsB hg hm Zbj (Qbu (ha H0 A0) (Qbu hT Qea) he) (by decide) (by decide) he (by rfl)).mono λσ H Q=>exK λρ hs F r' rel e q=>by
  refine Qf e λr e1 e=>?_
  obtain⟨b,eb,e⟩:=Zc.mp e
  subst e
  exact⟨ρ,hs,F,r,rel,e1,λv H1 G p=>⟨v,T,r.d,G,b,rfl,p.rp,eb,q _ H1 [] (.flat p.same .QcI)⟩⟩
noncomputable def D.tru:D->Option Bool
 | .non=>some false
 | .bl b=>some b
 | .int i=>some (i != 0)
 | .lst xs=>some (!xs.isEmpty)
 | .tup xs=>some (!xs.isEmpty)
 | .str _=>none
 | .exc _=>none
 | .dk _=>none
 | .obj _ _=>none
theorem Qlk(h:Rp K H d v F)(e:d.tru=some b):Qsp K v H b:=by
 have emp:∀{ds:List D}{vs:List V}{G:List Addr},Rps K H ds vs G->(!ds.isEmpty)= !vs.isEmpty:=λ{ds vs G} r=>by
  have:=r.length
  cases ds<;>cases vs<;>simp_all
 cases d with
 | non=>rw[h.Qfy];cases e;exact rfl
 | bl c=>rw[h.QeB];cases e;exact rfl
 | int i=>rw[h.int_inv];cases e;exact rfl
 | str i=>cases e
 | exc i=>cases e
 | dk i=>cases e
 | obj _ _=>cases e
 | tup ds=>cases e;obtain⟨a,vs,rfl,hq,r⟩:=h.Qa0;exact .inr (.inl ⟨vs,hq,emp r⟩)
 | lst ds=>cases e;obtain⟨a,vs,G,rfl,hq,r,_⟩:=h.lst_inv;exact .inl ⟨vs,Qak hq,emp r⟩
noncomputable def QE(fa:DE):DT:=λρ=>(fa ρ).bind λr=>r.d.tru
noncomputable def QjG(f g:DT):DT:=λρ=>(f ρ).bind λb=>if b=true then g ρ else some false
noncomputable def bOr(f g:DT):DT:=λρ=>(f ρ).bind λb=>if b=true then some true else g ρ
noncomputable def QcB(f:DT):DT:=λρ=>(f ρ).bind λb=>some (!b)
def SW(X:Cx)(e:Expr)(f:DT):Prop:=∀H0 A0,PW X e (tVT X.K H0 A0 f)
theorem _root_.L2.PW.mono(h:PW X e t)(m:∀σ H Q,t' σ H Q->t σ H Q):PW X e t':=λwh pins s σ H Q I q=>h wh pins s σ H Q I (m σ H Q q)
variable {a b e:Expr}{fa fb:DE}{ga gb gc:DT}{pos:Pos}{rest:List Expr}
theorem QxN(ha:SE X a fa)(he:∀whole,isTrue a X.env whole=(do let v ← whole;standAt a.pos;holding [v] (truthy v))):ST X a (QE fa):=λH0 A0=>
 (QsT (ha H0 A0) he).mono λσ H Q=>exK λρ hs F b rel e q=>by
  refine Qf e λr e1 e=>?_
  exact⟨ρ,hs,F,r,rel,e1,λv H1 G p=>⟨b,Qlk p.rp e,q H1 p.same⟩⟩
theorem Qxp(ho:OpR X (compareOp op) r)(hg:Qcs X.K g r)(hbl:∀a b d,g a b=some d->∃k,d= .bl k)(ha:SE X a fa)(hb:SE X b fb)(hm:behindInMarks op b=false):ST X (.Compare a [op] [b] pos) (QE (dOp g fa fb)):=λH0 A0=>
 (Qvo ho (ha H0 A0) (hb H0 A0) hm).mono λσ H Q=>exK λρ hs F k rel e q=>by
  refine Qf e λr' e0 e=>?_
  obtain⟨ra,rb,d,ea,eb,eg,rfl⟩:=Qj8 e0
  obtain⟨k',rfl⟩:=hbl _ _ _ eg
  cases e
  refine two rel ea eb λx y H1 H2 G1 G2 p1 p2=>(hg _ _ _ eg).2 H2 x y G1 G2 _ (p1.rp.same p2.same) p2.rp λv hv=>?_
  exact⟨_,(hv H2).QeB,q H2 (p1.same.trans p2.same)⟩
theorem Qwk(ha:ST X a ga):ST X (.UnaryOp .Not a pos) (QcB ga):=λH0 A0=>
 (Qxv (ha H0 A0)).mono λσ H Q=>exK λρ hs F b rel e q=>by
  refine Qf e λc e1 e=>?_
  cases e
  exact⟨ρ,hs,F,c,rel,e1,λH1 s1=>q H1 s1⟩
theorem Qux(ha:ST X a ga):SW X (.BoolOp .And [a] pos) ga:=λH0 A0=>QuZ (ha H0 A0)
theorem QvQ(ha:ST X a ga):SW X (.BoolOp .Or [a] pos) ga:=λH0 A0=>QxH (ha H0 A0)
theorem QwD(ha:ST X a ga)(hb:SW X (.BoolOp .And (b::rest) pos) gb):SW X (.BoolOp .And (a::b::rest) pos) (QjG ga gb):=λH0 A0=>
 (Qv5 (ha H0 A0) (hb H0 A0)).mono λσ H Q=>exK λρ hs F c rel e q=>by
  refine Qf e λd e1 e=>?_
  refine⟨ρ,hs,F,d,rel,e1,λH1 s1=>?_⟩
  cases d with
  | true=>exact⟨ρ,hs,F,c,rel.ext s1,e,λH2 s2=>q H2 (s1.trans s2)⟩
  | false=>cases e;exact q H1 s1
theorem Qyb(ha:ST X a ga)(hb:SW X (.BoolOp .Or (b::rest) pos) gb):SW X (.BoolOp .Or (a::b::rest) pos) (bOr ga gb):=λH0 A0=>
 (QyN (ha H0 A0) (hb H0 A0)).mono λσ H Q=>exK λρ hs F c rel e q=>by
  refine Qf e λd e1 e=>?_
  refine⟨ρ,hs,F,d,rel,e1,λH1 s1=>?_⟩
  cases d with
  | true=>cases e;exact q H1 s1
  | false=>exact⟨ρ,hs,F,c,rel.ext s1,e,λH2 s2=>q H2 (s1.trans s2)⟩
theorem SW.st(h:SW X e ga):ST X e ga:=λH0 A0=>(h H0 A0).pt
noncomputable def Qdg(fa fb:DE):DE:=λρ=>(fa ρ).bind λra=>(ra.d.tru).bind λb=>if b=true then fb ρ else some ra
noncomputable def dOr(fa fb:DE):DE:=λρ=>(fa ρ).bind λra=>(ra.d.tru).bind λb=>if b=true then some ra else fb ρ
noncomputable def Qr3(fa:DE):DE:=λρ=>(fa ρ).bind λra=>(ra.d.tru).bind λb=>some ⟨.bl (!b),true,[]⟩
noncomputable def dIf(g:DT)(fa fb:DE):DE:=λρ=>(g ρ).bind λb=>if b=true then fa ρ else fb ρ
theorem Ql7{op}(h:SE X a fa):SE X (.BoolOp op [a] pos) fa:=λH0 A0=>Qxf (h H0 A0)
theorem Q6.ext(s:QD H H1)(p:Q6 K ρ F H1 H2 r v G)(rel:Rel K H0 A0 hs ρ F σ H):Q6 K ρ F H H2 r v G where
 same:=s.trans p.same
 rp:=p.rp
 src:=λa ha=>(p.src a ha).elim (λz=> .inl (s.free z)) .inr
 cnt:=λh=>⟨λa=>ZD ((p.cnt h).1 a) (Zbg (by
  cases q:H1 a with
  | none=>rw[QaS q,QaS (s.free q)];exact Zn _
  | some o=>rw[Qdk q];exact ZZ _) _),(p.cnt h).2⟩
 own:=p.own
theorem Qre(ha:SE X a fa)(hb:SE X (.BoolOp .And (b::rest) pos) fb):SE X (.BoolOp .And (a::b::rest) pos) (Qdg fa fb):=λH0 A0=>by
 intro pins s σ H Q I ⟨ρ,hs,F,r,rel,e,q⟩
 refine Qf e λra e1 e=>?_
 refine Qf e λc e2 e=>?_
 refine PyProof.Rows.BoolOp_and (thn (ha H0 A0 pins s σ H _ I ⟨ρ,hs,F,ra,rel,e1,λv H' G p=>(⟨G,p⟩:∃G,Q6 X.K ρ F H H' ra v G)⟩) λv s1 hpt=>?_)
 obtain⟨x,H1,I1,r1,G,p⟩:=hpt
 refine thn (Qjb pins s1 σ H1 x v (λk H2=>k=c/\H2=H1) I1 r1 ⟨c,Qlk p.rp e2,rfl,rfl⟩) λk s2 hpt=>?_
 obtain⟨H2,I2,e3,e4⟩:=hpt
 subst e3 e4
 cases k with
 | true=>exact hb H0 A0 pins s2 σ _ Q I2 ⟨ρ,hs,F,r,rel.ext p.same,e,λw H3 G3 p3=>q w H3 G3 (p3.ext p.same rel)⟩
 | false=>cases e;exact⟨x,_,I2,r1,q x _ G p⟩
theorem Qyc(ha:SE X a fa)(hb:SE X (.BoolOp .Or (b::rest) pos) fb):SE X (.BoolOp .Or (a::b::rest) pos) (dOr fa fb):=λH0 A0=>by
 intro pins s σ H Q I ⟨ρ,hs,F,r,rel,e,q⟩
 refine Qf e λra e1 e=>?_
 refine Qf e λc e2 e=>?_
 refine PyProof.Rows.BoolOp_or (thn (ha H0 A0 pins s σ H _ I ⟨ρ,hs,F,ra,rel,e1,λv H' G p=>(⟨G,p⟩:∃G,Q6 X.K ρ F H H' ra v G)⟩) λv s1 hpt=>?_)
 obtain⟨x,H1,I1,r1,G,p⟩:=hpt
 refine thn (Qjb pins s1 σ H1 x v (λk H2=>k=c/\H2=H1) I1 r1 ⟨c,Qlk p.rp e2,rfl,rfl⟩) λk s2 hpt=>?_
 obtain⟨H2,I2,e3,e4⟩:=hpt
 subst e3 e4
 cases k with
 | false=>exact hb H0 A0 pins s2 σ _ Q I2 ⟨ρ,hs,F,r,rel.ext p.same,e,λw H3 G3 p3=>q w H3 G3 (p3.ext p.same rel)⟩
 | true=>cases e;exact⟨x,_,I2,r1,q x _ G p⟩
theorem QpC(ha:SE X a fa):SE X (.UnaryOp .Not a pos) (Qr3 fa):=λH0 A0=>by
 intro pins s σ H Q I ⟨ρ,hs,F,r,rel,e,q⟩
 refine Qf e λra e1 e=>?_
 refine Qf e λc e2 e=>?_
 cases e
 refine PyProof.Rows.UnaryOp_ (thn (ha H0 A0 pins s σ H _ I ⟨ρ,hs,F,ra,rel,e1,λv H' G p=>(⟨G,p⟩:∃G,Q6 X.K ρ F H H' ra v G)⟩) λv s1 hpt=>?_)
 obtain⟨x,H1,I1,r1,G,p⟩:=hpt
 refine PyProof.Rows.not_of (thn (Qjb pins s1 σ H1 x v (λk H2=>k=c/\H2=H1) I1 r1 ⟨c,Qlk p.rp e2,rfl,rfl⟩) λk s2 hpt=>?_)
 obtain⟨H2,I2,e3,e4⟩:=hpt
 subst e3 e4
 exact⟨.bl (!k),_,I2,rfl,q _ _ [] (.flat p.same .QcI)⟩
theorem Qye(hc:ST X c gc)(ha:SE X a fa)(hb:SE X b fb):SE X (.IfExp c a b pos) (dIf gc fa fb):=λH0 A0=>
 (Qs6 (hc H0 A0) (ha H0 A0) (hb H0 A0)).mono λσ H Q=>exK λρ hs F r rel e q=>by
  refine Qf e λc e1 e=>?_
  refine⟨ρ,hs,F,c,rel,e1,λH1 s1=>?_⟩
  cases c with
  | true=>exact⟨ρ,hs,F,r,rel.ext s1,e,λv H2 G p=>q v H2 G (p.ext s1 rel)⟩
  | false=>exact⟨ρ,hs,F,r,rel.ext s1,e,λv H2 G p=>q v H2 G (p.ext s1 rel)⟩
noncomputable def QdA(fa:DE):DE:=λρ=>(fa ρ).bind λra=>match ra.d with
 | .int i=>some ⟨.int (-i),true,[]⟩
 | _=>none
theorem Qws(ha:SE X a fa):SE X (.UnaryOp .USub a pos) (QdA fa):=λH0 A0=>
 (QyA QwB (ha H0 A0)).mono λσ H Q=>exK λρ hs F r rel e q=>by
  refine Qf e λra e1 e=>?_
  refine⟨ρ,hs,F,ra,rel,e1,λv H1 G p=>?_⟩
  have rp:=p.rp
  cases hr:ra.d with
  | int i=>
   rw[hr]at e rp
   cases e
   exact⟨i,rp.int_inv,q _ H1 [] (.flat p.same .int_mk)⟩
  | _=>rw[hr]at e;cases e
end
end HS
namespace HS
open PySem PySem.Spec L2
section
def QcF(ρ ρ':En):Prop:=ρ'.length=ρ.length/\∀(i:Nat) d b,ρ'[i]? =some (some (d,b))->∃b',ρ[i]? =some (some (d,b'))/\(b=true->b'=true)
theorem QcF.refl:QcF ρ ρ:=⟨rfl,λi d b h=>⟨b,h,id⟩⟩
theorem QcF.trans(a:QcF ρ ρ')(b:QcF ρ' ρ''):QcF ρ ρ'':=⟨b.1.trans a.1,λi d c h=>by
 obtain⟨c',h1,h2⟩:=b.2 i d c h
 obtain⟨c'',h3,h4⟩:=a.2 i d c' h1
 exact⟨c'',h3,λz=>h4 (h2 z)⟩⟩
theorem Rel.weak(r:Rel K H0 A0 hs ρ F σ H)(w:QcF ρ ρ'):Rel K H0 A0 hs ρ' F σ H where
 len:=w.1.trans r.len
 val:=λi d b e=>let ⟨b',h,_⟩:=w.2 i d b e;r.val i d b' h
 own:=λi d e=>by
  obtain⟨b',h,hb⟩:=w.2 i d true e
  have:b'=true:=hb rfl
  subst this
  obtain⟨h1,h2,h3,h4,h5⟩:=r.own i d h
  exact⟨h1,h2,h3,λj d' b' hj e'=>let ⟨b'',h',_⟩:=w.2 j d' b' e';h4 j d' b'' hj h',h5⟩
 src:=λi d b e=>let ⟨b',h,_⟩:=w.2 i d b e;r.src i d b' h
 held:=r.held
 same:=r.same
noncomputable def kill:List Nat->En->En
 | [],ρ=>ρ
 | i::M,ρ=>kill M (ρ.set i none)
noncomputable def QbE:List Nat->En->En
 | [],ρ=>ρ
 | i::M,ρ=>QbE M (match ρ[i]? with
  | some (some (d,_))=>ρ.set i (some (d,false))
  | _=>ρ)
theorem Qkf(i:Nat):QcF ρ (ρ.set i none):=⟨by simp,λj d b h=>by
 by_cases hj:i=j
 ·subst hj
  by_cases hl:i<ρ.length
  ·rw[Zr hl]at h;cases h
  ·rw[Zw (by simp;omega)]at h;cases h
 ·rw[Zh hj]at h
  exact⟨b,h,id⟩⟩
theorem QbD:∀(M:List Nat) (ρ:En),QcF ρ (kill M ρ)
 | [],ρ=> .refl
 | i::M,ρ=>(Qkf i).trans (QbD M _)
theorem QeZ:∀(M:List Nat) (ρ:En) (i:Nat) (d:D) (b:Bool),i∈M->(kill M ρ)[i]? =some (some (d,b))->False
 | [],ρ,i,d,b,h,_=>by simp at h
 | j::M,ρ,i,d,b,h,e=>by
  rcases Zl.mp h with rfl | h
  ·obtain⟨b',e',_⟩:=(QbD M (ρ.set i none)).2 i d b e
   by_cases hl:i<ρ.length
   ·rw[Zr hl]at e';cases e'
   ·rw[Zw (by simp;omega)]at e';cases e'
  ·exact QeZ M _ i d b h e
theorem QsX(i:Nat):QcF ρ (match ρ[i]? with
  | some (some (d,_))=>ρ.set i (some (d,false))
  | _=>ρ):=by
 split
 ·rename_i d b e
  refine⟨by simp,λj d' b' h=>?_⟩
  by_cases hj:i=j
  ·subst hj
   have hl:i<ρ.length:=(Zi.mp e).1
   rw[Zr hl]at h
   cases h
   exact⟨b,e,λz=>by cases z⟩
  ·rw[Zh hj]at h
   exact⟨b',h,id⟩
 ·exact .refl
theorem Qck:∀(M:List Nat) (ρ:En),QcF ρ (QbE M ρ)
 | [],ρ=> .refl
 | i::M,ρ=>(QsX i).trans (Qck M _)
theorem QiF:∀(M:List Nat) (ρ:En) (i:Nat) (d:D),i∈M->(QbE M ρ)[i]? =some (some (d,true))->False
 | [],ρ,i,d,h,_=>by simp at h
 | j::M,ρ,i,d,h,e=>by
  rcases Zl.mp h with rfl | h
  ·obtain⟨b',e',hb⟩:=(Qck M _).2 i d true e
   have:b'=true:=hb rfl
   subst this
   split at e'
   ·rename_i d' b e1
    have hl:i<ρ.length:=(Zi.mp e1).1
    rw[Zr hl]at e'
    cases e'
   ·rename_i h1
    exact h1 d true e'
  ·exact QiF M _ i d h e
def Shr(H0:Hp)(A0:List Addr)(ρ:En)(F:Nat->List Addr)(G:List Addr):Prop:=
 ∀a∈G,(H0 a=none∨a∈A0)/\∀(i:Nat) d,ρ[i]? =some (some (d,true))->a∉F i
theorem Shr.of(r:Rel K H0 A0 hs ρ F σ H)(s:Src ρ F H M G):Shr H0 A0 (QbE M ρ) F G:=λa ha=>by
 have w:=Qck M ρ
 rcases s a ha with h | ⟨i,d,b,e,m,hm⟩
 ·refine⟨.inl (r.same.free h),λj d' e' hj=>?_⟩
  obtain⟨b',e2,_⟩:=w.2 j d' true e'
  obtain⟨vs,q⟩:=r.mem e2 hj
  rw[h]at q;cases q
 ·refine⟨r.src i d b e a m,λj d' e' hj=>?_⟩
  obtain⟨b',e2,hb⟩:=w.2 j d' true e'
  have:b'=true:=hb rfl
  subst this
  by_cases hij:i=j
  ·subst hij
   rw[e]at e2
   cases e2
   exact QiF M ρ i _ (hm rfl) e'
  ·exact(r.own j d' e2).2.2.2.1 i d b hij e a hj m
theorem Rel.Qo0(r:Rel K H0 A0 hs ρ F σ H)(rp:Rp K H d v G)(sh:Shr H0 A0 ρ F G):
  Rel K H0 A0 hs (ρ.set i (some (d,d.flat))) (λj=>if j=i then G else F j) (σ.set i (some v)) H where
 len:=by simp[r.len]
 val:=λj d' b e=>by
  by_cases hj:j=i
  ·subst hj
   have hl:j<ρ.length:=by
    by_cases hl:j<ρ.length
    ·exact hl
    ·rw[Zw (by simp;omega)]at e;cases e
   rw[Zr hl]at e
   cases e
   exact⟨v,by rw[Zr (by rw[← r.len];exact hl)],by rw[if_pos rfl];exact rp⟩
  ·rw[Zh (Ne.symm hj)]at e
   obtain⟨w,h1,h2⟩:=r.val j d' b e
   exact⟨w,by rw[Zh (Ne.symm hj)];exact h1,by rw[if_neg hj];exact h2⟩
 own:=λj d' e=>by
  by_cases hj:j=i
  ·subst hj
   have hl:j<ρ.length:=by
    by_cases hl:j<ρ.length
    ·exact hl
    ·rw[Zw (by simp;omega)]at e;cases e
   rw[Zr hl]at e
   have e1:=Option.some.inj (Option.some.inj e)
   have ed:d=d':=congrArg Prod.fst e1
   have ef:d.flat=true:=congrArg Prod.snd e1
   subst ed
   have:=rp.QbF ef
   subst this
   rw[if_pos rfl]
   exact⟨(Qdm d ef).symm,Zap,λa ha=>by simp at ha,λ_ _ _ _ _ a ha=>by simp at ha,λ_ _ a ha=>by simp at ha⟩
  ·rw[Zh (Ne.symm hj)]at e
   obtain⟨h1,h2,h3,h4,h5⟩:=r.own j d' e
   rw[if_neg hj]
   refine⟨h1,h2,h3,λk d'' b hk ek a ha=>?_,h5⟩
   by_cases hki:k=i
   ·subst hki
    rw[if_pos rfl]
    exact λhG=>(sh a hG).2 j d' e ha
   ·rw[Zh (Ne.symm hki)]at ek
    rw[if_neg hki]
    exact h4 k d'' b hk ek a ha
 src:=λj d' b e a ha=>by
  by_cases hj:j=i
  ·subst hj
   rw[if_pos rfl]at ha
   exact(sh a ha).1
  ·rw[Zh (Ne.symm hj)]at e
   rw[if_neg hj]at ha
   exact r.src j d' b e a ha
 held:=r.held
 same:=r.same
theorem Qym(r:Rel K H0 A0 hs ρ F σ H)(ow:Qbg ρ M)(nd:M.Nodup)(a:Addr):((M.map F).flatten).count a<=1:=by
 induction M with
 | nil=>simp
 | cons i M ih=>
  rw[Zq,Zao,Zad]
  obtain⟨h1,h2⟩:=ZU.mp nd
  have ih':=ih (λj hj=>ow j (Zb _ hj)) h2
  obtain⟨d,e⟩:=ow i Zf
  obtain⟨_,nd1,_,apart,_⟩:=r.own i d e
  by_cases ha:a∈F i
  ·have c1:(F i).count a<=1:=Zae.mp nd1 a
   have c2:((M.map F).flatten).count a=0:=ZQ.mpr λhm=>by
    obtain⟨l,hl,hal⟩:=Zbc.mp hm
    obtain⟨j,hj,rfl⟩:=ZK.mp hl
    obtain⟨d',e'⟩:=ow j (Zb _ hj)
    exact apart j d' true (λz=>h1 (z▸hj)) e' a ha hal
   omega
  ·have:(F i).count a=0:=ZQ.mpr ha
   omega
theorem Q6.fresh(r:Rel K H0 A0 hs ρ F σ H)(p:Q6 K ρ F H H' rr v G)(hf:rr.fr=true)(nd:rr.M.Nodup):
  G.Nodup/\∀a∈G,H0 a=none/\(H a=none∨∃i d,i∈rr.M/\ρ[i]? =some (some (d,true))/\a∈F i):=by
 obtain⟨c,_⟩:=p.cnt hf
 refine⟨Zae.mpr λa=>?_,λa ha=>?_⟩
 ·have h1:=c a
  have h2:=Qym r p.own nd a
  cases q:H a with
  | none=>rw[QaS q,r.fl0 p.own q]at h1;omega
  | some o=>rw[Qdk q]at h1;omega
 ·cases q:H a with
  | none=>exact⟨r.same.free q,.inl rfl⟩
  | some o=>
   have h1:=c a
   rw[Qdk q]at h1
   have h2:0<G.count a:=Zas.mpr ha
   obtain⟨l,hl,hal⟩:=Zbc.mp (Zas.mp (by omega:0<((rr.M.map F).flatten).count a))
   obtain⟨i,hi,rfl⟩:=ZK.mp hl
   obtain⟨d,e⟩:=p.own i hi
   exact⟨(r.own i d e).2.2.1 a hal,.inr ⟨i,d,hi,e,hal⟩⟩
theorem Rel.QxU(r:Rel K H0 A0 hs ρ F σ H)(p:Q6 K ρ F H H' rr v G)(hf:rr.fr=true)(nd:rr.M.Nodup):
  Rel K H0 A0 hs ((kill rr.M ρ).set i (some (rr.d,true))) (λj=>if j=i then G else F j) (σ.set i (some v)) H':=by
 have r1:=(r.ext p.same).weak (QbD rr.M ρ)
 obtain⟨gn,gs⟩:=p.fresh r hf nd
 have gl:=(p.cnt hf).2
 have apart:∀(j:Nat) d b,(kill rr.M ρ)[j]? =some (some (d,b))->∀a∈G,a∉F j:=λj d b e a ha hj=>by
  obtain⟨b',e',_⟩:=(QbD rr.M ρ).2 j d b e
  rcases(gs a ha).2 with q | ⟨k,d',hk,ek,hak⟩
  ·obtain⟨vs,w⟩:=r.mem e' hj
   rw[q]at w;cases w
  ·have hjk:j≠k:=λz=>by subst z;exact QeZ rr.M ρ j d b hk e
   exact(r.own k d' ek).2.2.2.1 j d b' hjk e' a hak hj
 have apartH:∀t∈hs,∀a∈G,a∉t.2.2:=λt ht a ha hj=>by
  rcases(gs a ha).2 with q | ⟨k,d',hk,ek,hak⟩
  ·obtain⟨vs,w⟩:=(r.held t ht).1.mem a hj
   rw[q]at w;cases w
  ·exact(r.own k d' ek).2.2.2.2 t ht a hak hj
 have lt:∀{j:Nat}{x:Option (D×Bool)}{y:D×Bool},((kill rr.M ρ).set j x)[j]? =some (some y)->j<(kill rr.M ρ).length:=λ{j x y} e=>by
  by_cases hl:j<(kill rr.M ρ).length
  ·exact hl
  ·rw[Zw (by simp;omega)]at e;cases e
 refine⟨by simp[r1.len],λj d b e=>?_,λj d e=>?_,λj d b e a ha=>?_,r1.held,r1.same⟩
 ·by_cases hj:j=i
  ·subst hj
   have hl:=lt e
   rw[Zr hl]at e
   cases e
   exact⟨v,by rw[Zr (by rw[← r1.len];exact hl)],by rw[if_pos rfl];exact p.rp⟩
  ·rw[Zh (Ne.symm hj)]at e
   obtain⟨w,h1,h2⟩:=r1.val j d b e
   exact⟨w,by rw[Zh (Ne.symm hj)];exact h1,by rw[if_neg hj];exact h2⟩
 ·by_cases hj:j=i
  ·subst hj
   have hl:=lt e
   rw[Zr hl]at e
   cases e
   rw[if_pos rfl]
   refine⟨gl,gn,λa ha=>(gs a ha).1,λk d' b hk ek a ha=>?_,apartH⟩
   rw[Zh (Ne.symm hk)]at ek
   rw[if_neg hk]
   exact apart k d' b ek a ha
  ·rw[Zh (Ne.symm hj)]at e
   obtain⟨h1,h2,h3,h4,h5⟩:=r1.own j d e
   rw[if_neg hj]
   refine⟨h1,h2,h3,λk d' b hk ek a ha=>?_,h5⟩
   by_cases hki:k=i
   ·subst hki
    rw[if_pos rfl]
    exact λhG=>apart j d true e a hG ha
   ·rw[Zh (Ne.symm hki)]at ek
    rw[if_neg hki]
    exact h4 k d' b hk ek a ha
 ·by_cases hj:j=i
  ·subst hj
   rw[if_pos rfl]at ha
   exact .inl (gs a ha).1
  ·rw[Zh (Ne.symm hj)]at e
   rw[if_neg hj]at ha
   exact r1.src j d b e a ha
noncomputable def asg(i:Nat)(r:R)(ρ:En):En:=
 if r.norm.fr && decide r.norm.M.Nodup then(kill r.norm.M ρ).set i (some (r.d,true))else(QbE r.norm.M ρ).set i (some (r.d,r.d.flat))
theorem Rel.asg(r:Rel K H0 A0 hs ρ F σ H)(p:Q6 K ρ F H H' rr v G):∃F',Rel K H0 A0 hs (asg i rr ρ) F' (σ.set i (some v)) H':=by
 have p':=p.norm
 unfold HS.asg
 split
 ·rename_i h
  simp only[Zg,decide_eq_true_eq]at h
  have:=r.QxU (i:=i) p' h.1 h.2
  rw[rr.Qc6]at this
  exact⟨_,this⟩
 ·have r1:=(r.ext p'.same).weak (Qck rr.norm.M ρ)
  have rp:=p'.rp
  rw[rr.Qc6]at rp
  have sh:=Shr.of r p'.src
  exact⟨_,r1.Qo0 rp sh⟩
theorem Rel.hold(r:Rel K H0 A0 hs ρ F σ H)(h:∀t∈ts,Rp K H t.2.1 t.1 t.2.2/\Shr H0 A0 ρ F t.2.2):Rel K H0 A0 (ts++hs) ρ F σ H where
 len:=r.len
 val:=r.val
 own:=λi d e=>by
  obtain⟨h1,h2,h3,h4,h5⟩:=r.own i d e
  refine⟨h1,h2,h3,h4,λt ht a ha hm=>?_⟩
  rcases Zo.mp ht with z | z
  ·exact((h t z).2 a hm).2 i d e ha
  ·exact h5 t z a ha hm
 src:=r.src
 held:=λt ht=>by
  rcases Zo.mp ht with z | z
  ·exact⟨(h t z).1,λa ha=>((h t z).2 a ha).1⟩
  ·exact r.held t z
 same:=r.same
theorem Rel.Ql8(r:Rel K H0 A0 (ts++hs) ρ F σ H):Rel K H0 A0 hs ρ F σ H where
 len:=r.len
 val:=r.val
 own:=λi d e=>let ⟨h1,h2,h3,h4,h5⟩:=r.own i d e;⟨h1,h2,h3,h4,λt ht=>h5 t (Ze _ ht)⟩
 src:=r.src
 held:=λt ht=>r.held t (Ze _ ht)
 same:=r.same
end
structure Ret (K:PySem.W.Frag) (H0:Hp) (A0:List Addr) (d:D) (fr:Bool) (v:V) (H':Hp) (G:List Addr):Prop where
 same:QD H0 H'
 rp:Rp K H' d v G
 src:∀a∈G,H0 a=none∨a∈A0
 cnt:fr=true->G.Nodup/\G.length=d.nl/\∀a∈G,H0 a=none
noncomputable abbrev Den:=List D->Option (D×Bool)
noncomputable def spV(K:PySem.W.Frag)(n:Nat)(den:Den):Sp:=λvs H Q _=>∃ds F d fr,Rps K H ds vs F/\ds.length=n/\den ds=some (d,fr)/\∀v H' G,Ret K H F d fr v H' G->Q v H'
theorem Qke{K:PySem.W.Frag}{n:Nat}{den:Den}{ps:List Str}(hn:ps.length=n):∀vs H Q E,spV K n den vs H Q E->vs.length=ps.length:=λvs H Q E ⟨ds,F,d,fr,r,hl,_⟩=>by rw[hn,← hl,r.length]
noncomputable def Qx(n:Nat)(den:Den)(dfl:List D)(fs:DA):DE:=λρ=>(fs ρ).bind λr=>if r.ds.length+dfl.length=n then(den (r.ds++dfl)).map λq=>if q.2=true then⟨q.1,true,[]⟩else R.norm ⟨q.1,false,r.M⟩else none
section
variable {X:Cx}{e:Expr}{es:List Expr}{fs:DA}{pos p:Pos}{x:Str}{n k:Nat}{f:Addr}{fd:FuncData}{ps:List Str}{den:Den}{dfl:List D}{dvs:List V}{ds:List Value}
theorem Qkj{σ:L2.St}{H H0:Hp}{A0:List Addr}{Q:VK}(hdf:∀H,Rps X.K H dfl dvs []):tV X.K H0 A0 (Qx n den dfl fs) σ H Q->Qo1 (spV X.K n den) dvs E0 (tVA X.K H0 A0 fs) σ H Q:=exK λρ hs F r rel e q=>by
 refine Qf e λra e1 e=>?_
 split at e
 ·rename_i hl
  obtain⟨⟨d,fr⟩,e2,e⟩:=Zc.mp e
  refine⟨ρ,hs,F,ra,rel,e1,λvs H1 G p1=>⟨ra.ds++dfl,G++[],d,fr,p1.rp.append (hdf H1),by rw[Zp];exact hl,e2,λv H2 G2 rt=>?_⟩⟩
  subst e
  have src:Src ρ F H ra.M G2:=λa ha=>by
   rcases rt.src a ha with z | z
   ·exact .inl (p1.same.free z)
   ·rw[ZC]at z
    exact p1.src a z
  split at q
  ·rename_i hf
   have hf:fr=true:=hf
   obtain⟨nd,hn,fresh⟩:=rt.cnt hf
   have hH:∀a∈G2,H a=none:=λa ha=>p1.same.free (fresh a ha)
   refine q v H2 G2 ⟨p1.same.trans rt.same,rt.rp,λa ha=> .inl (hH a ha),λ_=>⟨λa=>?_,hn⟩,Qbg.nil⟩
   by_cases ha:a∈G2
   ·rw[QaS (hH a ha)];have:=Zae.mp nd a;omega
   ·rw[ZQ.mpr ha];exact ZZ _
  ·refine q v H2 G2 (Q6.norm ⟨p1.same.trans rt.same,rt.rp,src,λz=>(by cases z),p1.own⟩)
 ·cases e
theorem Quq(Fk:Qaq X.prog X.w X.K X.mg X.base CX0 k f fd ps (spV X.K n den))(hr:Qag k X.A)(hg:Gl X x)(hm:X.mg x=some (.ref f))(hk:PySem.W.keepIn X.K (.ref f)=true)(hb:Binds X.K fd ps ds)(hd:Qw dvs ds)(hdf:∀H,Rps X.K H dfl dvs [])
  (ha:SA X (e::es) fs) (hdb:(x == ("__debug__" :Str))=false) (he:starEach (e::es) X.env=(false,eval e X.env)::starEach es X.env) (hpl:(backTo pos (starEach es X.env)).any (·.1)=false):
  SE X (.Call (.Name x p) (e::es) [] pos) (Qx n den dfl fs):=λH0 A0=>
 (QjN Fk hr hg hm hk hb hd Qho (ha H0 A0) hdb he hpl).mono λσ H Q h=>Qkj hdf h
theorem QsY(Fk:Qaq X.prog X.w X.K X.mg X.base CX0 k f fd ps (spV X.K n den))(hr:Qag k X.A)(hg:Gl X x)(hm:X.mg x=some (.ref f))(hk:PySem.W.keepIn X.K (.ref f)=true)(hb:Binds X.K fd ps ds)(hd:Qw dvs ds)(hdf:∀H,Rps X.K H dfl dvs [])
  (hdb:(x == ("__debug__" :Str))=false):SE X (.Call (.Name x p) [] [] pos) (Qx n den dfl Qe):=λH0 A0=>
 (Qr6 Fk hr hg hm hk hb hd Qho hdb).mono λσ H Q h=>by
  have h':=Qkj hdf h
  obtain⟨ρ,hs,F,r,rel,e,q⟩:=h'
  cases e
  exact q [] H [] ⟨QD.refl _,by simp[Rps],Src.nil,λ_=>⟨Cnt.nil,rfl⟩,Qbg.nil⟩
end
structure IR where
 items:List D
 M:List Nat
noncomputable abbrev DI:=En->Option IR
def Qj1(K:PySem.W.Frag)(H:Hp)(ts:List (V×D×List Addr)):Prop:=∀t∈ts,Rp K H t.2.1 t.1 t.2.2
structure Walk (K:PySem.W.Frag) (J:It) (ts:List (V×D×List Addr)) (ds:List D):Prop where
 stop:∀H,Qj1 K H ts->J.stop ds.length H
 go:∀i H,i<ds.length->Qj1 K H ts->J.go i H
 yld:∀(i:Nat) d H x H',ds[i]? =some d->Qj1 K H ts->J.yld i H x H'->QD H H'/\∃G,Rp K H' d x G/\∀a∈G,∃t∈ts,a∈t.2.2
noncomputable def tI(K:PySem.W.Frag)(H0:Hp)(A0:List Addr)(f:DI):TI:=λσ H Rr=>∃ρ hs F ir,Rel K H0 A0 hs ρ F σ H/\f ρ=some ir∧
 ∀J H1 ts,QD H H1->Walk K J ts ir.items->(∀t∈ts,Rp K H1 t.2.1 t.1 t.2.2/\Src ρ F H ir.M t.2.2)->Qbg ρ ir.M->ir.items.length<=sizeLine->Rr J H1
def SI(X:Cx)(tg e:Expr)(f:DI):Prop:=∀H0 A0,PI X tg e (tI X.K H0 A0 f)
theorem _root_.L2.PI.mono(h:PI X tg e t)(m:∀σ H Q,t' σ H Q->t σ H Q):PI X tg e t':=λpins s σ H Q I q=>h pins s σ H Q I (m σ H Q q)
section
variable {X:Cx}{tg a b:Expr}{fa fb:DE}{fs:DA}{pos p:Pos}
theorem Rps.nth{K:PySem.W.Frag}{H:Hp}{ds:List D}{vs:List V}{F:List Addr}{i:Nat}{d:D}(h:Rps K H ds vs F)(e:ds[i]? =some d):∃v G,vs[i]? =some v/\Rp K H d v G/\∀a∈G,a∈F:=by
 obtain⟨v,F1,G,F2,h1,h2,h3,_⟩:=h.get e
 exact⟨v,G,h1,h3,λa ha=>by rw[h2];exact Ze _ (Zd _ ha)⟩
noncomputable def QzC(K:PySem.W.Frag)(tl:TE):TI:=λσ H Rr=>tl σ H λx H1=>(∃a,x= .ref a/\(∃xs,SqL K H1 a xs)/\Rr (Itl K a) H1)∨(∃a,x= .ref a/\(∃xs,SqT K H1 a xs)/\Rr (Itt K a) H1)
theorem QwZ(hl:PE X l tl):PI X tg l (QzC X.K tl):=by
 intro pins s σ H Rr I h
 refine thn (hl pins s σ H _ I h) λv s1=>exJ λx H1 I1 r1 q1=>?_
 rcases q1 with⟨a,e,⟨xs,hq⟩,q⟩ | ⟨a,e,⟨xs,hq⟩,q⟩
 ·subst e
  cases r1
  obtain⟨its,rv,pl,hz⟩:=I1.list hq
  refine wpAny_pyIter_list pl.isList ⟨s1.heap.objs.size,[s1.heap.objs.size],_,_,H1,rfl,I1.kept (t':=s1.toks) λb o e=>Zs _ e,QqV a _,⟨_,ZL _ rfl,rfl,rfl⟩,λb hb=>?_,q⟩
  have e:b=s1.heap.objs.size:=by simpa using hb
  subst e
  exact I1.Qmw (Zn _) (I1.hok.fresh (Zn _))
 ·subst e
  cases r1
  obtain⟨its,rv,pl,hz⟩:=I1.tuple hq
  refine wpAny_pyIter_tuple (show s1.heap.IsTuple a its.toArray from pl) ⟨s1.heap.objs.size,[s1.heap.objs.size],_,_,H1,rfl,I1.kept (t':=s1.toks) λb o e=>Zs _ e,QoS a _,⟨_,ZL _ rfl,rfl,rfl⟩,λb hb=>?_,q⟩
  have e:b=s1.heap.objs.size:=by simpa using hb
  subst e
  exact I1.Qmw (Zn _) (I1.hok.fresh (Zn _))
noncomputable def Qav(fa:DE):DI:=λρ=>(fa ρ).bind λr=>match r.d with
 | .lst xs=>some ⟨xs,r.M⟩
 | .tup xs=>if xs.length<=sizeLine then some ⟨xs,r.M⟩else none
 | _=>none
theorem Qqh{K:PySem.W.Frag}{c:Addr}{ds:List D}{G:List Addr}:Walk K (Itl K c) [(.ref c,.lst ds,G)] ds where
 stop:=λH h=>by
  obtain⟨l,vs,L,e,hl,rl,zl,el⟩:=(h _ (Zj.mpr rfl)).lst_inv
  cases e
  exact⟨vs,Qak hl,by rw[rl.length];exact Zn _⟩
 go:=λi H hi h=>by
  obtain⟨l,vs,L,e,hl,rl,zl,el⟩:=(h _ (Zj.mpr rfl)).lst_inv
  cases e
  have:i<vs.length:=by rw[← rl.length];exact hi
  exact⟨vs,vs[i],Qak hl,by simp[this]⟩
 yld:=λi d H x H' e h y=>by
  obtain⟨l,vs,L,e1,hl,rl,zl,el⟩:=(h _ (Zj.mpr rfl)).lst_inv
  cases e1
  obtain⟨rfl,y⟩:=y
  obtain⟨v,G',h1,h2,h3⟩:=rl.nth e
  have:=y vs (Qak hl)
  rw[h1]at this
  cases this
  refine⟨QD.refl _,G',h2,λz hz=>⟨_,Zj.mpr rfl,?_⟩⟩
  have:=h3 z hz
  rcases el with rfl | rfl
  ·exact Zb _ this
  ·exact this
theorem QrN{K:PySem.W.Frag}{c:Addr}{ds:List D}{G:List Addr}:Walk K (Itt K c) [(.ref c,.tup ds,G)] ds where
 stop:=λH h=>by
  obtain⟨l,vs,e,hl,rl⟩:=(h _ (Zj.mpr rfl)).Qa0
  cases e
  exact⟨vs,hl,by rw[rl.length];exact Zn _⟩
 go:=λi H hi h=>by
  obtain⟨l,vs,e,hl,rl⟩:=(h _ (Zj.mpr rfl)).Qa0
  cases e
  have:i<vs.length:=by rw[← rl.length];exact hi
  exact⟨vs,vs[i],hl,by simp[this]⟩
 yld:=λi d H x H' e h y=>by
  obtain⟨l,vs,e1,hl,rl⟩:=(h _ (Zj.mpr rfl)).Qa0
  cases e1
  obtain⟨rfl,y⟩:=y
  obtain⟨v,G',h1,h2,h3⟩:=rl.nth e
  have:=y vs hl
  rw[h1]at this
  cases this
  exact⟨QD.refl _,G',h2,λz hz=>⟨_,Zj.mpr rfl,h3 z hz⟩⟩
theorem QxO(ha:SE X a fa):SI X tg a (Qav fa):=λH0 A0=>
 (QwZ (ha H0 A0)).mono λσ H Rr=>exK λρ hs F ir rel e q=>by
 refine Qf e λr e1 e=>?_
 refine⟨ρ,hs,F,r,rel,e1,λv H1 G p=>?_⟩
 have rp:=p.rp
 cases hr:r.d with
 | lst xs=>
  rw[hr]at e rp
  cases e
  obtain⟨c,vs,L,rfl,hl,rl,zl,el⟩:=rp.lst_inv
  refine .inl ⟨c,rfl,⟨vs,Qak hl⟩,q _ H1 [(.ref c,.lst xs,G)] p.same Qqh (λt ht=>?_) p.own zl⟩
  rw[Zj.mp ht]
  exact⟨rp,p.src⟩
 | tup xs=>
  rw[hr]at e rp
  dsimp only at e
  split at e
  ·rename_i hz
   cases e
   obtain⟨c,vs,rfl,hl,rl⟩:=rp.Qa0
   refine .inr ⟨c,rfl,⟨vs,hl⟩,q _ H1 [(.ref c,.tup xs,G)] p.same QrN (λt ht=>?_) p.own hz⟩
   rw[Zj.mp ht]
   exact⟨rp,p.src⟩
  ·cases e
 | _=>rw[hr]at e;cases e
noncomputable def Qik(lo:Int)(n:Nat):List D:=(List.range n).map λ(k:Nat)=> .int (lo+(k:Int))
theorem Qh9:(Qik lo n).length=n:=by simp[Qik]
theorem Qrx(h:(Qik lo n)[i]? =some d):i<n/\d= .int (lo+i):=by
 unfold Qik at h
 rw[Zy]at h
 cases q:(List.range n)[i]? with
 | none=>rw[q]at h;cases h
 | some k=>
  rw[q]at h
  obtain⟨h1,h2⟩:=Zi.mp q
  simp at h1 h2
  subst h2
  exact⟨h1,(Option.some.inj h).symm⟩
theorem Qoq:Walk K (Itr lo n) [] (Qik lo n) where
 stop:=λH _=>by rw[Qh9];exact Zn _
 go:=λi H hi _=>by rw[Qh9]at hi;exact hi
 yld:=λi d H x H' e _ y=>by
  obtain⟨h1,rfl⟩:=Qrx e
  obtain⟨rfl,rfl⟩:=y
  exact⟨QD.refl _,[],.int_mk,λz hz=>by simp at hz⟩
noncomputable def QaY(fa:DE):DI:=λρ=>(fa ρ).bind λr=>match r.d with
 | .int j=>if j<=16777216/\ -(2^62)<=j then some ⟨Qik 0 j.toNat,[]⟩else none
 | _=>none
theorem Qvt:(sizeLine:Nat)=16777216:=sizeLine_eq
theorem Qp9(hg:Gl X "range")(hm:X.mg "range" =none)(ha:SE X a fa)(hs:starEach [a] X.env=[(false,eval a X.env)]):SI X tg (.Call (.Name "range" p) [a] [] pos) (QaY fa):=λH0 A0=>
 (QpS hg hm (Qbu (ha H0 A0) Qea hs) hs).mono λσ H Rr=>exK λρ hs F ir rel e q=>by
  refine Qf e λr e1 e=>?_
  refine⟨ρ,hs,F,r,rel,e1,λv H1 G pp=>?_⟩
  have rp:=pp.rp
  cases hr:r.d with
  | int j=>
   rw[hr]at e rp
   dsimp only at e
   split at e
   ·rename_i hz
    cases e
    rw[rp.int_inv]
    refine⟨j,rfl,hz.2,by omega,q _ H1 [] pp.same Qoq (λt ht=>by simp at ht) Qbg.nil ?_⟩
    rw[Qh9,Qvt];omega
   ·cases e
  | _=>rw[hr]at e;cases e
noncomputable def QdC(ds:List D):List D:=ds.zipIdx.map λq=> .tup [.int q.2,q.1]
theorem QgU:(QdC ds).length=ds.length:=by simp[QdC]
theorem Qql{ds:List D}{i:Nat}{d:D}(h:(QdC ds)[i]? =some d):∃e,ds[i]? =some e/\d= .tup [.int i,e]:=by
 unfold QdC at h
 rw[Zy,Zbh]at h
 cases q:ds[i]? with
 | none=>rw[q]at h;cases h
 | some e=>rw[q]at h;simp at h;exact⟨e,rfl,h.symm⟩
theorem QqE{K:PySem.W.Frag}{c:Addr}{ds:List D}{G:List Addr}:Walk K (Ite K c) [(.ref c,.lst ds,G)] (QdC ds) where
 stop:=λH h=>by
  obtain⟨l,vs,L,e,hl,rl,zl,el⟩:=(h _ (Zj.mpr rfl)).lst_inv
  cases e
  exact⟨vs,Qak hl,by rw[QgU,rl.length];exact Zn _⟩
 go:=λi H hi h=>by
  obtain⟨l,vs,L,e,hl,rl,zl,el⟩:=(h _ (Zj.mpr rfl)).lst_inv
  cases e
  rw[QgU]at hi
  have:i<vs.length:=by rw[← rl.length];exact hi
  exact⟨vs,vs[i],Qak hl,by simp[this]⟩
 yld:=λi d H x H' e h y=>by
  obtain⟨l,vs,L,e1,hl,rl,zl,el⟩:=(h _ (Zj.mpr rfl)).lst_inv
  cases e1
  obtain⟨d',e',rfl⟩:=Qql e
  obtain⟨pp,u,rfl,hp,rfl,y⟩:=y
  obtain⟨v,G',h1,h2,h3⟩:=rl.nth e'
  have:=y vs (Qak hl)
  rw[h1]at this
  cases this
  have s:=Qbc (o:= .tup [.int i,u]) hp
  refine⟨s,G',Rp.QmL Qao ?_,λz hz=>⟨_,Zj.mpr rfl,?_⟩⟩
  ·simp only[Rps]
   exact⟨.int i,[u],[],G',rfl,rfl,.int_mk,u,[],G',[],rfl,by simp,h2.same s,rfl,rfl⟩
  ·have:=h3 z hz
   rcases el with rfl | rfl
   ·exact Zb _ this
   ·exact this
noncomputable def Qd8(fa:DE):DI:=λρ=>(fa ρ).bind λr=>match r.d with
 | .lst xs=>some ⟨QdC xs,r.M⟩
 | _=>none
theorem Qt2(hg:Gl X "enumerate")(hm:X.mg "enumerate" =none)(ha:SE X a fa)(hs:starEach [a] X.env=[(false,eval a X.env)]):SI X (.Tuple es tk tpos) (.Call (.Name "enumerate" p) [a] [] pos) (Qd8 fa):=λH0 A0=>
 (Qu8 hg hm (Qbu (ha H0 A0) Qea hs) hs).mono λσ H Rr=>exK λρ hs F ir rel e q=>by
  refine Qf e λr e1 e=>?_
  refine⟨ρ,hs,F,r,rel,e1,λv H1 G pp=>?_⟩
  have rp:=pp.rp
  cases hr:r.d with
  | lst xs=>
   rw[hr]at e rp
   cases e
   obtain⟨c,vs,L,rfl,hl,rl,zl,el⟩:=rp.lst_inv
   refine⟨c,rfl,⟨vs,Qak hl⟩,q _ H1 [(.ref c,.lst xs,G)] pp.same QqE (λt ht=>?_) pp.own (by rw[QgU];exact zl)⟩
   rw[Zj.mp ht]
   exact⟨rp,pp.src⟩
  | _=>rw[hr]at e;cases e
noncomputable def QeI(xs ys:List D):List D:=(xs.zip ys).map λq=> .tup [q.1,q.2]
theorem Qh4:(QeI xs ys).length=min xs.length ys.length:=by simp[QeI]
theorem Qsl{xs ys:List D}{i:Nat}{d:D}(h:(QeI xs ys)[i]? =some d):∃e f,xs[i]? =some e/\ys[i]? =some f/\d= .tup [e,f]:=by
 unfold QeI at h
 rw[Zy]at h
 cases q:(xs.zip ys)[i]? with
 | none=>rw[q]at h;cases h
 | some e=>
  rw[q]at h
  obtain⟨h1,h2⟩:=List.getElem?_zip_eq_some.mp q
  exact⟨e.1,e.2,h1,h2,(Option.some.inj h).symm⟩
theorem QrP{K:PySem.W.Frag}{c c':Addr}{xs ys:List D}{G G':List Addr}:Walk K (Itz K c c') [(.ref c,.lst xs,G),(.ref c',.lst ys,G')] (QeI xs ys) where
 stop:=λH h=>by
  obtain⟨l,vs,L,e,hl,rl,zl,el⟩:=(h _ (Zf)).lst_inv
  obtain⟨l',vs',L',e',hl',rl',zl',el'⟩:=(h _ (Zb _ Zf)).lst_inv
  cases e
  cases e'
  refine⟨vs,vs',Qak hl,Qak hl',?_⟩
  rw[Qh4,← rl.length,← rl'.length];omega
 go:=λi H hi h=>by
  obtain⟨l,vs,L,e,hl,rl,zl,el⟩:=(h _ (Zf)).lst_inv
  obtain⟨l',vs',L',e',hl',rl',zl',el'⟩:=(h _ (Zb _ Zf)).lst_inv
  cases e
  cases e'
  rw[Qh4]at hi
  have h1:i<vs.length:=by rw[← rl.length];omega
  have h2:i<vs'.length:=by rw[← rl'.length];omega
  exact⟨vs,vs',vs[i],vs'[i],Qak hl,Qak hl',by simp[h1],by simp[h2]⟩
 yld:=λi d H x H' e h y=>by
  obtain⟨l,vs,L,e1,hl,rl,zl,el⟩:=(h _ (Zf)).lst_inv
  obtain⟨l',vs',L',e1',hl',rl',zl',el'⟩:=(h _ (Zb _ Zf)).lst_inv
  cases e1
  cases e1'
  obtain⟨d1,d2,ea,eb,rfl⟩:=Qsl e
  obtain⟨pp,u,u',rfl,hp,rfl,y,y'⟩:=y
  obtain⟨v,G1,h1,h2,h3⟩:=rl.nth ea
  obtain⟨v',G2,h1',h2',h3'⟩:=rl'.nth eb
  have:=y vs (Qak hl)
  rw[h1]at this
  cases this
  have:=y' vs' (Qak hl')
  rw[h1']at this
  cases this
  have s:=Qbc (o:= .tup [u,u']) hp
  refine⟨s,G1++G2,Rp.QmL Qao ?_,λz hz=>?_⟩
  ·simp only[Rps]
   exact⟨u,[u'],G1,G2,rfl,rfl,h2.same s,u',[],G2,[],rfl,by simp,h2'.same s,rfl,rfl⟩
  ·rcases Zo.mp hz with hz | hz
   ·refine⟨_,Zf,?_⟩
    have:=h3 z hz
    rcases el with rfl | rfl
    ·exact Zb _ this
    ·exact this
   ·refine⟨_,Zb _ Zf,?_⟩
    have:=h3' z hz
    rcases el' with rfl | rfl
    ·exact Zb _ this
    ·exact this
noncomputable def Qb2(fa fb:DE):DI:=λρ=>(fa ρ).bind λr=>(fb ρ).bind λr'=>match r.d,r'.d with
 | .lst xs,.lst ys=>some ⟨QeI xs ys,r.M++r'.M⟩
 | _,_=>none
theorem QvV(hg:Gl X "zip")(hm:X.mg "zip" =none)(ha:SE X a fa)(hb:SE X b fb)(hs:starEach [a,b] X.env=[(false,eval a X.env),(false,eval b X.env)])(hs2:starEach [b] X.env=[(false,eval b X.env)]):
  SI X (.Tuple es tk tpos) (.Call (.Name "zip" p) [a,b] [] pos) (Qb2 fa fb):=λH0 A0=>
 (Qxd hg hm (Qbu (ha H0 A0) (Qbu (hb H0 A0) Qea hs2) (by rw[hs,hs2])) hs hs2).mono λσ H Rr=>exK λρ hs F ir rel e q=>by
  refine Qf e λr e1 e=>?_
  refine Qf e λr' e2 e=>?_
  refine⟨ρ,hs,F,r,rel,e1,λv H1 G pp=>⟨ρ,hs,F,r',rel.ext pp.same,e2,λv' H2 G' pp'=>?_⟩⟩
  have rp:=pp.rp.same pp'.same
  have rp':=pp'.rp
  cases hr:r.d with
  | lst xs=>
   cases hr':r'.d with
   | lst ys=>
    rw[hr,hr']at e
    rw[hr]at rp
    rw[hr']at rp'
    cases e
    obtain⟨c,vs,L,rfl,hl,rl,zl,el⟩:=rp.lst_inv
    obtain⟨c',vs',L',rfl,hl',rl',zl',el'⟩:=rp'.lst_inv
    refine⟨c,c',rfl,⟨vs,Qak hl⟩,⟨vs',Qak hl'⟩,q _ H2 [(.ref c,.lst xs,G),(.ref c',.lst ys,G')] (pp.same.trans pp'.same) QrP (λt ht=>?_) (pp.own.append pp'.own) (by rw[Qh4];omega)⟩
    have sa:=pp.src.append pp'.src pp.same
    rcases Zl.mp ht with rfl | ht
    ·exact⟨rp,λz hz=>sa z (Zd _ hz)⟩
    ·rw[Zj.mp ht]
     exact⟨rp',λz hz=>sa z (Ze _ hz)⟩
   | _=>rw[hr,hr']at e;cases e
  | _=>rw[hr]at e;cases e
end
end HS
namespace HS
open PySem L2
section
end
end HS
namespace HS
open PySem PySem.Spec L2
inductive Tg where
 | nm (i:Nat)
 | tp (is:List Nat)
noncomputable def Tg.slots:Tg->List Nat
 | .nm i=>[i]
 | .tp is=>is
noncomputable def Qdw:List Nat->List D->En->En
 | i::is,d::ds,ρ=>Qdw is ds (ρ.set i (some (d,d.flat)))
 | _,_,ρ=>ρ
noncomputable def Qbh:Tg->D->En->Option En
 | .nm i,d,ρ=>some (ρ.set i (some (d,d.flat)))
 | .tp is,.tup xs,ρ=>if xs.length=is.length then some (Qdw is xs ρ)else none
 | .tp is,.lst xs,ρ=>if xs.length=is.length then some (Qdw is xs ρ)else none
 | .tp _,_,_=>none
noncomputable def tG(K:PySem.W.Frag)(H0:Hp)(A0:List Addr)(t:Tg):TG:=λv σ H Q=>∃ρ hs F d G ρ',Rel K H0 A0 hs ρ F σ H/\Rp K H d v G/\Shr H0 A0 ρ F G/\Qbh t d ρ=some ρ'∧
 ∀σ' F',Rel K H0 A0 hs ρ' F' σ' H->(∀j,j∉t.slots->σ'[j]? =σ[j]?)->(∀j a,a∈F' j->a∈F j∨a∈G)->Q σ' H
def SG(X:Cx)(tg:Expr)(t:Tg):Prop:=∀H0 A0,PG X tg (tG X.K H0 A0 t)
theorem _root_.L2.PG.mono{X:Cx}{tg:Expr}{t t':TG}(h:PG X tg t)(m:∀v σ H Q,t' v σ H Q->t v σ H Q):PG X tg t':=λpins s σ H v u Q I r q=>h pins s σ H v u Q I r (m v σ H Q q)
noncomputable def QiQ:List Nat->TGs
 | []=>QwE
 | i::is=>Qtw (Qhe i) (QiQ is)
theorem Shr.set{H0:Hp}{A0:List Addr}{ρ:En}{F:Nat->List Addr}{G G1:List Addr}{i:Nat}{d:D}(h:Shr H0 A0 ρ F G)(hf:d.flat=true->G1=[]):Shr H0 A0 (ρ.set i (some (d,d.flat))) (λj=>if j=i then G1 else F j) G:=λa ha=>by
 refine⟨(h a ha).1,λj d' e=>?_⟩
 by_cases hj:j=i
 ·subst hj
  show ¬a∈(if j=j then G1 else F j)
  rw[if_pos rfl]
  have hl:j<ρ.length:=by
   by_cases hl:j<ρ.length
   ·exact hl
   ·rw[Zw (by simp;omega)]at e;cases e
  rw[Zr hl]at e
  have e1:=Option.some.inj (Option.some.inj e)
  rw[hf (congrArg Prod.snd e1)]
  simp
 ·rw[Zh (Ne.symm hj)]at e
  show ¬a∈(if j=i then G1 else F j)
  rw[if_neg hj]
  exact(h a ha).2 j d' e
theorem Qio{K:PySem.W.Frag}{H0:Hp}{A0:List Addr}{hs:List (V×D×List Addr)}:∀(is:List Nat) (ds:List D) (vs:List V) (ρ:En) (F:Nat->List Addr) (σ:L2.St) (H:Hp) (G:List Addr) (Q:L2.St->Hp->Prop),
  Rel K H0 A0 hs ρ F σ H->Rps K H ds vs G->Shr H0 A0 ρ F G->ds.length=is.length→
  (∀σ' F',Rel K H0 A0 hs (Qdw is ds ρ) F' σ' H->(∀j,j∉is->σ'[j]? =σ[j]?)->(∀j a,a∈F' j->a∈F j∨a∈G)->Q σ' H)->QiQ is vs σ H Q
 | [],ds,vs,ρ,F,σ,H,G,Q,rel,rp,sh,hl,q=>by
  have:ds=[]:=by simpa using hl
  subst this
  simp only[Rps]at rp
  exact⟨rp.1,q σ F rel (λ_ _=>rfl) λ_ _ h=> .inl h⟩
 | i::is,[],vs,ρ,F,σ,H,G,Q,rel,rp,sh,hl,q=>by simp at hl
 | i::is,d::ds,vs,ρ,F,σ,H,G,Q,rel,rp,sh,hl,q=>by
  simp only[Rps]at rp
  obtain⟨v,ws,G1,G2,rfl,rfl,r1,r2⟩:=rp
  refine⟨v,ws,rfl,?_⟩
  have sh1:Shr H0 A0 ρ F G1:=λa ha=>sh a (Zd _ ha)
  have sh2:Shr H0 A0 ρ F G2:=λa ha=>sh a (Ze _ ha)
  refine Qio is ds ws _ _ _ H G2 Q (rel.Qo0 r1 sh1) r2 (sh2.set r1.QbF) (by simpa using hl) λσ' F' rel' k m=>q σ' F' rel' (λj hj=>?_) λj a ha=>?_
  ·have h1:j≠i:=λz=>hj (by rw[z];exact Zf)
   rw[k j λz=>hj (Zb _ z),Zh (Ne.symm h1)]
  ·rcases m j a ha with z | z
   ·by_cases hj:j=i
    ·rw[if_pos hj]at z;exact .inr (Zd _ z)
    ·rw[if_neg hj]at z;exact .inl z
   ·exact .inr (Ze _ z)
section
variable {X:Cx}{tg:Expr}{pos:Pos}
theorem Qu5{i:Nat}{x:Str}(h:PG X (.Name x pos) (Qhe i)):SG X (.Name x pos) (.nm i):=λH0 A0=>h.mono λv σ H Q hpt=>by
 obtain⟨ρ,hs,F,d,G,ρ',rel,rp,sh,e,q⟩:=hpt
 cases e
 refine q _ _ (rel.Qo0 rp sh) (λj hj=>?_) λj a ha=>?_
 ·have:j≠i:=λz=>hj (by simp[Tg.slots,z])
  rw[Zh (Ne.symm this)]
 ·by_cases hj:j=i
  ·rw[if_pos hj]at ha;exact .inr ha
  ·rw[if_neg hj]at ha;exact .inl ha
theorem QtW{es:List Expr}{k:Nat}{t:TGs}{n:Nat}(hc:X.calm=true)(h:PGs X es t)
  (hn:(assignEach es X.env).length=n) (hst:(assignEach es X.env).findIdx? (·.1)=none):PG X (.Tuple es k pos) (λv σ H Q=>∃a xs,v= .ref a/\SqL X.K H a xs/\xs.length=n/\t xs σ H Q):=by
 intro pins s σ H v u Q I r hw
 obtain⟨a,xs,e1,hq,hl,hw⟩:=hw
 subst e1
 cases r
 obtain⟨its,rv,ht,hz⟩:=I.list hq
 rw[PyProof.Rows.assign_Tuple]
 refine wpAny_bind (wpAny_standAt ?_)
 unfold unpack
 rw[hn,hst,show n=its.toArray.size by simp[← hl,rv.length]]
 refine wpAny_bind (wpAny_holding (PySem.W.kun_itemsOf (I.ok.hd hc) ht.isList λh' hx=>?_))
 have I1:Inv X pins σ H {s with heap:=h'}:=I.kept (t':=s.toks) λb o e=>hx b o (ZN (Zv e)) e
 exact h pins _ σ H xs _ Q I1 (by simpa using rv) hw
theorem QvW{es:List Expr}{k:Nat}{is:List Nat}(hc:X.calm=true)(h:PGs X es (QiQ is))(hn:(assignEach es X.env).length=is.length)(hst:(assignEach es X.env).findIdx? (·.1)=none):SG X (.Tuple es k pos) (.tp is):=λH0 A0=>
 λpins s σ H v u Q I r hpt=>by
  obtain⟨ρ,hs,F,d,G,ρ',rel,rp,sh,e,q⟩:=hpt
  cases d with
  | tup xs=>
   simp only[Qbh]at e
   split at e
   ·rename_i hl
    cases e
    obtain⟨a,vs,rfl,hq,rs⟩:=rp.Qa0
    exact QwL hc h hn hst pins s σ H _ u Q I r ⟨a,vs,rfl,hq,by rw[← rs.length];exact hl,Qio is xs vs ρ F σ H G Q rel rs sh hl q⟩
   ·cases e
  | lst xs=>
   simp only[Qbh]at e
   split at e
   ·rename_i hl
    cases e
    obtain⟨a,vs,L,rfl,hq,rs,_,eG⟩:=rp.lst_inv
    have sub:∀b∈L,b∈G:=λb hb=>by
     rcases eG with rfl | rfl
     ·exact Zb _ hb
     ·exact hb
    exact QtW hc h hn hst pins s σ H _ u Q I r ⟨a,vs,rfl,Qak hq,by rw[← rs.length];exact hl,Qio is xs vs ρ F σ H L Q rel rs (λb hb=>sh b (sub b hb)) hl λσ' F' rel' k m=>q σ' F' rel' k λj b hb=>(m j b hb).imp id (sub b)⟩
   ·cases e
  | _=>simp only[Qbh]at e;cases e
end
noncomputable def Qdb(cap:List (Option Nat))(ρ:En):En:=cap.map λo=>o.bind λi=>match ρ[i]? with
 | some (some (d,_))=>some (d,d.flat)
 | _=>none
noncomputable def QoY(cap:List (Option Nat))(ρ:En):List Nat:=cap.filterMap λo=>o.bind λi=>match ρ[i]? with
 | some (some (d,b))=>if b && !d.flat then some i else none
 | _=>none
noncomputable def Qe0(t:Tg)(ft:DT)(fe:DE)(ρc:En)(acc:List D×Bool)(d:D):Option (List D×Bool):=
 (Qbh t d ρc).bind λρ1=>(ft ρ1).bind λc=>if c=true then(fe ρ1).map λr=>(acc.1++[r.d],acc.2 && r.norm.fr)else some acc
noncomputable def Q7(fi:DI)(t:Tg)(cap:List (Option Nat))(ft:DT)(fe:DE):DE:=λρ=>(fi ρ).bind λir=>
 (ir.items.foldlM (Qe0 t ft fe (Qdb cap ρ)) ([],true)).map λq=>if q.2=true then⟨.lst q.1,true,[]⟩else⟨.lst q.1,false,ir.M++QoY cap ρ⟩
def QcH(ρ:En):Prop:=∀(j:Nat) d,ρ[j]? =some (some (d,true))->d.flat=true
theorem QcH.set{ρ:En}(h:QcH ρ)(i:Nat)(d:D):QcH (ρ.set i (some (d,d.flat))):=λj d' e=>by
 by_cases hj:j=i
 ·subst hj
  have hl:j<ρ.length:=by
   by_cases hl:j<ρ.length
   ·exact hl
   ·rw[Zw (by simp;omega)]at e;cases e
  rw[Zr hl]at e
  have e1:=Option.some.inj (Option.some.inj e)
  have h1:d=d':=congrArg Prod.fst e1
  have h2:d.flat=true:=congrArg Prod.snd e1
  rw[← h1];exact h2
 ·rw[Zh (Ne.symm hj)]at e
  exact h j d' e
theorem QcH.Qdw:∀(is:List Nat) (ds:List D) {ρ:En},QcH ρ->QcH (Qdw is ds ρ)
 | [],_,_,h=>h
 | _::_,[],_,h=>h
 | i::is,d::ds,_,h=>QcH.Qdw is ds (h.set i d)
theorem QcH.bind{t:Tg}{d:D}{ρ ρ':En}(h:QcH ρ)(e:Qbh t d ρ=some ρ'):QcH ρ':=by
 cases t with
 | nm i=>cases e;exact h.set i d
 | tp is=>
  cases d with
  | tup xs=>
   simp only[Qbh]at e
   split at e
   ·cases e;exact h.Qdw is xs
   ·cases e
  | lst xs=>
   simp only[Qbh]at e
   split at e
   ·cases e;exact h.Qdw is xs
   ·cases e
  | _=>simp only[Qbh]at e;cases e
theorem Qip(cap:List (Option Nat))(ρ:En):QcH (Qdb cap ρ):=λj d e=>by
 unfold Qdb at e
 rw[Zy]at e
 cases q:cap[j]? with
 | none=>rw[q]at e;cases e
 | some o=>
  rw[q]at e
  cases o with
  | none=>cases e
  | some i=>
   simp only[ZX,Za,Option.some.injEq]at e
   split at e
   ·have e1:=Option.some.inj e
    have h1:=congrArg Prod.fst e1
    have h2:=congrArg Prod.snd e1
    dsimp only at h1 h2
    rw[← h1];exact h2
   ·cases e
theorem Qko{cap:List (Option Nat)}{ρ:En}{j:Nat}{d:D}{b:Bool}(e:(Qdb cap ρ)[j]? =some (some (d,b))):∃i b',cap[j]? =some (some i)/\ρ[i]? =some (some (d,b')):=by
 unfold Qdb at e
 rw[Zy]at e
 cases q:cap[j]? with
 | none=>rw[q]at e;cases e
 | some o=>
  rw[q]at e
  cases o with
  | none=>cases e
  | some i=>
   simp only[ZX,Za,Option.some.injEq]at e
   split at e
   ·rename_i d' b' hi
    have e1:=Option.some.inj e
    have h1:d'=d:=congrArg Prod.fst e1
    subst h1
    exact⟨i,b',rfl,hi⟩
   ·cases e
def Qmi(X:Cx)(ifs:List Expr)(f:DT):Prop:=∀H0 A0,PTs X ifs (tVT X.K H0 A0 f)
noncomputable def QaN:DT:=λ_=>some true
theorem QsN{X:Cx}:Qmi X [] QaN:=λH0 A0 pins s σ H Q I=>exK λρ hs F b rel e q=>by
 cases e
 exact QvB pins s σ H Q I (q H (QD.refl _))
theorem Qr4{X:Cx}{c:Expr}{f:DT}(h:ST X c f):Qmi X [c] f:=λH0 A0=>QvI (h H0 A0)
structure Qli (X:Cx) (N':List Str) (scope:Scope) (cap:List (Option Nat)) (tgs:List Nat):Prop where
 len:cap.length=N'.length
 get:∀(j i:Nat),cap[j]? =some (some i)->∃x,N'[j]? =some x/\scope.names.lookup x=some .free/\X.N[i]? =some x/\(X.env.kindOf x=some .cell∨X.env.kindOf x=some .free)
 apart:∀(j i:Nat),cap[j]? =some (some i)->j∉tgs
theorem join_some{α:Type}{o:Option (Option α)}{v:α}(h:o.join=some v):o=some (some v):=by
 cases o with
 | none=>cases h
 | some p=>cases p with
  | none=>cases h
  | some x=>exact h▸rfl
theorem QkF{X:Cx}{N':List Str}{scope:Scope}{fi:DI}{t:Tg}{cap:List (Option Nat)}{ft:DT}{fe:DE}{H0:Hp}{A0:List Addr}{σ:L2.St}{H:Hp}{Q:VK}(hc:Qli X N' scope cap t.slots):
  tV X.K H0 A0 (Q7 fi t cap ft fe) σ H Q->Qk9 (tI X.K H0 A0 fi) (Qiv X N' scope) (tG X.K (λ_=>none) [] t) (tVT X.K (λ_=>none) [] ft) (tV X.K (λ_=>none) [] fe) σ H Q:=exK λρ hs F r rel e q=>by
 refine Qf e λir e1 e=>?_
 obtain⟨⟨xs,f⟩,ef,e⟩:=Zc.mp e
 subst e
 refine⟨ρ,hs,F,ir,rel,e1,λJ H1 ts s1 wk hts ow hz=>?_⟩
 refine⟨cap.map λo=>o.bind λi=>σ[i]?.join,⟨by simp[hc.len],λj x v hN hv=>?_⟩,λDl hD=>?_⟩
 ·rw[Zy]at hv
  cases qc:cap[j]? with
  | none=>rw[qc]at hv;cases hv
  | some o=>
   rw[qc]at hv
   cases o with
   | none=>cases hv
   | some i=>
    simp only[ZX,Za,Option.some.injEq]at hv
    obtain⟨y,h1,h2,h3,h4⟩:=hc.get j i qc
    rw[hN]at h1;cases h1
    exact⟨h2,i,h3,join_some hv,h4⟩
 generalize hσc:(cap.map λo=>o.bind λi=>σ[i]?.join)=σc
 generalize hρc:Qdb cap ρ=ρc at ef
 have hF0:∃Fc:Nat->List Addr,Fc=λj=>match cap[j]? with
  | some (some i)=>(match ρ[i]? with
   | some (some _)=>F i
   | _=>[])
  | _=>[]:=⟨_,rfl⟩
 obtain⟨Fc,hFc⟩:=hF0
 have rel1:=rel.ext s1
 have relC:∀H2,QD H1 H2->Rel X.K (λ_=>none) [] [] ρc Fc σc H2:=λH2 s2=>by
  refine⟨by rw[← hρc,← hσc];simp[Qdb],λj d b e=>?_,λj d e=>?_,λj d b e a ha=> .inl rfl,λt ht=>(by simp at ht),λb o z=>(by cases z)⟩
  ·rw[← hρc]at e
   obtain⟨i,b',h1,h2⟩:=Qko e
   obtain⟨v,h3,h4⟩:=(rel1.ext s2).val i d b' h2
   refine⟨v,?_,?_⟩
   ·rw[← hσc,Zy,h1]
    simp only[ZX,Za,h3,Option.join_some]
   ·rw[hFc];simp only[h1,h2];exact h4
  ·have hf:d.flat=true:=Qip cap ρ j d (by rw[hρc];exact e)
   have:Fc j=[]:=by
    rw[← hρc]at e
    obtain⟨i,b',h1,h2⟩:=Qko e
    obtain⟨v,h3,h4⟩:=rel1.val i d b' h2
    rw[hFc];simp only[h1,h2];exact h4.QbF hf
   rw[this]
   exact⟨(Qdm d hf).symm,Zap,λa ha=>(by simp at ha),λ_ _ _ _ _ a ha=>(by simp at ha),λt ht=>(by simp at ht)⟩
 have shC:∀G,Shr (λ_=>none) [] ρc Fc G:=λG a ha=>⟨.inl rfl,λj d e hj=>by
  have h0:=(relC H1 (QD.refl _)).own j d e
  have hf:d.flat=true:=Qip cap ρ j d (by rw[hρc];exact e)
  have:(Fc j).length=0:=by rw[h0.1,Qdm d hf]
  rw[ZaQ this]at hj
  simp at hj⟩
 have hSh:QcH ρc:=by rw[← hρc];exact Qip cap ρ
 have heldOf:∀H2,QD H1 H2->Qj1 X.K H2 ts:=λH2 s2 t ht=>(hts t ht).1.same s2
 have oldOf:∀a,((∃t∈ts,a∈t.2.2)∨∃j,a∈Fc j)->(∃u,H1 a=some u)/\(H a=none∨∃(i:Nat) (d:D) (b:Bool),ρ[i]? =some (some (d,b))/\a∈F i/\(b=true->i∈ir.M++QoY cap ρ)):=λa ha=>by
  rcases ha with⟨t,ht,ha⟩ | ⟨j,ha⟩
  ·refine⟨(hts t ht).1.mem a ha,?_⟩
   rcases(hts t ht).2 a ha with z | ⟨i,d,b,e,m,w⟩
   ·exact .inl z
   ·exact .inr ⟨i,d,b,e,m,λhb=>Zd _ (w hb)⟩
  ·have ha0:=ha
   rw[hFc]at ha
   dsimp only at ha
   split at ha
   ·rename_i i hi
    split at ha
    ·rename_i db hdb
     obtain⟨d,b⟩:=db
     obtain⟨v,h3,h4⟩:=rel1.val i d b hdb
     refine⟨h4.mem a ha,.inr ⟨i,d,b,hdb,ha,λhb=>Ze _ ?_⟩⟩
     unfold QoY
     refine ZaR.mpr ⟨some i,Zac hi,?_⟩
     simp only[Za,hdb]
     have hnf:d.flat=false:=by
      cases hf:d.flat with
      | false=>rfl
      | true=>rw[h4.QbF hf]at ha;simp at ha
     rw[hb,hnf];rfl
    ·simp at ha
   ·simp at ha
 have fresh5:∀H2,QD H1 H2->∀a,H2 a=none->H1 a=none:=λH2 s2 a h=>s2.free h
 refine⟨λi m acc H2=>m=ir.items.length-i/\i<=ir.items.length/\QD H1 H2/\H2 Dl=some (.lst acc)/\∃(ys:List D) (g:Bool) (G:List Addr),(ir.items.drop i).foldlM (Qe0 t ft fe ρc) (ys,g)=some (xs,f)/\Rps X.K H2 ys acc G/\ys.length<=i∧
  (∀a∈G,a≠Dl/\(H1 a=none∨(∃t∈ts,a∈t.2.2)∨∃j,a∈Fc j))/\(g=true->G.length=nls ys/\∀a,G.count a<=nw H1 a),⟨ir.items.length,rfl,ZZ _,Qbc hD,Qao,[],true,[],by simpa using ef,by simp[Rps],Zn _,λa ha=>(by simp at ha),λ_=>⟨rfl,λa=>by simp⟩⟩,?_⟩
 rintro i m acc H2 ⟨rfl,hi,s2,eD,ys,g,G,hfold,rps,hlen,hG,hcnt⟩
 by_cases hlt:i<ir.items.length
 ·refine .inr ⟨wk.go i H2 hlt (heldOf H2 s2),λx H3 hy=>?_⟩
  obtain⟨s3,G0,rp0,hG0⟩:=wk.yld i ir.items[i] H2 x H3 (by simp[hlt]) (heldOf H2 s2) hy
  rw[ZV hlt,ZbG]at hfold
  refine Qf hfold λacc1 hstep hrest=>?_
  unfold Qe0 at hstep
  refine Qf hstep λρ1 eb hstep=>?_
  refine Qf hstep λc ec hstep=>?_
  have sh1:QcH ρ1:=hSh.bind eb
  refine⟨ρc,[],Fc,ir.items[i],G0,ρ1,relC H3 (s2.trans s3),rp0,shC G0,eb,λσ2 F2 rel2 keep mem2=>⟨λj v hv=>?_,ρ1,[],F2,c,rel2,ec,λH5 s5=>?_⟩⟩
  ·have hj:j∉t.slots:=λhj=>by
    rw[← hσc,Zy]at hv
    cases qc:cap[j]? with
    | none=>rw[qc]at hv;cases hv
    | some o=>
     cases o with
     | none=>rw[qc]at hv;cases hv
     | some k=>exact hc.apart j k qc hj
   rw[keep j hj];exact hv
  have s15:QD H1 H5:=(s2.trans s3).trans s5
  have eD5:H5 Dl=some (.lst acc):=s5 _ _ (s3 _ _ eD)
  cases c with
  | false=>
   rw[if_neg ZJ]at hstep
   refine Qoi ?_
   cases hstep
   exact⟨_,by omega,rfl,hlt,s15,eD5,ys,g,G,hrest,rps.same (s3.trans s5),by omega,hG,hcnt⟩
  | true=>
   rw[if_pos rfl]at hstep
   refine Qpc ?_
   obtain⟨rr,er,hstep⟩:=Zc.mp hstep
   subst hstep
   refine⟨ρ1,[],F2,rr,rel2.ext s5,er,λy H6 Ge pe=>?_⟩
   have eD6:H6 Dl=some (.lst acc):=pe.same _ _ eD5
   have s16:=s15.trans pe.same
   refine⟨eD6,?_,_,by omega,rfl,hlt,?_⟩
   ·rw[← rps.length];exact Nat.lt_of_le_of_lt hlen (Zu hlt hz)
   have hGe:∀a∈Ge,a≠Dl/\(H1 a=none∨(∃t∈ts,a∈t.2.2)∨∃j,a∈Fc j):=λa ha=>by
    rcases pe.src a ha with z | ⟨j,d,b,ej,hj,_⟩
    ·exact⟨λw=>(by rw[w,eD5]at z;cases z),.inl (s15.free z)⟩
    ·have h1:(∃t∈ts,a∈t.2.2)∨∃j,a∈Fc j:=by
      rcases mem2 j a hj with w | w
      ·exact .inr ⟨j,w⟩
      ·exact .inl (hG0 a w)
     obtain⟨⟨vs,w⟩,_⟩:=oldOf a h1
     exact⟨λw'=>(by rw[w',hD]at w;cases w),.inr h1⟩
   have nD:Dl∉G:=λh=>(hG _ h).1 rfl
   have nDe:Dl∉Ge:=λh=>(hGe _ h).1 rfl
   have sU:QD H1 (L2.upd H6 Dl (.lst (acc++[y]))):=λb o hb=>by rw[QF (QbC hb hD)];exact s16 b o hb
   refine⟨sU,Qao,ys++[rr.d],g && rr.norm.fr,G++Ge,hrest,?_,by rw[Zp,ZaT];omega,λa ha=>?_,λhg=>?_⟩
   ·refine Rps.append ((rps.same ((s3.trans s5).trans pe.same)).upd eD6 nD) ?_
    simp only[Rps]
    exact⟨y,[],Ge,[],rfl,by simp,pe.rp.upd eD6 nDe,rfl,rfl⟩
   ·rcases Zo.mp ha with h | h
    ·exact hG a h
    ·exact hGe a h
   ·simp only[Zg]at hg
    obtain⟨l1,c1⟩:=hcnt hg.1
    have pn:=pe.norm
    obtain⟨c2,l2⟩:=pn.cnt hg.2
    rw[rr.Qc6]at l2
    have nlapp:∀(as bs:List D),nls (as++bs)=nls as+nls bs:=λas bs=>by
     induction as with
     | nil=>simp[nls]
     | cons a as ih=>simp only[ZbF,nls,ih];omega
    refine⟨by rw[Zp,l1,l2,nlapp];simp[nls],λa=>?_⟩
    have fl:((rr.norm.M.map F2).flatten).count a=0:=by
     rw[ZQ]
     intro hm
     obtain⟨l,hl,hal⟩:=Zbc.mp hm
     obtain⟨j,hj,rfl⟩:=ZK.mp hl
     obtain⟨d,ej⟩:=pn.own j hj
     have hf:=sh1 j d ej
     obtain⟨v,_,rv⟩:=rel2.val j d true ej
     rw[rv.QbF hf]at hal
     simp at hal
    have h1:=c1 a
    have h2:=c2 a
    rw[fl]at h2
    rw[Zad]
    cases q5:H5 a with
    | some o=>rw[Qdk q5]at h2;omega
    | none=>
     rw[QaS q5]at h2
     have h0:G.count a=0:=ZQ.mpr λhm=>by
      obtain⟨vs,w⟩:=rps.mem a hm
      rw[s5 _ _ (s3 _ _ w)]at q5;cases q5
     rw[QaS (s15.free q5)]
     omega
 ·have hn:i=ir.items.length:=by omega
  subst hn
  refine .inl ⟨wk.stop H2 (heldOf H2 s2),?_⟩
  rw[ZbH]at hfold
  have:(ys,g)=(xs,f):=Option.some.inj hfold
  cases this
  have rp:Rp X.K H2 (.lst xs) (.ref Dl) (Dl::G):=Rp.QfP eD rps (ZD hlen hz)
  have hHD:H Dl=none:=s1.free hD
  split at q
  ·rename_i hg
   have hg:f=true:=hg
   obtain⟨l1,c1⟩:=hcnt hg
   have hn:∀a∈G,H1 a=none:=λa ha=>by
    have:=c1 a
    have h2:0<G.count a:=Zas.mpr ha
    cases w:H1 a with
    | none=>rfl
    | some o=>rw[Qdk w]at this;omega
   refine q _ H2 (Dl::G) ⟨s1.trans s2,rp,λa ha=>?_,λ_=>⟨λa=>?_,by simp only[D.nl,Zk,l1]⟩,Qbg.nil⟩
   ·rcases Zl.mp ha with rfl | h
    ·exact .inl hHD
    ·exact .inl (s1.free (hn a h))
   ·rw[Zay]
    have h1:=c1 a
    split
    ·rename_i w
     have w:Dl=a:=by simpa using w
     subst w
     have h0:G.count Dl=0:=ZQ.mpr λh=>(hG _ h).1 rfl
     rw[QaS hHD];omega
    ·cases w:H1 a with
     | none=>rw[QaS w]at h1;rw[QaS (s1.free w)];omega
     | some o=>rw[Qdk w]at h1;omega
  ·refine q _ H2 (Dl::G) ⟨s1.trans s2,rp,λa ha=>?_,λz=>(by cases z),?_⟩
   ·rcases Zl.mp ha with rfl | h
    ·exact .inl hHD
    ·rcases(hG a h).2 with z | z
     ·exact .inl (s1.free z)
     ·exact(oldOf a z).2
   ·refine ow.append λi hi=>?_
    unfold QoY at hi
    obtain⟨o,_,ho⟩:=ZaR.mp hi
    cases o with
    | none=>cases ho
    | some k=>
     simp only[Za]at ho
     split at ho
     ·rename_i d b hk
      split at ho
      ·rename_i hb
       cases ho
       simp only[Zg]at hb
       rw[hb.1]at hk
       exact⟨d,hk⟩
      ·cases ho
     ·cases ho
section
variable {X:Cx}{tg iter elt:Expr}{ifs:List Expr}{scope:Scope}{N':List Str}{pos:Pos}{fi:DI}{t:Tg}{cap:List (Option Nat)}{ft:DT}{fe:DE}
theorem Qt3(hcalm:X.calm=true)(S:Qec X N' scope)(hi:SI X tg iter fi)(hcap:Qli X N' scope cap t.slots)
  (hin:∀cl C fp s3 H3,SG (cxc X N' scope cl C fp s3 H3) tg t/\Qmi (cxc X N' scope cl C fp s3 H3) ifs ft/\SE (cxc X N' scope cl C fp s3 H3) elt fe) (hs:∀x,foldedSetIterable iter X.env x=pure x):
  SE X (.ListComp elt [⟨tg,iter,ifs,0⟩] scope pos) (Q7 fi t cap ft fe):=λH0 A0=>
 (QnE hcalm S (hi H0 A0) (λcl C fp s3 H3=>⟨(hin cl C fp s3 H3).1 _ _,(hin cl C fp s3 H3).2.1 _ _,(hin cl C fp s3 H3).2.2 _ _⟩) hs).mono λσ H Q h=>QkF hcap h
end
end HS
namespace HS
open PySem PySem.Spec L2
inductive Out where
 | nx (ρ:En)
 | bk (ρ:En)
 | ct (ρ:En)
 | rt (d:D) (fr:Bool)
noncomputable abbrev DS:=En->Option Out
noncomputable def Fits(K:PySem.W.Frag)(H0:Hp)(A0:List Addr)(hs:List (V×D×List Addr))(E:Ends):Out->Prop
 | .nx ρ=>∀σ H F,Rel K H0 A0 hs ρ F σ H->E.nx σ H
 | .bk ρ=>∀σ H F,Rel K H0 A0 hs ρ F σ H->E.bk σ H
 | .ct ρ=>∀σ H F,Rel K H0 A0 hs ρ F σ H->E.ct σ H
 | .rt d fr=>∀v H G,Ret K H0 A0 d fr v H G->E.rt v H
noncomputable def tS(K:PySem.W.Frag)(H0:Hp)(A0:List Addr)(f:DS):TS:=λE σ H=>∃ρ hs F o,Rel K H0 A0 hs ρ F σ H/\f ρ=some o/\Fits K H0 A0 hs E o
def S1(X:Cx)(st:Stmt)(f:DS):Prop:=∀H0 A0,PS X st (tS X.K H0 A0 f)
def SS(X:Cx)(sts:List Stmt)(f:DS):Prop:=∀H0 A0,PSs X sts (tS X.K H0 A0 f)
theorem _root_.L2.PS.mono(h:PS X st t)(m:∀D σ H,t' D σ H->t D σ H):PS X st t':=λpins s σ H D I q=>h pins s σ H D I (m D σ H q)
theorem _root_.L2.PSs.mono(h:PSs X st t)(m:∀D σ H,t' D σ H->t D σ H):PSs X st t':=λpins s σ H D I q=>h pins s σ H D I (m D σ H q)
noncomputable def Ql:DS:=λρ=>some (.nx ρ)
noncomputable def Qd(f g:DS):DS:=λρ=>(f ρ).bind λo=>match o with
 | .nx ρ'=>g ρ'
 | .bk ρ'=>some (.bk ρ')
 | .ct ρ'=>some (.ct ρ')
 | .rt d fr=>some (.rt d fr)
noncomputable def Qs2:DS:=λρ=>some (.bk ρ)
noncomputable def QsJ:DS:=λρ=>some (.ct ρ)
noncomputable def Qr(i:Nat)(fa:DE):DS:=λρ=>(fa ρ).bind λr=>some (.nx (asg i r ρ))
noncomputable def Qcc(fa:DE):DE:=λρ=>(fa ρ).map λr=>⟨r.d,false,r.M⟩
noncomputable def Q3(fa:DE):DS:=λρ=>(fa ρ).bind λr=>some (.rt r.d (r.norm.fr && decide r.norm.M.Nodup))
noncomputable def Qbd(fa:DE):DS:=λρ=>(fa ρ).bind λ_=>some (.nx ρ)
noncomputable def sIf(g:DT)(f1 f2:DS):DS:=λρ=>(g ρ).bind λb=>if b=true then f1 ρ else f2 ρ
noncomputable def QcR(t:Tg)(fb:DS):List D->DS
 | [],ρ=>some (.nx ρ)
 | d::ds,ρ=>(Qbh t d ρ).bind λρ1=>(fb ρ1).bind λo=>match o with
  | .nx ρ2=>QcR t fb ds ρ2
  | .ct ρ2=>QcR t fb ds ρ2
  | .bk ρ2=>some (.nx ρ2)
  | .rt d fr=>some (.rt d fr)
noncomputable def Qbb(fi:DI)(t:Tg)(fb:DS):DS:=λρ=>(fi ρ).bind λir=>QcR t fb ir.items (QbE ir.M ρ)
noncomputable def Qa3(g:DT)(fb:DS):Nat->DS
 | 0,_=>none
 | n+1,ρ=>(g ρ).bind λb=>if b=true then(fb ρ).bind λo=>match o with
  | .nx ρ2=>Qa3 g fb n ρ2
  | .ct ρ2=>Qa3 g fb n ρ2
  | .bk ρ2=>some (.nx ρ2)
  | .rt d fr=>some (.rt d fr)
  else some (.nx ρ)
section
theorem QqP:SS X [] Ql:=λH0 A0=>Qup.mono λE σ H=>exK λρ hs F o rel e q=>by
 cases e
 exact q σ H F rel
theorem QjO(h1:S1 X st f)(h2:SS X sts g):SS X (st::sts) (Qd f g):=λH0 A0=>(QlL (h1 H0 A0) (h2 H0 A0)).mono λE σ H=>exK λρ hs F o rel e q=>by
 refine Qf e λo1 e1 e=>?_
 refine⟨ρ,hs,F,o1,rel,e1,?_⟩
 cases o1 with
 | nx ρ'=>exact λσ' H' F' rel'=>⟨ρ',hs,F',o,rel',e,q⟩
 | bk ρ'=>cases e;exact q
 | ct ρ'=>cases e;exact q
 | rt d fr=>cases e;exact q
theorem Quk:S1 X (.Pass pos) Ql:=λH0 A0=>QuF.mono λE σ H=>exK λρ hs F o rel e q=>by
 cases e
 exact q σ H F rel
theorem Qrn:S1 X (.Break pos) Qs2:=λH0 A0=>QsA.mono λE σ H=>exK λρ hs F o rel e q=>by
 cases e
 exact q σ H F rel
theorem QvD:S1 X (.Continue pos) QsJ:=λH0 A0=>QnA.mono λE σ H=>exK λρ hs F o rel e q=>by
 cases e
 exact q σ H F rel
theorem QmK(h:SE X e fa):SE X e (Qcc fa):=λH0 A0=>(h H0 A0).mono λσ H Q=>exK λρ hs F r rel e q=>by
 obtain⟨r',e1,rfl⟩:=Zc.mp e
 exact⟨ρ,hs,F,r',rel,e1,λv H' G p=>q v H' G ⟨p.same,p.rp,p.src,λz=>(by cases z),p.own⟩⟩
theorem QgL(h:∀H0 A0,PS X st (Qlu (tV X.K H0 A0 fa) (Qhe i))):S1 X st (Qr i fa):=λH0 A0=>(h H0 A0).mono λE σ H=>exK λρ hs F o rel e q=>by
 refine Qf e λr e1 e=>?_
 cases e
 refine⟨ρ,hs,F,r,rel,e1,λv H' G p=>?_⟩
 obtain⟨F',rel'⟩:=rel.asg (i:=i) p
 exact q _ _ F' rel'
theorem QuD(h:PS X st (Qoe (tV X.K H0 A0 fa))):PS X st (tS X.K H0 A0 (Qbd fa)):=h.mono λE σ H=>exK λρ hs F o rel e q=>by
 refine Qf e λr e1 e=>?_
 cases e
 exact⟨ρ,hs,F,r,rel,e1,λv H' G p=>q σ H' F (rel.ext p.same)⟩
theorem Rel.ret(rel:Rel K H0 A0 hs ρ F σ H)(p:Q6 K ρ F H H' r v G):Ret K H0 A0 r.d (r.norm.fr && decide r.norm.M.Nodup) v H' G where
 same:=rel.same.trans p.same
 rp:=p.rp
 src:=λa ha=>by
  rcases p.src a ha with z | ⟨i,d,b,e,m,_⟩
  ·exact .inl (rel.same.free z)
  ·exact rel.src i d b e a m
 cnt:=λh=>by
  simp only[Zg,decide_eq_true_eq]at h
  have p':=p.norm
  obtain⟨h1,h2⟩:=p'.fresh rel h.1 h.2
  have h3:=(p'.cnt h.1).2
  rw[r.Qc6]at h3
  exact⟨h1,h3,λa ha=>(h2 a ha).1⟩
theorem Qwy(he:SE X e fa):S1 X (.Return (some e) pos) (Q3 fa):=λH0 A0=>(QqN (he H0 A0)).mono λE σ H=>exK λρ hs F o rel e q=>by
 refine Qf e λr e1 e=>?_
 cases e
 exact⟨ρ,hs,F,r,rel,e1,λv H' G p=>q v H' G (rel.ret p)⟩
theorem QyQ(hc:ST X c gc)(ha:SS X a f)(hb:SS X b g):S1 X (.If c a b pos) (sIf gc f g):=λH0 A0=>(Qtd (hc H0 A0) (ha H0 A0) (hb H0 A0)).mono λE σ H=>exK λρ hs F o rel e q=>by
 refine Qf e λc e1 e=>?_
 refine⟨ρ,hs,F,c,rel,e1,λH1 s1=>?_⟩
 cases c with
 | true=>exact Qpc ⟨ρ,hs,F,o,rel.ext s1,e,q⟩
 | false=>exact Qoi ⟨ρ,hs,F,o,rel.ext s1,e,q⟩
theorem QwK(hp:PassesOwn (model X.prog X.w) X.A X.env X.xe)(hc:X.calm=true)(hi:SI X tg iter fi)(hg:SG X tg t)(hb:SS X body f)(hs:∀x,foldedSetIterable iter X.env x=pure x):
  S1 X (.For tg iter body [] pos) (Qbb fi t f):=λH0 A0=>(Qpv hp hc (hi H0 A0) (hg H0 A0) (hb H0 A0) hs).mono λE σ H=>exK λρ hs F o rel e q=>by
 refine Qf e λir e1 e=>?_
 refine⟨ρ,hs,F,ir,rel,e1,λJ H1 ts s1 wk hts ow hz=>?_⟩
 have rel1:Rel X.K H0 A0 (ts++hs) (QbE ir.M ρ) F σ H1:=((rel.ext s1).weak (Qck ir.M ρ)).hold λt ht=>⟨(hts t ht).1,Shr.of rel (hts t ht).2⟩
 refine⟨λi m σ' H'=>m=ir.items.length-i/\i<=ir.items.length/\∃ρi Fi,Rel X.K H0 A0 (ts++hs) ρi Fi σ' H'/\QcR t f (ir.items.drop i) ρi=some o,⟨_,rfl,ZZ _,_,F,rel1,by simpa using e⟩,?_⟩
 rintro i m σ' H' ⟨rfl,hi',ρi,Fi,reli,ei⟩
 have held:Qj1 X.K H' ts:=λt ht=>(reli.held t (Zd _ ht)).1
 by_cases hlt:i<ir.items.length
 ·rw[ZV hlt]at ei
  unfold QcR at ei
  refine Qf ei λρ1 eb ei=>?_
  refine Qf ei λo1 eo ei=>?_
  refine .inr ⟨wk.go i H' hlt held,λσ2 H2=>∃ρ2 F2,Rel X.K H0 A0 (ts++hs) ρ2 F2 σ2 H2/\QcR t f (ir.items.drop (i+1)) ρ2=some o,λσ2 H2 ⟨ρ2,F2,rel2,e2⟩=>⟨_,by omega,rfl,hlt,ρ2,F2,rel2,e2⟩,λx H2 hy=>?_⟩
  obtain⟨s2,G0,rp0,hG0⟩:=wk.yld i ir.items[i] H' x H2 (by simp[hlt]) held hy
  have shr:Shr H0 A0 ρi Fi G0:=λa ha=>by
   obtain⟨t,ht,hat⟩:=hG0 a ha
   exact⟨(reli.held t (Zd _ ht)).2 a hat,λj d ej hj=>(reli.own j d ej).2.2.2.2 t (Zd _ ht) a hj hat⟩
  refine⟨ρi,ts++hs,Fi,ir.items[i],G0,ρ1,reli.ext s2,rp0,shr,eb,λσ3 F3 rel3 _ _=>⟨ρ1,ts++hs,F3,o1,rel3,eo,?_⟩⟩
  cases o1 with
  | nx ρ2=>exact λσ4 H4 F4 rel4=>⟨ρ2,F4,rel4,ei⟩
  | ct ρ2=>exact λσ4 H4 F4 rel4=>⟨ρ2,F4,rel4,ei⟩
  | bk ρ2=>cases ei;exact λσ4 H4 F4 rel4=>q σ4 H4 F4 rel4.Ql8
  | rt d fr=>cases ei;exact q
 ·have hn:i=ir.items.length:=by omega
  subst hn
  rw[ZbH]at ei
  cases ei
  exact .inl ⟨wk.stop H' held,q σ' H' Fi reli.Ql8⟩
theorem Qrq(hp:PassesOwn (model X.prog X.w) X.A X.env X.xe)(hc:ST X c gc)(hb:SS X body f):S1 X (.While c body [] pos) (Qa3 gc f n):=λH0 A0=>(QsR hp (hc H0 A0) (hb H0 A0)).mono λE σ H=>exK λρ hs F o rel e q=>by
 refine⟨λm σ' H'=>∃ρi Fi,Rel X.K H0 A0 hs ρi Fi σ' H'/\Qa3 gc f m ρi=some o,⟨n,ρ,F,rel,e⟩,?_⟩
 rintro m σ' H' ⟨ρi,Fi,reli,ei⟩
 cases m with
 | zero=>cases ei
 | succ m=>
  unfold Qa3 at ei
  refine Qf ei λb eb ei=>?_
  refine⟨ρi,hs,Fi,b,reli,eb,λH1 s1=>?_⟩
  cases b with
  | false=>
   rw[if_neg ZJ]at ei
   cases ei
   exact Qoi (q σ' H1 Fi (reli.ext s1))
  | true=>
   rw[if_pos rfl]at ei
   refine Qf ei λo1 eo ei=>?_
   refine Qpc ⟨λσ2 H2=>∃ρ2 F2,Rel X.K H0 A0 hs ρ2 F2 σ2 H2/\Qa3 gc f m ρ2=some o,λσ2 H2 h=>⟨m,ZaB _,h⟩,ρi,hs,Fi,o1,reli.ext s1,eo,?_⟩
   cases o1 with
   | nx ρ2=>exact λσ4 H4 F4 rel4=>⟨ρ2,F4,rel4,ei⟩
   | ct ρ2=>exact λσ4 H4 F4 rel4=>⟨ρ2,F4,rel4,ei⟩
   | bk ρ2=>cases ei;exact λσ4 H4 F4 rel4=>q σ4 H4 F4 rel4
   | rt d fr=>cases ei;exact q
theorem Rel.Qzp(rel:Rel K H0 A0 hs ρ F σ H)(rp:Rp K H d v [])(hf:d.flat=true):
  ∃F',Rel K H0 A0 hs (ρ.set i (some (d,true))) F' (σ.set i (some v)) H:=by
 have:=rel.Qo0 (i:=i) rp (λa ha=>by simp at ha)
 rw[hf]at this
 exact⟨_,this⟩
end
end HS
namespace HS
open PySem PySem.Spec L2 PyProof.Rows
end HS
namespace HS
open PySem PySem.Spec L2
section
variable {K:PySem.W.Frag}{H H':Hp}
theorem Rps.split:∀{ds:List D}{vs:List V}{F:List Addr}{j:Nat}{d:D},Rps K H ds vs F->ds[j]? =some d→
  ∃F1 G F2 v,F=F1++(G++F2)/\vs[j]? =some v/\Rps K H (ds.take j) (vs.take j) F1/\Rp K H d v G/\Rps K H (ds.drop (j+1)) (vs.drop (j+1)) F2
 | [],_,_,_,_,_,e=>by simp at e
 | d::ds,_,_,0,_,h,e=>by
  simp only[Rps]at h
  obtain⟨v,ws,F1,F2,rfl,rfl,r,q⟩:=h
  simp at e;subst e
  exact⟨[],F1,F2,v,rfl,by simp,by simp[Rps],r,by simpa using q⟩
 | d::ds,_,_,j+1,_,h,e=>by
  simp only[Rps]at h
  obtain⟨v,ws,F1,F2,rfl,rfl,r,q⟩:=h
  obtain⟨G1,G,G2,v',h1,h2,h3,h4,h5⟩:=Rps.split q (by simpa using e)
  refine⟨F1++G1,G,G2,v',by rw[h1,ZaJ],by simpa using h2,?_,h4,by simpa using h5⟩
  simp only[List.take_succ_cons,Rps]
  exact⟨v,_,F1,G1,rfl,rfl,r,h3⟩
theorem Rps.join{ds:List D}{vs:List V}{F1 G F2:List Addr}{j:Nat}{d:D}{v:V}(h1:Rps K H (ds.take j) (vs.take j) F1)(hd:Rp K H d v G)(h2:Rps K H (ds.drop (j+1)) (vs.drop (j+1)) F2)(hj:j<ds.length)(hv:vs[j]? =some v):
  Rps K H (ds.set j d) vs (F1++(G++F2)):=by
 have e1:ds.set j d=ds.take j++d::ds.drop (j+1):=ZaG .. |>.trans (by rw[if_pos hj])
 have hjv:j<vs.length:=(Zi.mp hv).1
 have hve:vs[j]=v:=(Zi.mp hv).2
 have e2:vs=vs.take j++v::vs.drop (j+1):=by
  rw[← hve,← ZV hjv,ZaU]
 rw[e1,e2]
 refine h1.append ?_
 simp only[Rps]
 refine⟨v,_,G,F2,rfl,rfl,hd,h2⟩
theorem Rps.Qth{ds:List D}{vs:List V}{F1 G F2:List Addr}{j:Nat}{d:D}{v:V}(h1:Rps K H (ds.take j) (vs.take j) F1)(hd:Rp K H d v G)(h2:Rps K H (ds.drop (j+1)) (vs.drop (j+1)) F2)(hj:j<ds.length)(hv:j<vs.length):
  Rps K H (ds.set j d) (vs.set j v) (F1++(G++F2)):=by
 have e1:ds.set j d=ds.take j++d::ds.drop (j+1):=ZaG .. |>.trans (by rw[if_pos hj])
 have e2:vs.set j v=vs.take j++v::vs.drop (j+1):=ZaG .. |>.trans (by rw[if_pos hv])
 rw[e1,e2]
 refine h1.append ?_
 simp only[Rps]
 exact⟨v,_,G,F2,rfl,rfl,hd,h2⟩
noncomputable def Focus(K:PySem.W.Frag)(H:Hp):List Int->D->V->List Addr->D->V->List Addr->Prop
 | [],d,v,F,dm,w,Gm=>dm=d/\w=v/\Gm=F/\Rp K H d v F
 | i::is,d,v,F,dm,w,Gm=>∃(ds:List D) (a:Addr) (vs:List V) (j:Nat) (F1 G F2:List Addr) (d':D) (v':V),v= .ref a/\ixN ds.length i=some j∧
   ((d= .lst ds/\ds.length<=sizeLine/\((F=a::(F1++(G++F2))/\H a=some (.lst vs))∨(F=F1++(G++F2)/\Fix K H a vs)))∨(d= .tup ds/\F=F1++(G++F2)/\SqT K H a vs))∧
   Rps K H (ds.take j) (vs.take j) F1/\Rps K H (ds.drop (j+1)) (vs.drop (j+1)) F2/\ds[j]? =some d'/\vs[j]? =some v'/\ds.length=vs.length/\Focus K H is d' v' G dm w Gm
theorem Focus.same(s:QD H H'):∀{is:List Int}{d:D}{v:V}{F:List Addr}{dm:D}{w:V}{Gm:List Addr},Focus K H is d v F dm w Gm->Focus K H' is d v F dm w Gm
 | [],_,_,_,_,_,_,h=>⟨h.1,h.2.1,h.2.2.1,h.2.2.2.same s⟩
 | i::is,_,_,_,_,_,_,h=>by
  obtain⟨ds,a,vs,j,F1,G,F2,d',v',h1,h2,h3,h4,h5,h6,h7,h8,h9⟩:=h
  refine⟨ds,a,vs,j,F1,G,F2,d',v',h1,h2,?_,h4.same s,h5.same s,h6,h7,h8,h9.same s⟩
  rcases h3 with⟨e,z,q⟩ | ⟨e,eF,q⟩
  ·refine .inl ⟨e,z,?_⟩
   rcases q with⟨eF,q⟩ | ⟨eF,q⟩
   ·exact .inl ⟨eF,s _ _ q⟩
   ·exact .inr ⟨eF,QmD s q⟩
  ·exact .inr ⟨e,eF,Qlp s q⟩
theorem Focus.rp:∀{is:List Int}{d:D}{v:V}{F:List Addr}{dm:D}{w:V}{Gm:List Addr},Focus K H is d v F dm w Gm->Rp K H dm w Gm
 | [],_,_,_,_,_,_,h=>by
  obtain⟨rfl,rfl,rfl,r⟩:=h
  exact r
 | i::is,_,_,_,_,_,_,h=>by
  obtain⟨ds,a,vs,j,F1,G,F2,d',v',h1,h2,h3,h4,h5,h6,h7,h8,h9⟩:=h
  exact h9.rp
theorem Focus.QpN:∀{is:List Int}{d:D}{v:V}{F:List Addr}{dm:D}{w:V}{Gm:List Addr},Focus K H is d v F dm w Gm->Rp K H d v F
 | [],_,_,_,_,_,_,h=>h.2.2.2
 | i::is,_,_,_,_,_,_,h=>by
  obtain⟨ds,a,vs,j,F1,G,F2,d',v',rfl,h2,h3,h4,h5,h6,h7,h8,h9⟩:=h
  have hjl:j<ds.length:=(Zi.mp h6).1
  have hdj:ds[j]=d':=(Zi.mp h6).2
  have j1:=Rps.join h4 h9.QpN h5 hjl h7
  rw[show ds.set j d'=ds by rw[← hdj];exact List.set_getElem_self hjl]at j1
  rcases h3 with⟨rfl,hz,⟨rfl,q⟩ | ⟨rfl,q⟩⟩ | ⟨rfl,rfl,q⟩
  ·exact Rp.QfP q j1 hz
  ·simp only[Rp]
   exact⟨hz,a,vs,rfl,.inr ⟨q,j1⟩⟩
  ·simp only[Rp]
   exact⟨a,vs,rfl,q,j1⟩
theorem Focus.one(r:Rp K H d v F)(hd:d.items=some ds)(hi:atI ds i=some d'):
  ∃a vs v' G,v= .ref a/\((d= .lst ds/\SqL K H a vs)∨(d= .tup ds/\SqT K H a vs))/\atI vs i=some v'/\Focus K H [i] d v F d' v' G:=by
 unfold atI at hi
 cases hj:ixN ds.length i with
 | none=>rw[hj]at hi;cases hi
 | some j=>
  rw[hj]at hi
  have hdj:ds[j]? =some d':=hi
  have fin:∀(vs:List V) (L:List Addr),Rps K H ds vs L->∃v' G F1 F2,L=F1++(G++F2)/\vs[j]? =some v'/\atI vs i=some v'/\Rps K H (ds.take j) (vs.take j) F1/\Rp K H d' v' G/\Rps K H (ds.drop (j+1)) (vs.drop (j+1)) F2/\ds.length=vs.length:=λvs L rl=>by
   obtain⟨F1,G,F2,v',h1,h2,h3,h4,h5⟩:=rl.split hdj
   refine⟨v',G,F1,F2,h1,h2,?_,h3,h4,h5,rl.length⟩
   unfold atI
   rw[← rl.length,hj]
   exact h2
  cases d with
  | lst xs=>
   cases hd
   simp only[Rp]at r
   obtain⟨hz,a,vs,rfl,⟨L,rfl,q,rl⟩ | ⟨q,rl⟩⟩:=r
   ·obtain⟨v',G,F1,F2,h1,h2,h3,h4,h5,h6,h7⟩:=fin vs L rl
    exact⟨a,vs,v',G,rfl,.inl ⟨rfl,SqL.of q⟩,h3,ds,a,vs,j,F1,G,F2,d',v',rfl,hj,.inl ⟨rfl,hz,.inl ⟨by rw[h1],q⟩⟩,h4,h6,hdj,h2,h7,rfl,rfl,rfl,h5⟩
   ·obtain⟨v',G,F1,F2,h1,h2,h3,h4,h5,h6,h7⟩:=fin vs _ rl
    exact⟨a,vs,v',G,rfl,.inl ⟨rfl,q.sq⟩,h3,ds,a,vs,j,F1,G,F2,d',v',rfl,hj,.inl ⟨rfl,hz,.inr ⟨h1,q⟩⟩,h4,h6,hdj,h2,h7,rfl,rfl,rfl,h5⟩
  | tup xs=>
   cases hd
   obtain⟨a,vs,rfl,q,rl⟩:=r.Qa0
   obtain⟨v',G,F1,F2,h1,h2,h3,h4,h5,h6,h7⟩:=fin vs _ rl
   exact⟨a,vs,v',G,rfl,.inr ⟨rfl,q⟩,h3,ds,a,vs,j,F1,G,F2,d',v',rfl,hj,.inr ⟨rfl,h1,q⟩,h4,h6,hdj,h2,h7,rfl,rfl,rfl,h5⟩
  | _=>cases hd
theorem Focus.snoc:∀{is:List Int}{d:D}{v:V}{F:List Addr}{dm:D}{w:V}{Gm:List Addr}{i:Int}{d':D}{v':V}{G:List Addr},Focus K H is d v F dm w Gm->Focus K H [i] dm w Gm d' v' G->Focus K H (is++[i]) d v F d' v' G
 | [],_,_,_,_,_,_,_,_,_,_,h,g=>by
  obtain⟨rfl,rfl,rfl,r⟩:=h
  exact g
 | k::is,_,_,_,_,_,_,_,_,_,_,h,g=>by
  obtain⟨ds,a,vs,j,F1,G,F2,d',v',h1,h2,h3,h4,h5,h6,h7,h8,h9⟩:=h
  exact⟨ds,a,vs,j,F1,G,F2,d',v',h1,h2,h3,h4,h5,h6,h7,h8,h9.snoc g⟩
noncomputable def Qb4:D->List Int->Option D
 | d,[]=>some d
 | d,i::is=>(d.items).bind λds=>(atI ds i).bind λd'=>Qb4 d' is
theorem Qi1:∀{is:List Int}{d:D}{i:Int}{d':D},Qb4 d (is++[i])=some d'->∃dm ds,Qb4 d is=some dm/\dm.items=some ds/\atI ds i=some d'
 | [],d,i,d',h=>by
  refine Qf h λds h1 h=>?_
  refine Qf h λd'' h2 h=>?_
  cases h
  exact⟨d,ds,rfl,h1,h2⟩
 | k::is,d,i,d',h=>by
  refine Qf h λds h1 h=>?_
  refine Qf h λd'' h2 h=>?_
  obtain⟨dm,es,h3,h4,h5⟩:=Qi1 h
  refine⟨dm,es,?_,h4,h5⟩
  simp only[Qb4,h1,h2,Za,h3]
noncomputable def Qbe:List Int->D->D->D
 | [],_,new=>new
 | i::is,.lst ds,new=>match ixN ds.length i with
  | some j=> .lst (ds.set j (Qbe is (ds.getD j .non) new))
  | none=> .lst ds
 | i::is,.tup ds,new=>match ixN ds.length i with
  | some j=> .tup (ds.set j (Qbe is (ds.getD j .non) new))
  | none=> .tup ds
 | _::_,d,_=>d
theorem Qft:∀{ds:List D}{j:Nat}{d e:D},ds[j]? =some d->nls (ds.set j e)+d.nl=nls ds+e.nl
 | [],_,_,_,h=>by simp at h
 | x::ds,0,d,e,h=>by simp at h;subst h;simp only[List.set_cons_zero,nls];omega
 | x::ds,j+1,d,e,h=>by
  have:=Qft (e:=e) (by simpa using h)
  simp only[List.set_cons_succ,nls];omega
theorem QcK:∀(as bs:List D),nls (as++bs)=nls as+nls bs
 | [],bs=>by simp[nls]
 | a::as,bs=>by simp only[ZbF,nls,QcK as bs];omega
theorem Focus.mut:∀{is:List Int}{d:D}{v:V}{F:List Addr}{Gm:List Addr},Focus K H is d v F (.lst dsm) (.ref p) Gm->F.Nodup->F.length=d.nl→
  ∃vsm Gp,H p=some (.lst vsm)/\Gm=p::Gp/\Rps K H dsm vsm Gp/\Gp.length=nls dsm/\p∈F/\(∀a∈Gp,a∈F)/\p∉Gp∧
   (Rps K (upd H p (.lst vs')) ds' vs' G'->ds'.length<=sizeLine->G'.length=nls ds'→
    ∃F',Rp K (upd H p (.lst vs')) (Qbe is d (.lst ds')) v F'/\F'.length=(Qbe is d (.lst ds')).nl/\∀a,F'.count a+Gp.count a=F.count a+G'.count a)
 | [],d,v,F,Gm,h,nd,hl=>by
  obtain⟨rfl,rfl,rfl,r⟩:=h
  simp only[Rp]at r
  obtain⟨hz,a,vs,e,h⟩:=r
  cases e
  rcases h with⟨L,rfl,q,rl⟩ | ⟨q,rl⟩
  ·obtain⟨n1,n2⟩:=ZU.mp nd
   have hl':L.length=nls dsm:=by simp only[D.nl,Zk]at hl;omega
   refine⟨vs,L,q,rfl,rl,hl',Zf,λa ha=>Zb _ ha,n1,λr' hz' hl2=>⟨p::G',Rp.QfP Qao r' hz',?_,λa=>?_⟩⟩
   ·simp only[Qbe,D.nl,Zk,hl2]
   ·rw[Zay,Zay];omega
  ·have:=rl.Qas
   simp only[D.nl]at hl
   omega
 | i::is,d,v,F,Gm,h,nd,hl=>by
  obtain⟨ds,a,vs,j,F1,G,F2,d',v',rfl,hj,h3,h4,h5,h6,h7,h8,h9⟩:=h
  have hjl:j<ds.length:=(Zi.mp h6).1
  have gd:ds.getD j .non=d':=by rw[Zz,h6];rfl
  have l1:=h4.Qas
  have l2:=h5.Qas
  have l3:=h9.QpN.Qas
  have nlsplit:nls (ds.take j)+(d'.nl+nls (ds.drop (j+1)))=nls ds:=by
   have e1:ds=ds.take j++d'::ds.drop (j+1):=by
    have:ds[j]=d':=(Zi.mp h6).2
    rw[← this,← ZV hjl,ZaU]
   have e2:=congrArg nls e1
   rw[QcK]at e2
   simp only[nls]at e2
   exact e2.symm
  have core:(F1++(G++F2)).Nodup->(F1++(G++F2)).length=nls ds->_:=λnd' hl'=>by
   simp only[Zp]at hl'
   have hG:G.length=d'.nl:=by omega
   have ndG:G.Nodup:=(ZT.mp (ZT.mp nd').2.1).1
   exact(h9.mut (vs':=vs') (ds':=ds') (G':=G') ndG hG)
  have apart:(F1++(G++F2)).Nodup->p∈G->p∉F1/\p∉F2:=λnd' hp=>by
   have n1:=ZT.mp nd'
   have n2:=ZT.mp n1.2.1
   exact⟨λh=>n1.2.2 p h p (Zd _ hp) rfl,λh=>n2.2.2 p hp p h rfl⟩
  have cnt:∀(G'' Gp:List Addr),(∀a,G''.count a+Gp.count a=G.count a+G'.count a)->∀a,(F1++(G''++F2)).count a+Gp.count a=(F1++(G++F2)).count a+G'.count a:=λG'' Gp hc a=>by
   have:=hc a
   simp only[Zad];omega
  rcases h3 with⟨rfl,hz,⟨rfl,q⟩ | ⟨rfl,q⟩⟩ | ⟨rfl,rfl,q⟩
  ·
   obtain⟨n1,n2⟩:=ZU.mp nd
   have hl':(F1++(G++F2)).length=nls ds:=by simp only[D.nl,Zk]at hl;omega
   obtain⟨vsm,Gp,e1,e2,e3,e4,e5,e6,e7,e8⟩:=core n2 hl'
   have ap:=apart n2 e5
   have hap:a≠p:=λz=>n1 (by rw[z];exact Ze _ (Zd _ e5))
   refine⟨vsm,Gp,e1,e2,e3,e4,Zb _ (Ze _ (Zd _ e5)),λb hb=>Zb _ (Ze _ (Zd _ (e6 b hb))),e7,λr' hz' hl2=>?_⟩
   obtain⟨G'',f1,f2,f3⟩:=e8 r' hz' hl2
   have j1:=Rps.join (h4.upd e1 ap.1) f1 (h5.upd e1 ap.2) hjl h7
   refine⟨a::(F1++(G''++F2)),?_,?_,λb=>?_⟩
   ·simp only[Qbe,hj,gd]
    exact Rp.QfP (by rw[QF hap];exact q) j1 (by rw[ZaS];exact hz)
   ·have:=Qft (e:=Qbe is d' (.lst ds')) h6
    simp only[Qbe,hj,gd,D.nl,Zk,Zp,f2]at hl' ⊢
    omega
   ·have:=cnt G'' Gp f3 b
    rw[Zay,Zay];omega
  ·have:(F1++(G++F2)).length<=nls ds:=by simp only[Zp];omega
   simp only[D.nl]at hl
   omega
  ·
   have hl':(F1++(G++F2)).length=nls ds:=by simpa only[D.nl]using hl
   obtain⟨vsm,Gp,e1,e2,e3,e4,e5,e6,e7,e8⟩:=core nd hl'
   have ap:=apart nd e5
   refine⟨vsm,Gp,e1,e2,e3,e4,Ze _ (Zd _ e5),λb hb=>Ze _ (Zd _ (e6 b hb)),e7,λr' hz' hl2=>?_⟩
   obtain⟨G'',f1,f2,f3⟩:=e8 r' hz' hl2
   have j1:=Rps.join (h4.upd e1 ap.1) f1 (h5.upd e1 ap.2) hjl h7
   refine⟨F1++(G''++F2),?_,?_,cnt G'' Gp f3⟩
   ·simp only[Qbe,hj,gd,Rp]
    exact⟨a,vs,rfl,Qn4 e1 q,j1⟩
   ·have:=Qft (e:=Qbe is d' (.lst ds')) h6
    simp only[Qbe,hj,gd,D.nl,Zp,f2]at hl' ⊢
    omega
end
end HS
namespace HS
open PySem PySem.Spec L2
section
theorem Rel.mut(rel:Rel K H0 A0 hs ρ F σ H)(p:Q6 K ρ F H H1 r vn Gn)(hf:r.fr=true)(nd:r.M.Nodup)(s12:QD H1 H2)(hx:ρ[x]? =some (some (d,true)))(hxM:x∉r.M)(hv0:σ[x]? =some (some v0))
  {dnew:D}{q:Addr}{F':List Addr}{vsm vs':List V}(e1:H2 q=some (.lst vsm)) (e5:q∈F x) (f1:Rp K (upd H2 q (.lst vs')) dnew v0 F') (f2:F'.length=dnew.nl) (cF:∀a,F'.count a<=(F x).count a+Gn.count a):
  ∃F',Rel K H0 A0 hs ((kill r.M ρ).set x (some (dnew,true))) F' σ (upd H2 q (.lst vs')):=by
 obtain⟨ol,on,o0,oap,oh⟩:=rel.own x d hx
 obtain⟨gn,gs⟩:=p.fresh rel hf nd
 have rel2:=(rel.ext p.same).ext s12
 have relk:=rel2.weak (QbD r.M ρ)
 have apn:∀a∈Gn,a∉F x:=λa ha hax=>by
  rcases(gs a ha).2 with z | ⟨k,d',hk,ek,hak⟩
  ·obtain⟨vs,w⟩:=rel.mem hx hax
   rw[z]at w;cases w
  ·have:k≠x:=λz=>hxM (z▸hk)
   exact oap k d' true this ek a hax hak
 have memF:∀a∈F',a∈F x∨a∈Gn:=λa ha=>by
  have h1:=cF a
  have h2:0<F'.count a:=Zas.mpr ha
  by_cases h:a∈F x
  ·exact .inl h
  ·rw[ZQ.mpr h]at h1
   exact .inr (Zas.mp (by omega))
 have apart:∀(j:Nat) d' b,j≠x->(kill r.M ρ)[j]? =some (some (d',b))->∀a∈F',a∉F j:=λj d' b hj e a ha haj=>by
  obtain⟨b',e',_⟩:=(QbD r.M ρ).2 j d' b e
  rcases memF a ha with h | h
  ·exact oap j d' b' hj e' a h haj
  ·rcases(gs a h).2 with z | ⟨k,d'',hk,ek,hak⟩
   ·obtain⟨vs,w⟩:=rel.mem e' haj
    rw[z]at w;cases w
   ·have hjk:j≠k:=λz=>by subst z;exact QeZ r.M ρ j d' b hk e
    exact(rel.own k d'' ek).2.2.2.1 j d' b' hjk e' a hak haj
 have apartH:∀t∈hs,∀a∈F',a∉t.2.2:=λt ht a ha hat=>by
  rcases memF a ha with h | h
  ·exact oh t ht a h hat
  ·rcases(gs a h).2 with z | ⟨k,d'',hk,ek,hak⟩
   ·obtain⟨vs,w⟩:=(rel.held t ht).1.mem a hat
    rw[z]at w;cases w
   ·exact(rel.own k d'' ek).2.2.2.2 t ht a hak hat
 have nqj:∀(j:Nat) d' b,j≠x->ρ[j]? =some (some (d',b))->q∉F j:=λj d' b hj e h=>oap j d' b hj e q e5 h
 have nF':F'.Nodup:=Zae.mpr λa=>by
  have h1:=cF a
  have h2:=Zae.mp on a
  have h3:=Zae.mp gn a
  by_cases h:a∈Gn
  ·rw[ZQ.mpr (apn a h)]at h1;omega
  ·rw[ZQ.mpr h]at h1;omega
 have lt:∀{j:Nat}{z:Option (D×Bool)}{y:D×Bool},((kill r.M ρ).set j z)[j]? =some (some y)->j<(kill r.M ρ).length:=λ{j z y} e=>by
  by_cases hl:j<(kill r.M ρ).length
  ·exact hl
  ·rw[Zw (by simp;omega)]at e;cases e
 refine⟨λj=>if j=x then F' else F j,by simp[relk.len],λj d' b e=>?_,λj d' e=>?_,λj d' b e a ha=>?_,λt ht=>⟨(relk.held t ht).1.upd e1 λh=>oh t ht q e5 h,(relk.held t ht).2⟩,λb o hb=>?_⟩
 ·by_cases hj:j=x
  ·subst hj
   have hl:=lt e
   rw[Zr hl]at e
   cases e
   exact⟨v0,hv0,by rw[if_pos rfl];exact f1⟩
  ·rw[Zh (Ne.symm hj)]at e
   obtain⟨w,h1,h2⟩:=relk.val j d' b e
   obtain⟨b',e',_⟩:=(QbD r.M ρ).2 j d' b e
   exact⟨w,h1,by rw[if_neg hj];exact h2.upd e1 (nqj j d' b' hj e')⟩
 ·by_cases hj:j=x
  ·subst hj
   have hl:=lt e
   rw[Zr hl]at e
   cases e
   rw[if_pos rfl]
   refine⟨f2,nF',λa ha=>?_,λk d'' b hk ek a ha=>?_,apartH⟩
   ·rcases memF a ha with h | h
    ·exact o0 a h
    ·exact(gs a h).1
   ·rw[Zh (Ne.symm hk)]at ek
    rw[if_neg hk]
    exact apart k d'' b hk ek a ha
  ·rw[Zh (Ne.symm hj)]at e
   obtain⟨h1,h2,h3,h4,h5⟩:=relk.own j d' e
   rw[if_neg hj]
   refine⟨h1,h2,h3,λk d'' b hk ek a ha=>?_,h5⟩
   by_cases hki:k=x
   ·subst hki
    rw[if_pos rfl]
    exact λhG=>apart j d' true hj e a hG ha
   ·rw[Zh (Ne.symm hki)]at ek
    rw[if_neg hki]
    exact h4 k d'' b hk ek a ha
 ·by_cases hj:j=x
  ·subst hj
   rw[if_pos rfl]at ha
   rcases memF a ha with h | h
   ·exact .inl (o0 a h)
   ·exact .inl (gs a h).1
  ·rw[Zh (Ne.symm hj)]at e
   rw[if_neg hj]at ha
   exact relk.src j d' b e a ha
 ·have hbq:b≠q:=λz=>by rw[z,o0 q e5]at hb;cases hb
  rw[QF hbq]
  exact relk.same b o hb
end
noncomputable abbrev DP:=En->Option (List Int)
noncomputable def QaK:DP:=λ_=>some []
noncomputable def Qgn(p:DP)(fb:DE):DP:=λρ=>(p ρ).bind λis=>(fb ρ).bind λr=>match r.d with
 | .int i=>some (is++[i])
 | _=>none
noncomputable def tP(K:PySem.W.Frag)(H0:Hp)(A0:List Addr)(x:Nat)(pf:DP):TE:=λσ H Q=>∃ρ hs F d b is dm,Rel K H0 A0 hs ρ F σ H/\ρ[x]? =some (some (d,b))/\pf ρ=some is/\Qb4 d is=some dm∧
 ∀v0 v H' Gm,QD H H'->σ[x]? =some (some v0)->Focus K H' is d v0 (F x) dm v Gm->Q v H'
def SPa(X:Cx)(e:Expr)(x:Nat)(pf:DP):Prop:=∀H0 A0,PE X e (tP X.K H0 A0 x pf)
section
theorem Qr2(h:PE X (.Name y pos) (Qgr x)):SPa X (.Name y pos) x QaK:=λH0 A0=>h.mono λσ H Q hpt=>by
 obtain⟨ρ,hs,F,d,b,is,dm,rel,hx,hp,hd,q⟩:=hpt
 cases hp
 cases hd
 obtain⟨v,h1,h2⟩:=rel.val x d b hx
 exact⟨v,h1,q v v H (F x) (QD.refl _) h1 ⟨rfl,rfl,rfl,h2⟩⟩
theorem QuS(ha:SPa X a x pf)(hb:SE X b fb)(hs:Qhj b):SPa X (.Subscript a b pos) x (Qgn pf fb):=λH0 A0=>
 (Qtq (Qoa.or Qpw) (ha H0 A0) (hb H0 A0) hs).mono λσ H Q hpt=>by
  obtain⟨ρ,hs,F,d,b',is,dm,rel,hx,hp,hd,q⟩:=hpt
  refine Qf hp λis' e1 hp=>?_
  refine Qf hp λr e2 hp=>?_
  cases hr:r.d with
  | int i=>
   rw[hr]at hp
   cases hp
   obtain⟨dn,ds,g1,g2,g3⟩:=Qi1 hd
   refine⟨ρ,hs,F,d,b',is',dn,rel,hx,e1,g1,λv0 w H1 Gm s1 hv fo=>⟨ρ,hs,F,r,rel.ext s1,e2,λu H2 G p2=>?_⟩⟩
   have rp:=p2.rp
   rw[hr]at rp
   rw[rp.int_inv]
   have fo2:=fo.same p2.same
   obtain⟨c,vs,v',G',rfl,hc,h3,h4⟩:=Focus.one fo2.rp g2 g3
   have fin:=q v0 v' H2 G' (s1.trans p2.same) hv (fo2.snoc h4)
   rcases hc with⟨_,hc⟩ | ⟨_,hc⟩
   ·exact .inl ⟨c,vs,i,v',rfl,rfl,hc,h3,fin⟩
   ·exact .inr ⟨c,vs,i,v',rfl,rfl,hc,h3,fin⟩
  | _=>rw[hr]at hp;cases hp
noncomputable def QcX(x:Nat)(pf:DP)(fi fa:DE):DS:=λρ=>(fa ρ).bind λr0=>match ρ[x]? with
 | some (some (d,true))=>(pf ρ).bind λis=>(fi ρ).bind λri=>match ri.d,Qb4 d is with
  | .int k,some (.lst ds)=>(ixN ds.length k).bind λj=>if r0.norm.fr && decide r0.norm.M.Nodup && !r0.norm.M.contains x then some (.nx ((kill r0.norm.M ρ).set x (some (Qbe is d (.lst (ds.set j r0.d)),true))))else
   none
  | _,_=>none
 | _=>none
theorem set_mk(hq:H2 q=some (.lst vsm))(rs:Rps K H2 dsm vsm Gp)(hl:Gp.length=nls dsm)(nq:q∉Gp)(nqn:q∉Gn)(hn:Rp K H2 dn vn Gn)(hnl:Gn.length=dn.nl)(hj:j<dsm.length):
  ∃G',Rps K (upd H2 q (.lst (vsm.set j vn))) (dsm.set j dn) (vsm.set j vn) G'/\G'.length=nls (dsm.set j dn)/\∀a,G'.count a<=Gp.count a+Gn.count a:=by
 obtain⟨F1,G,F2,v,e1,e2,h1,h2,h3⟩:=rs.split (j:=j) (d:=dsm[j]) (by simp[hj])
 subst e1
 have hjv:j<vsm.length:=by rw[← rs.length];exact hj
 have n1:q∉F1:=λh=>nq (Zd _ h)
 have n2:q∉F2:=λh=>nq (Ze _ (Ze _ h))
 refine⟨F1++(Gn++F2),Rps.Qth (h1.upd hq n1) (hn.upd hq nqn) (h3.upd hq n2) hj hjv,?_,λa=>?_⟩
 ·have:=Qft (ds:=dsm) (j:=j) (d:=dsm[j]) (e:=dn) (by simp[hj])
  have l1:=h1.Qas
  have l2:=h2.Qas
  have l3:=h3.Qas
  have e1:nls (dsm.take j)+((dsm[j]).nl+nls (dsm.drop (j+1)))=nls dsm:=by
   have e2:=congrArg nls (ZaU j dsm)
   rw[QcK,ZV hj]at e2
   simpa only[nls]using e2
  simp only[Zp]at hl ⊢
  omega
 ·simp only[Zad];omega
theorem Q6.Qtb(p:Q6 K ρ F H H1 r v G)(s:QD H1 H2):Q6 K ρ F H H2 r v G:=⟨p.same.trans s,p.rp.same s,p.src,p.cnt,p.own⟩
theorem Qwj(hv:SE X e fa)(ho:SPa X a x pf)(hi:SE X i fi)
  (h:∀te to ti,PE X e te->PE X a to->PE X i ti->PS X (.Assign [.Subscript a i pos'] e pos) (Qlu te (L2.QdN to ti Qtn))):S1 X (.Assign [.Subscript a i pos'] e pos) (QcX x pf fi fa):=λH0 A0=>
 (h _ _ _ (hv H0 A0) (ho H0 A0) (hi H0 A0)).mono λE σ H=>exK λρ hs F o rel e q=>by
  refine Qf e λr0 e1 e=>?_
  split at e
  ·rename_i d hx
   refine Qf e λis e2 e=>?_
   refine Qf e λri e3 e=>?_
   split at e
   ·rename_i k ds hk hp
    refine Qf e λj e4 e=>?_
    split at e
    ·rename_i hc
     cases e
     simp only[Zg,decide_eq_true_eq,ZY]at hc
     obtain⟨⟨c1,c2⟩,c3⟩:=hc
     have c3:x∉r0.norm.M:=λh=>by rw[ZG.mpr h]at c3;cases c3
     refine⟨ρ,hs,F,r0,rel,e1,λvn H1 Gn p=>⟨ρ,hs,F,d,true,is,.lst ds,rel.ext p.same,hx,e2,hp,λv0 w H2 Gm s2 hv0 fo=>⟨ρ,hs,F,ri,(rel.ext p.same).ext s2,e3,λu H3 Gi pi=>?_⟩⟩⟩
     have p':=(p.norm.Qtb s2).Qtb pi.same
     have fo3:=fo.same pi.same
     have rpi:=pi.rp
     rw[hk]at rpi
     rw[rpi.int_inv]
     obtain⟨l,ws,L,rfl,_⟩:=fo3.rp.lst_inv
     obtain⟨ol,on,_,oap,_⟩:=rel.own x d hx
     have hjl:=(Qhn e4).2.1
     obtain⟨gn,gs⟩:=p'.fresh rel c1 c2
     have rn:=p'.rp
     rw[r0.Qc6]at rn
     have hnl:=(p'.cnt c1).2
     rw[r0.Qc6]at hnl
     obtain⟨vsm,_,f1,_⟩:=fo3.mut (vs':=[]) (ds':=[]) (G':=[]) on ol
     obtain⟨_,_,_,_,_,_,zl,_⟩:=fo3.rp.lst_inv
     have key:∃F',Rp X.K (upd H3 l (.lst (vsm.set j vn))) (Qbe is d (.lst (ds.set j r0.d))) v0 F'/\F'.length=(Qbe is d (.lst (ds.set j r0.d))).nl/\l∈F x/\ds.length=vsm.length/\∀a,F'.count a<=(F x).count a+Gn.count a:=by
      have own5:∀G',_:=λG'=>fo3.mut (vs':=vsm.set j vn) (ds':=ds.set j r0.d) (G':=G') on ol
      obtain⟨vs1,Gp,g1,g2,g3,g4,g5,g6,g7,_⟩:=own5 []
      rw[f1]at g1;cases g1
      have hq:l∉Gn:=λh=>by
       rcases(gs l h).2 with z | ⟨k',d',hk',ek,hak⟩
       ·obtain⟨vs,w⟩:=rel.mem hx g5
        rw[z]at w;cases w
       ·exact oap k' d' true (λz=>c3 (z▸hk')) ek l g5 hak
      obtain⟨G',m1,m2,m3⟩:=set_mk f1 g3 g4 g7 hq rn hnl hjl
      obtain⟨vs2,Gp2,k1,k2,k3,k4,k5,k6,k7,k8⟩:=own5 G'
      have eG:Gp2=Gp:=by rw[g2]at k2;exact(List.cons.inj k2).2.symm
      subst eG
      obtain⟨F',h1,h2,h3⟩:=k8 m1 (by rw[ZaS];exact zl) m2
      exact⟨F',h1,h2,g5,g3.length,λa=>by have:=h3 a;have:=m3 a;omega⟩
     obtain⟨F',k1,k2,k3,k4,k5⟩:=key
     refine⟨l,vsm,k,j,rfl,rfl,f1,by rw[← k4];exact e4,?_⟩
     obtain⟨F'',rel'⟩:=rel.mut p' c1 c2 (QD.refl _) hx c3 hv0 f1 k3 k1 k2 k5
     exact q _ _ F'' rel'
    ·
      cases e
   ·cases e
  ·cases e
end
section
variable {K:PySem.W.Frag}{H0 H H1 H2 H3:Hp}{A0:List Addr}{hs:List (V×D×List Addr)}{ρ:En}{F:Nat->List Addr}{σ:L2.St}
theorem Rel.write(rel:Rel K H0 A0 hs ρ F σ H)(p:Q6 K ρ F H H3 r vn Gn)(hf:r.fr=true)(nd:r.M.Nodup)(hx:ρ[x]? =some (some (d,true)))(hxM:x∉r.M)(hv0:σ[x]? =some (some v0))
  {is:List Int}{ds:List D}{Gm:List Addr}(fo:Focus K H3 is d v0 (F x) (.lst ds) w Gm):
  ∃l vsm Gp,w= .ref l/\H3 l=some (.lst vsm)/\Rps K H3 ds vsm Gp/\Gp.length=nls ds/\l∉Gp/\l∉Gn/\ds.length<=sizeLine∧
   ∀ds' vs' G',Rps K (upd H3 l (.lst vs')) ds' vs' G'->ds'.length<=sizeLine->G'.length=nls ds'->(∀a,G'.count a<=Gp.count a+Gn.count a)→
    ∃F',Rel K H0 A0 hs ((kill r.M ρ).set x (some (Qbe is d (.lst ds'),true))) F' σ (upd H3 l (.lst vs')):=by
 obtain⟨l,ws,L,rfl,_,_,zl,_⟩:=fo.rp.lst_inv
 obtain⟨ol,on,_,oap,_⟩:=rel.own x d hx
 obtain⟨gn,gs⟩:=p.fresh rel hf nd
 obtain⟨vsm,Gp,g1,g2,g3,g4,g5,g6,g7,_⟩:=fo.mut (vs':=[]) (ds':=[]) (G':=[]) on ol
 have hq:l∉Gn:=λh=>by
  rcases(gs l h).2 with z | ⟨k',d',hk',ek,hak⟩
  ·obtain⟨vs,w⟩:=rel.mem hx g5
   rw[z]at w;cases w
  ·exact oap k' d' true (λz=>hxM (z▸hk')) ek l g5 hak
 refine⟨l,vsm,Gp,rfl,g1,g3,g4,g7,hq,zl,λds' vs' G' m1 m2 m3 m4=>?_⟩
 obtain⟨vs2,Gp2,k1,k2,k3,k4,k5,k6,k7,k8⟩:=fo.mut (vs':=vs') (ds':=ds') (G':=G') on ol
 have eG:Gp2=Gp:=by rw[g2]at k2;exact(List.cons.inj k2).2.symm
 subst eG
 obtain⟨F',h1,h2,h3⟩:=k8 m1 m2 m3
 exact rel.mut p hf nd (QD.refl _) hx hxM hv0 g1 g5 h1 h2 λa=>by have:=h3 a;have:=m4 a;omega
end
section
variable {X:Cx}{a b e:Expr}{fa fb:DE}{pf:DP}{x:Nat}{pos apos:Pos}
noncomputable def Qhy(r:R)(x:Nat):Bool:=r.norm.fr && decide r.norm.M.Nodup && !r.norm.M.contains x
theorem Qqd(h:Qhy r x=true):r.norm.fr=true/\r.norm.M.Nodup/\x∉r.norm.M:=by
 unfold Qhy at h
 simp only[Zg,decide_eq_true_eq,ZY]at h
 exact⟨h.1.1,h.1.2,λz=>by rw[ZG.mpr z]at h;cases h.2⟩
noncomputable def Qdr(x:Nat)(pf:DP)(fa:DE):DS:=λρ=>match ρ[x]? with
 | some (some (d,true))=>(pf ρ).bind λis=>(fa ρ).bind λr0=>match Qb4 d is with
  | some (.lst ds)=>if Qhy r0 x && decide (ds.length<sizeLine)then some (.nx ((kill r0.norm.M ρ).set x (some (Qbe is d (.lst (ds++[r0.d])),true))))else none
  | _=>none
 | _=>none
theorem Qsk{H0:Hp}{A0:List Addr}{E:Ends}{σ:L2.St}{H:Hp}:tS X.K H0 A0 (Qdr x pf fa) E σ H->Qoe (tBM X.K "list" QnQ (tP X.K H0 A0 x pf) (Qom (tV X.K H0 A0 fa) Qo5)) E σ H:=exK λρ hs F o rel e q=>by
 unfold Qdr at e
 split at e
 ·rename_i d hx
  refine Qf e λis e2 e=>?_
  refine Qf e λr0 e1 e=>?_
  split at e
  ·rename_i ds hp
   split at e
   ·rename_i hc
    simp only[Zg,decide_eq_true_eq]at hc
    obtain⟨c1,c2,c3⟩:=Qqd hc.1
    cases e
    refine⟨ρ,hs,F,d,true,is,.lst ds,rel,hx,e2,hp,λv0 w H2 Gm s2 hv0 fo=>?_⟩
    have ty:tyV X.K "list" w H2:=by
     obtain⟨l,ws,L,rfl,hl,_⟩:=fo.rp.lst_inv
     exact .inl ⟨rfl,ws,Qak hl⟩
    refine⟨ty,ρ,hs,F,r0,rel.ext s2,e1,λvn H3 Gn p=>?_⟩
    have p':=p.norm
    obtain⟨l,vsm,Gp,rfl,g1,g2,g3,g4,g5,g6,g7⟩:=(rel.ext s2).write p' c1 c2 hx c3 hv0 (fo.same p.same)
    refine⟨l,vsm,vn,rfl,rfl,g1,by rw[← g2.length];exact hc.2,?_⟩
    have rn:=p'.rp
    rw[r0.Qc6]at rn
    have hnl:=(p'.cnt c1).2
    rw[r0.Qc6]at hnl
    have rw1:Rps X.K (upd H3 l (.lst (vsm++[vn]))) [r0.d] [vn] Gn:=by
     simp only[Rps]
     exact⟨vn,[],Gn,[],rfl,by simp,rn.upd g1 g5,rfl,rfl⟩
    obtain⟨F',rel'⟩:=g7 (ds++[r0.d]) (vsm++[vn]) (Gp++Gn) ((g2.upd g1 g4).append rw1) (by rw[Zp,ZaT];omega) (by rw[Zp,QcK,g3,hnl];simp[nls]) (λa=>by rw[Zad];omega)
    exact q _ _ F' rel'
   ·cases e
  ·cases e
 ·cases e
open PyProof.Rows in
theorem QpG:Qxm X (Qv6 X.K):=by
 intro pins s σ H o i ov iv Q I ro ri h
 obtain⟨p,xs,k,v,rfl,rfl,hq,ha,q⟩:=h
 cases ro
 obtain⟨t,rfl⟩:=ri
 obtain⟨its,r,pl,hz⟩:=I.list hq
 obtain⟨j,h1,h2,h3,h4,h5⟩:=Qjr ha
 obtain⟨w,ew,rw'⟩:=r.get h2
 have hl:=r.length
 have hn:=QfJ
 by_cases h0:0<=k
 ·refine wpAny_getItem_list pl.isList h0 (by omega) (x:=w) ?_ ⟨v,H,I,rw',q⟩
  have:k.toNat=j:=by
   rw[seqIndex_of h0 h5]at h1
   exact Option.some.inj h1
  rw[this];simpa using ew
 ·refine wpAny_getItem_list_neg pl.isList (by omega) (by rw[Zx]<;>omega) (by omega) (x:=w) ?_ ⟨v,H,I,rw',q⟩
  have hj:(k+(its.toArray.size:Int)).toNat=j:=by
   rw[seqIndex_neg (by omega) h4]at h1
   rw[Zx,← hl]
   exact Option.some.inj h1
  rw[hj];simpa using ew
noncomputable def QdB(g:D->D->Option D)(x:Nat)(pf:DP)(fi fa:DE):DS:=λρ=>match ρ[x]? with
 | some (some (d,true))=>(pf ρ).bind λis=>(fi ρ).bind λri=>match ri.d,Qb4 d is with
  | .int k,some (.lst ds)=>(ixN ds.length k).bind λj=>(ds[j]?).bind λold=>(fa ρ).bind λr=>(g old r.d).map λnew=> .nx (ρ.set x (some (Qbe is d (.lst (ds.set j new)),true)))
  | _,_=>none
 | _=>none
theorem QtS(ho:OpR X (inplaceOp op) r)(hg:Qcs X.K g r)(hv:SE X e fa)(hp:SPa X a x pf)(hi:SE X i fi)
  (ha:∀ov iv new,augStore i ov iv new=(do holding [new,ov,iv] (setItem ov iv new);release [new,ov,iv] [];pure .next)):S1 X (.AugAssign (.Subscript a i pos') op e pos) (QdB g x pf fi fa):=λH0 A0=>
 (QuN (hp H0 A0) (hi H0 A0) QpG (hv H0 A0) (λpins s σ H x y v u Q I rx ry q=>Qzj ho I rx ry q) set_list ha).mono λE σ H=>exK λρ hs F o rel e q=>by
  unfold QdB at e
  split at e
  ·rename_i d hx
   refine Qf e λis e2 e=>?_
   refine Qf e λri e3 e=>?_
   split at e
   ·rename_i k ds hk hp'
    refine Qf e λj e4 e=>?_
    refine Qf e λold e5 e=>?_
    refine Qf e λrv e6 e=>?_
    obtain⟨new,e7,e⟩:=Zc.mp e
    subst e
    have hjl:=(Qhn e4).2.1
    refine⟨ρ,hs,F,d,true,is,.lst ds,rel,hx,e2,hp',λv0 w H2 Gm s2 hv0 fo=>⟨ρ,hs,F,ri,rel.ext s2,e3,λu H3 Gi pi=>?_⟩⟩
    have fo3:=fo.same pi.same
    have rpi:=pi.rp
    rw[hk]at rpi
    rw[rpi.int_inv]
    have at3:atI ds k=some old:=by unfold atI;rw[e4];exact e5
    obtain⟨l,vs,v',Go,rfl,hc,h3,h4⟩:=Focus.one fo3.rp rfl at3
    have hc:SqL X.K H3 l vs:=by
     rcases hc with⟨_,hc⟩ | ⟨hc,_⟩
     ·exact hc
     ·cases hc
    refine⟨l,vs,k,v',rfl,rfl,hc,h3,ρ,hs,F,rv,(rel.ext s2).ext pi.same,e6,λy H4 G4 p4=>?_⟩
    have fo4:=fo3.same p4.same
    have ro:=h4.rp.same p4.same
    refine(hg _ _ _ e7).2 H4 v' y Go G4 _ ro p4.rp λz hz=>?_
    have rel4:=((rel.ext s2).ext pi.same).ext p4.same
    have pz:Q6 X.K ρ F H4 H4 ⟨new,true,[]⟩ z []:= .flat (QD.refl _) (hz H4) (hg _ _ _ e7).1
    obtain⟨l',vsm,Gp,el,g1,g2,g3,g4,g5,g6,g7⟩:=rel4.write pz rfl Zap hx (by simp) hv0 fo4
    cases el
    refine⟨l,vsm,k,j,rfl,rfl,g1,by rw[← g2.length];exact e4,?_⟩
    obtain⟨G',m1,m2,m3⟩:=set_mk g1 g2 g3 g4 g5 (hz H4) (Qdm new (hg _ _ _ e7).1).symm hjl
    obtain⟨F',rel'⟩:=g7 _ _ G' m1 (by rw[ZaS];exact g6) m2 m3
    exact q _ _ F' rel'
   ·cases e
  ·cases e
end
end HS
namespace HS
open PySem PySem.Spec L2 PyProof.Rows
noncomputable def D.Qtk:D->Option Int
 | .int i=>some i
 | _=>none
noncomputable def Qdy:List D->Option (List Int)
 | []=>some []
 | d::ds=>(d.Qtk).bind λi=>(Qdy ds).map λr=>i::r
theorem Qd1:∀{ds:List D}{ns:List Int},Qdy ds=some ns->ds=ns.map .int
 | [],_,h=>by cases h;rfl
 | d::ds,ns,h=>by
  unfold Qdy at h
  refine Qf h λi h1 h=>?_
  obtain⟨r,h2,rfl⟩:=Zc.mp h
  cases d with
  | int j=>cases h1;rw[Qd1 h2];rfl
  | _=>cases h1
theorem Qgc:∀(ns:List Int),Qdy (ns.map D.int)=some ns
 | []=>rfl
 | n::ns=>by simp[Qdy,Qgc ns,D.Qtk]
theorem Rps.ints{K:PySem.W.Frag}{H:Hp}:∀{ns:List Int}{vs:List V}{F:List Addr},Rps K H (ns.map .int) vs F->vs=ns.map .int
 | [],_,_,h=>by simp only[Zbn,Rps]at h;rw[h.1];rfl
 | n::ns,_,_,h=>by
  simp only[Zq,Rps]at h
  obtain⟨v,ws,F1,F2,rfl,rfl,r,q⟩:=h
  rw[r.int_inv,Rps.ints q];rfl
theorem QcE(h:Qw (ns.map V.int) us):IntsAre us ns:=intsAre_of h
section
variable {X:Cx}{a b e:Expr}{es:List Expr}{fa fb:DE}{fs:DA}{pos p2:Pos}
theorem Qwb(he:PE X e te)(hk:PE X k tk):PE X (.Subscript e (.Slice none none (some k) p2) pos)
  (λσ H Q=>te σ H λx H1=>tk σ H1 λy H2=>∃a xs,x= .ref a/\y= .int (-1)/\SqL X.K H2 a xs/\∀p,H2 p=none->Q (.ref p) (upd H2 p (.lst xs.reverse))):=by
 intro pins s σ H Q I h
 refine PyProof.Rows.Subscript_ (thn (he pins s σ H _ I h) λv s1=>exJ λx H1 I1 r1 q1=>?_)
 refine wpAny_Slice ?_
 rw[evalPart_none]
 refine wpAny_pure (wpAny_pure ?_)
 rw[evalPart_some]
 refine thn (hk pins s1 σ H1 _ I1 q1) λvk s3=>exJ λy H3 I3 r3 q3=>?_
 obtain⟨c,xs,rfl,rfl,hq,q⟩:=q3
 cases r1
 obtain⟨t,rfl⟩:=r3
 have I4:Inv X pins σ H3 {s3 with heap:=s3.heap.push {cls:= .type "slice",data:= .fields #[.none,.none,.int (-1) t]}}:=I3.kept (t':=s3.toks) λb ob q=>Zs _ q
 obtain⟨its,r,ht,hz⟩:=I4.list hq
 have hlen:=r.length
 refine tail_any ht.isList.typeIs slot_list_getitem.lookup ?_ (by with_unfolding_all rfl)
 refine wpAny_getItem_list_slice ht.isList (Heap.IsSliceOf.new ..) .none .none (.int (-1) t) (by simp) ?_ (by rw[Zx]<;>omega)
 rw[PySem.W.krv_pick]
 refine⟨.ref _,_,I4.laid (t':=s3.toks) (λb ob q=>Zs _ q) (Zn _) ?_,rfl,q _ (I4.hok.fresh (Zn _))⟩
 exact⟨by rw[ZaY];exact hz,its.reverse,0,r.reverse,ZL _ rfl⟩
theorem Rps.rev{K:PySem.W.Frag}{H:Hp}:∀{ds:List D}{vs:List V}{F:List Addr},Rps K H ds vs F->∃G,Rps K H ds.reverse vs.reverse G/\∀a∈G,a∈F
 | [],_,_,h=>by simp only[Rps]at h;rw[h.1,h.2];exact⟨[],by simp[Rps],λ_ h=>h⟩
 | d::ds,_,_,h=>by
  simp only[Rps]at h
  obtain⟨v,ws,F1,F2,rfl,rfl,r,q⟩:=h
  obtain⟨G,h1,h2⟩:=Rps.rev q
  refine⟨G++F1,?_,λa ha=>?_⟩
  ·rw[ZaV,ZaV]
   refine h1.append ?_
   simp only[Rps]
   exact⟨v,[],F1,[],rfl,by simp,r,rfl,rfl⟩
  ·rcases Zo.mp ha with z | z
   ·exact Ze _ (h2 a z)
   ·exact Zd _ z
noncomputable def QlZ(fa fk:DE):DE:=λρ=>(fa ρ).bind λra=>(fk ρ).bind λrk=>match ra.d,rk.d with
 | .lst xs,.int (-1)=>some (QaE xs.reverse ra.M)
 | _,_=>none
theorem Qwd{k:Expr}{fk:DE}(ha:SE X a fa)(hk:SE X k fk):SE X (.Subscript a (.Slice none none (some k) p2) pos) (QlZ fa fk):=λH0 A0=>
 (Qwb (ha H0 A0) (hk H0 A0)).mono λσ H Q=>exK λρ hs F r' rel e q=>by
  refine Qf e λra e1 e=>?_
  refine Qf e λrk e2 e=>?_
  refine two rel e1 e2 λx y H1 H2 G1 G2 p1 p2=>?_
  split at e
  ·rename_i xs hra hrk
   cases e
   have rp:=p1.rp.same p2.same
   have rk':=p2.rp
   rw[hra]at rp
   rw[hrk]at rk'
   obtain⟨c,vs,L,rfl,hc,rl,zl,el⟩:=rp.lst_inv
   refine⟨c,vs,rfl,rk'.int_inv,Qak hc,λp hp=>?_⟩
   obtain⟨G,h1,h2⟩:=rl.rev
   refine q _ _ (p::G) (Q6.QaE (p1.same.trans p2.same) hp h1 (by rw[ZaY];exact zl) (λz hz=>p1.src z ?_) p1.own)
   rcases el with rfl | rfl
   ·exact Zb _ (h2 z hz)
   ·exact h2 z hz
  ·cases e
noncomputable def Qxq(K:PySem.W.Frag)(C:List Int->Int->Prop):List V->Hp->VK->Prop:=λxs H Q=>∃(p:Addr) (ns:List Int),xs=[.ref p]/\(SqL K H p (ns.map V.int)∨SqT K H p (ns.map V.int))/\ns≠[]/\∀M,C ns M->Q (.int M) H
def Qiw(ns:List Int)(M:Int):Prop:=M∈ns/\∀a∈ns,M<=a
def isMax(ns:List Int)(M:Int):Prop:=M∈ns/\∀a∈ns,a<=M
theorem Qet(hi:IntsAre us ns):∃xs:Array (Int×Tok),us.toArray=intItems xs/\ns=xs.toList.map (·.1):=by
 obtain⟨xs,e⟩:=hi.allInts.items
 exact⟨xs,e,by rw[← hi.numsOf,← nums_intItems,← e]⟩
theorem QmI(hh:A.handled=none)(hl:s.heap.IsTuple l (intItems xs))(hne:0<xs.size)
  (h:∀v h' tk,(intItems xs)[argBest (λi j=>decide (numAt xs i<numAt xs j)) (xs.size-1)]? =some v->(∀b o,s.heap.get? b=some o->h'.get? b=some o)->Q v {s with heap:=h',toks:=tk}):
  wpAny (model prog w) A (call (.builtin "min") [.ref l]) Q E s:=by
 have hlt:l<s.heap.objs.size:=by obtain⟨_,e,_⟩:=hl;exact Zv e
 refine call_min_walk (wpAny_pyIter_tuple hl ?_)
 refine⟨_,[_,l],[_],_,_,_,_,rfl,Walks.tuple (A:=A.in1) hh _ l (ZN hlt) (intItems xs),⟨⟨_,ZL _ rfl,rfl,rfl⟩,hl.push _⟩,λb hb=>?_,by simpa[intItems]using hne,CmpOf.ints_lt (numAt xs) (λ_ _=>intItems_at),λv h' tk hP hk=>?_⟩
 ·show b<(s.heap.push _).objs.size
  rw[ZaD]
  rcases Zl.mp hb with rfl | hb
  ·exact ZaB _
  ·rcases Zl.mp hb with rfl | hb
   ·exact ZaW hlt
   ·cases hb
 ·refine h v h' tk (by simpa[intItems]using hP) λb o e=>?_
  refine hk b o (λhm=>?_) (Zs _ e)
  rcases Zl.mp hm with e1 | hm
  ·exact absurd (e1▸Zv e) (Zaa _)
  ·cases hm
theorem Qq0(hc:X.calm=true):Qbf X (.builtin "min") (Qxq X.K Qiw):=by
 intro pins s σ H xs us Q I r h
 obtain⟨p,ns,rfl,hq,hne,q⟩:=h
 obtain⟨u,rfl,rx⟩:=vals1 r
 cases rx
 rcases hq with hq | hq
 ·obtain⟨its,r',pl,hz⟩:=I.list hq
  obtain⟨ys,e,hns⟩:=Qet (QcE r')
  have hl:=pl.isList
  rw[e]at hl
  have hsz:0<ys.size:=by
   rcases Nat.eq_zero_or_pos ys.size with z | z
   ·exact absurd (by rw[hns,List.map_eq_nil_iff];exact ZaQ (by simpa using z)) hne
   ·exact z
  refine min_intList (I.ok.hd hc) hl hsz λv h' tk hv hk=>?_
  obtain⟨t,rfl⟩:=intItems_at hv
  obtain⟨h1,h2⟩:=argBest_lt (numAt ys) (ys.size-1)
  refine⟨.int _,H,I.kept hk,⟨t,rfl⟩,q _ ⟨?_,λa ha=>?_⟩⟩
  ·rw[hns,numAt_eq];exact getD_mem (by rw[Zm,Zat];omega)
  ·rw[hns]at ha
   obtain⟨j,hj,rfl⟩:=mem_getD ha
   rw[Zm,Zat]at hj
   rw[← numAt_eq];exact h2 j (by omega)
 ·obtain⟨its,r',pl,hz⟩:=I.tuple hq
  obtain⟨ys,e,hns⟩:=Qet (QcE r')
  have hl:=pl
  rw[e]at hl
  have hsz:0<ys.size:=by
   rcases Nat.eq_zero_or_pos ys.size with z | z
   ·exact absurd (by rw[hns,List.map_eq_nil_iff];exact ZaQ (by simpa using z)) hne
   ·exact z
  refine QmI (I.ok.hd hc) hl hsz λv h' tk hv hk=>?_
  obtain⟨t,rfl⟩:=intItems_at hv
  obtain⟨h1,h2⟩:=argBest_lt (numAt ys) (ys.size-1)
  refine⟨.int _,H,I.kept hk,⟨t,rfl⟩,q _ ⟨?_,λa ha=>?_⟩⟩
  ·rw[hns,numAt_eq];exact getD_mem (by rw[Zm,Zat];omega)
  ·rw[hns]at ha
   obtain⟨j,hj,rfl⟩:=mem_getD ha
   rw[Zm,Zat]at hj
   rw[← numAt_eq];exact h2 j (by omega)
theorem QmV(hh:A.handled=none)(hl:s.heap.IsTuple l (intItems xs))
  (h:∀h' tk t',(∀b o,s.heap.get? b=some o->h'.get? b=some o)->Q (.int (preSum (numAt xs) xs.size) t') {s with heap:=h',toks:=tk}):
  wpAny (model prog w) A (call (.builtin "sum") [.ref l]) Q E s:=by
 have hlt:l<s.heap.objs.size:=by obtain⟨_,e,_⟩:=hl;exact Zv e
 refine call_sum_walkG (wpAny_pyIter_tuple hl ?_)
 refine⟨_,[_,l],[_],_,_,_,numAt xs,rfl,Walks.tuple (A:=A.in1) hh _ l (ZN hlt) (intItems xs),⟨⟨_,ZL _ rfl,rfl,rfl⟩,hl.push _⟩,λb hb=>?_,(λ_ _=>intItems_at),λh' tk t' hk=>?_⟩
 ·show b<(s.heap.push _).objs.size
  rw[ZaD]
  rcases Zl.mp hb with rfl | hb
  ·exact ZaB _
  ·rcases Zl.mp hb with rfl | hb
   ·exact ZaW hlt
   ·cases hb
 ·have:=h h' tk t' λb o e=>by
   refine hk b o (λhm=>?_) (Zs _ e)
   rcases Zl.mp hm with e1 | hm
   ·exact absurd (e1▸Zv e) (Zaa _)
   ·cases hm
  simpa[intItems]using this
noncomputable def Qxk(K:PySem.W.Frag):List V->Hp->VK->Prop:=λxs H Q=>∃(p:Addr) (ns:List Int),xs=[.ref p]/\(SqL K H p (ns.map V.int)∨SqT K H p (ns.map V.int))/\Q (.int ns.sum) H
theorem Qp5(hc:X.calm=true):Qbf X (.builtin "sum") (Qxk X.K):=by
 intro pins s σ H xs us Q I r h
 obtain⟨p,ns,rfl,hq,q⟩:=h
 obtain⟨u,rfl,rx⟩:=vals1 r
 cases rx
 rcases hq with hq | hq
 ·obtain⟨its,r',pl,hz⟩:=I.list hq
  obtain⟨ys,e,hns⟩:=Qet (QcE r')
  have hl:=pl.isList
  rw[e]at hl
  refine sum_intListG (I.ok.hd hc) hl λh' tk t' hk=>?_
  refine⟨.int ns.sum,H,I.kept hk,⟨t',?_⟩,q⟩
  rw[preSum_eq,ZaA (by simp),hns]
 ·obtain⟨its,r',pl,hz⟩:=I.tuple hq
  obtain⟨ys,e,hns⟩:=Qet (QcE r')
  have hl:=pl
  rw[e]at hl
  refine QmV (I.ok.hd hc) hl λh' tk t' hk=>?_
  refine⟨.int ns.sum,H,I.kept hk,⟨t',?_⟩,q⟩
  rw[preSum_eq,ZaA (by simp),hns]
noncomputable def Qh1:List Int->Option Int
 | []=>none
 | [n]=>some n
 | n::r=>(Qh1 r).map λm=>if m<n then m else n
noncomputable def Qin:List Int->Option Int
 | []=>none
 | [n]=>some n
 | n::r=>(Qin r).map λm=>if n<m then m else n
theorem Qhi:∀{ns:List Int}{m:Int},Qh1 ns=some m->Qiw ns m
 | [],_,h=>by cases h
 | [n],_,h=>by cases h;exact⟨by simp,λa ha=>by simp at ha;omega⟩
 | n::k::r,m,h=>by
  simp only[Qh1]at h
  obtain⟨m',h1,rfl⟩:=Zc.mp h
  obtain⟨h2,h3⟩:=Qhi h1
  constructor
  ·split
   ·exact Zb _ h2
   ·exact Zf
  ·intro a ha
   rcases Zl.mp ha with rfl | ha
   ·split<;>omega
   ·have:=h3 a ha;split<;>omega
theorem Qn5:∀{ns:List Int}{m:Int},Qin ns=some m->isMax ns m
 | [],_,h=>by cases h
 | [n],_,h=>by cases h;exact⟨by simp,λa ha=>by simp at ha;omega⟩
 | n::k::r,m,h=>by
  simp only[Qin]at h
  obtain⟨m',h1,rfl⟩:=Zc.mp h
  obtain⟨h2,h3⟩:=Qn5 h1
  constructor
  ·split
   ·exact Zb _ h2
   ·exact Zf
  ·intro a ha
   rcases Zl.mp ha with rfl | ha
   ·split<;>omega
   ·have:=h3 a ha;split<;>omega
theorem QkO{ns:List Int}{a b:Int}(h:Qiw ns a)(g:Qiw ns b):a=b:=by have:=h.2 b g.1;have:=g.2 a h.1;omega
noncomputable def QdX:List D->Option D
 | [.lst xs]=>(Qdy xs).bind λns=>(Qh1 ns).map .int
 | [.tup xs]=>(Qdy xs).bind λns=>(Qh1 ns).map .int
 | _=>none
noncomputable def Qoh:List D->Option D
 | [.lst xs]=>(Qdy xs).bind λns=>(Qin ns).map .int
 | [.tup xs]=>(Qdy xs).bind λns=>(Qin ns).map .int
 | _=>none
noncomputable def Qgk:List D->Option D
 | [.lst xs]=>(Qdy xs).map λns=> .int ns.sum
 | [.tup xs]=>(Qdy xs).map λns=> .int ns.sum
 | _=>none
theorem QvF{K:PySem.W.Frag}:Qd7 K QdX (Qxq K Qiw):=λds d e=>by
 unfold QdX at e
 split at e
 ·refine Qf e λns h1 e=>?_
  obtain⟨m,h2,rfl⟩:=Zc.mp e
  refine⟨rfl,λH vs F Q r q=>?_⟩
  obtain⟨v,rfl,rp⟩:=r.one
  obtain⟨l,ws,L,rfl,hl,rl,zl,el⟩:=rp.lst_inv
  rw[Qd1 h1]at rl
  rw[rl.ints]at hl
  exact⟨l,ns,rfl,.inl (Qak hl),λz=>(by rw[z]at h2;cases h2),λM hM=>by rw[QkO hM (Qhi h2)];exact q _ λ_=> .int_mk⟩
 ·refine Qf e λns h1 e=>?_
  obtain⟨m,h2,rfl⟩:=Zc.mp e
  refine⟨rfl,λH vs F Q r q=>?_⟩
  obtain⟨v,rfl,rp⟩:=r.one
  obtain⟨l,ws,rfl,hl,rl⟩:=rp.Qa0
  rw[Qd1 h1]at rl
  rw[rl.ints]at hl
  exact⟨l,ns,rfl,.inr hl,λz=>(by rw[z]at h2;cases h2),λM hM=>by rw[QkO hM (Qhi h2)];exact q _ λ_=> .int_mk⟩
 ·cases e
theorem QuL{K:PySem.W.Frag}:Qd7 K Qgk (Qxk K):=λds d e=>by
 unfold Qgk at e
 split at e
 ·obtain⟨ns,h1,rfl⟩:=Zc.mp e
  refine⟨rfl,λH vs F Q r q=>?_⟩
  obtain⟨v,rfl,rp⟩:=r.one
  obtain⟨l,ws,L,rfl,hl,rl,zl,el⟩:=rp.lst_inv
  rw[Qd1 h1]at rl
  rw[rl.ints]at hl
  exact⟨l,ns,rfl,.inl (Qak hl),q _ λ_=> .int_mk⟩
 ·obtain⟨ns,h1,rfl⟩:=Zc.mp e
  refine⟨rfl,λH vs F Q r q=>?_⟩
  obtain⟨v,rfl,rp⟩:=r.one
  obtain⟨l,ws,rfl,hl,rl⟩:=rp.Qa0
  rw[Qd1 h1]at rl
  rw[rl.ints]at hl
  exact⟨l,ns,rfl,.inr hl,q _ λ_=> .int_mk⟩
 ·cases e
noncomputable def QgX:List D->Option D
 | [.int i]=>some (.int i)
 | [.bl k]=>some (.int (if k then 1 else 0))
 | _=>none
noncomputable def Qw0:List V->Hp->VK->Prop:=λxs H Q=>(∃i,xs=[.int i]/\Q (.int i) H)∨(∃k,xs=[.bl k]/\Q (.int (if k then 1 else 0)) H)
theorem QpE{X:Cx}:Qbf X (.type "int") Qw0:=by
 exact QqG
theorem Qwo{K:PySem.W.Frag}:Qd7 K QgX Qw0:=λds d e=>by
 unfold QgX at e
 split at e
 ·cases e
  refine⟨rfl,λH vs F Q r q=>?_⟩
  obtain⟨v,rfl,rp⟩:=r.one
  exact .inl ⟨_,by rw[rp.int_inv],q _ λ_=> .int_mk⟩
 ·cases e
  refine⟨rfl,λH vs F Q r q=>?_⟩
  obtain⟨v,rfl,rp⟩:=r.one
  exact .inr ⟨_,by rw[rp.QeB],q _ λ_=> .int_mk⟩
 ·cases e
theorem Qxi(hc:Qbf X (.type T) r)(hk:Qd7 X.K g r)(hg:Gl X x)(hm:X.mg x=none)(hv:bootBuiltins x=some (.type T))(ha:SA X (e::es) fs)(hn:x≠ "__name__")(hdb:(x == ("__debug__" :Str))=false)
  (he:starEach (e::es) X.env=(false,eval e X.env)::starEach es X.env) (hpl:(backTo pos (starEach es X.env)).any (·.1)=false):SE X (.Call (.Name x p) (e::es) [] pos) (dBf g fs):=λH0 A0=>
 (Qkg hc hg hm hv (ha H0 A0) hn hdb he hpl).mono λσ H Q=>exK λρ hs F r' rel e q=>by
  refine Qf e λra e1 e=>?_
  obtain⟨d,ed,e⟩:=Zc.mp e
  subst e
  exact⟨ρ,hs,F,ra,rel,e1,λvs H1 G p1=>(hk _ _ ed).2 H1 vs G Q p1.rp λv hv=>q v H1 [] (.flat p1.same (hv _) (hk _ _ ed).1)⟩
end
end HS
namespace HS
open PySem PySem.Spec L2 PyProof.Rows
section
variable {X:Cx}{a b c e tg:Expr}{es:List Expr}{fa fb fc:DE}{fs:DA}{pos p2:Pos}
noncomputable def QzZ(hi:Int)(n:Nat):List D:=(List.range n).map λ(k:Nat)=> .int (hi-(k:Int))
noncomputable def QjL(fa fb fc:DE):DI:=λρ=>(fa ρ).bind λr=>(fb ρ).bind λr'=>(fc ρ).bind λr''=>match r.d,r'.d,r''.d with
 | .int i,.int j,.int (-1)=>if i-j<=16777216/\ -(2^62)<=i/\i<2^62/\ -(2^62)<=j/\j<2^62 then some ⟨QzZ i (i-j).toNat,[]⟩else none
 | _,_,_=>none
noncomputable def Qyy(fa:DE):DE:=λρ=>(fa ρ).bind λr=>match r.d with
 | .int i=>some ⟨.int (Builtin.Int.intBits i),true,[]⟩
 | _=>none
end
end HS
namespace HS
open PySem PySem.Spec L2 PyProof.Rows
section
variable {X:Cx}{e:Expr}{es:List Expr}{fs:DA}{pos:Pos}
theorem Qvw{p:Pos}(hcl:X.calm=true)(hg:Gl X "list")(hm:X.mg "list" =none)(ha:SA X (e::es) fs)(he:starEach (e::es) X.env=(false,eval e X.env)::starEach es X.env)(hpl:(backTo pos (starEach es X.env)).any (·.1)=false):
    SE X (.Call (.Name "list" p) (e::es) [] pos) (dList fs):=λH0 A0=>
 (Qkg QmG hg hm ZbM (ha H0 A0) (by decide) (by decide) he hpl).mono λσ H Q=>exK λρ hs F r' rel e q=>by
    refine Qf e λra e1 e=>?_
    refine⟨ρ,hs,F,ra,rel,e1,λvs H1 G p1=>?_⟩
    have rp:=p1.rp
    have src:=p1.src
    split at e
    · rename_i xs hds
      cases e
      rw[hds]at rp
      obtain⟨v,rfl,rq⟩:=rp.one
      obtain⟨l,ws,L,rfl,hl,rl,zl,el⟩:=rq.lst_inv
      refine⟨l,ws,rfl,.inl (Qak hl),λc hc=>q _ _ (c::L) (Q6.QaE p1.same hc rl zl (λz hz=>src z ?_) p1.own)⟩
      rcases el with rfl | rfl
      · exact Zb _ hz
      · exact hz
    · rename_i xs hds
      split at e
      · rename_i hz
        cases e
        rw[hds]at rp
        obtain⟨v,rfl,rq⟩:=rp.one
        obtain⟨l,ws,rfl,hl,rl⟩:=rq.Qa0
        exact⟨l,ws,rfl,.inr hl,λc hc=>q _ _ (c::G) (Q6.QaE p1.same hc rl hz src p1.own)⟩
      · cases e
    · cases e
end
end HS
namespace HS
open PySem L2
def Inc(xs:Array Nat):Prop:=xs.toList.Pairwise (· < ·)
theorem Inc.get{xs:Array Nat}(h:Inc xs){i j a b:Nat}(hi:xs[i]? =some a)(hj:xs[j]? =some b)(hij:i<j):a<b:=by
 rw[← Array.getElem?_toList]at hi hj
 obtain⟨i1,rfl⟩:=Zi.mp hi
 obtain⟨j1,rfl⟩:=Zi.mp hj
 exact List.pairwise_iff_getElem.mp h i j i1 j1 hij
structure Cut (xs:Array Nat) (j r:Nat):Prop where
 le:r<=xs.size
 lo:∀i a,i<r->xs[i]? =some a->a<j
 hi:∀i a,r<=i->xs[i]? =some a->j<=a
structure TbI (t:SetTable):Prop where
 inc:Inc t.place
 dum:t.dummies= #[]
end HS
namespace HS
open PySem
section
variable {t:SetTable}
end
section
variable {mask:Nat}{owner:Array (Option Nat)}
structure Own (mask:Nat) (owner:Array (Option Nat)) (k:Nat):Prop where
 size:owner.size=mask+1
 perm:(owner.toList.filterMap id).Perm (List.range k)
end
end HS
namespace HS
open PySem L2 PyProof.Rows
section
variable {prog:Program}{w:World}{A:Around}{E:Value->Shared->Prop}{s:Shared}
structure QxY (prog:Program) (w:World) (L:Bool) (ob:Obj) (ar:Array (Int×Value)) (tb:SetTable) (S:Int->Bool) (n:Nat):Prop where
 ex:ob.ExactSet
 el:ElemsOf (intKind prog w) ar.toList
 mem:∀k,S k=true↔∃e∈ar.toList,(intKind prog w).is k e.2=true
 lt:ar.size<scanBound
 fit:tb.fits ar.size=true
 num:ar.size=n
 ti:TbI tb
 led:tb.led=L
def Sz(tb:SetTable)(n:Nat):Prop:=tb.plain=true/\(tb.mask=7/\n<=4∨tb.mask=31/\n<=18)
def Qkb(prog:Program)(w:World)(L:Bool)(h:Heap)(a:Addr)(S:Int->Bool)(n:Nat):Prop:=∃ob ar en tb,h.get? a=some ob/\ob.data= .set ar en tb/\QxY prog w L ob ar tb S n/\Sz tb n
theorem Qkb.QeW{L:Bool}{h h':Heap}{a:Addr}{S:Int->Bool}{n:Nat}(r:Qkb prog w L h a S n)(k:∀o,h.get? a=some o->h'.get? a=some o):Qkb prog w L h' a S n:=by
 obtain⟨ob,ar,en,tb,h1,h2⟩:=r
 exact⟨ob,ar,en,tb,k _ h1,h2⟩
theorem Qkb.cast{L:Bool}{h:Heap}{a:Addr}{S S':Int->Bool}{n n':Nat}(r:Qkb prog w L h a S n)(e:∀k,S k=S' k)(en:n=n'):Qkb prog w L h a S' n':=by
 have:S=S':=funext e
 subst this;subst en;exact r
end
end HS
namespace HS
open PySem L2 PyProof.Rows
section
variable {prog:Program}{w:World}{A:Around}{R:Result->Shared->Prop}{I:Addr}{fp wr:List Addr}{G:Array GenState->Array GenState->Prop}{n:Nat}{P:Nat->Value->Prop}{St:Nat->Shared->Prop}
end
end HS
namespace HS
open PySem L2 PyProof.Rows
section
variable {prog:Program}{w:World}{A:Around}{E:Value->Shared->Prop}{s:Shared}
noncomputable abbrev QzP(w:World):Bool:= !w.params.followText "set-order"
noncomputable abbrev QxU(w:World):Obj:={cls:= .type "set",dict:=none,data:= .set #[] 0 (.fresh 0 0 (QzP w))}
end
end HS
namespace HS
open PySem L2 PyProof.Rows
section
variable {prog:Program}{w:World}
structure Qz8 (prog:Program) (w:World) (a:Addr) (ob:Obj) (ep:Nat) (wk:Array (Int×Value)) (sl:Nat->Nat):Prop where
 zero:sl 0=0
 next:∀(A:Around) (E:Value->Shared->Prop) (s:Shared) (Q:Option (Value×Nat)->Shared->Prop) (i:Nat) (e:Int×Value),s.heap.get? a=some ob->wk[i]? =some e->Q (some (e.2,sl (i+1))) s->wpAny (model prog w) A (setNext a (sl i) i ep) Q E s
 stop:∀(A:Around) (E:Value->Shared->Prop) (s:Shared) (Q:Option (Value×Nat)->Shared->Prop),s.heap.get? a=some ob->Q none s->wpAny (model prog w) A (setNext a (sl wk.size) wk.size ep) Q E s
end
end HS
namespace HS
open PySem L2 PyProof.Rows
section
variable {prog:Program}{w:World}{A:Around}{E:Value->Shared->Prop}{s:Shared}
end
end HS
namespace HS
open PySem L2 PyProof.Rows
section
variable {prog:Program}{w:World}{A:Around}{E:Value->Shared->Prop}{s:Shared}
end
end HS
namespace HS
open PySem L2 PyProof.Rows
section
variable {prog:Program}{w:World}{A:Around}{E:Value->Shared->Prop}{s:Shared}
end
end HS
namespace HS
open PySem PySem.Spec L2 PyProof.Rows
section
variable {X:Cx}{a:Expr}{fa:DE}{pos:Pos}
end
end HS
namespace HS
open PySem PySem.Spec PyProof.Rows L2
section
variable {X:Cx}{a b c:Expr}{fa fb fc:DE}{pos:Pos}
end
end HS
namespace HS
open PySem PySem.Spec L2
noncomputable abbrev Cn:=Int
noncomputable abbrev cnD(i:Cn):D:= .int i
noncomputable abbrev cnV(i:Cn)(t:Tok):Value:= .int i t
structure FnR where
 n:Nat
 dfl:List D
 den:Den
structure Th where
 N:List Str
 sc:List (Str×NameKind)
 Γ:List (Str×FnR)
 cs:List (Str×Cn)
 tr:Stmt->Option DS:=λ_=>none
 te:Expr->Option DE:=λ_=>none
noncomputable def posOf(x:Str):List Str->Option Nat
 | []=>none
 | y::ys=>if x=y then some 0 else(posOf x ys).map (· +1)
theorem Qfc:∀{x:Str}{ys:List Str}{i:Nat},posOf x ys=some i->ys[i]? =some x
 | x,[],i,h=>by cases h
 | x,y::ys,i,h=>by
  unfold posOf at h
  split at h
  ·rename_i e;cases h;subst e;rfl
  ·obtain⟨j,hj,rfl⟩:=Zc.mp h
   simpa using Qfc hj
noncomputable def look{α:Type}(x:Str):List (Str×α)->Option α
 | []=>none
 | (y,a)::r=>if x=y then some a else look x r
theorem Qbs{α:Type}:∀{x:Str}{l:List (Str×α)},look x l=l.lookup x
 | x,[]=>rfl
 | x,(y,a)::r=>by
  unfold look
  rw[Zt]
  by_cases h:x=y
  ·subst h;simp
  ·rw[if_neg h,Qbs]
   have:(x == y)=false:=by simpa using h
   rw[this]
noncomputable def Qtx:NameKind->Bool
 | .local =>true | .cell=>true | .free=>true | _=>false
noncomputable def Qte:NameKind->Bool
 | .local =>true | .cell=>true | _=>false
noncomputable def QzT:NameKind->Bool
 | .globalImplicit=>true | _=>false
noncomputable def isFree:NameKind->Bool
 | .free=>true | _=>false
noncomputable def odd(x:Str):Bool:=decide (x= "__debug__") || decide (x= "__classdict__") || decide (x= "__name__")
noncomputable def Th.slot(Θ:Th)(x:Str):Option Nat:=if((look x Θ.sc).map Qtx).getD false && !odd x then posOf x Θ.N else none
noncomputable def Th.Qbz(Θ:Th)(x:Str):Option Nat:=if((look x Θ.sc).map Qte).getD false && !odd x then posOf x Θ.N else none
noncomputable def Th.gl(Θ:Th)(x:Str):Bool:=((look x Θ.sc).map QzT).getD false && !odd x
def QuU(X:Cx)(x:Str)(r:FnR):Prop:=∃k f fd ps,Qaq X.prog X.w X.K X.mg X.base CX0 k f fd ps (spV X.K r.n r.den)/\Qag k X.A/\X.mg x=some (.ref f)/\PySem.W.keepIn X.K (.ref f)=true∧
 ∀m,m<=r.dfl.length->∃ds dvs,Binds X.K fd ps ds/\Qw dvs ds/\∀H,Rps X.K H (r.dfl.drop (r.dfl.length-m)) dvs []
noncomputable def QlE:List Str:=["range","enumerate","zip","len","list","min","max","sum","abs","isinstance","int","bool","tuple","str","divmod","sorted","any","all","set"]
structure CtxB (X:Cx) (Θ:Th):Prop where
 N:X.N=Θ.N
 nd:Θ.N.Nodup
 lc:∀x,look x Θ.sc=some .local ->X.env.scope.names.lookup x=some .local
 ce:∀x,look x Θ.sc=some .cell->X.env.scope.names.lookup x=some .cell/\X.fn x=true
 fe:∀x,look x Θ.sc=some .free->X.env.scope.names.lookup x=some .cell∨X.env.scope.names.lookup x=some .free
 gl:∀x,look x Θ.sc=some .globalImplicit->X.env.scope.names.lookup x=some .globalImplicit
 units:X.A.units+64<cLine
 mg:∀x∈QlE,X.mg x=none
 cs:∀x i,look x Θ.cs=some i->∃t,X.mg x=some (cnV i t)
structure QH (X:Cx) (Θ:Th):Prop extends CtxB X Θ where
 calm:X.calm=true
 pass:PassesOwn (model X.prog X.w) X.A X.env X.xe
 fns:∀x r,look x Θ.Γ=some r->QuU X x r
 tr:∀st f,Θ.tr st=some f->S1 X st f
 te:∀e f,Θ.te e=some f->SE X e f
section
theorem QnS(h:odd x=false):(x == ("__debug__" :Str))=false/\(x == ("__classdict__" :Str))=false/\x≠ "__name__" :=by
 unfold odd at h
 simp only[Bool.or_eq_false_iff,decide_eq_false_iff_not]at h
 exact⟨by simpa using h.1.1,by simpa using h.1.2,h.2⟩
theorem Qdo(ok:CtxB X Θ)(h:Θ.slot x=some i):PE X (.Name x pos) (Qgr i):=by
 unfold Th.slot at h
 split at h
 ·rename_i hc
  simp only[Zg,ZY]at hc
  obtain⟨h1,h2,_⟩:=QnS hc.2
  refine QvM (by rw[ok.N];exact Qfc h) ?_ h1 h2
  cases q:look x Θ.sc with
  | none=>rw[q]at hc;cases hc.1
  | some k=>
   rw[q]at hc
   cases k with
   | «local» =>exact .inl (ok.lc x q)
   | cell=>exact .inr (.inl (ok.ce x q).1)
   | free=>exact .inr (ok.fe x q)
   | _=>cases hc.1
 ·cases h
theorem QbG(ok:CtxB X Θ)(h:Θ.Qbz x=some i):X.N[i]? =some x/\Loc X.env.scope x/\(X.fn x=true∨X.env.scope.names.lookup x=some .local):=by
 unfold Th.Qbz at h
 split at h
 ·rename_i hc
  simp only[Zg,ZY]at hc
  refine⟨by rw[ok.N];exact Qfc h,?_⟩
  cases q:look x Θ.sc with
  | none=>rw[q]at hc;cases hc.1
  | some k=>
   rw[q]at hc
   cases k with
   | «local» =>exact⟨.inl (ok.lc x q),.inr (ok.lc x q)⟩
   | cell=>exact⟨.inr (ok.ce x q).1,.inl (ok.ce x q).2⟩
   | _=>cases hc.1
 ·cases h
theorem QcO(ok:CtxB X Θ)(h:Θ.gl x=true):Gl X x/\(x == ("__debug__" :Str))=false/\x≠ "__name__" :=by
 unfold Th.gl at h
 simp only[Zg,ZY]at h
 obtain⟨h1,h2,h3⟩:=QnS h.2
 refine⟨?_,h1,h3⟩
 cases q:look x Θ.sc with
 | none=>rw[q]at h;cases h.1
 | some k=>
  rw[q]at h
  cases k with
  | globalImplicit=>exact ok.gl x q
  | _=>cases h.1
end
noncomputable def isTup:Expr->Bool
 | .Tuple .. =>true
 | _=>false
noncomputable def Qax:Expr->Option Str
 | .Name x _=>some x
 | _=>none
noncomputable def Qh3(Θ:Th):Expr->Option Tg
 | .Name x _=>(Θ.Qbz x).map .nm
 | .Tuple es _ _=>((es.mapM Qax).bind λxs=>xs.mapM Θ.Qbz).map .tp
 | _=>none
noncomputable def Qon:CmpOp->Option (D->D->Option D)
 | .Eq=>some gEq | .NotEq=>some gNe | .Lt=>some gLt | .LtE=>some gLe | .Gt=>some gGt | .GtE=>some gGe
 | .Is=>none | .IsNot=>none
 | .In=>some (gIn false) | .NotIn=>some (gIn true)
noncomputable def QrM(x:Str):Option String:=
 if x= "int" then some "int" else if x= "bool" then some "bool" else if x= "list" then some "list" else if x= "tuple" then some "tuple" else if x= "str" then some "str" else none
noncomputable def inner(Θ:Th)(scope:Scope):Th:={N:=(scope.names.filter λy=>Qtx y.2).map (·.1),sc:=scope.names,Γ:=Θ.Γ,cs:=Θ.cs}
noncomputable def Qhz(Θ:Th)(scope:Scope):List (Option Nat):=(inner Θ scope).N.map λx=>if((look x scope.names).map isFree).getD false then posOf x Θ.N else none
noncomputable def QiC(Θ:Th)(scope:Scope)(t:Tg):Bool:=(scope.kind == .function) && decide (inner Θ scope).N.Nodup &&
 (scope.names.all λy=>match y.2 with
  | .cell=>decide (look y.1 scope.names=some .cell)
  | .local =>decide (look y.1 scope.names=some .local)
  | .free=>match look y.1 Θ.sc with
   | some .cell=>true
   | some .free=>true
   | _=>false
  | _=>true) &&
 t.slots.all λj=>match (Qhz Θ scope)[j]? with
  | some (some _)=>false
  | _=>true
noncomputable def Qyl:List Expr->Bool
 | []=>true | [_]=>true | _=>false
noncomputable def bf1(x:Str)(fa:DE):Option DE:=
 if x= "len" then some (dBf Qbo (Qb fa Qe))else
 if x= "list" then some (dList (Qb fa Qe))else
 if x= "min" then some (dBf QdX (Qb fa Qe))else
 if x= "sum" then some (dBf Qgk (Qb fa Qe))else
 if x= "int" then some (dBf QgX (Qb fa Qe))else
 none
noncomputable def bf2(x:Str)(fa fb:DE):Option DE:=
 if x= "min" then some (dBf QiO (Qb fa (Qb fb Qe)))else
 if x= "max" then some (dBf Qje (Qb fa (Qb fb Qe)))else
 none
mutual
noncomputable def Qs(n:Nat)(Θ:Th)(e:Expr):Option DE:=match n with
 | 0=>none
 | n+1=>match e with
  | .Name x _=>match Θ.slot x with
   | some i=>some (Qa i)
   | none=>if Θ.gl x then(look x Θ.cs).map λi=>dC (cnD i)else none
  | .Constant (.int i) _ _=>some (dC (.int i))
  | .Constant (.bool b) _ _=>some (dC (.bl b))
  | .Constant .none _ _=>some (dC .non)
  | .Constant (.str x) _ _=>some (dC (.str x))
  | .BinOp a op b _=>(Qs n Θ a).bind λfa=>(Qs n Θ b).bind λfb=>match op with
   | .Add=>some (QC fa fb)
   | .Mult=>some (QaD fa fb)
   | .Sub=>some (dOp QdN fa fb)
   | .FloorDiv=>some (dOp Qdh fa fb)
   | .Mod=>some (dOp Q4 fa fb)
   | .Pow=>some (dOp Qol fa fb)
   | _=>none
  | .UnaryOp .USub a _=>(Qs n Θ a).map QdA
  | .UnaryOp .Not a _=>(Qs n Θ a).map Qr3
  | .BoolOp .And [a] _=>Qs n Θ a
  | .BoolOp .And (a::b::r) p=>(Qs n Θ a).bind λfa=>(Qs n Θ (.BoolOp .And (b::r) p)).map λfb=>Qdg fa fb
  | .BoolOp .Or [a] _=>Qs n Θ a
  | .BoolOp .Or (a::b::r) p=>(Qs n Θ a).bind λfa=>(Qs n Θ (.BoolOp .Or (b::r) p)).map λfb=>dOr fa fb
  | .Compare a [op] [b] _=>(Qs n Θ a).bind λfa=>(Qs n Θ b).bind λfb=>(Qon op).map λg=>dOp g fa fb
  | .IfExp c a b _=>(QaV n Θ c).bind λg=>(Qs n Θ a).bind λfa=>(Qs n Θ b).map λfb=>dIf g fa fb
  | .Tuple es _ _=>(Qa7 n Θ es).map QaH
  | .List es _=>(Qa7 n Θ es).map QT
  | .Subscript a (.Slice lo hi none _) _=>(Qs n Θ a).bind λfa=>(Qit n Θ lo).bind λfl=>(Qit n Θ hi).map λfh=>QaO fa fl fh
  | .Subscript a (.Slice none none (some k) _) _=>(Qs n Θ a).bind λfa=>(Qs n Θ k).map λfk=>QlZ fa fk
  | .Subscript a b _=>(Qs n Θ a).bind λfa=>(Qs n Θ b).map λfb=>Qm fa fb
  | .Attribute o m p=>Θ.te (.Attribute o m p)
  | .Call (.Name x p) args [] q=>if Θ.gl x then(match look x Θ.Γ with
    | some r=>if r.n<=args.length+r.dfl.length/\args.length<=r.n then(Qa7 n Θ args).map λfs=>Qx r.n r.den (r.dfl.drop (r.dfl.length-(r.n-args.length))) fs else none
    | none=>match Θ.te (.Call (.Name x p) args [] q)with
     | some f=>some f
     | none=>Qk7 n Θ x args)else none
  | .ListComp elt [⟨tg,iter,ifs,0⟩] scope _=>(Qh3 (inner Θ scope) tg).bind λt=>if QiC Θ scope t && Qyl ifs then
    (Qf8 n Θ tg iter).bind λfi=>(Qfr n (inner Θ scope) ifs).bind λft=>(Qs n (inner Θ scope) elt).map λfe=>Q7 fi t (Qhz Θ scope) ft fe else none
  | _=>none
noncomputable def Qk7(n:Nat)(Θ:Th)(x:Str)(args:List Expr):Option DE:=match n with
  | 0=>none
  | n+1=>match args with
    | [a]=>
         (Qs n Θ a).bind λfa=>bf1 x fa
    | [a,b]=>if x= "isinstance" then(Qs n Θ a).bind λfa=>match b with
        | .Name y _=>if Θ.gl y then(QrM y).map λT=>Qff T fa else none
        | _=>none
      else(Qs n Θ a).bind λfa=>(Qs n Θ b).bind λfb=>bf2 x fa fb
    | _=>none
noncomputable def QaV(n:Nat)(Θ:Th)(e:Expr):Option DT:=match n with
 | 0=>none
 | n+1=>match e with
  | .UnaryOp .Not a _=>(QaV n Θ a).map QcB
  | .BoolOp .And [a] _=>QaV n Θ a
  | .BoolOp .And (a::b::r) p=>(QaV n Θ a).bind λfa=>(QaV n Θ (.BoolOp .And (b::r) p)).map λfb=>QjG fa fb
  | .BoolOp .Or [a] _=>QaV n Θ a
  | .BoolOp .Or (a::b::r) p=>(QaV n Θ a).bind λfa=>(QaV n Θ (.BoolOp .Or (b::r) p)).map λfb=>bOr fa fb
  | .Compare a [op] [b] _=>(Qs n Θ a).bind λfa=>(Qs n Θ b).bind λfb=>(Qon op).map λg=>QE (dOp g fa fb)
  | .BoolOp _ _ _=>none
  | .IfExp _ _ _ _=>none
  | .Compare _ _ _ _=>none
  | e=>(Qs n Θ e).map QE
noncomputable def Qfr(n:Nat)(Θ:Th)(es:List Expr):Option DT:=match n with
 | 0=>none
 | n+1=>match es with
  | []=>some QaN
  | [c]=>QaV n Θ c
  | _=>none
noncomputable def Qa7(n:Nat)(Θ:Th)(es:List Expr):Option DA:=match n with
 | 0=>none
 | n+1=>match es with
  | []=>some Qe
  | e::es=>(Qs n Θ e).bind λfa=>(Qa7 n Θ es).map λfs=>Qb fa fs
noncomputable def Qit(n:Nat)(Θ:Th)(e:Option Expr):Option DO:=match n with
 | 0=>none
 | n+1=>match e with
  | none=>some QaJ
  | some e=>(Qs n Θ e).map Qae
noncomputable def Qf8(n:Nat)(Θ:Th)(tg e:Expr):Option DI:=match n with
 | 0=>none
 | n+1=>match e with
  | .Call (.Name x _) args [] _=>if Θ.gl x && (look x Θ.Γ).isNone then(match args with
    | [a]=>if x= "range" then(Qs n Θ a).map QaY else
     if x= "enumerate" then(if isTup tg then(Qs n Θ a).map Qd8 else none)else
     (Qs n Θ e).map Qav
    | [a,b,c]=>
     (Qs n Θ e).map Qav
    | [a,b]=>
     if x= "zip" then(if isTup tg then(Qs n Θ a).bind λfa=>(Qs n Θ b).map λfb=>Qb2 fa fb else none)else
     (Qs n Θ e).map Qav
    | _=>(Qs n Θ e).map Qav)else(Qs n Θ e).map Qav
  | e=>(Qs n Θ e).map Qav
end
theorem Qb7{α β γ:Type}{x:Option α}{y:α->Option β}{k:α->β->γ}{r:γ}(e:(x.bind λa=>(y a).map λb=>k a b)=some r):∃a b,x=some a/\y a=some b/\k a b=r:=by
 refine Qf e λa h1 e=>?_
 obtain⟨b,h2,e⟩:=Zc.mp e
 exact⟨a,b,h1,h2,e⟩
theorem bindR{α β γ:Type}{x:Option α}{y:α->Option β}{k:α->β->γ}{r:γ}{M:γ->Prop}(e:(x.bind λa=>(y a).map λb=>k a b)=some r)(g:∀a b,x=some a->y a=some b->M (k a b)):M r:=by
 obtain⟨a,b,h1,h2,rfl⟩:=Qb7 e
 exact g a b h1 h2
theorem QbA(h:Qs n Θ e=some f)(es:List Expr)(env:Env):starEach (e::es) env=(false,eval e env)::starEach es env:=by
 cases n with
 | zero=>exact nomatch (show(none:Option DE)=some _ from h)
 | succ n=>cases e<;>first | rfl | (exact nomatch (show(none:Option DE)=some _ from h))
theorem QjS:∀{n:Nat}{Θ:Th}{es:List Expr}{f:DA},Qa7 n Θ es=some f->∀(pos:Pos) (env:Env),(backTo pos (starEach es env)).any (·.1)=false
 | 0,_,_,_,h,_,_=>by simp[Qa7]at h
 | n+1,_,[],_,h,_,_=>rfl
 | n+1,_,e::es,_,h,pos,env=>by
  simp only[Qa7]at h
  obtain⟨fa,fs,h1,h2,_⟩:=Qb7 h
  rw[QbA h1]
  have:=QjS h2 pos env
  simpa[backTo]using this
theorem QnN(h:Qs n Θ b=some f):Qhj b:=by
 cases n with
 | zero=>exact nomatch (show(none:Option DE)=some _ from h)
 | succ n=>cases b<;>first | (intro o i;rfl) | (exact nomatch (show(none:Option DE)=some _ from h))
theorem QwH(h:Qs n Θ e=some f)(env:Env):∀x,foldedSetIterable e env x=pure x:=by
 cases n with
 | zero=>exact nomatch (show(none:Option DE)=some _ from h)
 | succ n=>cases e<;>first | (intro x;rfl) | (exact nomatch (show(none:Option DE)=some _ from h))
theorem Qqe(h:Qs n Θ e=some f)(op:CmpOp):behindInMarks op e=false:=by
 cases n with
 | zero=>exact nomatch (show(none:Option DE)=some _ from h)
 | succ n=>cases e<;>first | rfl | (exact nomatch (show(none:Option DE)=some _ from h))
theorem QdD{env:Env}:∀{names:List (Str×NameKind)}{x:Str},names.lookup x=some .cell→
  (names.map λ(n,k)=>if(k == NameKind.free && env.scope.kind == .function && env.kindOf n == some .cell)then(n,NameKind.cell)else(n,k)).lookup x=some .cell
 | [],_,h=>by simp at h
 | (n,k)::r,x,h=>by
  have ih:= @QdD env r x
  rw[Zq]
  cases hx:x == n with
  | true=>
   simp only[Zt,hx]at h
   cases h
   dsimp only
   split<;>simp[Zt,hx]
  | false=>
   simp only[Zt,hx]at h
   dsimp only
   split<;>(simp only[Zt,hx];exact ih h)
theorem Ql5{X:Cx}{Θ:Th}{scope:Scope}{t:Tg}(ok:QH X Θ)(h:QiC Θ scope t=true):Qec X (inner Θ scope).N scope/\Qli X (inner Θ scope).N scope (Qhz Θ scope) t.slots/\∀cl C fp s3 H3,QH (cxc X (inner Θ scope).N scope cl C fp s3 H3) (inner Θ scope):=by
 unfold QiC at h
 simp only[Zg,decide_eq_true_eq]at h
 obtain⟨⟨⟨h1,h2⟩,h3⟩,h4⟩:=h
 have hk:scope.kind= .function:=by simpa using h1
 have each:∀y∈scope.names,(y.2= .cell->scope.names.lookup y.1=some .cell)/\(y.2= .local ->scope.names.lookup y.1=some .local)/\(y.2= .free->X.env.kindOf y.1=some .cell∨X.env.kindOf y.1=some .free):=λy hy=>by
  have:=ZW.mp h3 y hy
  obtain⟨y,k⟩:=y
  cases k with
  | cell=>exact⟨λ_=>(by rw[← Qbs];simpa using this),λz=>(by cases z),λz=>(by cases z)⟩
  | «local» =>exact⟨λz=>(by cases z),λ_=>by rw[← Qbs];simpa using this,λz=>by cases z⟩
  | free=>
   refine⟨λz=>(by cases z),λz=>(by cases z),λ_=>?_⟩
   dsimp only at this
   split at this
   ·rename_i q;exact .inl (ok.ce _ q).1
   ·rename_i q;exact ok.fe _ q
   ·cases this
  | _=>exact⟨λz=>(by cases z),λz=>(by cases z),λz=>(by cases z)⟩
 have S:Qec X (inner Θ scope).N scope:=⟨hk,λy hy=>(each y hy).1,λy hy=>(each y hy).2.1,λy hy=>(each y hy).2.2⟩
 refine⟨S,⟨by unfold Qhz;simp,λj i e=>?_,λj i e hj=>?_⟩,λcl C fp s3 H3=>⟨⟨rfl,h2,λx e=>?_,λx e=>?_,λx e=>?_,λx e=>?_,ok.units,ok.mg,ok.cs⟩,ok.calm,PassesOwn.never,ok.fns,λ_ _ e=>(nomatch e),λ_ _ e=>(nomatch e)⟩⟩
 ·unfold Qhz at e
  rw[Zy]at e
  cases q:(inner Θ scope).N[j]? with
  | none=>rw[q]at e;cases e
  | some x=>
   rw[q]at e
   simp only[ZX,Option.some.injEq]at e
   split at e
   ·rename_i hf
    cases hl:look x scope.names with
    | none=>rw[hl]at hf;cases hf
    | some k=>
     rw[hl]at hf
     cases k with
     | free=>
      rw[Qbs]at hl
      exact⟨x,rfl,hl,by rw[ok.N];exact Qfc e,(each (x,.free) (Zag hl)).2.2 rfl⟩
     | _=>cases hf
   ·cases e
 ·have:=ZW.mp h4 j hj
  rw[e]at this
  cases this
 ·have e':scope.names.lookup x=some .local :=by rw[← Qbs];exact e
  exact lookup_relabel_local e'
 ·have e':scope.names.lookup x=some .cell:=by rw[← Qbs];exact e
  exact⟨QdD e',decide_eq_true e'⟩
 ·have e':scope.names.lookup x=some .free:=by rw[← Qbs];exact e
  exact Qcu e'
 ·have e':scope.names.lookup x=some .globalImplicit:=by rw[← Qbs];exact e
  show(relabel scope X.env).names.lookup x=some .globalImplicit
  unfold relabel
  have gen:∀{names:List (Str×NameKind)},names.lookup x=some .globalImplicit→
    (names.map λ(n,k)=>if(k == NameKind.free && X.env.scope.kind == .function && X.env.kindOf n == some .cell)then(n,NameKind.cell)else(n,k)).lookup x=some .globalImplicit:=by
   intro names
   induction names with
   | nil=>intro z;simp at z
   | cons y r ih=>
    intro z
    obtain⟨n,k⟩:=y
    rw[Zq]
    cases hx:x == n with
    | true=>
     simp only[Zt,hx]at z
     cases z
     simp[Zt,hx]
    | false=>
     simp only[Zt,hx]at z
     dsimp only
     split<;>(simp only[Zt,hx];exact ih z)
  exact gen e'
theorem Qlc(ok:QH X Θ)(h:Qh3 Θ tg=some t):SG X tg t:=by
 have hN:X.N.Nodup:=by rw[ok.N];exact ok.nd
 cases tg with
 | Name x pos=>
  change Option.map _ _=_ at h
  refine mapR h λi hi=>?_
  obtain⟨h1,h2,h3⟩:=QbG ok.toCtxB hi
  exact Qu5 (QnV hN h1 h2 h3)
 | Tuple es k pos=>
  change Option.map _ _=_ at h
  refine mapR h λis hi=>?_
  refine Qf hi λxs h1 h2=>?_
  have key:∀(es:List Expr) (xs:List Str) (is:List Nat),es.mapM Qax=some xs->xs.mapM Θ.Qbz=some is->PGs X es (QiQ is)/\(assignEach es X.env).length=is.length/\(assignEach es X.env).findIdx? (·.1)=none:=by
   intro es
   induction es with
   | nil=>
    intro xs is h1 h2
    cases h1
    cases h2
    exact⟨QtK,rfl,rfl⟩
   | cons e es ih=>
    intro xs is h1 h2
    rw[List.mapM_cons]at h1
    refine Qf h1 λx hx h1=>?_
    refine Qf h1 λys hy h1=>?_
    cases h1
    rw[List.mapM_cons]at h2
    refine Qf h2 λi hi h2=>?_
    refine Qf h2 λjs hj h2=>?_
    cases h2
    obtain⟨a1,a2,a3⟩:=ih ys js hy hj
    cases e with
    | Name y p=>
     cases hx
     obtain⟨g1,g2,g3⟩:=QbG ok.toCtxB hi
     refine⟨Qri (QnV hN g1 g2 g3) a1 rfl,?_,?_⟩
     ·show(assignEach es X.env).length+1=_
      rw[a2];rfl
     ·show List.findIdx? (·.1) ((false,assign (.Name x p) X.env)::assignEach es X.env)=none
      rw[List.findIdx?_cons]
      simp only[a3];rfl
    | _=>cases hx
  obtain⟨a1,a2,a3⟩:=key es xs is h1 h2
  exact QvW ok.calm a1 a2 a3
 | _=>exact nomatch (show(none:Option Tg)=some _ from h)
theorem Qpb{f:Int->Int->Bool}:∀a b d,gI (λi j=>some (.bl (f i j))) a b=some d->∃k,d= .bl k:=λa b d h=>by
 obtain⟨i,j,_,_,e⟩:=Qrd h
 cases e
 exact⟨_,rfl⟩
theorem Qqm(ok:QH X Θ)(h:Qon op=some g):∃r,OpR X (compareOp op) r/\Qcs X.K g r/\∀a b d,g a b=some d->∃k,d= .bl k:=by
 cases op<;>cases h
 ·exact⟨_,Qv4 ok.units,QyW,λa b d h=>by unfold gEq at h;split at h<;>cases h;exact⟨_,rfl⟩⟩
 ·exact⟨_,Qxa ok.units,QyY,λa b d h=>by unfold gNe at h;split at h<;>cases h;exact⟨_,rfl⟩⟩
 ·exact⟨_,Qx3,QxX,Qpb⟩
 ·exact⟨_,Qyk,Qx6,Qpb⟩
 ·exact⟨_,QyJ,QyI,Qpb⟩
 ·exact⟨_,Qx2,Qyg,Qpb⟩
 ·exact⟨_,Qwm ok.units,QtC,Qqb⟩
 ·exact⟨_,QpZ ok.units,QtC,Qqb⟩
structure QiW (n:Nat):Prop where
 E:∀X Θ e f,QH X Θ->Qs n Θ e=some f->SE X e f
 B:∀X Θ x args f p pos,QH X Θ->Θ.gl x=true->Qk7 n Θ x args=some f->SE X (.Call (.Name x p) args [] pos) f
 T:∀X Θ e f,QH X Θ->QaV n Θ e=some f->ST X e f
 Ts:∀X Θ e f,QH X Θ->Qfr n Θ e=some f->Qmi X e f
 A:∀X Θ e f,QH X Θ->Qa7 n Θ e=some f->SA X e f
 O:∀X Θ e f,QH X Θ->Qit n Θ e=some f->SO X e f
 I:∀X Θ tg e f,QH X Θ->Qf8 n Θ tg e=some f->SI X tg e f/\∀x,foldedSetIterable e X.env x=pure x
theorem callArgs{X:Cx}{n:Nat}{Θ:Th}{es:List Expr}{fs:DA}(h:Qa7 n Θ es=some fs){e:Expr}{es':List Expr}(he:es=e::es')(pos:Pos):starEach (e::es') X.env=(false,eval e X.env)::starEach es' X.env/\(backTo pos (starEach es' X.env)).any (·.1)=false:=by
 subst he
 cases n with
 | zero=>simp[Qa7]at h
 | succ n=>
  simp only[Qa7]at h
  obtain⟨fa,fs',h1,h2,_⟩:=Qb7 h
  exact⟨QbA h1 es' X.env,QjS h2 pos X.env⟩
theorem Qys(ih:QiW n):∀X Θ e f,QH X Θ->Qs (n+1) Θ e=some f->SE X e f:=by
  intro X Θ e f ok h
  cases e with
  | Name x pos=>
    (conv at h=>lhs;whnf)
    cases q:Θ.slot x with
    | some i=>rw[q]at h;cases h;exact Qms (Qdo ok.toCtxB q)
    | none=>
      rw[q]at h
      dsimp only at h
      split at h
      · rename_i hg
        refine mapR h λi hi=>?_
        obtain⟨g1,g2,g3⟩:=QcO ok.toCtxB hg
        obtain⟨t,hm⟩:=ok.cs x i hi
        exact QjB (v:= .int i) (Qvs g1 hm ⟨t,rfl⟩ g2) (λ_ _=> .int_mk) rfl
      · cases h
  | Constant c k pos=>
    cases c with
    | int i=>(conv at h=>lhs;whnf);cases h;exact QjB Qw9 (λ_ _=> .int_mk) rfl
    | bool b=>(conv at h=>lhs;whnf);cases h;exact QjB QtE (λ_ _=> .QcI) rfl
    | none=>(conv at h=>lhs;whnf);cases h;exact QjB Qxu (λ_ _=> .QgO) rfl
    | str x=>(conv at h=>lhs;whnf);cases h;exact QjB Qxg (λ_ _=> .str_mk) rfl
    | _=>exact nomatch (show(none:Option DE)=some _ from h)
  | BinOp a op b pos=>
    (conv at h=>lhs;whnf)
    refine Qf h λfa h1 h=>?_
    refine Qf h λfb h2 h=>?_
    have ha:=ih.E X Θ a fa ok h1
    have hb:=ih.E X Θ b fb ok h2
    cases op with
    | Add=>cases h;exact Qv8 ha hb
    | Mult=>cases h;exact Qxe ha hb
    | Sub=>cases h;exact Qk8 Qwf Qq7 ha hb
    | FloorDiv=>cases h;exact Qk8 QtV QxB ha hb
    | Mod=>cases h;exact Qk8 Qul QxE ha hb
    | Pow=>cases h;exact Qk8 Qvm Qxt ha hb
    | _=>cases h
  | UnaryOp op a pos=>
    cases op with
    | USub=>
      (conv at h=>lhs;whnf)
      refine mapR h λfa h1=>?_
      exact Qws (ih.E X Θ a fa ok h1)
    | Not=>
      (conv at h=>lhs;whnf)
      refine mapR h λfa h1=>?_
      exact QpC (ih.E X Θ a fa ok h1)
    | _=>exact nomatch (show(none:Option DE)=some _ from h)
  | BoolOp op es pos=>
    cases op with
    | And=>
      match es,h with
      | [],h=>exact nomatch (show(none:Option DE)=some _ from h)
      | [a],h=>(conv at h=>lhs;whnf);exact Ql7 (ih.E X Θ a f ok h)
      | a::b::r,h=>
        (conv at h=>lhs;whnf)
        refine bindR h λfa fb h1 h2=>?_
        exact Qre (ih.E X Θ a fa ok h1) (ih.E X Θ _ fb ok h2)
    | Or=>
      match es,h with
      | [],h=>exact nomatch (show(none:Option DE)=some _ from h)
      | [a],h=>(conv at h=>lhs;whnf);exact Ql7 (ih.E X Θ a f ok h)
      | a::b::r,h=>
        (conv at h=>lhs;whnf)
        refine bindR h λfa fb h1 h2=>?_
        exact Qyc (ih.E X Θ a fa ok h1) (ih.E X Θ _ fb ok h2)
  | Compare a ops bs pos=>
    match ops,bs,h with
    | [op],[b],h=>
      (conv at h=>lhs;whnf)
      refine Qf h λfa h1 h=>?_
      refine bindR h λfb g h2 h3=>?_
      obtain⟨r,o1,o2,_⟩:=Qqm ok h3
      exact Qxc o1 o2 (ih.E X Θ a fa ok h1) (ih.E X Θ b fb ok h2) (Qqe h2 op)
    | [],_,h=>exact nomatch (show(none:Option DE)=some _ from h)
    | [_],[],h=>exact nomatch (show(none:Option DE)=some _ from h)
    | [_],_::_::_,h=>exact nomatch (show(none:Option DE)=some _ from h)
    | _::_::_,_,h=>exact nomatch (show(none:Option DE)=some _ from h)
  | IfExp c a b pos=>
    (conv at h=>lhs;whnf)
    refine Qf h λg h1 h=>?_
    refine bindR h λfa fb h2 h3=>?_
    exact Qye (ih.T X Θ c g ok h1) (ih.E X Θ a fa ok h2) (ih.E X Θ b fb ok h3)
  | Tuple es k pos=>
    (conv at h=>lhs;whnf)
    refine mapR h λfs h1=>?_
    exact QvS (ih.A X Θ es fs ok h1)
  | List es pos=>
    (conv at h=>lhs;whnf)
    refine mapR h λfs h1=>?_
    exact Qxn (ih.A X Θ es fs ok h1)
  | Subscript a b pos=>
    by_cases hb:∃lo hi p2,b= .Slice lo hi none p2
    · obtain⟨lo,hi,p2,rfl⟩:=hb
      (conv at h=>lhs;whnf)
      refine Qf h λfa h1 h=>?_
      refine bindR h λfl fh h2 h3=>?_
      exact QwY (ih.E X Θ a fa ok h1) (ih.O X Θ lo fl ok h2) (ih.O X Θ hi fh ok h3)
    · by_cases hk:∃k p2,b= .Slice none none (some k) p2
      · obtain⟨k,p2,rfl⟩:=hk
        (conv at h=>lhs;whnf)
        refine bindR h λfa fk h1 h2=>?_
        exact Qwd (ih.E X Θ a fa ok h1) (ih.E X Θ k fk ok h2)
      · have h':((Qs n Θ a).bind λfa=>(Qs n Θ b).map λfb=>Qm fa fb)=some f:=by
          cases b<;>first
            | (exact h)
            | (rename_i lo hi st p2;cases lo<;>cases hi<;>cases st<;>first | (exact absurd ⟨_,_,_,rfl⟩ hb) | (exact absurd ⟨_,_,rfl⟩ hk) | (exact h))
        refine bindR h' λfa fb h1 h2=>?_
        exact QwA (ih.E X Θ a fa ok h1) (ih.E X Θ b fb ok h2) (QnN h2)
  | Call fn args kws pos=>
    cases fn with
    | Name x p=>
     cases kws with
     | cons k ks=>exact nomatch (show(none:Option DE)=some _ from h)
     | nil=>
      have h:(if Θ.gl x then(match look x Θ.Γ with | some r=>if r.n<=args.length+r.dfl.length/\args.length<=r.n then(Qa7 n Θ args).map λfs=>Qx r.n r.den (r.dfl.drop (r.dfl.length-(r.n-args.length))) fs else none | none=>match Θ.te (.Call (.Name x p) args [] pos)with | some f=>some f | none=>Qk7 n Θ x args)else none)=some f:=h
      split at h
      · rename_i hg
        obtain⟨g1,g2,g3⟩:=QcO ok.toCtxB hg
        split at h
        · rename_i r hr
          split at h
          · rename_i hn
            refine mapR h λfs h1=>?_
            obtain⟨k,fa,fd,ps,F1,F2,F3,F4,F5⟩:=ok.fns x r hr
            obtain⟨ds,dvs,b1,b2,b3⟩:=F5 (r.n-args.length) (by omega)
            cases args with
            | nil=>
              cases n with
              | zero=>simp[Qa7]at h1
              | succ n=>
                simp only[Qa7]at h1
                cases h1
                exact QsY F1 F2 g1 F3 F4 b1 b2 b3 g2
            | cons e es=>
              obtain⟨s1,s2⟩:=callArgs (X:=X) h1 rfl pos
              exact Quq F1 F2 g1 F3 F4 b1 b2 b3 (ih.A X Θ _ fs ok h1) g2 s1 s2
          · cases h
        · split at h
          · rename_i g hg2
            cases h
            exact ok.te _ _ hg2
          · exact ih.B X Θ x args f p pos ok hg h
      · cases h
    | _=>exact nomatch (show(none:Option DE)=some _ from h)
  | Attribute o m p=>exact ok.te _ _ h
  | ListComp elt gens scope pos=>
    match gens,h with
    | [⟨tg,iter,ifs,k⟩],h=>
      by_cases hk:k=0
      · subst hk
        (conv at h=>lhs;whnf)
        refine Qf h λt ht h=>?_
        split at h
        · rename_i hc
          simp only[Zg]at hc
          refine Qf h λfi h1 h=>?_
          refine bindR h λft fe h2 h3=>?_
          obtain⟨S,cap,inn⟩:=Ql5 ok hc.1
          obtain⟨i1,i2⟩:=ih.I X Θ tg iter fi ok h1
          exact Qt3 ok.calm S i1 cap (λcl C fp s3 H3=>⟨Qlc (inn cl C fp s3 H3) ht,ih.Ts _ _ ifs ft (inn cl C fp s3 H3) h2,ih.E _ _ elt fe (inn cl C fp s3 H3) h3⟩) i2
        · cases h
      · exfalso
        cases k with
        | ofNat k=>
          cases k with
          | zero=>exact hk rfl
          | succ k=>exact nomatch (show(none:Option DE)=some _ from h)
        | negSucc k=>exact nomatch (show(none:Option DE)=some _ from h)
    | [],h=>exact nomatch (show(none:Option DE)=some _ from h)
    | ⟨_,_,_,.ofNat 0⟩::_::_,h=>exact nomatch (show(none:Option DE)=some _ from h)
    | ⟨_,_,_,.ofNat (k+1)⟩::_::_,h=>exact nomatch (show(none:Option DE)=some _ from h)
    | ⟨_,_,_,.negSucc k⟩::_::_,h=>exact nomatch (show(none:Option DE)=some _ from h)
  | _=>exact nomatch (show(none:Option DE)=some _ from h)
theorem Qv1(ok:QH X Θ)(g1:Gl X x)(sa:SA X [a] (Qb fa Qe))(st:starEach [a] X.env=(false,eval a X.env)::starEach [] X.env)(h:bf1 x fa=some f):SE X (.Call (.Name x p) [a] [] pos) f:=by
 unfold bf1 at h
 by_cases e:x= "len"
 ·rw[if_pos e]at h;cases h;subst e;have hm:=ok.mg "len" (by decide+kernel)
  exact Qiz QpY QwP g1 hm PySem.boot_len sa (by decide) (by decide) st rfl
 rw[if_neg e]at h;clear e
 by_cases e:x= "list"
 ·rw[if_pos e]at h;cases h;subst e;have hm:=ok.mg "list" (by decide+kernel)
  exact Qvw ok.calm g1 hm sa st rfl
 rw[if_neg e]at h;clear e
 by_cases e:x= "min"
 ·rw[if_pos e]at h;cases h;subst e;have hm:=ok.mg "min" (by decide+kernel)
  exact Qiz (Qq0 ok.calm) QvF g1 hm PyProof.Rows.boot_min sa (by decide) (by decide) st rfl
 rw[if_neg e]at h;clear e
 by_cases e:x= "sum"
 ·rw[if_pos e]at h;cases h;subst e;have hm:=ok.mg "sum" (by decide+kernel)
  exact Qiz (Qp5 ok.calm) QuL g1 hm PyProof.Rows.boot_sum sa (by decide) (by decide) st rfl
 rw[if_neg e]at h;clear e
 by_cases e:x= "int"
 ·rw[if_pos e]at h;cases h;subst e;have hm:=ok.mg "int" (by decide+kernel)
  exact Qxi QpE Qwo g1 hm PyProof.Rows.boot_int sa (by decide) (by decide) st rfl
 rw[if_neg e]at h;clear e
 cases h
theorem Qw6(ok:QH X Θ)(g1:Gl X x)(sa:SA X [a,b] (Qb fa (Qb fb Qe)))(st:starEach [a,b] X.env=(false,eval a X.env)::starEach [b] X.env)(pl:(backTo pos (starEach [b] X.env)).any (·.1)=false)(h:bf2 x fa fb=some f):SE X (.Call (.Name x p) [a,b] [] pos) f:=by
 unfold bf2 at h
 by_cases e:x= "min"
 ·rw[if_pos e]at h;cases h;subst e;have hm:=ok.mg "min" (by decide+kernel)
  exact Qiz (Qqt ok.calm) Qvg g1 hm PyProof.Rows.boot_min sa (by decide) (by decide) st pl
 rw[if_neg e]at h;clear e
 by_cases e:x= "max"
 ·rw[if_pos e]at h;cases h;subst e;have hm:=ok.mg "max" (by decide+kernel)
  exact Qiz (QpK ok.calm) Quj g1 hm PyProof.Rows.boot_max sa (by decide) (by decide) st pl
 rw[if_neg e]at h;clear e
 cases h
theorem Qx7(ih:QiW n):∀X Θ x args f p pos,QH X Θ->Θ.gl x=true->Qk7 (n+1) Θ x args=some f->SE X (.Call (.Name x p) args [] pos) f:=by
 intro X Θ x args f p pos ok hg h
 obtain⟨g1,g2,g3⟩:=QcO ok.toCtxB hg
 match args,h with
 | [],h=>exact nomatch (show(none:Option DE)=some _ from h)
 | [a],h=>
  change((Qs n Θ a).bind λfa=>bf1 x fa)=some f at h
  refine Qf h λfa h1 h=>?_
  have ha:=ih.E X Θ a fa ok h1
  have st:=QbA h1 [] X.env
  exact Qv1 ok g1 (Qhr ha QmJ st) st h
 | [a,b],h=>
  change(if x= "isinstance" then(Qs n Θ a).bind λfa=>(match b with | .Name y _=>if Θ.gl y then(QrM y).map λT=>Qff T fa else none | _=>none)else(Qs n Θ a).bind λfa=>(Qs n Θ b).bind λfb=>bf2 x fa fb)=some f at h
  split at h
  ·rename_i e
   refine Qf h λfa h1 h=>?_
   have ha:=ih.E X Θ a fa ok h1
   split at h
   ·rename_i y p2
    split at h
    ·rename_i hy
     refine mapR h λT hT=>?_
     obtain⟨y1,y2,y3⟩:=QcO ok.toCtxB hy
     clear h
     subst e
     refine QwF g1 (ok.mg _ (by decide+kernel)) ha ?_ (QbA h1 _ X.env)
     unfold QrM at hT
     split at hT
     ·rename_i e;cases hT;subst e
      exact QfA y1 (ok.mg _ (by decide+kernel)) PyProof.Rows.boot_int rfl
     ·split at hT
      ·rename_i e;cases hT;subst e
       exact QfA y1 (ok.mg _ (by decide+kernel)) PyProof.Rows.boot_bool rfl
      ·split at hT
       ·rename_i e;cases hT;subst e
        exact QfA y1 (ok.mg _ (by decide+kernel)) ZbM rfl
       ·split at hT
        ·rename_i e;cases hT;subst e
         exact QfA y1 (ok.mg _ (by decide+kernel)) PyProof.Rows.boot_tuple rfl
        ·split at hT
         ·rename_i e;cases hT;subst e
          exact QfA y1 (ok.mg _ (by decide+kernel)) PyProof.Rows.boot_str rfl
         ·cases hT
    ·cases h
   ·cases h
  ·refine Qf h λfa h1 h=>?_
   refine Qf h λfb h2 h=>?_
   have ha:=ih.E X Θ a fa ok h1
   have hb:=ih.E X Θ b fb ok h2
   have sb:SA X [b] (Qb fb Qe):=Qhr hb QmJ (QbA h2 [] X.env)
   have sa:SA X [a,b] (Qb fa (Qb fb Qe)):=Qhr ha sb (QbA h1 [b] X.env)
   have pl:(backTo pos (starEach [b] X.env)).any (·.1)=false:=by rw[QbA h2 [] X.env];rfl
   exact Qw6 ok g1 sa (QbA h1 [b] X.env) pl h
 | _::_::_::_,h=>exact nomatch (show(none:Option DE)=some _ from h)
theorem QyD{n:Nat}(ih:QiW n):∀X Θ e f,QH X Θ->QaV (n+1) Θ e=some f->ST X e f:=by
 intro X Θ e f ok h
 have dflt:(Qs n Θ e).map QE=some f->(∀whole,isTrue e X.env whole=(do let v ← whole;standAt e.pos;holding [v] (truthy v)))->ST X e f:=λh he=>by
  refine mapR h λfa h1=>?_
  exact QxN (ih.E X Θ e fa ok h1) he
 cases e with
 | UnaryOp op a pos=>
  cases op with
  | Not=>
   change(QaV n Θ a).map QcB=some f at h
   refine mapR h λfa h1=>?_
   exact Qwk (ih.T X Θ a fa ok h1)
  | _=>exact dflt h λ_=>rfl
 | BoolOp op es pos=>
  cases op with
  | And=>
   match es,h with
   | [],h=>exact nomatch (show(none:Option DT)=some _ from h)
   | [a],h=>exact(Qux (ih.T X Θ a f ok h)).st
   | a::b::r,h=>
    change((QaV n Θ a).bind λfa=>(QaV n Θ (.BoolOp .And (b::r) pos)).map λfb=>QjG fa fb)=some f at h
    refine bindR h λfa fb h1 h2=>?_
    have hb:=ih.T X Θ _ fb ok h2
    exact(QwD (ih.T X Θ a fa ok h1) (λH0 A0 wh pins s σ H Q I q=>by have:=hb H0 A0 pins s σ H Q I q;exact this)).st
  | Or=>
   match es,h with
   | [],h=>exact nomatch (show(none:Option DT)=some _ from h)
   | [a],h=>exact(QvQ (ih.T X Θ a f ok h)).st
   | a::b::r,h=>
    change((QaV n Θ a).bind λfa=>(QaV n Θ (.BoolOp .Or (b::r) pos)).map λfb=>bOr fa fb)=some f at h
    refine bindR h λfa fb h1 h2=>?_
    have hb:=ih.T X Θ _ fb ok h2
    exact(Qyb (ih.T X Θ a fa ok h1) (λH0 A0 wh pins s σ H Q I q=>by have:=hb H0 A0 pins s σ H Q I q;exact this)).st
 | Compare a ops bs pos=>
  match ops,bs,h with
  | [op],[b],h=>
   change((Qs n Θ a).bind λfa=>(Qs n Θ b).bind λfb=>(Qon op).map λg=>QE (dOp g fa fb))=some f at h
   refine Qf h λfa h1 h=>?_
   refine bindR h λfb g h2 h3=>?_
   obtain⟨r,o1,o2,o3⟩:=Qqm ok h3
   exact Qxp o1 o2 o3 (ih.E X Θ a fa ok h1) (ih.E X Θ b fb ok h2) (Qqe h2 op)
  | [],_,h=>exact nomatch (show(none:Option DT)=some _ from h)
  | [_],[],h=>exact nomatch (show(none:Option DT)=some _ from h)
  | [_],_::_::_,h=>exact nomatch (show(none:Option DT)=some _ from h)
  | _::_::_,_,h=>exact nomatch (show(none:Option DT)=some _ from h)
 | IfExp c a b pos=>exact nomatch (show(none:Option DT)=some _ from h)
 | _=>exact dflt h λ_=>rfl
theorem Qyd(ih:QiW n):∀X Θ tg e f,QH X Θ->Qf8 (n+1) Θ tg e=some f->SI X tg e f/\∀x,foldedSetIterable e X.env x=pure x:=by
 intro X Θ tg e f ok h
 have dflt:(Qs n Θ e).map Qav=some f->SI X tg e f/\∀x,foldedSetIterable e X.env x=pure x:=λh=>by
  obtain⟨fa,h1,rfl⟩:=Zc.mp h
  exact⟨QxO (ih.E X Θ e fa ok h1),QwH h1 X.env⟩
 cases e with
 | Call fn args kws pos=>
  cases fn with
  | Name x p=>
   cases kws with
   | cons k ks=>exact dflt h
   | nil=>
    change @ite _ _ _ _ _=_ at h
    split at h
    ·rename_i hg
     simp only[Zg]at hg
     obtain⟨g1,g2,g3⟩:=QcO ok.toCtxB hg.1
     match args,h with
     | [],h=>exact dflt h
     | [a],h=>
      dsimp only at h
      by_cases er:x= "range"
      ·rw[if_pos er]at h
       obtain⟨fa,h1,rfl⟩:=Zc.mp h
       subst er
       exact⟨Qp9 g1 (ok.mg _ (by decide+kernel)) (ih.E X Θ a fa ok h1) (QbA h1 [] X.env),λ_=>rfl⟩
      rw[if_neg er]at h
      by_cases ez:x= "enumerate"
      ·rw[if_pos ez]at h
       split at h
       ·rename_i ht
        obtain⟨fa,h1,rfl⟩:=Zc.mp h
        subst ez
        cases tg with
        | Tuple es k tp=>exact⟨Qt2 g1 (ok.mg _ (by decide+kernel)) (ih.E X Θ a fa ok h1) (QbA h1 [] X.env),λ_=>rfl⟩
        | _=>exact nomatch (show false=true from ht)
       ·cases h
      rw[if_neg ez]at h
      exact dflt h
     | [a,b],h=>
      dsimp only at h
      by_cases ez:x= "zip"
      ·rw[if_pos ez]at h
       split at h
       ·rename_i ht
        obtain⟨fa,fb,h1,h2,rfl⟩:=Qb7 h
        subst ez
        cases tg with
        | Tuple es k tp=>exact⟨QvV g1 (ok.mg _ (by decide+kernel)) (ih.E X Θ a fa ok h1) (ih.E X Θ b fb ok h2) (by rw[QbA h1 [b] X.env,QbA h2 [] X.env];rfl) (QbA h2 [] X.env),λ_=>rfl⟩
        | _=>exact nomatch (show false=true from ht)
       ·cases h
      rw[if_neg ez]at h
      exact dflt h
     | [a,b,c],h=>
      dsimp only at h
      exact dflt h
     | _::_::_::_::_,h=>exact dflt h
    ·exact dflt h
  | _=>exact dflt h
 | _=>exact dflt h
theorem QaC:∀n,QiW n
 | 0=>⟨λ_ _ _ _ _ h=>(nomatch (show(none:Option DE)=some _ from h)),λ_ _ _ _ _ _ _ _ _ h=>(nomatch (show(none:Option _)=some _ from h)),λ_ _ _ _ _ h=>(nomatch (show(none:Option _)=some _ from h)),λ_ _ _ _ _ h=>(nomatch (show(none:Option _)=some _ from h)),λ_ _ _ _ _ h=>(nomatch (show(none:Option _)=some _ from h)),
  λ_ _ _ _ _ h=>(nomatch (show(none:Option _)=some _ from h)),λ_ _ _ _ _ _ h=>(nomatch (show(none:Option _)=some _ from h))⟩
 | n+1=>by
  have ih:=QaC n
  refine⟨Qys ih,Qx7 ih,QyD ih,λX Θ e f ok h=>?_,λX Θ e f ok h=>?_,
   λX Θ e f ok h=>?_,Qyd ih⟩
  ·match e,h with
   | [],h=>simp only[Qfr]at h;cases h;exact QsN
   | [c],h=>simp only[Qfr]at h;exact Qr4 (ih.T X Θ c f ok h)
   | _::_::_,h=>simp only[Qfr]at h;cases h
  ·match e,h with
   | [],h=>simp only[Qa7]at h;cases h;exact QmJ
   | e::es,h=>
    simp only[Qa7]at h
    refine bindR h λfa fs h1 h2=>?_
    exact Qhr (ih.E X Θ e fa ok h1) (ih.A X Θ es fs ok h2) (QbA h1 es X.env)
  ·match e,h with
   | none,h=>simp only[Qit]at h;cases h;exact Qve
   | some e,h=>
    simp only[Qit]at h
    refine mapR h λfa h1=>?_
    exact QuB (ih.E X Θ e fa ok h1)
section
noncomputable def QK:DS:=λ_=>none
theorem Qss:S1 X st QK:=λH0 A0=>QrD.mono λE σ H ⟨ρ,hs,F,o,rel,e,q⟩=>by cases e
theorem Qge:∀{n:Nat}{ρ:En}{o:Out},Qa3 g fb n ρ=some o->Qa3 g fb (n+1) ρ=some o
 | 0,_,_,h=>by cases h
 | n+1,ρ,o,h=>by
  unfold Qa3 at h ⊢
  refine Qf h λb hb h=>?_
  rw[hb]
  cases b with
  | false=>exact h
  | true=>
   rw[if_pos rfl]at h
   refine Qf h λo1 ho h=>?_
   rw[Za,if_pos rfl,ho]
   cases o1 with
   | nx ρ2=>exact Qge h
   | ct ρ2=>exact Qge h
   | bk ρ2=>exact h
   | rt d fr=>exact h
theorem QlW(h:Qa3 g fb n ρ=some o)(hm:n<=m):Qa3 g fb m ρ=some o:=by
 induction hm with
 | refl=>exact h
 | step _ ih=>exact Qge ih
open Classical in
noncomputable def Qb9(g:DT)(fb:DS):DS:=λρ=>if h:∃n,(Qa3 g fb n ρ).isSome=true then Qa3 g fb h.choose ρ else none
theorem QcV:Qb9 g fb ρ=some o↔∃n,Qa3 g fb n ρ=some o:=by
 unfold Qb9
 constructor
 ·intro h
  split at h
  ·exact⟨_,h⟩
  ·cases h
 ·rintro⟨n,h⟩
  have hx:∃n,(Qa3 g fb n ρ).isSome=true:=⟨n,by rw[h];rfl⟩
  rw[dif_pos hx]
  obtain⟨o',ho'⟩:=Zbv.mp hx.choose_spec
  have h1:=QlW h (Nat.le_max_left n hx.choose)
  have h2:=QlW ho' (Nat.le_max_right n hx.choose)
  rw[h1]at h2
  rw[ho',← h2]
theorem Qqr(hp:PassesOwn (model X.prog X.w) X.A X.env X.xe)(hc:ST X c gc)(hb:SS X body f):S1 X (.While c body [] pos) (Qb9 gc f):=λH0 A0 pins s σ H D I h=>by
 obtain⟨ρ,hs,F,o,rel,e,q⟩:=h
 obtain⟨n,hn⟩:=QcV.mp e
 exact Qrq (n:=n) hp hc hb H0 A0 pins s σ H D I ⟨ρ,hs,F,o,rel,hn,q⟩
theorem Qq3(g:DT)(fb:DS)(ρ:En):Qb9 g fb ρ=(g ρ).bind λb=>if b=true then(fb ρ).bind λo=>match o with
  | .nx ρ2=>Qb9 g fb ρ2
  | .ct ρ2=>Qb9 g fb ρ2
  | .bk ρ2=>some (.nx ρ2)
  | .rt d fr=>some (.rt d fr)
  else some (.nx ρ):=by
 apply Option.ext
 intro o
 rw[QcV]
 constructor
 ·rintro⟨n,h⟩
  cases n with
  | zero=>cases h
  | succ n=>
   unfold Qa3 at h
   refine Qf h λb hb h=>?_
   rw[hb]
   cases b with
   | false=>exact h
   | true=>
    rw[if_pos rfl]at h
    refine Qf h λo1 ho h=>?_
    rw[Za,if_pos rfl,ho]
    cases o1 with
    | nx ρ2=>exact QcV.mpr ⟨n,h⟩
    | ct ρ2=>exact QcV.mpr ⟨n,h⟩
    | bk ρ2=>exact h
    | rt d fr=>exact h
 ·intro h
  refine Qf h λb hb h=>?_
  cases b with
  | false=>exact⟨1,by unfold Qa3;rw[hb];exact h⟩
  | true=>
   rw[if_pos rfl]at h
   refine Qf h λo1 ho h=>?_
   cases o1 with
   | nx ρ2=>
    obtain⟨n,hn⟩:=QcV.mp h
    exact⟨n+1,by unfold Qa3;rw[hb];rw[Za,if_pos rfl,ho];exact hn⟩
   | ct ρ2=>
    obtain⟨n,hn⟩:=QcV.mp h
    exact⟨n+1,by unfold Qa3;rw[hb];rw[Za,if_pos rfl,ho];exact hn⟩
   | bk ρ2=>exact⟨1,by unfold Qa3;rw[hb];rw[Za,if_pos rfl,ho];exact h⟩
   | rt d fr=>exact⟨1,by unfold Qa3;rw[hb];rw[Za,if_pos rfl,ho];exact h⟩
theorem QtZ(hN:X.N.Nodup)(hx1:X.N[i]? =some x)(hx:Loc X.env.scope x)(hf:X.fn x=true∨X.env.scope.names.lookup x=some .local)
  (hcalm:X.calm=true) (S:Qec X N' scope) (hi:SI X tg iter fi) (hcap:Qli X N' scope cap t.slots)
  (hin:∀cl C fp s3 H3,SG (cxc X N' scope cl C fp s3 H3) tg t/\Qmi (cxc X N' scope cl C fp s3 H3) ifs ft/\SE (cxc X N' scope cl C fp s3 H3) elt fe) (hs:∀x,foldedSetIterable iter X.env x=pure x):
  S1 X (.Assign [.Name x pos'] (.ListComp elt [⟨tg,iter,ifs,0⟩] scope pos) spos) (Qr i (Q7 fi t cap ft fe)):=
 QgL λH0 A0=>(QvC hN hx1 hx hf hcalm S (hi H0 A0) (λcl C fp s3 H3=>⟨(hin cl C fp s3 H3).1 _ _,(hin cl C fp s3 H3).2.1 _ _,(hin cl C fp s3 H3).2.2 _ _⟩) hs).mono λE σ H h=>QkF hcap h
end
end HS
namespace HS
open PySem PySem.Spec L2 PyProof.Rows
section
variable {X:Cx}{a b e:Expr}{fa fb:DE}{pf:DP}{x:Nat}{pos apos:Pos}
theorem Rps.erase{K:PySem.W.Frag}{H:Hp}:∀{ds:List D}{vs:List V}{F:List Addr}(k:Nat),Qab ds=true->Rps K H ds vs F->Rps K H (ds.eraseIdx k) (vs.eraseIdx k) []
 | [],vs,F,k,_,h=>by
  simp only[Rps]at h
  obtain⟨rfl,rfl⟩:=h
  simp[Rps]
 | d::ds,vs,F,0,hf,h=>by
  have hF:=h.QbF hf
  subst hF
  simp only[Rps]at h
  obtain⟨w,ws,F1,F2,rfl,eF,r,q⟩:=h
  have:F2=[]:=(ZbN.mp eF.symm).2
  subst this
  simpa using q
 | d::ds,vs,F,k+1,hf,h=>by
  have hF:=h.QbF hf
  subst hF
  simp only[Rps]at h
  obtain⟨w,ws,F1,F2,rfl,eF,r,q⟩:=h
  obtain⟨rfl,rfl⟩:=ZbN.mp eF.symm
  simp only[Qab,Zg]at hf
  have ih:=Rps.erase k hf.2 q
  simp only[List.eraseIdx_cons_succ,Rps]
  exact⟨w,_,[],[],rfl,rfl,r,ih⟩
end
noncomputable def Qew:Expr->Bool
 | .ListComp .. =>false
 | .SetComp .. =>false
 | .DictComp .. =>false
 | _=>true
theorem QbZ(h:Qew e=true):swapsWith e t l env=pure false:=by
 cases e<;>first | rfl | cases h
noncomputable def QdT(n:Nat)(Θ:Th)(e:Expr):Option (Nat×DP):=match n with
 | 0=>none
 | n+1=>match e with
  | .Name x _=>(Θ.slot x).map λi=>(i,QaK)
  | .Subscript a b _=>(QdT n Θ a).bind λq=>(Qs n Θ b).map λfb=>(q.1,Qgn q.2 fb)
  | _=>none
theorem Qgi:∀(n:Nat) (X:Cx) (Θ:Th) (e:Expr) (q:Nat×DP),QH X Θ->QdT n Θ e=some q->SPa X e q.1 q.2/\attributeBase e=λ_ env w=>w
 | 0,_,_,_,_,_,h=>(nomatch (show(none:Option _)=some _ from h))
 | n+1,X,Θ,e,q,ok,h=>by
  cases e with
  | Name x pos=>
   change Option.map _ _=_ at h
   obtain⟨i,hi,rfl⟩:=Zc.mp h
   exact⟨Qr2 (Qdo ok.toCtxB hi),by funext a b c;rfl⟩
  | Subscript a b pos=>
   change Option.bind _ _=_ at h
   obtain⟨q',fb,h1,h2,rfl⟩:=Qb7 h
   exact⟨QuS (Qgi n X Θ a q' ok h1).1 ((QaC n).E X Θ b fb ok h2) (QnN h2),by funext a b c;rfl⟩
  | _=>exact nomatch (show(none:Option _)=some _ from h)
noncomputable def Qhu:Expr->Bool
 | .Name .. =>true
 | .Subscript _ (.Slice ..) _=>false
 | .Subscript (.Call ..) _ _=>false
 | .Subscript .. =>true
 | _=>false
noncomputable def Qrs:Operator->Option (D->D->Option D)
 | .Add=>some (gI λi j=>some (.int (i+j)))
 | .Sub=>some QdN
 | _=>none
theorem QwT(h:Qrs op=some g):∃r,OpR X (inplaceOp op) r/\Qcs X.K g r:=by
 cases op<;>cases h
 ·exact⟨_,QuO,QfX (λi j d e=>by cases e;rfl) λi j d e H Q q=>by cases e;exact⟨i,j,rfl,rfl,q _ λ_=> .int_mk⟩⟩
 ·exact⟨_,Qvu,Qq7⟩
noncomputable def QtH:Expr->Bool
 | .Slice .. =>true
 | _=>false
noncomputable def QiA(n:Nat)(Θ:Th)(o:Expr)(m:Str)(args:List Expr):Option DS:=match args with
  | []=>(QdT n Θ o).bind λq=>
    none
  | [e]=>if m= "append" then
     ((QdT n Θ o).bind λq=>(Qs n Θ e).map λfa=>Qdr q.1 q.2 fa)
    else
    none
  | _=>none
theorem QsL(ok:QH X Θ)(h:QiA n Θ o m args=some f)(hl:(apos.endLine == cpos.line)=true):
  S1 X (.Expr (.Call (.Attribute o m apos) args [] cpos) pos) f:=by
 have base:∀{q:Nat×DP},QdT n Θ o=some q->SPa X o q.1 q.2/\attributeBase o m X.env (eval o X.env)=eval o X.env:=λ{q} h1=>by
  obtain⟨sp,ab⟩:=Qgi n X Θ o _ ok h1
  exact⟨sp,by rw[ab]⟩
 have app:∀{e:Expr}{f:DS},m= "append" ->((QdT n Θ o).bind λq=>(Qs n Θ e).map λfa=>Qdr q.1 q.2 fa)=some f->S1 X (.Expr (.Call (.Attribute o m apos) [e] [] cpos) pos) f:=λ{e f} em h=>by
  obtain⟨q,fa,h1,h2,rfl⟩:=Qb7 h
  obtain⟨sp,hb⟩:=base h1
  subst em
  have he:=(QaC n).E X Θ e fa ok h2
  have st:=QbA h2 [] X.env
  have sa:∀H0 A0,PA X [e] (Qom (tV X.K H0 A0 fa) Qo5):=λH0 A0=>Qbu (he H0 A0) Qea st
  exact λH0 A0=>(Qjp (Qx8 PySem.F.plainAttrs_list PySem.F.slot_list_append PySem.F.type_list_append Qkk (sp H0 A0) (sa H0 A0) hb (by rw[st];rfl) hl st rfl) rfl).mono λE σ H q=>Qsk q
 match args,h with
 | [],h=>
  unfold QiA at h
  dsimp only at h
  obtain⟨⟨x,pf⟩,h1,h⟩:=bind1 h
  obtain⟨sp,hb⟩:=base h1
  cases h
 | [e],h=>
  unfold QiA at h
  dsimp only at h
  by_cases em:m= "append"
  ·rw[if_pos em]at h
   exact app em h
  rw[if_neg em]at h
  clear em
  clear app
  cases h
 | _::_::_,h=>exact nomatch (show(none:Option DS)=some _ from h)
end HS
namespace HS
open PySem PySem.Spec L2
end HS
namespace HS
open PySem PySem.Spec L2 PyProof.Rows
section
variable {K:PySem.W.Frag}{H0 H H':Hp}{A0:List Addr}{hs:List (V×D×List Addr)}{ρ:En}{F:Nat->List Addr}{σ:L2.St}{x i j:Nat}{ds es:List D}{a:Addr}{vs:List V}{v vn:V}{dn:D}
end
end HS
namespace HS
open PySem PySem.Spec L2 PyProof.Rows
mutual
noncomputable def QiI(n:Nat)(Θ:Th)(st:Stmt):Option DS:=match n with
 | 0=>none
 | n+1=>match st with
  | .Pass _=>some Ql
  | .Break _=>some Qs2
  | .Continue _=>some QsJ
  | .Raise _ _ _=>some QK
  | .Return (some e) _=>(Qs n Θ e).map Q3
  | .Expr (.Constant (.str _) _ _) _=>some Ql
  | .Expr (.Call (.Attribute o m apos) args [] cpos) _=>if(apos.endLine == cpos.line)=true then QiA n Θ o m args else none
  | .Expr (.Call (.Name x p) args [] cpos) _=>(Qs n Θ (.Call (.Name x p) args [] cpos)).map Qbd
  | .Assign [.Name x _] e _=>(Θ.Qbz x).bind λi=>(Qs n Θ e).map λfa=>Qr i (if Qhu e=true then Qcc fa else fa)
  | .Assign [.Subscript a i _] e _=>(QdT n Θ a).bind λq=>(Qs n Θ i).bind λfi=>(Qs n Θ e).map λfa=>QcX q.1 q.2 fi fa
  | .AugAssign (.Subscript a i _) op e _=>(QdT n Θ a).bind λq=>(Qs n Θ i).bind λfi=>(Qrs op).bind λg=>(Qs n Θ e).map λfa=>QdB g q.1 q.2 fi fa
  | .If c a b _=>(QaV n Θ c).bind λg=>(Qac n Θ a).bind λf1=>(Qac n Θ b).map λf2=>sIf g f1 f2
  | .For tg iter body [] _=>(Qh3 Θ tg).bind λt=>(Qf8 n Θ tg iter).bind λfi=>(Qac n Θ body).map λfb=>Qbb fi t fb
  | .While c body [] _=>(QaV n Θ c).bind λg=>(Qac n Θ body).map λfb=>Qb9 g fb
  | .Try a b c d p=>Θ.tr (.Try a b c d p)
  | _=>none
noncomputable def Qac(n:Nat)(Θ:Th)(sts:List Stmt):Option DS:=match n with
  | 0=>none
  | n+1=>match sts with
    | []=>some Ql
    | st::r=>
     match Θ.tr st with
     | some f=>(Qac n Θ r).map λg=>Qd f g
     | none=>
       (QiI n Θ st).bind λf=>(Qac n Θ r).map λg=>Qd f g
end
theorem QnM(h:Qs n Θ e=some f):QtH e=false:=by
 cases n with
 | zero=>exact nomatch (show(none:Option DE)=some _ from h)
 | succ n=>cases e<;>first | rfl | (exact nomatch (show(none:Option DE)=some _ from h))
theorem QuA(h:Qs n Θ (.ListComp elt gens scope pos)=some f):∃m tg iter ifs t fi ft fe,n=m+1/\gens=[⟨tg,iter,ifs,0⟩]/\Qh3 (inner Θ scope) tg=some t/\QiC Θ scope t=true∧
  Qf8 m Θ tg iter=some fi/\Qfr m (inner Θ scope) ifs=some ft/\Qs m (inner Θ scope) elt=some fe/\f=Q7 fi t (Qhz Θ scope) ft fe:=by
 cases n with
 | zero=>exact nomatch (show(none:Option DE)=some _ from h)
 | succ n=>
  match gens,h with
  | [⟨tg,iter,ifs,k⟩],h=>
   by_cases hk:k=0
   ·subst hk
    (conv at h=>lhs;whnf)
    refine Qf h λt ht h=>?_
    split at h
    ·rename_i hc
     simp only[Zg]at hc
     refine Qf h λfi h1 h=>?_
     obtain⟨ft,fe,h2,h3,rfl⟩:=Qb7 h
     exact⟨n,tg,iter,ifs,t,fi,ft,fe,rfl,rfl,ht,hc.1,h1,h2,h3,rfl⟩
    ·cases h
   ·exfalso
    cases k with
    | ofNat k=>
     cases k with
     | zero=>exact hk rfl
     | succ k=>exact nomatch (show(none:Option DE)=some _ from h)
    | negSucc k=>exact nomatch (show(none:Option DE)=some _ from h)
  | [],h=>exact nomatch (show(none:Option DE)=some _ from h)
  | ⟨_,_,_,.ofNat 0⟩::_::_,h=>exact nomatch (show(none:Option DE)=some _ from h)
  | ⟨_,_,_,.ofNat (k+1)⟩::_::_,h=>exact nomatch (show(none:Option DE)=some _ from h)
  | ⟨_,_,_,.negSucc k⟩::_::_,h=>exact nomatch (show(none:Option DE)=some _ from h)
theorem Qt0(ok:QH X Θ)(hx:Θ.Qbz x=some i)(h:Qs n Θ e=some fa):S1 X (.Assign [.Name x p] e pos) (Qr i fa):=by
 have hN:X.N.Nodup:=by rw[ok.N];exact ok.nd
 obtain⟨h1,h2,h3⟩:=QbG ok.toCtxB hx
 by_cases hc:Qew e=true
 ·have he:=(QaC n).E X Θ e fa ok h
  exact QgL λH0 A0=>Qd3 hN h1 h2 (he H0 A0) (QbZ hc) h3
 ·cases e with
  | ListComp elt gens scope cpos=>
   obtain⟨m,tg,iter,ifs,t,fi,ft,fe,rfl,rfl,ht,hco,g1,g2,g3,rfl⟩:=QuA h
   obtain⟨S,cap,inn⟩:=Ql5 ok hco
   obtain⟨i1,i2⟩:=(QaC m).I X Θ tg iter fi ok g1
   exact QtZ hN h1 h2 h3 ok.calm S i1 cap (λcl C fp s3 H3=>⟨Qlc (inn cl C fp s3 H3) ht,(QaC m).Ts _ _ ifs ft (inn cl C fp s3 H3) g2,(QaC m).E _ _ elt fe (inn cl C fp s3 H3) g3⟩) i2
  | SetComp _ _ _ _=>cases n<;>exact nomatch (show(none:Option DE)=some _ from h)
  | DictComp _ _ _ _ _=>cases n<;>exact nomatch (show(none:Option DE)=some _ from h)
  | _=>exact absurd rfl hc
theorem QrO(ok:QH X Θ)(hx:Θ.Qbz x=some i)(h:Qs n Θ e=some fa)(ha:Qhu e=true):S1 X (.Assign [.Name x p] e pos) (Qr i (Qcc fa)):=by
 have hN:X.N.Nodup:=by rw[ok.N];exact ok.nd
 obtain⟨h1,h2,h3⟩:=QbG ok.toCtxB hx
 have hc:Qew e=true:=by cases e<;>first | rfl | cases ha
 have he:=QmK ((QaC n).E X Θ e fa ok h)
 exact QgL λH0 A0=>Qd3 hN h1 h2 (he H0 A0) (QbZ hc) h3
theorem QqQ:swapsWithSole [.Subscript a i p] e l env=pure false:=by
 cases e<;>rfl
structure QvP (n:Nat):Prop where
 S:∀X Θ st f,QH X Θ->QiI n Θ st=some f->S1 X st f
 Ss:∀X Θ sts f,QH X Θ->Qac n Θ sts=some f->SS X sts f
theorem Qxy(ih:QvP n):∀X Θ st f,QH X Θ->QiI (n+1) Θ st=some f->S1 X st f:=by
 intro X Θ st f ok h
 have hN:X.N.Nodup:=by rw[ok.N];exact ok.nd
 have E:=QaC n
 cases st with
 | Pass pos=>change some Ql=some f at h;cases h;exact Quk
 | Break pos=>change some Qs2=some f at h;cases h;exact Qrn
 | Continue pos=>change some QsJ=some f at h;cases h;exact QvD
 | Raise a b pos=>change some QK=some f at h;cases h;exact Qss
 | Return e pos=>
  cases e with
  | none=>exact nomatch (show(none:Option DS)=some _ from h)
  | some e=>
   change(Qs n Θ e).map Q3=some f at h
   obtain⟨fa,h1,rfl⟩:=Zc.mp h
   exact Qwy (E.E X Θ e fa ok h1)
 | Expr e pos=>
  cases e with
  | Constant c k p=>
   cases c with
   | str x=>
    change some Ql=some f at h
    cases h
    exact λH0 A0=>QxR.mono λE σ H ⟨ρ,hs,F,o,rel,e,q⟩=>by cases e;exact q σ H F rel
   | _=>exact nomatch (show(none:Option DS)=some _ from h)
  | Call fn args kws cpos=>
   cases fn with
   | Attribute o m apos=>
    cases kws with
    | nil=>
     change(if(apos.endLine == cpos.line)=true then QiA n Θ o m args else none)=some f at h
     split at h
     ·rename_i hl
      exact QsL ok h hl
     ·cases h
    | cons _ _=>exact nomatch (show(none:Option DS)=some _ from h)
   | Name x p=>
    cases kws with
    | nil=>
     change(Qs n Θ (.Call (.Name x p) args [] cpos)).map Qbd=some f at h
     obtain⟨fa,h1,rfl⟩:=Zc.mp h
     exact λH0 A0=>QuD (Qjp (E.E X Θ _ fa ok h1 H0 A0) rfl)
    | cons _ _=>exact nomatch (show(none:Option DS)=some _ from h)
   | _=>exact nomatch (show(none:Option DS)=some _ from h)
  | _=>exact nomatch (show(none:Option DS)=some _ from h)
 | Assign ts e pos=>
  match ts,h with
  | [t],h=>
   cases t with
   | Name x p=>
    change((Θ.Qbz x).bind λi=>(Qs n Θ e).map λfa=>Qr i (if Qhu e=true then Qcc fa else fa))=some f at h
    obtain⟨i,fa,h1,h2,rfl⟩:=Qb7 h
    split
    ·rename_i ha;exact QrO ok h1 h2 ha
    ·exact Qt0 ok h1 h2
   | Subscript a i p=>
    change((QdT n Θ a).bind λq=>(Qs n Θ i).bind λfi=>(Qs n Θ e).map λfa=>QcX q.1 q.2 fi fa)=some f at h
    refine Qf h λq h1 h=>?_
    obtain⟨fi,fa,h2,h3,rfl⟩:=Qb7 h
    obtain⟨sp,_⟩:=Qgi n X Θ a q ok h1
    have ns:=QnM h2
    refine Qwj (E.E X Θ e fa ok h3) sp (E.E X Θ i fi ok h2) λte to ti he ho hi=>Qw8 he (Qwc ho hi set_list ?_) QqQ ?_ rfl
    ·intro v;cases i<;>first | rfl | (cases ns)
    ·cases e<;>rfl
   | _=>exact nomatch (show(none:Option DS)=some _ from h)
  | [],h=>exact nomatch (show(none:Option DS)=some _ from h)
  | t::_::_,h=>cases t<;>exact nomatch (show(none:Option DS)=some _ from h)
 | AugAssign t op e pos=>
  cases t with
  | Subscript a i p=>
   change((QdT n Θ a).bind λq=>(Qs n Θ i).bind λfi=>(Qrs op).bind λg=>(Qs n Θ e).map λfa=>QdB g q.1 q.2 fi fa)=some f at h
   refine Qf h λq h1 h=>?_
   refine Qf h λfi h2 h=>?_
   obtain⟨g,fa,h3,h4,rfl⟩:=Qb7 h
   obtain⟨r,o1,o2⟩:=QwT (X:=X) h3
   obtain⟨sp,_⟩:=Qgi n X Θ a q ok h1
   have ns:=QnM h2
   exact QtS o1 o2 (E.E X Θ e fa ok h4) sp (E.E X Θ i fi ok h2) λov iv new=>by cases i<;>first | rfl | (cases ns)
  | _=>exact nomatch (show(none:Option DS)=some _ from h)
 | If c a b pos=>
  change((QaV n Θ c).bind λg=>(Qac n Θ a).bind λf1=>(Qac n Θ b).map λf2=>sIf g f1 f2)=some f at h
  refine Qf h λg h1 h=>?_
  obtain⟨f1,f2,h2,h3,rfl⟩:=Qb7 h
  exact QyQ (E.T X Θ c g ok h1) (ih.Ss X Θ a f1 ok h2) (ih.Ss X Θ b f2 ok h3)
 | For tg iter body els pos=>
  cases els with
  | nil=>
   change((Qh3 Θ tg).bind λt=>(Qf8 n Θ tg iter).bind λfi=>(Qac n Θ body).map λfb=>Qbb fi t fb)=some f at h
   refine Qf h λt h1 h=>?_
   obtain⟨fi,fb,h2,h3,rfl⟩:=Qb7 h
   obtain⟨i1,i2⟩:=E.I X Θ tg iter fi ok h2
   exact QwK ok.pass ok.calm i1 (Qlc ok h1) (ih.Ss X Θ body fb ok h3) i2
  | cons _ _=>exact nomatch (show(none:Option DS)=some _ from h)
 | While c body els pos=>
  cases els with
  | nil=>
   change((QaV n Θ c).bind λg=>(Qac n Θ body).map λfb=>Qb9 g fb)=some f at h
   obtain⟨g,fb,h1,h2,rfl⟩:=Qb7 h
   exact Qqr ok.pass (E.T X Θ c g ok h1) (ih.Ss X Θ body fb ok h2)
  | cons _ _=>exact nomatch (show(none:Option DS)=some _ from h)
 | Try a b c d pos=>exact ok.tr _ _ h
 | _=>exact nomatch (show(none:Option DS)=some _ from h)
theorem Qe5:∀n,QvP n
 | 0=>⟨λ_ _ _ _ _ h=>(nomatch (show(none:Option DS)=some _ from h)),λ_ _ _ _ _ h=>(nomatch (show(none:Option DS)=some _ from h))⟩
 | n+1=>by
  have ih:=Qe5 n
  refine⟨Qxy ih,λX Θ sts f ok h=>?_⟩
  match sts,h with
  | [],h=>change some Ql=some f at h;cases h;exact QqP
  | st::r,h=>
   change(match Θ.tr st with
    | some f=>(Qac n Θ r).map λg=>Qd f g
    | none=>_)=some f at h
   split at h
   ·rename_i f0 hf0
    exact mapR (M:=λf=>SS X (st::r) f) h λg hg=>QjO (ok.tr st f0 hf0) (ih.Ss X Θ r g ok hg)
   change((QiI n Θ st).bind λf=>(Qac n Θ r).map λg=>Qd f g)=some f at h
   obtain⟨fs,fr,h1,h2,rfl⟩:=Qb7 h
   exact QjO (ih.S X Θ st fs ok h1) (ih.Ss X Θ r fr ok h2)
noncomputable def Qis(n:Nat)(Θ:Th)(st:Stmt):Option DS:=match Θ.tr st with
 | some f=>some f
 | none=>QiI n Θ st
theorem Qpu{X:Cx}{Θ:Th}{n:Nat}{st:Stmt}{f:DS}(ok:QH X Θ)(h:Qis n Θ st=some f):S1 X st f:=by
 unfold Qis at h
 split at h
 ·rename_i g hg
  cases h
  exact ok.tr st _ hg
 ·exact(Qe5 n).S X Θ st f ok h
noncomputable def Qat(k:Nat)(ds:List D):En:=ds.map (λd=>some (d,d.flat))++List.replicate (k-ds.length) none
noncomputable def outD:Out->Option (D×Bool)
 | .rt d fr=>some (d,fr)
 | .nx _=>some (.non,true)
 | _=>none
noncomputable def QB(k:Nat)(f:DS):Den:=λds=>(f (Qat k ds)).bind outD
theorem Rps.parts{K:PySem.W.Frag}{H:Hp}:∀{ds:List D}{vs:List V}{F:List Addr},Rps K H ds vs F→
  ∃Fs:List (List Addr),(∀L∈Fs,∀a∈L,a∈F)/\∀(i:Nat) (d:D),ds[i]? =some d->∃v,vs[i]? =some v/\Rp K H d v (Fs.getD i [])
 | [],_,_,h=>⟨[],λL hL=>by simp at hL,λi d e=>by simp at e⟩
 | d::ds,_,_,h=>by
  simp only[Rps]at h
  obtain⟨v,ws,F1,F2,rfl,rfl,r,q⟩:=h
  obtain⟨Fs,h1,h2⟩:=Rps.parts q
  refine⟨F1::Fs,λL hL a ha=>?_,λi d' e=>?_⟩
  ·rcases Zl.mp hL with rfl | hL
   ·exact Zd _ ha
   ·exact Ze _ (h1 L hL a ha)
  ·cases i with
   | zero=>simp at e;subst e;exact⟨v,by simp,by simpa using r⟩
   | succ i=>obtain⟨w,hw,hr⟩:=h2 i d' (by simpa using e);exact⟨w,by simpa using hw,by simpa using hr⟩
theorem Qfe{k:Nat}{ds:List D}{i:Nat}{d:D}{b:Bool}(h:(Qat k ds)[i]? =some (some (d,b))):ds[i]? =some d/\b=d.flat:=by
 unfold Qat at h
 by_cases hi:i<ds.length
 ·rw[Zab (by simpa using hi),Zy]at h
  cases e:ds[i]? with
  | none=>rw[e]at h;cases h
  | some a=>rw[e]at h;cases h;exact⟨rfl,rfl⟩
 ·rw[ZaE (by simpa using hi),ZbC]at h
  split at h<;>cases h
theorem Qd2{K:PySem.W.Frag}{H:Hp}{ds:List D}{vs:List V}{F:List Addr}{N:List Str}(r:Rps K H ds vs F):∃F0,Rel K H F [] (Qat N.length ds) F0 (start N vs) H:=by
 obtain⟨Fs,h1,h2⟩:=r.parts
 have hl:=r.length
 have src:∀i a,a∈Fs.getD i []->a∈F:=λi a ha=>by
  by_cases hi:i<Fs.length
  ·have:Fs.getD i []∈Fs:=by rw[Zz,ZA hi];exact ZbI hi
   exact h1 _ this a ha
  ·rw[Zz,Zw (by omega)]at ha;simp at ha
 refine⟨λi=>Fs.getD i [],?_,λi d b e=>?_,λi d e=>?_,λi d b e a ha=> .inr (src i a ha),λt ht=>absurd ht (by simp),QD.refl _⟩
 ·unfold Qat L2.start;simp[hl]
 ·obtain⟨e1,_⟩:=Qfe e
  obtain⟨v,hv,hr⟩:=h2 i d e1
  refine⟨v,?_,hr⟩
  have hi:i<vs.length:=(Zi.mp hv).1
  unfold L2.start
  rw[Zab (by simpa using hi),Zy,hv];rfl
 ·obtain⟨e1,e2⟩:=Qfe e
  obtain⟨v,hv,hr⟩:=h2 i d e1
  have z:Fs.getD i []=[]:=hr.QbF e2.symm
  simp only[z]
  exact⟨(Qdm d e2.symm).symm,Zap,λa ha=>by simp at ha,λ_ _ _ _ _ a ha=>by simp at ha,λ_ _ a ha=>by simp at ha⟩
section
variable (P:Program) (w:World) (K:PySem.W.Frag) (mg:Str->Option Value) (base:Heap)
def Known(k:Nat)(x:Str)(r:FnR):Prop:=∃f fd ps,Qaq P w K mg base CX0 k f fd ps (spV K r.n r.den)/\mg x=some (.ref f)/\PySem.W.keepIn K (.ref f)=true∧
 ∀m,m<=r.dfl.length->∃ds dvs,Binds K fd ps ds/\Qw dvs ds/\∀H,Rps K H (r.dfl.drop (r.dfl.length-m)) dvs []
def Qaz(k:Nat)(Γ:List (Str×FnR)):Prop:=∀x r,look x Γ=some r->Known P w K mg base k x r
structure Qb8 (cs:List (Str×Cn)):Prop where
 bn:∀x∈QlE,mg x=none
 cs:∀x i,look x cs=some i->∃t,mg x=some (cnV i t)
end
section
variable {P:Program}{w:World}{K:PySem.W.Frag}{mg:Str->Option Value}{base:Heap}
theorem Qaz.nil{k:Nat}:Qaz P w K mg base k []:=λx r h=>by cases h
theorem Known.mono{j k:Nat}{x:Str}{r:FnR}(h:Known P w K mg base j x r)(hk:j<=k):Known P w K mg base k x r:=by
 obtain⟨f,fd,ps,h1,h2⟩:=h
 exact⟨f,fd,ps,h1.mono hk,h2⟩
theorem Qaz.cons{k:Nat}{Γ:List (Str×FnR)}{x:Str}{r:FnR}(t:Qaz P w K mg base k Γ)(h:Known P w K mg base (k+1) x r):Qaz P w K mg base (k+1) ((x,r)::Γ):=λy q e=>by
 unfold look at e
 split at e
 ·rename_i z;cases e;subst z;exact h
 ·exact(t y q e).mono (ZaI _)
noncomputable def namesOf(sc:Scope):List Str:=(sc.names.filter λy=>Qte y.2).map (·.1)
noncomputable def QbL(st:Stmt)(Γ:List (Str×FnR))(cs:List (Str×Cn)):Th:=⟨namesOf (Qg st),(Qg st).names,Γ,cs,λ_=>none,λ_=>none⟩
theorem QjI{CX:CXT}{xe:Value->Shared->Prop}{st:Stmt}{ps:List Str}{qual:Str}{f:Addr}{cdv:Value}{A:Around}{outer:List Env}{s:Shared}{H:Hp}{E:XK}{k:Nat}{Γ:List (Str×FnR)}{cs:List (Str×Cn)}(S:QaA (namesOf (Qg st)) ps (Qg st))(M:Qb8 mg cs)(tab:Qaz P w K mg base k Γ)
  (hr:Qag k (A.deeper (envOfC qual (Qg st) s.heap.objs.size f cdv))) (hp:PassesOwn (model P w) (A.deeper (envOfC qual (Qg st) s.heap.objs.size f cdv)) (envOfC qual (Qg st) s.heap.objs.size f cdv) xe):
  QH ((Qcr CX P w K mg base (namesOf (Qg st)) qual (Qg st) f cdv A outer s H E).QdH xe) (QbL st Γ cs) where
 N:=rfl
 nd:=S.nd
 lc:=λx h=>by rw[Qbs]at h;exact h
 ce:=λx h=>by rw[Qbs]at h;exact⟨h,rfl⟩
 fe:=λx h=>by rw[Qbs]at h;exact absurd rfl (S.nofree _ (Zag h))
 gl:=λx h=>by rw[Qbs]at h;exact h
 calm:=decide_eq_true hr.hd
 pass:=hp
 tr:=λ_ _ h=>by cases h
 te:=λ_ _ h=>by cases h
 units:=hr.units
 mg:=M.bn
 fns:=λx r h=>by
  obtain⟨f',fd,ps',h1,h2,h3,h4⟩:=tab x r h
  exact⟨k,f',fd,ps',h1,hr,h2,h3,h4⟩
 cs:=M.cs
theorem Qiu{st:Stmt}{ps:List Str}{qual:Str}{f:Addr}{cdv:Value}{A:Around}{outer:List Env}{s:Shared}{H:Hp}{E:XK}{k:Nat}{Γ:List (Str×FnR)}{cs:List (Str×Cn)}(S:QaA (namesOf (Qg st)) ps (Qg st))(M:Qb8 mg cs)(tab:Qaz P w K mg base k Γ)
  (hr:Qag k (A.deeper (envOfC qual (Qg st) s.heap.objs.size f cdv))):QH (Qcr CX0 P w K mg base (namesOf (Qg st)) qual (Qg st) f cdv A outer s H E).nox (QbL st Γ cs):=QjI S M tab hr PassesOwn.never
theorem QwR{x qual:Str}{st:Stmt}{f:Addr}{fd:FuncData}{ps:List Str}{k n:Nat}{Γ:List (Str×FnR)}{cs:List (Str×Cn)}{g:DS}(F:Fun K x qual st f fd)(S:QaA (namesOf (Qg st)) ps (Qg st))(M:Qb8 mg cs)(tab:Qaz P w K mg base k Γ)
  (hc:Qac n (QbL st Γ cs) (Q2 st)=some g):Qaq P w K mg base CX0 (k+1) f fd ps (spV K ps.length (QB (namesOf (Qg st)).length g)):=by
 refine F.ok S (Qke rfl) λcdv A outer s H vs Q E hr h=>?_
 obtain⟨ds,L,d,fr,rps,hl,hd,q⟩:=h
 refine⟨_,(Qe5 n).Ss _ _ _ g (Qiu S M tab hr) hc H L,?_⟩
 obtain⟨F0,rel⟩:=Qd2 (N:=namesOf (Qg st)) rps
 unfold QB at hd
 refine Qf hd λo ho hd=>?_
 refine⟨_,[],F0,o,rel,ho,?_⟩
 cases o with
 | nx ρ=>
  cases hd
  exact λσ H' F' rel'=>q .non H' [] ⟨rel'.same,.QgO,λa ha=>by simp at ha,λ_=>⟨Zap,rfl,λa ha=>by simp at ha⟩⟩
 | bk ρ=>cases hd
 | ct ρ=>cases hd
 | rt d' fr'=>
  cases hd
  exact λv H' G r=>q v H' G r
structure Fact (K:PySem.W.Frag) (x:Str) (st:Stmt):Prop where
 ex:∃f fd,Fun K x x st f fd/\PySem.W.nsIn K mainGlobals x=some (some (.ref f))
theorem fact_mk{x:Str}{st:Stmt}{f:Addr}{oc:Value}{od an:Option Addr}{osl:Array (Option Value)}{kV doc pm cdv ct:Value}(a:PySem.W.nsIn K mainGlobals x=some (some (.ref f)))(l:K.lookup f=some ⟨oc,od,.func (PySem.W.fnOf x x (Qdi st) (Q2 st) (Qg st) .none kV doc pm an cdv ct),osl⟩)
  (c:PySem.W.codeIn K cdv x=true) (k:PySem.W.keepIn K (.ref f)=true):Fact K x st:=⟨f,_,Qp7 l c k,a⟩
theorem l0{α:Type}{P:List α->Prop}(h:P []):∀l:List α,l.length=0->P l:=λl e=>(List.length_eq_zero_iff.mp e).symm▸h
theorem lc{α:Type}{n:Nat}{P:List α->Prop}(h:∀a,∀l:List α,l.length=n->P (a::l)):∀l:List α,l.length=n+1->P l
 | a::l,e=>h a l (Nat.succ.inj e)
def QN(x:Str)(st:Stmt)(ps:List Str):Prop:=∀(kV doc pm:Value) (an:Option Addr) (cdv ct:Value) (us:List Value),us.length=ps.length->bindArgs (PySem.W.fnOf x x (Qdi st) (Q2 st) (Qg st) .none kV doc pm an cdv ct) ⟨us,[]⟩=pure (ps.zip us)
theorem Qap{h:Heap}{x:Str}{st:Stmt}{ps:List Str}{k n:Nat}{Γ:List (Str×FnR)}{cs:List (Str×Cn)}{g:DS}(X:K.In h)(G:h.Ns mainGlobals mg)(F:Fact K x st)(S:QaA (namesOf (Qg st)) ps (Qg st))(B:QN x st ps)(M:Qb8 mg cs)(tab:Qaz P w K mg base k Γ)
  (hc:Qac n (QbL st Γ cs) (Q2 st)=some g):Known P w K mg base (k+1) x ⟨ps.length,[],QB (namesOf (Qg st)).length g⟩:=by
 obtain⟨f,fd,Fn,a⟩:=F.ex
 refine⟨f,fd,ps,QwR Fn S M tab hc,Zal X G a,Fn.kp,λm hm=>⟨[],[],Fn.binds (B ·),.nil,λH=>by simp[Rps]⟩⟩
end
end HS
namespace HS
open PySem PySem.Spec L2 PyProof.Rows
theorem Qsx{l:PySem.W.OpenLaw}{k:Nat}{q:Program}{loose:List Str}{XP:(Str->Option Value)->Heap->Prop}{YP:World->Heap->Prop}{d:DefRec}{K:Params->PySem.W.Frag}{den:Den}{x:Str}
  (hn:l.most=some 63) (hdf:d.params.defaults=[]) (hr:Qag k callerA) (hY:∀(w:World) (h:Heap),YP w h->(K w.params).In h)
  (hden:∀ns:List Int,ns.length<=63->∃fr,den [.lst (ns.map .int)]=some (.bl true,fr))
  (F:∀(w:World) (mg:Str->Option Value) (fa:Addr) (h:Heap),(K w.params).In h->h.Ns mainGlobals mg->mg d.name=some (.ref fa)→
   ∃fd:FuncData,(∀(s:Shared) (u:Value),BindsTo s fd ⟨[u],[]⟩ [(x,u)])∧
    ∀base:Heap,(K w.params).In base->base.Ns mainGlobals mg->Qaq l.prog w (K w.params) mg base CX0 k fa fd [x] (spV (K w.params) 1 den)):
  PySem.W.WalkO q loose XP YP l.row.toRowW d [] (λf vs=>PySem.call f vs):=by
 refine Att.QhV hn hdf λw s₀ s₁ mg mb fa o pm cd doc a vs ns G Y ho hd hcd hmg hobj hints hlen hg=>?_
 have KX:=hY w _ Y
 obtain⟨fd,hb,hF⟩:=F w mg fa _ KX G.T.g hmg
 have h63:(63:Nat)<=sizeLine:=by decide
 refine QlF KX G.T.g G.T.b G.T.builtins G.T.nolimit hg hobj hints (ZD hlen h63) hr hF hb (λH hO hS=>?_) λH e s' z=>z
 have fx:Fix (K w.params) H a (ns.map V.int):=by
  rcases hS with(h | ⟨o,h⟩) | ⟨o,its,n,hk,hc,hdn,hda,hz,rv⟩
  ·rcases hO a with z | ⟨o,xs,z⟩<;>rw[h]at z<;>cases z
  ·exact .inl ⟨o,h⟩
  ·have e:=KX a o hk
   rw[hobj]at e
   cases e
   cases hda
   exact .inr ⟨vs,_,hk,by rw[Zm];exact ZD hlen h63,by simpa using rv⟩
 obtain⟨fr,hfr⟩:=hden ns hlen
 have rp:Rp (K w.params) H (.lst (ns.map .int)) (.ref a) []:=by
  simp only[Rp]
  refine⟨by rw[Zm];exact ZD hlen h63,a,_,rfl,.inr ⟨fx,?_⟩⟩
  have gen:∀ns:List Int,Rps (K w.params) H (ns.map .int) (ns.map .int) []:=by
   intro ns
   induction ns with
   | nil=>simp[Rps]
   | cons n ns ih=>simp only[Zq,Rps];exact⟨_,_,[],[],rfl,rfl,.int_mk,ih⟩
  exact gen ns
 refine⟨[.lst (ns.map .int)],[],.bl true,fr,?_,rfl,hfr,λv H' G r=>r.rp.QeB⟩
 simp only[Rps]
 exact⟨_,_,[],[],rfl,rfl,rp,rfl,rfl⟩
end HS
namespace HS
open PySem PySem.Spec PyProof.Rows L2
section
variable {P:Program}{w:World}{K:PySem.W.Frag}{mg:Str->Option Value}{base:Heap}
theorem Qos{h:Heap}{x:Str}{st:Stmt}{ps:List Str}{k:Nat}(X:K.In h)(G:h.Ns mainGlobals mg)(F:Fact K x st)(B:QN x st ps):Known P w K mg base k x ⟨ps.length,[],λ_=>none⟩:=by
 obtain⟨f,fd,Fn,a⟩:=F.ex
 refine⟨f,fd,ps,⟨λvs H Q E h=>?_,λA outer s H args us vs Q E _ _ _ _ h=>?_⟩,Zal X G a,Fn.kp,λm hm=>⟨[],[],Fn.binds (B ·),.nil,λH=>by simp[Rps]⟩⟩
 ·obtain⟨ds,L,d,fr,rps,hl,hd,q⟩:=h
  cases hd
 ·obtain⟨ds,L,d,fr,rps,hl,hd,q⟩:=h
  cases hd
end
end HS
namespace HS
open PySem PySem.Spec L2 PyProof.Rows
noncomputable def hide(H:Hp)(P:List Addr):Hp:=λa=>if a∈P then none else H a
noncomputable def QeF:Option HO->Prop
 | some (.lst _)=>True
 | some (.ins _ _ _)=>True
 | some (.dT _)=>True
 | _=>False
section
variable {K:PySem.W.Frag}{H H':Hp}{P:List Addr}
theorem Qht{a:Addr}(h:a∈P):hide H P a=none:=if_pos h
theorem Qgg{a:Addr}(h:a∉P):hide H P a=H a:=if_neg h
theorem QkI{a:Addr}(h:hide H P a=none):a∈P∨H a=none:=by
 by_cases q:a∈P
 ·exact .inl q
 ·rw[Qgg q]at h;exact .inr h
theorem QqK:QD (hide H P) H:=λb o h=>by
 by_cases q:b∈P
 ·rw[Qht q]at h;cases h
 ·rw[Qgg q]at h;exact h
theorem QbH(s:QD (hide H P) H'){a:Addr}{u:HO}(h:H a=some u)(n:a∉P):H' a=some u:=s a u (by rw[Qgg n];exact h)
theorem Qhf(hm:∀a∈P,QeF (H a)){a:Addr}{u:HO}(h:H a=some u)(n:¬QeF (some u)):a∉P:=λz=>n (h▸hm a z)
theorem Qct.mut{v:V}{vs:List V}{A:List Addr}:∀{o:Ob},Qct K H v vs A o->∀a∈A,QeF (H a)
 | .ins _ _,⟨a,C,dx,e1,e2,e3,e4,e5⟩,b,hb=>by rw[e2]at hb;rw[Zj.mp hb,e4];exact True.intro
 | .pin _,⟨_,_,e⟩,b,hb=>by rw[e]at hb;simp at hb
 | .pair,⟨e,_⟩,b,hb=>by rw[e]at hb;simp at hb
theorem Qct.but(s:QD (hide H P) H'){v:V}{vs:List V}{A:List Addr}:∀{o:Ob},Qct K H v vs A o->(∀a∈A,a∉P)->Qct K H' v vs A o
 | .ins _ _,⟨a,C,dx,e1,e2,e3,e4,e5⟩,hn=>⟨a,C,dx,e1,e2,e3,QbH s e4 (hn a (by rw[e2];exact List.mem_singleton_self a)),e5⟩
 | .pin _,h,_=>h
 | .pair,h,_=>h
mutual
theorem Rp.mut:∀{d:D}{v:V}{F:List Addr},Rp K H d v F->∀a∈F,QeF (H a)
 | .non,_,_,h,a,ha=>by simp only[Rp]at h;rw[h.2]at ha;simp at ha
 | .bl _,_,_,h,a,ha=>by simp only[Rp]at h;rw[h.2]at ha;simp at ha
 | .int _,_,_,h,a,ha=>by simp only[Rp]at h;rw[h.2]at ha;simp at ha
 | .str _,_,_,h,a,ha=>by simp only[Rp]at h;rw[h.2]at ha;simp at ha
 | .exc _,_,_,h,a,ha=>by simp only[Rp]at h;rw[h.2]at ha;simp at ha
 | .dk _,_,_,h,a,ha=>by simp only[Rp]at h;obtain⟨b,e,eF,q⟩:=h;subst eF;rw[Zj.mp ha,q];exact True.intro
 | .obj _ _,_,_,h,a,ha=>by
  simp only[Rp]at h
  obtain⟨vs,A,G,eF,q,r⟩:=h
  subst eF
  exact(Zo.mp ha).elim (q.mut a) (Rps.mut r a)
 | .tup ds,_,_,h,a,ha=>by
  simp only[Rp]at h
  obtain⟨_,vs,e,q,r⟩:=h
  exact Rps.mut r a ha
 | .lst ds,_,_,h,a,ha=>by
  simp only[Rp]at h
  obtain⟨_,b,vs,e,⟨G,eF,q,r⟩ | ⟨q,r⟩⟩:=h
  ·subst eF
   rcases Zl.mp ha with z | z
   ·rw[z,q];exact True.intro
   ·exact Rps.mut r a z
  ·exact Rps.mut r a ha
theorem Rps.mut:∀{ds:List D}{vs:List V}{F:List Addr},Rps K H ds vs F->∀a∈F,QeF (H a)
 | [],_,_,h,a,ha=>by simp only[Rps]at h;rw[h.2]at ha;simp at ha
 | d::ds,_,_,h,a,ha=>by
  simp only[Rps]at h
  obtain⟨v,ws,F1,F2,e,eF,r,q⟩:=h
  subst eF
  exact(Zo.mp ha).elim (Rp.mut r a) (Rps.mut q a)
end
theorem Quz(hm:∀a∈P,QeF (H a))(s:QD (hide H P) H'){a:Addr}{vs:List V}(h:SqT K H a vs):SqT K H' a vs:=by
 rcases h with(h | ⟨o,h⟩) | h
 ·exact .inl (.inl (QbH s h (Qhf hm h λz=>z)))
 ·exact .inl (.inr ⟨o,QbH s h (Qhf hm h λz=>z)⟩)
 ·exact .inr h
theorem Qvl(hm:∀a∈P,QeF (H a))(s:QD (hide H P) H'){a:Addr}{vs:List V}(h:Fix K H a vs):Fix K H' a vs:=by
 rcases h with⟨o,h⟩ | h
 ·exact .inl ⟨o,QbH s h (Qhf hm h λz=>z)⟩
 ·exact .inr h
mutual
theorem Rp.but(hm:∀a∈P,QeF (H a))(s:QD (hide H P) H'):∀{d:D}{v:V}{F:List Addr},Rp K H d v F->(∀a∈F,a∉P)->Rp K H' d v F
 | .exc _,_,_,h,_=>by
  simp only[Rp]at h ⊢
  obtain⟨⟨a,e,C,q1,q2⟩,z⟩:=h
  exact⟨⟨a,e,C,q1,QbH s q2 (Qhf hm q2 λz=>z)⟩,z⟩
 | .dk _,_,_,h,hn=>by
  simp only[Rp]at h ⊢
  obtain⟨a,e,eF,q⟩:=h
  subst eF
  exact⟨a,e,rfl,QbH s q (hn a (List.mem_singleton_self a))⟩
 | .obj _ _,_,_,h,hn=>by
  simp only[Rp]at h ⊢
  obtain⟨vs,A,G,eF,q,r⟩:=h
  subst eF
  exact⟨vs,A,G,rfl,q.but s λa z=>hn a (Zd _ z),Rps.but hm s r λa z=>hn a (Ze _ z)⟩
 | .non,_,_,h,_=>h
 | .bl _,_,_,h,_=>h
 | .int _,_,_,h,_=>h
 | .str _,_,_,h,_=>h
 | .tup ds,_,_,h,hn=>by
  simp only[Rp]at h ⊢
  obtain⟨a,vs,e,q,r⟩:=h
  exact⟨a,vs,e,Quz hm s q,Rps.but hm s r hn⟩
 | .lst ds,_,_,h,hn=>by
  simp only[Rp]at h ⊢
  obtain⟨hz,a,vs,e,⟨G,eF,q,r⟩ | ⟨q,r⟩⟩:=h
  ·subst eF
   exact⟨hz,a,vs,e,.inl ⟨G,rfl,QbH s q (hn a Zf),Rps.but hm s r λb z=>hn b (Zb _ z)⟩⟩
  ·exact⟨hz,a,vs,e,.inr ⟨Qvl hm s q,Rps.but hm s r hn⟩⟩
theorem Rps.but(hm:∀a∈P,QeF (H a))(s:QD (hide H P) H'):∀{ds:List D}{vs:List V}{F:List Addr},Rps K H ds vs F->(∀a∈F,a∉P)->Rps K H' ds vs F
 | [],_,_,h,_=>h
 | d::ds,_,_,h,hn=>by
  simp only[Rps]at h ⊢
  obtain⟨v,ws,F1,F2,e,eF,r,q⟩:=h
  subst eF
  exact⟨v,ws,F1,F2,e,rfl,Rp.but hm s r λb z=>hn b (Zd _ z),Rps.but hm s q λb z=>hn b (Ze _ z)⟩
end
end
def QjF(H0:Hp)(hs:List (V×D×List Addr))(ρ:En)(F:Nat->List Addr)(i:Nat)(a:Addr):Prop:=
 H0 a=none/\(∀(j:Nat) d b,ρ[j]? =some (some (d,b))->j≠i->a∉F j)/\∀t∈hs,a∉t.2.2
section
variable {K:PySem.W.Frag}{H0 H H':Hp}{A0:List Addr}{hs:List (V×D×List Addr)}{ρ:En}{F:Nat->List Addr}{σ:L2.St}{i:Nat}{d d':D}{v:V}{G:List Addr}
theorem Rel.Qox(r:Rel K H0 A0 hs ρ F σ H)(e:ρ[i]? =some (some (d,true))){a:Addr}(h:a∈F i∨H a=none):QjF H0 hs ρ F i a:=by
 rcases h with h | h
 ·obtain⟨_,_,h3,h4,h5⟩:=r.own i d e
  exact⟨h3 a h,λj d' b' ej hj=>h4 j d' b' hj ej a h,λt ht=>h5 t ht a h⟩
 ·refine⟨r.same.free h,λj d' b' ej hj z=>?_,λt ht z=>?_⟩
  ·obtain⟨u,q⟩:=r.mem ej z
   rw[h]at q;cases q
  ·obtain⟨u,q⟩:=(r.held t ht).1.mem a z
   rw[h]at q;cases q
theorem Rel.io(r:Rel K H0 A0 hs ρ F σ H)(e:ρ[i]? =some (some (d,true)))(hv:σ[i]? =some (some v))(s:QD (hide H (F i)) H')(rp:Rp K H' d' v G)(nd:G.Nodup)(nl:G.length=d'.nl)(sub:∀a∈G,QjF H0 hs ρ F i a):
  Rel K H0 A0 hs (ρ.set i (some (d',true))) (λj=>if j=i then G else F j) σ H':=by
 obtain⟨o1,o2,o3,o4,o5⟩:=r.own i d e
 obtain⟨w,hw,rpi⟩:=r.val i d true e
 have hm:∀a∈F i,QeF (H a):=rpi.mut
 have hl:i<ρ.length:=(Zi.mp e).1
 refine⟨by rw[ZaS];exact r.len,λj d2 b ej=>?_,λj d2 ej=>?_,λj d2 b ej a ha=>?_,λt ht=>⟨(r.held t ht).1.but hm s λa ha z=>o5 t ht a z ha,(r.held t ht).2⟩,λb u hb=>?_⟩
 ·by_cases hj:j=i
  ·subst hj
   rw[Zr hl]at ej
   cases ej
   exact⟨v,hv,by rw[if_pos rfl];exact rp⟩
  ·rw[Zh (Ne.symm hj)]at ej
   obtain⟨v2,h1,h2⟩:=r.val j d2 b ej
   exact⟨v2,h1,by rw[if_neg hj];exact h2.but hm s λa ha z=>o4 j d2 b hj ej a z ha⟩
 ·by_cases hj:j=i
  ·subst hj
   rw[Zr hl]at ej
   cases ej
   rw[if_pos rfl]
   refine⟨nl,nd,λa ha=>(sub a ha).1,λk d3 b3 hk ek a ha=>?_,λt ht a ha=>(sub a ha).2.2 t ht⟩
   rw[Zh (Ne.symm hk)]at ek
   rw[if_neg hk]
   exact(sub a ha).2.1 k d3 b3 ek hk
  ·rw[Zh (Ne.symm hj)]at ej
   obtain⟨p1,p2,p3,p4,p5⟩:=r.own j d2 ej
   rw[if_neg hj]
   refine⟨p1,p2,p3,λk d3 b3 hk ek a ha=>?_,p5⟩
   by_cases hki:k=i
   ·subst hki
    rw[if_pos rfl]
    exact λz=>(sub a z).2.1 j d2 true ej hj ha
   ·rw[Zh (Ne.symm hki)]at ek
    rw[if_neg hki]
    exact p4 k d3 b3 hk ek a ha
 ·by_cases hj:j=i
  ·subst hj
   rw[if_pos rfl]at ha
   exact .inl (sub a ha).1
  ·rw[Zh (Ne.symm hj)]at ej
   rw[if_neg hj]at ha
   exact r.src j d2 b ej a ha
 ·exact QbH s (r.same b u hb) λz=>by rw[o3 b z]at hb;cases hb
theorem Rel.new(r:Rel K H0 A0 hs ρ F σ H)(rp:Rp K H d v G)(nd:G.Nodup)(nl:G.length=d.nl)(sub:∀a∈G,QjF H0 hs ρ F i a):
  Rel K H0 A0 hs (ρ.set i (some (d,true))) (λj=>if j=i then G else F j) (σ.set i (some v)) H:=by
 have lt:∀{y:D×Bool},(ρ.set i (some (d,true)))[i]? =some (some y)->i<ρ.length:=λ{y} e=>by
  by_cases hl:i<ρ.length
  ·exact hl
  ·rw[Zw (by simp;omega)]at e;cases e
 refine⟨by simp[r.len],λj d2 b ej=>?_,λj d2 ej=>?_,λj d2 b ej a ha=>?_,r.held,r.same⟩
 ·by_cases hj:j=i
  ·subst hj
   have hl:=lt ej
   rw[Zr hl]at ej
   cases ej
   exact⟨v,by rw[Zr (by rw[← r.len];exact hl)],by rw[if_pos rfl];exact rp⟩
  ·rw[Zh (Ne.symm hj)]at ej
   obtain⟨v2,h1,h2⟩:=r.val j d2 b ej
   exact⟨v2,by rw[Zh (Ne.symm hj)];exact h1,by rw[if_neg hj];exact h2⟩
 ·by_cases hj:j=i
  ·subst hj
   have hl:=lt ej
   rw[Zr hl]at ej
   cases ej
   rw[if_pos rfl]
   refine⟨nl,nd,λa ha=>(sub a ha).1,λk d3 b3 hk ek a ha=>?_,λt ht a ha=>(sub a ha).2.2 t ht⟩
   rw[Zh (Ne.symm hk)]at ek
   rw[if_neg hk]
   exact(sub a ha).2.1 k d3 b3 ek hk
  ·rw[Zh (Ne.symm hj)]at ej
   obtain⟨p1,p2,p3,p4,p5⟩:=r.own j d2 ej
   rw[if_neg hj]
   refine⟨p1,p2,p3,λk d3 b3 hk ek a ha=>?_,p5⟩
   by_cases hki:k=i
   ·subst hki
    rw[if_pos rfl]
    exact λz=>(sub a z).2.1 j d2 true ej hj ha
   ·rw[Zh (Ne.symm hki)]at ek
    rw[if_neg hki]
    exact p4 k d3 b3 hk ek a ha
 ·by_cases hj:j=i
  ·subst hj
   rw[if_pos rfl]at ha
   exact .inl (sub a ha).1
  ·rw[Zh (Ne.symm hj)]at ej
   rw[if_neg hj]at ha
   exact r.src j d2 b ej a ha
end
end HS
namespace HS
open PySem PySem.Spec L2 PyProof.Rows
inductive QaW (K:PySem.W.Frag) (ρ:En) (F:Nat->List Addr) (σ:L2.St) (i:Nat):Hp->Hp->List (Option R)->List V->List (List Addr)->Prop
 | nil {H:Hp}:QaW K ρ F σ i H H [] [] []
 | val {H H1 H2:Hp}{r:R}{v:V}{G:List Addr}{rs:List (Option R)}{vs:List V}{Gs:List (List Addr)}(p:Q6 K ρ F H H1 r v G) (t:QaW K ρ F σ i H1 H2 rs vs Gs):QaW K ρ F σ i H H2 (some r::rs) (v::vs) (G::Gs)
 | slot {H H2:Hp}{v:V}{rs:List (Option R)}{vs:List V}{Gs:List (List Addr)}(e:σ[i]? =some (some v)) (t:QaW K ρ F σ i H H2 rs vs Gs):QaW K ρ F σ i H H2 (none::rs) (v::vs) (F i::Gs)
noncomputable def evs:List (Option DE)->En->Option (List (Option R))
 | [],_=>some []
 | some f::fs,ρ=>(f ρ).bind λr=>(evs fs ρ).map λrs=>some r::rs
 | none::fs,ρ=>(evs fs ρ).map λrs=>none::rs
noncomputable def tVL(K:PySem.W.Frag)(H0:Hp)(A0:List Addr)(i:Nat)(fs:List (Option DE)):TA:=λσ H Q=>∃ρ hs F rs,Rel K H0 A0 hs ρ F σ H/\evs fs ρ=some rs/\(none∈fs->∃v,σ[i]? =some (some v))/\∀vs H' Gs,QaW K ρ F σ i H H' rs vs Gs->Q vs H'
noncomputable def Qla(X:Cx)(i:Nat)(e:Expr):Option DE->Prop
 | some f=>SE X e f
 | none=>PE X e (Qgr i)
inductive Qbp (X:Cx) (i:Nat):List Expr->List (Option DE)->Prop
 | nil:Qbp X i [] []
 | cons {e:Expr}{f:Option DE}{es:List Expr}{fs:List (Option DE)}(h:Qla X i e f) (s:∀es env,starEach (e::es) env=(false,eval e env)::starEach es env) (t:Qbp X i es fs):Qbp X i (e::es) (f::fs)
section
variable {X:Cx}{i:Nat}{es:List Expr}{fs:List (Option DE)}
theorem Qbp.any(h:Qbp X i es fs)(pos:Pos)(env:Env):(backTo pos (starEach es env)).any (·.1)=false:=by
 induction h with
 | nil=>rfl
 | cons h s t ih=>rw[s];simpa[backTo]using ih
theorem QvZ(h:Qbp X i es fs)(H0:Hp)(A0:List Addr):PA X es (tVL X.K H0 A0 i fs):=by
 induction h with
 | nil=>exact Qea.mono λσ H Q ⟨ρ,hs,F,rs,rel,e,hv,q⟩=>by cases e;exact q _ _ _ .nil
 | @cons e f es fs h s t ih=>
  cases f with
  | some f=>
   refine(Qbu ((show SE X e f from h) H0 A0) ih (s _ _)).mono λσ H Q hpt=>?_
   obtain⟨ρ,hs,F,rs,rel,e,hv,q⟩:=hpt
   refine Qf e λr e1 e=>?_
   obtain⟨rs',e2,rfl⟩:=Zc.mp e
   exact⟨ρ,hs,F,r,rel,e1,λv H1 G p=>⟨ρ,hs,F,rs',rel.ext p.same,e2,λz=>hv (Zb _ z),λvs H' Gs pl=>q _ _ _ (.val p pl)⟩⟩
  | none=>
   refine(Qbu (show PE X e (Qgr i)from h) ih (s _ _)).mono λσ H Q hpt=>?_
   obtain⟨ρ,hs,F,rs,rel,e,hv,q⟩:=hpt
   obtain⟨rs',e2,rfl⟩:=Zc.mp e
   obtain⟨v,ev⟩:=hv Zf
   exact⟨v,ev,ρ,hs,F,rs',rel,e2,λz=>hv (Zb _ z),λvs H' Gs pl=>q _ _ _ (.slot ev pl)⟩
end
structure QiG (K:PySem.W.Frag) (H:Hp) (Fp:List Addr) (d dp:D) (vp v:V) (H':Hp) (G Gp:List Addr):Prop where
 same:QD (hide H Fp) H'
 rp:Rp K H' d v G
 rpp:Rp K H' dp vp Gp
 nd:(G++Gp).Nodup
 len:G.length=d.nl
 lenp:Gp.length=dp.nl
 fr:∀a∈G++Gp,a∈Fp∨H a=none
noncomputable abbrev QbI:=List D->Option (D×D)
noncomputable def QeC(K:PySem.W.Frag)(n p:Nat)(den:QbI):Sp:=λvs H Q _=>∃(ds:List D) (F:Nat->List Addr) (a:Addr) (d dp:D),ds.length=n/\vs.length=n/\(∀j dj,ds[j]? =some dj->∃v,vs[j]? =some v/\Rp K H dj v (F j))/\p<n/\vs[p]? =some (.ref a)∧
 (F p).Nodup/\(F p).length=(ds.getD p .non).nl/\(∀j,j<n->j≠p->∀b∈F p,b∉F j)/\den ds=some (d,dp)/\∀v H' G Gp,QiG K H (F p) d dp (.ref a) v H' G Gp->Q v H'
noncomputable def QcL(k p:Nat)(a:Addr)(ds:List D):En:=(Qat k ds).set p (some (.obj (.pin a) [ds.getD p .non],true))
noncomputable def Qhk(p:Nat)(a:Addr):Out->Option (D×D)
 | .rt (.obj .pair [d,.obj (.pin b) [dp]]) true=>if b=a then some (d,dp)else none
 | .nx ρ=>match ρ[p]? with
  | some (some (.obj (.pin b) [dp],true))=>if b=a then some (.non,dp)else none
  | _=>none
 | _=>none
def UIO(k p:Nat)(g:DS)(den:QbI):Prop:=∀ds q,den ds=some q->∀a,∃o,g (QcL k p a ds)=some o/\Qhk p a o=some q
section
variable {K:PySem.W.Frag}{H H':Hp}
theorem Rps.Quh{d:D}{v:V}{F:List Addr}(h:Rps K H [d] [v] F):Rp K H d v F:=by
 simp only[Rps]at h
 obtain⟨u,ws,F1,F2,e,eF,r,e2,e3⟩:=h
 cases e
 rw[eF,e3,ZC];exact r
theorem Rps.QpM{d:D}{v:V}{F:List Addr}(h:Rp K H d v F):Rps K H [d] [v] F:=by
 simp only[Rps]
 exact⟨v,[],F,[],rfl,(ZC F).symm,h,rfl,rfl⟩
theorem Rp.Qdj{a:Addr}{d:D}{v:V}{F:List Addr}(h:Rp K H (.obj (.pin a) [d]) v F):v= .ref a/\Rp K H d v F:=by
 simp only[Rp]at h
 obtain⟨vs,A,G,eF,⟨e1,e2,e3⟩,r⟩:=h
 subst e2 e3
 rw[eF,Zbi]
 exact⟨e1,r.Quh⟩
theorem Rp.Qi8{a:Addr}{d:D}{F:List Addr}(h:Rp K H d (.ref a) F):Rp K H (.obj (.pin a) [d]) (.ref a) F:=by
 simp only[Rp]
 exact⟨[.ref a],[],F,rfl,⟨rfl,rfl,rfl⟩,Rps.QpM h⟩
theorem Rp.Qs0{d e:D}{v:V}{F:List Addr}(h:Rp K H (.obj .pair [d,e]) v F):∃u F1 F2,F=F1++F2/\Rp K H d v F1/\Rp K H e u F2:=by
 simp only[Rp]at h
 obtain⟨vs,A,G,eF,⟨e1,_,u,e2⟩,r⟩:=h
 subst e1 e2
 simp only[Rps]at r
 obtain⟨v',ws,F1,F2,e1,e2,r1,u',ws',F3,F4,e3,e4,r2,e5,e6⟩:=r
 cases e1
 cases e3
 subst e6
 exact⟨u,F1,F3,by rw[eF,e2,e4,ZC,Zbi],r1,r2⟩
theorem Rp.QuR{d e:D}{v u:V}{F1 F2:List Addr}(h1:Rp K H d v F1)(h2:Rp K H e u F2)(hn:v≠ .non):Rp K H (.obj .pair [d,e]) v (F1++F2):=by
 simp only[Rp]
 refine⟨[v,u],[],F1++F2,rfl,⟨rfl,hn,u,rfl⟩,?_⟩
 simp only[Rps]
 exact⟨v,[u],F1,F2,rfl,rfl,h1,u,[],F2,[],rfl,(ZC F2).symm,h2,rfl,rfl⟩
theorem Qc5(a:Addr)(d:D):(D.obj (.pin a) [d]).nl=d.nl:=by simp only[D.nl,nls,Ob.n];omega
theorem QnJ(d e:D):(D.obj .pair [d,e]).nl=d.nl+e.nl:=by simp only[D.nl,nls,Ob.n];omega
end
section
variable {P:Program}{w:World}{K:PySem.W.Frag}{mg:Str->Option Value}{base:Heap}
theorem QdS{k p:Nat}{a:Addr}{ds:List D}{j:Nat}{d:D}{b:Bool}(h:(QcL k p a ds)[j]? =some (some (d,b))):(j=p/\d= .obj (.pin a) [ds.getD p .non]/\b=true)∨(j≠p/\ds[j]? =some d/\b=d.flat):=by
 unfold QcL at h
 by_cases hj:j=p
 ·subst hj
  by_cases hl:j<(Qat k ds).length
  ·rw[Zr hl]at h
   cases h
   exact .inl ⟨rfl,rfl,rfl⟩
  ·rw[Zw (by simp;omega)]at h;cases h
 ·rw[Zh (Ne.symm hj)]at h
  obtain⟨h1,h2⟩:=Qfe h
  exact .inr ⟨hj,h1,h2⟩
theorem Qny{H:Hp}{ds:List D}{vs:List V}{F:Nat->List Addr}{N:List Str}{n p:Nat}{a:Addr}(hl:ds.length=n)(hvl:vs.length=n)(hv:∀j dj,ds[j]? =some dj->∃v,vs[j]? =some v/\Rp K H dj v (F j))(hp:p<n)(ha:vs[p]? =some (.ref a))
  (nd:(F p).Nodup) (ln:(F p).length=(ds.getD p .non).nl) (ap:∀j,j<n->j≠p->∀b∈F p,b∉F j):Rel K (hide H (F p)) ((List.range n).flatMap F) [] (QcL N.length p a ds) F (start N vs) H:=by
 have at_:∀{j:Nat}{v:V},vs[j]? =some v->(start N vs)[j]? =some (some v):=λ{j v} e=>by
  have hi:j<vs.length:=(Zi.mp e).1
  unfold L2.start
  rw[Zab (by simpa using hi),Zy,e];rfl
 have hd:ds[p]? =some (ds.getD p .non):=by rw[Zz,ZA (by omega)];rfl
 obtain⟨v0,e0,r0⟩:=hv p _ hd
 rw[ha]at e0
 cases e0
 have inA:∀{j:Nat}{b:Addr},j<n->b∈F j->b∈(List.range n).flatMap F:=λ{j b} h1 h2=>List.mem_flatMap.mpr ⟨j,ZH.mpr h1,h2⟩
 refine⟨by unfold QcL Qat L2.start;simp[hl,hvl],λj d b e=>?_,λj d e=>?_,λj d b e c hc=>?_,λt ht=>absurd ht (by simp),QqK⟩
 ·rcases QdS e with⟨rfl,rfl,rfl⟩ | ⟨hj,e1,_⟩
  ·exact⟨_,at_ ha,Rp.Qi8 r0⟩
  ·obtain⟨v,h1,h2⟩:=hv j d e1
   exact⟨v,at_ h1,h2⟩
 ·rcases QdS e with⟨rfl,rfl,_⟩ | ⟨hj,e1,ef⟩
  ·refine⟨by rw[Qc5];exact ln,nd,λc hc=>Qht hc,λk d' b' hk ek c hc=>?_,λt ht=>absurd ht (by simp)⟩
   rcases QdS ek with⟨z,_⟩ | ⟨_,e2,_⟩
   ·exact absurd z hk
   ·have:k<ds.length:=(Zi.mp e2).1
    exact ap k (by omega) hk c hc
  ·obtain⟨v,h1,h2⟩:=hv j d e1
   have z:F j=[]:=h2.QbF ef.symm
   rw[z]
   exact⟨(Qdm d ef.symm).symm,Zap,λa ha=>by simp at ha,λ_ _ _ _ _ a ha=>by simp at ha,λ_ _ a ha=>by simp at ha⟩
 ·rcases QdS e with⟨rfl,_⟩ | ⟨_,e1,_⟩
  ·exact .inl (Qht hc)
  ·have:j<ds.length:=(Zi.mp e1).1
   exact .inr (inA (by omega) hc)
theorem QsE{n p:Nat}{den:QbI}{ps:List Str}(hn:ps.length=n):∀vs H Q E,QeC K n p den vs H Q E->vs.length=ps.length:=λvs H Q E ⟨ds,F,a,d,dp,h1,h2,_⟩=>by rw[hn,h2]
theorem Qus{H:Hp}{F:Nat->List Addr}{p:Nat}{a:Addr}{A0:List Addr}{o:Out}{d dp:D}{Q:VK}(ho:Qhk p a o=some (d,dp))(q:∀v H' G Gp,QiG K H (F p) d dp (.ref a) v H' G Gp->Q v H'):
  Fits K (hide H (F p)) A0 [] {nx:=λ_ H'=>Q .non H',rt:=Q} o:=by
 unfold Qhk at ho
 split at ho
 ·rename_i d' b dp'
  split at ho
  ·rename_i hb
   cases ho
   subst hb
   refine λv H' G rt=>?_
   obtain⟨u,G1,G2,eG,r1,r2⟩:=rt.rp.Qs0
   obtain⟨e,r3⟩:=r2.Qdj
   subst e eG
   obtain⟨n1,n2,n3⟩:=rt.cnt rfl
   rw[QnJ,Qc5,Zp]at n2
   have l1:=r1.Qas
   have l2:=r3.Qas
   exact q v H' G1 G2 ⟨rt.same,r1,r3,n1,by omega,by omega,λc hc=>QkI (n3 c hc)⟩
  ·cases ho
 ·rename_i ρ
  split at ho
  ·rename_i b dp' hρ
   split at ho
   ·rename_i hb
    cases ho
    subst hb
    refine λσ H' F' rel=>?_
    obtain⟨v,e,rp⟩:=rel.val p _ _ hρ
    obtain⟨e,r3⟩:=rp.Qdj
    subst e
    obtain⟨o1,o2,o3,_,_⟩:=rel.own p _ hρ
    rw[Qc5]at o1
    exact q .non H' [] (F' p) ⟨rel.same,.QgO,r3,by simpa using o2,rfl,o1,λc hc=>QkI (o3 c (by simpa using hc))⟩
   ·cases ho
  ·cases ho
 ·cases ho
theorem Qyq{x qual:Str}{st:Stmt}{f:Addr}{fd:FuncData}{ps:List Str}{k n p:Nat}{Θ:Th}{g:DS}{den:QbI}(F:Fun K x qual st f fd)(S:QaA (namesOf (Qg st)) ps (Qg st))
  (hΘ:∀(cdv:Value) (A:Around) (outer:List Env) (s:Shared) (H:Hp) (E:XK),Qag k (A.deeper (envOfC qual (Qg st) s.heap.objs.size f cdv))->QH (Qcr CX0 P w K mg base (namesOf (Qg st)) qual (Qg st) f cdv A outer s H E).nox Θ)
  (hc:Qac n Θ (Q2 st)=some g) (hU:UIO (namesOf (Qg st)).length p g den):Qaq P w K mg base CX0 (k+1) f fd ps (QeC K ps.length p den):=by
 refine F.ok S (QsE rfl) λcdv A outer s H vs Q E hr h=>?_
 obtain⟨ds,L,a,d,dp,h1,h2,h3,h4,h5,h6,h7,h8,h9,q⟩:=h
 refine⟨_,(Qe5 n).Ss _ _ _ g (hΘ cdv A outer s H E hr) hc (hide H (L p)) ((List.range ps.length).flatMap L),?_⟩
 obtain⟨o,e1,e2⟩:=hU ds _ h9 a
 exact⟨_,[],L,o,Qny h1 h2 h3 h4 h5 h6 h7 h8,e1,Qus e2 q⟩
end
noncomputable def Qes(p:Nat)(fa:DE):DS:=λρ=>(fa ρ).bind λr=>match ρ[p]? with
 | some (some (dp,true))=>if(r.norm.fr && decide r.norm.M.Nodup && !r.norm.M.contains p && !r.d.Qpf)=true then some (.rt (.obj .pair [r.d,dp]) true)else none
 | _=>none
section
variable {X:Cx}{e:Expr}{fa:DE}{pos:Pos}{p:Nat}
theorem QuT(he:SE X e fa):S1 X (.Return (some e) pos) (Qes p fa):=λH0 A0=>(QqN (he H0 A0)).mono λE σ H=>exK λρ hs F o rel e q=>by
 refine Qf e λr e1 e=>?_
 split at e
 ·rename_i dp hρ
  split at e
  ·rename_i hc
   cases e
   simp only[Zg,decide_eq_true_eq,ZY]at hc
   obtain⟨⟨⟨c1,c2⟩,c3⟩,c4⟩:=hc
   refine⟨ρ,hs,F,r,rel,e1,λv H' G p1=>q v H' (G++F p) ?_⟩
   have p':=p1.norm
   obtain⟨g1,g2⟩:=p'.fresh rel c1 c2
   have g3:=(p'.cnt c1).2
   rw[r.Qc6]at g3
   obtain⟨u,eu,ru⟩:=rel.val p dp true hρ
   obtain⟨o1,o2,o3,o4,o5⟩:=rel.own p dp hρ
   refine⟨rel.same.trans p1.same,Rp.QuR p1.rp (ru.same p1.same) ?_,λa ha=>?_,λ_=>⟨ZT.mpr ⟨g1,o2,λa ha b hb hab=>?_⟩,by rw[QnJ,Zp,g3,o1],λa ha=>?_⟩⟩
   ·have:=Qu0 p1.rp
    rw[c4]at this
    exact of_decide_eq_false this
   ·rcases Zo.mp ha with z | z
    ·exact .inl (g2 a z).1
    ·exact .inl (o3 a z)
   ·subst hab
    rcases(g2 a ha).2 with z | ⟨i,d,hi,ei,mi⟩
    ·obtain⟨w,hw⟩:=ru.mem a hb
     rw[z]at hw;cases hw
    ·have hne:i≠p:=λz=>by
      subst z
      have:r.norm.M.contains i=true:=ZG.mpr hi
      rw[this]at c3;cases c3
     exact o4 i d true hne ei a hb mi
   ·rcases Zo.mp ha with z | z
    ·exact(g2 a z).1
    ·exact o3 a z
  ·cases e
 ·cases e
end
end HS
namespace HS
open PySem PySem.Spec L2 PyProof.Rows
noncomputable abbrev ClT:=List (Str×List Str)
def Qe9(K:PySem.W.Frag)(T:ClT):Prop:=∀x fs,look x T=some fs->∀C,PySem.W.nsIn K mainGlobals x=some (some (.ref C))->Cls K C/\∀f∈fs,QbX K C f
noncomputable def unp:D->D
 | .obj (.pin _) [d]=>d
 | d=>d
noncomputable def Qjz(T:ClT)(f:Str)(d:D):Option D:=match unp d with
 | .obj (.ins x ns) ds=>(look x T).bind λfs=>if fs.contains f=true then(posOf f ns).bind λj=>ds[j]? else none
 | _=>none
noncomputable def QdL(T:ClT)(f:Str)(fa:DE):DE:=λρ=>(fa ρ).bind λr=>(Qjz T f r.d).map λd=>R.norm ⟨d,r.fr,r.M⟩
section
variable {K:PySem.W.Frag}{H H':Hp}
theorem Rp.unp{d:D}{v:V}{F:List Addr}(h:Rp K H d v F):Rp K H (HS.unp d) v F/\(HS.unp d).nl=d.nl:=by
 unfold HS.unp
 split
 ·exact⟨h.Qdj.2,(Qc5 _ _).symm⟩
 ·exact⟨h,rfl⟩
theorem Rp.QfN{x:Str}{ns:List Str}{ds:List D}{v:V}{F:List Addr}(h:Rp K H (.obj (.ins x ns) ds) v F):
  ∃a C dx vs G,v= .ref a/\F=a::G/\PySem.W.nsIn K mainGlobals x=some (some (.ref C))/\H a=some (.ins C dx (ns.zip vs))/\ns.length=vs.length/\Rps K H ds vs G:=by
 simp only[Rp]at h
 obtain⟨vs,A,G,eF,⟨a,C,dx,e1,e2,e3,e4,e5⟩,r⟩:=h
 subst e2
 exact⟨a,C,dx,vs,G,e1,eF,e3,e4,e5,r⟩
theorem Rp.QiJ{x:Str}{ns:List Str}{ds:List D}{a C dx:Addr}{vs:List V}{G:List Addr}(e3:PySem.W.nsIn K mainGlobals x=some (some (.ref C)))(e4:H a=some (.ins C dx (ns.zip vs)))(e5:ns.length=vs.length)(r:Rps K H ds vs G):Rp K H (.obj (.ins x ns) ds) (.ref a) (a::G):=by
 simp only[Rp]
 exact⟨vs,[a],G,rfl,⟨a,C,dx,rfl,rfl,e3,e4,e5⟩,r⟩
theorem Qgp{f:Str}:∀{ns:List Str}{vs:List V}{j:Nat}{v:V},posOf f ns=some j->vs[j]? =some v->(ns.zip vs).lookup f=some v
 | [],_,_,_,h,_=>by cases h
 | g::ns,[],_,_,_,e=>by simp at e
 | g::ns,u::vs,j,v,h,e=>by
  unfold posOf at h
  split at h
  ·rename_i hg
   cases h
   subst hg
   simp at e
   subst e
   simp[Zt]
  ·rename_i hg
   obtain⟨k,hk,rfl⟩:=Zc.mp h
   rw[ZaF,Zt,beq_eq_false_iff_ne.mpr hg]
   exact Qgp hk (by simpa using e)
theorem Qe1{f:Str}:∀{ns:List Str}{vs:List V},f∉ns->(ns.zip vs).lookup f=none
 | [],_,_=>rfl
 | g::ns,[],_=>rfl
 | g::ns,u::vs,h=>by
  have h1:f≠g:=λz=>h (by rw[z];exact Zf)
  rw[ZaF,Zt,beq_eq_false_iff_ne.mpr h1]
  exact Qe1 λz=>h (Zb _ z)
theorem Qnb{f:Str}{y:V}:∀{ns:List Str}{vs:List V}{j:Nat},posOf f ns=some j->ns.length=vs.length->Qba f y (ns.zip vs)=ns.zip (vs.set j y)
 | [],_,_,h,_=>by cases h
 | g::ns,[],_,_,e=>by simp at e
 | g::ns,u::vs,j,h,e=>by
  unfold posOf at h
  split at h
  ·rename_i hg
   cases h
   subst hg
   simp[Qba]
  ·rename_i hg
   obtain⟨k,hk,rfl⟩:=Zc.mp h
   rw[ZaF,Qba,if_neg (Ne.symm hg),Qnb hk (by simpa using e)]
   rfl
theorem QmF{f:Str}{y:V}:∀{ns:List Str}{vs:List V},posOf f ns=none->ns.length=vs.length->Qba f y (ns.zip vs)=(ns++[f]).zip (vs++[y])
 | [],[],_,_=>rfl
 | [],_::_,_,e=>by simp at e
 | g::ns,[],_,e=>by simp at e
 | g::ns,u::vs,h,e=>by
  unfold posOf at h
  split at h
  ·cases h
  ·rename_i hg
   have hk:posOf f ns=none:=by
    cases q:posOf f ns with
    | none=>rfl
    | some k=>rw[q]at h;cases h
   rw[ZaF,Qba,if_neg (Ne.symm hg),QmF hk (by simpa using e)]
   rfl
end
section
variable {X:Cx}{T:ClT}{f:Str}{e:Expr}{fa:DE}{pos:Pos}
theorem QwU(hT:Qe9 X.K T)(he:SE X e fa)(hb:attributeBase e f X.env (eval e X.env)=eval e X.env):SE X (.Attribute e f pos) (QdL T f fa):=λH0 A0=>(QxK (he H0 A0) hb).mono λσ H Q=>exK λρ hs F r rel e q=>by
 refine Qf e λra e1 e=>?_
 obtain⟨d,e2,rfl⟩:=Zc.mp e
 refine⟨ρ,hs,F,ra,rel,e1,λv H1 G p=>?_⟩
 unfold Qjz at e2
 obtain⟨ru,rn⟩:=p.rp.unp
 split at e2
 ·rename_i x ns ds hu
  rw[hu]at ru rn
  refine Qf e2 λfs h1 e2=>?_
  split at e2
  ·rename_i hf
   refine Qf e2 λj h2 e2=>?_
   obtain⟨a,C,dx,vs,G0,ev,eG,e3,e4,e5,rs⟩:=ru.QfN
   obtain⟨c1,c2⟩:=hT x fs h1 C e3
   obtain⟨u,F1,G1,F2,g1,g2,g3,g4⟩:=rs.get e2
   refine⟨a,C,dx,_,u,ev,e4,c1,c2 f (ZG.mp hf),Qgp h2 g1,q u H1 G1 (p.sub g3 (λb=>?_) λhl=>g4 ?_).norm⟩
   ·rw[eG,g2,Zay,Zad,Zad];omega
   ·rw[eG,Zk]at hl
    rw[← rn]at hl
    simp only[D.nl,Ob.n]at hl
    omega
  ·cases e2
 ·cases e2
end
noncomputable def putD(T:ClT)(f:Str)(y:D)(d:D):Option D:=match d with
 | .obj (.ins x ns) ds=>(look x T).bind λfs=>if(fs.contains f && decide (ns.length<1000))=true then(match posOf f ns with
  | some j=>if j<ds.length then some (.obj (.ins x ns) (ds.set j y))else none
  | none=>some (.obj (.ins x (ns++[f])) (ds++[y])))else none
 | _=>none
noncomputable def QgY(g:D->Option D)(d:D):Option D:=match d with
 | .obj (.pin a) [e]=>(g e).map λz=> .obj (.pin a) [z]
 | d=>g d
section
variable {K:PySem.W.Frag}{H0 H H':Hp}{A0:List Addr}{hs:List (V×D×List Addr)}{ρ:En}{F:Nat->List Addr}{σ:L2.St}{i:Nat}{d d' dy:D}{v y:V}{G:List Addr}{T:ClT}{f:Str}
theorem Qkl{a:Addr}{u:HO}{P:List Addr}(h:a∈P):QD (hide H P) (upd H a u):=λb o e=>by
 by_cases q:b∈P
 ·rw[Qht q]at e;cases e
 ·rw[Qgg q]at e
  rw[QF (λz:b=a=>q (by rw[z];exact h))];exact e
theorem Qvy{a:Addr}{L:List Addr}(hT:Qe9 K T)(rp:Rp K H d v L)(nd:L.Nodup)(ln:L.length=d.nl)(ry:Rp K H dy y G)(gn:G.Nodup)(gl:G.length=dy.nl)(ap:∀b∈G,b∉L)(e:putD T f dy d=some d'):
  ∃a C dx fs,v= .ref a/\H a=some (.ins C dx fs)/\Cls K C/\QbX K C f/\fs.length<1000/\a∈L/\∃L',Rp K (upd H a (.ins C dx (Qba f y fs))) d' v L'/\L'.Nodup/\L'.length=d'.nl/\∀b∈L',b∈L∨b∈G:=by
 unfold putD at e
 split at e
 ·rename_i x ns ds
  refine Qf e λfs h1 e=>?_
  split at e
  ·rename_i hc
   simp only[Zg,decide_eq_true_eq]at hc
   obtain⟨a,C,dx,vs,G0,ev,eL,e3,e4,e5,rs⟩:=rp.QfN
   obtain⟨c1,c2⟩:=hT x fs h1 C e3
   subst eL
   obtain⟨na,n0⟩:=ZU.mp nd
   have hm:∀b∈[a],QeF (H b):=λb hb=>by rw[Zj.mp hb,e4];exact True.intro
   have sm:∀u,QD (hide H [a]) (upd H a u):=λu=>Qkl (List.mem_singleton_self a)
   have keep:∀{b:Addr},b∈G0->b∉[a]:=λ{b} hb z=>na (by rw[Zj.mp z]at hb;exact hb)
   have keepG:∀{b:Addr},b∈G->b∉[a]:=λ{b} hb z=>ap b hb (by rw[Zj.mp z];exact Zf)
   have l0:G0.length=nls ds:=by
    rw[Zk]at ln
    simp only[D.nl,Ob.n]at ln
    omega
   refine⟨a,C,dx,_,ev,e4,c1,c2 f (ZG.mp hc.1),by rw[List.length_zip];omega,Zf,?_⟩
   subst ev
   split at e
   ·rename_i j hj
    split at e
    ·rename_i hlt
     cases e
     have hd:ds[j]? =some ds[j]:=ZA hlt
     obtain⟨F1,Gj,F2,w,eG,ew,r1,r2,r3⟩:=rs.split hd
     have hvl:j<vs.length:=(Zi.mp ew).1
     have i1:∀b∈F1,b∈G0:=λb hb=>by rw[eG];exact Zd _ hb
     have i2:∀b∈F2,b∈G0:=λb hb=>by rw[eG];exact Ze _ (Ze _ hb)
     have ij:∀b∈Gj,b∈G0:=λb hb=>by rw[eG];exact Ze _ (Zd _ hb)
     rw[eG]at n0
     obtain⟨m1,m2,m3⟩:=ZT.mp n0
     obtain⟨m4,m5,m6⟩:=ZT.mp m2
     refine⟨a::(F1++(G++F2)),Rp.QiJ e3 (by rw[Qao,Qnb hj e5]) (by rw[ZaS];exact e5) (Rps.Qth (r1.but hm (sm _) λb hb=>keep (i1 b hb)) (ry.but hm (sm _) λb hb=>keepG hb) (r3.but hm (sm _) λb hb=>keep (i2 b hb)) hlt hvl),?_,?_,λb hb=>?_⟩
     ·refine ZU.mpr ⟨λz=>?_,ZT.mpr ⟨m1,ZT.mpr ⟨gn,m5,λb hb c hcc hbc=>?_⟩,λb hb c hcc hbc=>?_⟩⟩
      ·rcases Zo.mp z with z | z
       ·exact na (i1 a z)
       ·rcases Zo.mp z with z | z
        ·exact ap a z Zf
        ·exact na (i2 a z)
      ·subst hbc
       exact ap b hb (Zb _ (i2 b hcc))
      ·subst hbc
       rcases Zo.mp hcc with z | z
       ·exact ap b z (Zb _ (i1 b hb))
       ·exact m3 b hb b (Ze _ z) rfl
     ·have k1:=Qft (e:=dy) hd
      have k2:=r2.Qas
      have k3:=congrArg List.length eG
      simp only[Zp]at k3
      have k4:=r1.Qas
      have k5:=r3.Qas
      have k6:nls ds=nls (ds.take j)+(ds[j].nl+nls (ds.drop (j+1))):=by
       have:ds=ds.take j++ds[j]::ds.drop (j+1):=by rw[← ZV hlt,ZaU]
       have h':=congrArg nls this
       rw[QcK]at h'
       exact h'
      simp only[D.nl,Ob.n,Zk,Zp]
      omega
     ·rcases Zl.mp hb with z | z
      ·exact .inl (by rw[z];exact Zf)
      ·rcases Zo.mp z with z | z
       ·exact .inl (Zb _ (i1 b z))
       ·rcases Zo.mp z with z | z
        ·exact .inr z
        ·exact .inl (Zb _ (i2 b z))
    ·cases e
   ·rename_i hj
    cases e
    refine⟨a::(G0++G),Rp.QiJ e3 (by rw[Qao,QmF hj e5]) (by rw[Zp,Zp,e5];rfl) ((rs.but hm (sm _) λb hb=>keep hb).append (Rps.QpM (ry.but hm (sm _) λb hb=>keepG hb))),?_,?_,λb hb=>?_⟩
    ·refine ZU.mpr ⟨λz=>?_,ZT.mpr ⟨n0,gn,λb hb c hcc hbc=>?_⟩⟩
     ·rcases Zo.mp z with z | z
      ·exact na z
      ·exact ap a z Zf
     ·subst hbc
      exact ap b hcc (Zb _ hb)
    ·simp only[D.nl,Ob.n,Zk,Zp,QcK,nls]
     omega
    ·rcases Zl.mp hb with z | z
     ·exact .inl (by rw[z];exact Zf)
     ·rcases Zo.mp z with z | z
      ·exact .inl (Zb _ z)
      ·exact .inr z
  ·cases e
 ·cases e
theorem Qrv{g:D->Option D}{d d':D}(h:QgY g d=some d'):(∃a e z,d= .obj (.pin a) [e]/\g e=some z/\d'= .obj (.pin a) [z])∨g d=some d':=by
 unfold QgY at h
 split at h
 ·rename_i a e
  obtain⟨z,h1,h2⟩:=Zc.mp h
  exact .inl ⟨a,e,z,rfl,h1,h2.symm⟩
 ·exact .inr h
theorem Rel.QwO(hT:Qe9 K T)(r:Rel K H0 A0 hs ρ F σ H)(e:ρ[i]? =some (some (d,true)))(ry:Rp K H dy y G)(gn:G.Nodup)(gl:G.length=dy.nl)(gs:∀b∈G,QjF H0 hs ρ F i b/\b∉F i)(hp:QgY (putD T f dy) d=some d'):
  ∃v a C dx fs,σ[i]? =some (some v)/\v= .ref a/\H a=some (.ins C dx fs)/\Cls K C/\QbX K C f/\fs.length<1000/\∃F',Rel K H0 A0 hs (ρ.set i (some (d',true))) F' σ (upd H a (.ins C dx (Qba f y fs))):=by
 obtain⟨v,hv,rp⟩:=r.val i d true e
 obtain⟨o1,o2,o3,o4,o5⟩:=r.own i d e
 have core:∀{e0 z:D},Rp K H e0 v (F i)->(F i).length=e0.nl->putD T f dy e0=some z->(∀{H'':Hp}{L':List Addr},Rp K H'' z v L'->Rp K H'' d' v L')->z.nl=d'.nl→
   ∃v a C dx fs,σ[i]? =some (some v)/\v= .ref a/\H a=some (.ins C dx fs)/\Cls K C/\QbX K C f/\fs.length<1000/\∃F',Rel K H0 A0 hs (ρ.set i (some (d',true))) F' σ (upd H a (.ins C dx (Qba f y fs))):=λ{e0 z} r0 l0 hz up hn=>by
  obtain⟨a,C,dx,fs,ev,ha,c1,c2,c3,hm,L',rl,nl',ll,sub⟩:=Qvy (a:=0) hT r0 o2 l0 ry gn gl (λb hb=>(gs b hb).2) hz
  refine⟨v,a,C,dx,fs,hv,ev,ha,c1,c2,c3,_,r.io e hv (Qkl hm) (up rl) nl' (by rw[ll,hn]) λb hb=>?_⟩
  rcases sub b hb with q | q
  ·exact r.Qox e (.inl q)
  ·exact(gs b q).1
 rcases Qrv hp with⟨a,e0,z,rfl,hz,rfl⟩ | hz
 ·obtain⟨ea,r0⟩:=rp.Qdj
  subst ea
  exact core r0 (by rw[o1,Qc5]) hz (λh=>Rp.Qi8 h) (Qc5 _ _).symm
 ·exact core rp o1 hz (λh=>h) rfl
theorem Qg1:∀(M:List Nat) (ρ:En) (i:Nat),i∉M->(kill M ρ)[i]? =ρ[i]?
 | [],ρ,i,_=>rfl
 | j::M,ρ,i,h=>by
  unfold kill
  rw[Qg1 M _ i (λz=>h (Zb _ z)),Zh (λz=>h (by rw[z];exact Zf))]
theorem Q6.Qox{rr:R}{v:V}(r:Rel K H0 A0 hs ρ F σ H)(p:Q6 K ρ F H H' rr v G)(hf:rr.fr=true)(nd:rr.M.Nodup)(hi:i∉rr.M)(e:ρ[i]? =some (some (d,true))):∀b∈G,QjF H0 hs (kill rr.M ρ) F i b/\b∉F i:=by
 obtain⟨gn,gs⟩:=p.fresh r hf nd
 have apart:∀(j:Nat) d b,(kill rr.M ρ)[j]? =some (some (d,b))->∀a∈G,a∉F j:=λj d b e a ha hj=>by
  obtain⟨b',e',_⟩:=(QbD rr.M ρ).2 j d b e
  rcases(gs a ha).2 with q | ⟨k,d',hk,ek,hak⟩
  ·obtain⟨vs,w⟩:=r.mem e' hj
   rw[q]at w;cases w
  ·have hjk:j≠k:=λz=>by subst z;exact QeZ rr.M ρ j d b hk e
   exact(r.own k d' ek).2.2.2.1 j d b' hjk e' a hak hj
 refine λb hb=>⟨⟨(gs b hb).1,λj d' b' ej hj=>apart j d' b' ej b hb,λt ht hj=>?_⟩,apart i d true (by rw[Qg1 _ _ _ hi];exact e) b hb⟩
 rcases(gs b hb).2 with q | ⟨k,d',hk,ek,hak⟩
 ·obtain⟨vs,w⟩:=(r.held t ht).1.mem b hj
  rw[q]at w;cases w
 ·exact(r.own k d' ek).2.2.2.2 t ht b hak hj
end
noncomputable def Qhx(T:ClT)(i:Nat)(f:Str)(fa:DE):DS:=λρ=>(fa ρ).bind λr=>match ρ[i]? with
 | some (some (d,true))=>if(r.norm.fr && decide r.norm.M.Nodup && !r.norm.M.contains i)=true then(QgY (putD T f r.d) d).map λd'=> .nx ((kill r.norm.M ρ).set i (some (d',true)))else none
 | _=>none
noncomputable def Qhd(T:ClT)(i:Nat)(f:Str)(fa:DE):DS:=λρ=>match ρ[i]? with
 | some (some (d,true))=>(Qjz T f d).bind λx=>match x with
  | .int k=>(fa ρ).bind λr=>match r.d with
   | .int m=>(QgY (putD T f (.int (k+m))) d).map λd'=> .nx (ρ.set i (some (d',true)))
   | _=>none
  | _=>none
 | _=>none
section
variable {X:Cx}{T:ClT}{f:Str}{o e:Expr}{fa:DE}{pos pos':Pos}{i:Nat}
theorem Qt8(hT:Qe9 X.K T)(ho:PE X o (Qgr i))(he:SE X e fa)(hs:swapsWith e (some (.Attribute o f pos')) pos.line X.env=pure false):S1 X (.Assign [.Attribute o f pos'] e pos) (Qhx T i f fa):=λH0 A0=>(QvL ho (he H0 A0) hs).mono λE σ H=>exK λρ hs F out rel e q=>by
 refine Qf e λr e1 e=>?_
 split at e
 ·rename_i d hρ
  split at e
  ·rename_i hc
   simp only[Zg,decide_eq_true_eq,ZY]at hc
   obtain⟨⟨c1,c2⟩,c3⟩:=hc
   have hi:i∉r.norm.M:=λz=>by rw[ZG.mpr z]at c3;cases c3
   obtain⟨d',e2,rfl⟩:=Zc.mp e
   refine⟨ρ,hs,F,r,rel,e1,λy H1 G p=>?_⟩
   have p':=p.norm
   obtain⟨gn,_⟩:=p'.fresh rel c1 c2
   have gl:=(p'.cnt c1).2
   have lo:=p'.Qox rel c1 c2 hi hρ
   rw[r.Qc6]at gl
   have r1:=(rel.ext p.same).weak (QbD r.norm.M ρ)
   obtain⟨v,a,C,dx,fs,hv,ev,ha,k1,k2,k3,F',rel'⟩:=r1.QwO hT (by rw[Qg1 _ _ _ hi];exact hρ) p.rp gn gl lo e2
   exact⟨v,hv,a,C,dx,fs,ev,ha,k1,k2,k3,q _ _ F' rel'⟩
  ·cases e
 ·cases e
theorem Qt4(hT:Qe9 X.K T)(ho:PE X o (Qgr i))(he:SE X e fa):S1 X (.AugAssign (.Attribute o f pos') .Add e pos) (Qhd T i f fa):=λH0 A0=>(QpB ho (he H0 A0) QwW).mono λE σ H=>exK λρ hs F out rel e q=>by
 unfold Qhd at e
 split at e
 ·rename_i d hρ
  refine Qf e λx hx e=>?_
  split at e
  ·rename_i k
   refine Qf e λr e1 e=>?_
   split at e
   ·rename_i m hm
    obtain⟨d',e2,rfl⟩:=Zc.mp e
    obtain⟨v,hv,rp⟩:=rel.val i d true hρ
    unfold Qjz at hx
    obtain⟨ru,rn⟩:=rp.unp
    split at hx
    ·rename_i x ns ds hu
     rw[hu]at ru rn
     refine Qf hx λfs h1 hx=>?_
     split at hx
     ·rename_i hf
      refine Qf hx λj h2 hx=>?_
      obtain⟨a,C,dx,vs,G0,ev,eG,e3,e4,e5,rs⟩:=ru.QfN
      obtain⟨c1,c2⟩:=hT x fs h1 C e3
      obtain⟨u,F1,G1,F2,g1,g2,g3,g4⟩:=rs.get hx
      have eu:=g3.int_inv
      subst eu
      refine⟨v,hv,a,C,dx,_,_,ev,e4,c1,c2 f (ZG.mp hf),Qgp h2 g1,ρ,hs,F,r,rel,e1,λy H1 G p=>?_⟩
      have ey:=(hm▸p.rp:Rp X.K H1 (.int m) y G).int_inv
      subst ey
      obtain⟨v',a',C',dx',fs',hv',ev',ha',k1,k2,k3,F',rel'⟩:=(rel.ext p.same).QwO (y:= .int (k+m)) (G:=[]) hT hρ .int_mk Zap rfl (λb hb=>by simp at hb) e2
      rw[hv]at hv'
      cases hv'
      subst ev
      cases ev'
      have hh:=p.same _ _ e4
      rw[ha']at hh
      cases hh
      exact⟨k,m,rfl,rfl,dx,_,ha',k3,q _ _ F' rel'⟩
     ·cases hx
    ·cases hx
   ·cases e
  ·cases e
 ·cases e
end
end HS
namespace HS
open PySem PySem.Spec L2 PyProof.Rows
structure IoR where
 n:Nat
 p:Nat
 den:QbI
noncomputable abbrev MeT:=List (Str×List (Str×IoR))
def QpV(X:Cx)(T:MeT):Prop:=∀x ms m r,look x T=some ms->look m ms=some r->∀C,PySem.W.nsIn X.K mainGlobals x=some (some (.ref C))->∃k f fd ps,Cls X.K C/\QjE X.K C m f/\Qaq X.prog X.w X.K X.mg X.base CX0 k f fd ps (QeC X.K r.n 0 r.den)/\Qag k X.A/\Binds X.K fd ps []
noncomputable def ioM(T:MeT)(m:Str)(ds:List D)(d:D):Option (D×D):=match d with
 | .obj (.ins x ns) es=>(look x T).bind λms=>(look m ms).bind λr=>if(!ns.contains m && decide (r.n=ds.length+1))=true then r.den (.obj (.ins x ns) es::ds)else none
 | _=>none
noncomputable def QeE(g:D->Option (D×D))(d:D):Option (D×D):=match d with
 | .obj (.pin a) [e]=>(g e).map λq=>(q.1,.obj (.pin a) [q.2])
 | d=>g d
section
variable {K:PySem.W.Frag}{H0 H H':Hp}{A0:List Addr}{hs:List (V×D×List Addr)}{ρ:En}{F:Nat->List Addr}{σ:L2.St}{i x:Nat}{d d2 dp:D}{v v2:V}{G Gp:List Addr}
theorem QlA{g:D->Option (D×D)}{d:D}{q:D×D}(h:QeE g d=some q):∃e z,g e=some (q.1,z)/\((∃a,d= .obj (.pin a) [e]/\q.2= .obj (.pin a) [z])∨(d=e/\q.2=z)):=by
 unfold QeE at h
 split at h
 ·rename_i a e
  obtain⟨z,h1,h2⟩:=Zc.mp h
  subst h2
  exact⟨e,z.2,h1,.inl ⟨a,rfl,rfl⟩⟩
 ·exact⟨d,q.2,h,.inr ⟨rfl,rfl⟩⟩
theorem Rel.Qta(r:Rel K H0 A0 hs ρ F σ H)(e:ρ[i]? =some (some (d,true)))(hv:σ[i]? =some (some v))(ip:QiG K H (F i) d2 dp v v2 H' G Gp){dq:D}(up:Rp K H' dp v Gp->Rp K H' dq v Gp)(un:dq.nl=dp.nl)(hx:x≠i):
  ∃F',Rel K H0 A0 hs ((ρ.set i (some (dq,true))).set x (some (d2,true))) F' (σ.set x (some v2)) H':=by
 obtain⟨n1,n2,n3⟩:=ZT.mp ip.nd
 have lo:∀b∈G++Gp,QjF H0 hs ρ F i b:=λb hb=>r.Qox e (ip.fr b hb)
 have r1:=r.io e hv ip.same (up ip.rpp) n2 (by rw[un];exact ip.lenp) λb hb=>lo b (Ze _ hb)
 refine⟨_,r1.new (i:=x) ip.rp n1 ip.len λb hb=>⟨(lo b (Zd _ hb)).1,λj d' b' ej hj=>?_,(lo b (Zd _ hb)).2.2⟩⟩
 by_cases hji:j=i
 ·subst hji
  dsimp only
  rw[if_pos rfl]
  exact λz=>n3 b hb b z rfl
 ·dsimp only
  rw[if_neg hji]
  rw[Zh (Ne.symm hji)]at ej
  exact(lo b (Zd _ hb)).2.1 j d' b' ej hji
end
noncomputable def Qhc(T:MeT)(x i:Nat)(m:Str)(fs:DA):DS:=λρ=>(fs ρ).bind λr=>match ρ[i]? with
 | some (some (d,true))=>if(decide (x≠i) && !r.M.contains i)=true then(QeE (ioM T m r.ds) d).map λq=> .nx ((ρ.set i (some (q.2,true))).set x (some (q.1,true)))else none
 | _=>none
section
variable {X:Cx}{T:MeT}{m nm:Str}{o e:Expr}{es:List Expr}{fs:DA}{pos cpos apos p:Pos}{i x:Nat}
theorem Qlo{K:PySem.W.Frag}{H:Hp}{ds:List D}{vs:List V}{G:List Addr}(h:Rps K H ds vs G):∃F:Nat->List Addr,(∀j b,b∈F j->b∈G)/\∀j d,ds[j]? =some d->∃v,vs[j]? =some v/\Rp K H d v (F j):=by
 obtain⟨Fs,h1,h2⟩:=h.parts
 refine⟨λj=>Fs.getD j [],λj b hb=>?_,h2⟩
 dsimp only at hb
 rw[Zz]at hb
 by_cases hj:j<Fs.length
 ·rw[ZA hj]at hb
  exact h1 _ (ZbI hj) b hb
 ·rw[Zw (by omega)]at hb
  simp at hb
theorem QuC{pl:Sem Bool}(hN:X.N.Nodup)(hx1:X.N[x]? =some nm)(hx2:Loc X.env.scope nm)(hx3:X.fn nm=true∨X.env.scope.names.lookup nm=some .local)(hM:QpV X T)(ho:PE X o (Qgr i))(ha:SA X (e::es) fs)
  (hst:starEach (e::es) X.env=(false,eval e X.env)::starEach es X.env) (hpl:(backTo cpos (starEach es X.env)).any (·.1)=false)
  (ht:eval (.Call (.Attribute o m apos) (e::es) [] cpos) X.env=(do
   let ov ← eval o X.env
   standAt apos.atName
   let (f,first) ← holding [ov] (getMethod ov m pl)
   callWith cpos f first (backTo cpos (starEach (e::es) X.env)) (backToKw cpos (keywordEach [] X.env)))):
  S1 X (.Assign [.Name nm p] (.Call (.Attribute o m apos) (e::es) [] cpos) pos) (Qhc T x i m fs):=by
 intro H0 A0 pins s σ H E I hpt
 obtain⟨ρ,hs,F,out,rel,e,q⟩:=hpt
 refine Qf e λr e1 e=>?_
 split at e
 ·rename_i d hρ
  split at e
  ·rename_i hc
   simp only[Zg,decide_eq_true_eq,ZY]at hc
   obtain⟨hxi,hM0⟩:=hc
   have hi:i∉r.M:=λz=>by rw[ZG.mpr z]at hM0;cases hM0
   obtain⟨qq,e2,rfl⟩:=Zc.mp e
   obtain⟨e0,z,hg,hd⟩:=QlA e2
   obtain⟨v,hv,rp⟩:=rel.val i d true hρ
   obtain⟨o1,o2,o3,o4,o5⟩:=rel.own i d hρ
   have r0:Rp X.K H e0 v (F i)/\e0.nl=d.nl:=by
    rcases hd with⟨a,rfl,_⟩ | ⟨rfl,_⟩
    ·exact⟨rp.Qdj.2,(Qc5 _ _).symm⟩
    ·exact⟨rp,rfl⟩
   have un:qq.2.nl=z.nl:=by
    rcases hd with⟨a,rfl,h2⟩ | ⟨rfl,h2⟩
    ·rw[h2,Qc5]
    ·rw[h2]
   have up:∀{H'':Hp}{L:List Addr},Rp X.K H'' z v L->Rp X.K H'' qq.2 v L:=λ{H'' L} h=>by
    rcases hd with⟨a,rfl,h2⟩ | ⟨rfl,h2⟩
    ·obtain⟨ea,_⟩:=rp.Qdj
     rw[h2]
     subst ea
     exact Rp.Qi8 h
    ·rw[h2];exact h
   unfold ioM at hg
   split at hg
   ·rename_i cn ns ds0
    refine Qf hg λms h1 hg=>?_
    refine Qf hg λio h2 hg=>?_
    split at hg
    ·rename_i hn
     simp only[Zg,decide_eq_true_eq,ZY]at hn
     obtain⟨hn1,hn2⟩:=hn
     obtain⟨a,C,dx,vs0,G0,ev,eG,k3,k4,k5,rs⟩:=r0.1.QfN
     obtain⟨k,f,fd,ps,c1,c2,c3,c4,c5⟩:=hM cn ms m io h1 h2 C k3
     subst ev
     refine(Qd3 hN hx1 hx2 (Qui ho c1 c2 c3 c4 c5 .nil Qho (ha H0 A0) hst hpl ht) (QbZ rfl) hx3) pins s σ H E I ⟨_,hv,a,dx,_,rfl,k4,Qe1 λz=>?_,ρ,hs,F,r,rel,e1,λvs H1 G p1=>?_⟩
     ·rw[ZG.mpr z]at hn1;cases hn1
     ·obtain⟨Fs,f1,f2⟩:=Qlo p1.rp
      have hlen:=p1.rp.length
      have ap:∀b∈F i,b∉G:=λb hb hbG=>by
       rcases p1.src b hbG with w | ⟨j,d',b',ej,mj,hj⟩
       ·obtain⟨u,hu⟩:=rp.mem b hb
        rw[w]at hu;cases hu
       ·by_cases hji:j=i
        ·subst hji
         rw[hρ]at ej
         cases ej
         exact hi (hj rfl)
        ·exact o4 j d' b' hji ej b hb mj
      refine⟨.obj (.ins cn ns) ds0::r.ds,λj=>match j with | 0=>F i | j+1=>Fs j,a,qq.1,z,by rw[Zk,hn2],by rw[ZC,Zk,← hlen,hn2],λj dj ej=>?_,by omega,rfl,o2,?_,λj hj hj0 b hb=>?_,hg,λv2 H2 G2 Gp ip=>?_⟩
      ·cases j with
       | zero=>simp at ej;subst ej;exact⟨_,rfl,r0.1.same p1.same⟩
       | succ j=>
        obtain⟨u,g1,g2⟩:=f2 j dj (by simpa using ej)
        exact⟨u,by simpa using g1,g2⟩
      ·show(F i).length=_
       rw[o1,← r0.2];rfl
      ·cases j with
       | zero=>exact absurd rfl hj0
       | succ j=>exact λw=>ap b hb (f1 j b w)
      ·obtain⟨F',rel'⟩:=(rel.ext p1.same).Qta hρ hv ip (up (H'':=H2)) un hxi
       exact q _ _ F' rel'
    ·cases hg
   ·cases hg
  ·cases e
 ·cases e
end
noncomputable def rsD:List (Option R)->D->List D
 | [],_=>[]
 | some r::rs,d=>r.d::rsD rs d
 | none::rs,d=>d::rsD rs d
noncomputable def rsM:List (Option R)->List Nat
 | []=>[]
 | some r::rs=>r.M++rsM rs
 | none::rs=>rsM rs
noncomputable def isRef:D->Bool
 | .obj (.ins _ _) _=>true
 | .lst _=>true
 | _=>false
theorem Rp.QpD{K:PySem.W.Frag}{H:Hp}{d:D}{v:V}{L:List Addr}(h:Rp K H d v L)(hr:isRef d=true):∃a,v= .ref a:=by
 unfold isRef at hr
 split at hr
 ·obtain⟨a,C,dx,vs,G,e,_⟩:=h.QfN
  exact⟨a,e⟩
 ·obtain⟨a,vs,G,e,_⟩:=h.lst_inv
  exact⟨a,e⟩
 ·cases hr
noncomputable def oneAt:List (Option DE)->Nat->Bool
 | [],_=>false
 | none::fs,0=>fs.all Option.isSome
 | some _::fs,p+1=>oneAt fs p
 | _,_=>false
noncomputable def QhX(r:IoR)(x i:Nat)(fs:List (Option DE)):DS:=λρ=>(evs fs ρ).bind λrs=>match ρ[i]? with
 | some (some (d,true))=>if(decide (x≠i) && !(rsM rs).contains i && oneAt fs r.p && decide (fs.length=r.n))=true then(QeE (λe=>if isRef e=true then r.den (rsD rs e)else none) d).map λq=> .nx ((ρ.set i (some (q.2,true))).set x (some (q.1,true)))else none
 | _=>none
section
variable {K:PySem.W.Frag}{H0 H H':Hp}{A0:List Addr}{hs:List (V×D×List Addr)}{ρ:En}{F:Nat->List Addr}{σ:L2.St}{i:Nat}{rs:List (Option R)}{vs:List V}{Gs:List (List Addr)}
theorem QaW.same(h:QaW K ρ F σ i H H' rs vs Gs):QD H H':=by
 induction h with
 | nil=>exact QD.refl _
 | val p t ih=>exact p.same.trans ih
 | slot e t ih=>exact ih
theorem QaW.len(h:QaW K ρ F σ i H H' rs vs Gs):vs.length=rs.length:=by
 induction h with
 | nil=>rfl
 | val p t ih=>rw[Zk,Zk,ih]
 | slot e t ih=>rw[Zk,Zk,ih]
theorem QfG:∀(rs:List (Option R)) (d:D),(rsD rs d).length=rs.length
 | [],_=>rfl
 | some r::rs,d=>by rw[rsD,Zk,Zk,QfG rs d]
 | none::rs,d=>by rw[rsD,Zk,Zk,QfG rs d]
theorem Qhw:∀{fs:List (Option DE)}{ρ:En}{rs:List (Option R)},evs fs ρ=some rs->rs.length=fs.length
 | [],_,_,h=>by cases h;rfl
 | some f::fs,_,_,h=>by
  refine Qf h λr h1 h=>?_
  obtain⟨rs',h2,rfl⟩:=Zc.mp h
  rw[Zk,Zk,Qhw h2]
 | none::fs,_,_,h=>by
  obtain⟨rs',h2,rfl⟩:=Zc.mp h
  rw[Zk,Zk,Qhw h2]
theorem QaW.each(h:QaW K ρ F σ i H H' rs vs Gs){e0:D}{v:V}(hv:σ[i]? =some (some v))(r0:Rp K H e0 v (F i)):∀j dj,(rsD rs e0)[j]? =some dj->∃u,vs[j]? =some u/\Rp K H' dj u (Gs.getD j []):=by
 induction h with
 | nil=>intro j dj e;simp[rsD]at e
 | val p t ih=>
  intro j dj e
  cases j with
  | zero=>simp[rsD]at e;subst e;exact⟨_,rfl,by simpa using p.rp.same t.same⟩
  | succ j=>
   obtain⟨u,g1,g2⟩:=ih (r0.same p.same) j dj (by simpa[rsD]using e)
   exact⟨u,by simpa using g1,by simpa using g2⟩
 | slot e1 t ih=>
  intro j dj e
  cases j with
  | zero=>
   simp[rsD]at e
   subst e
   rw[hv]at e1
   cases e1
   exact⟨_,rfl,by simpa using r0.same t.same⟩
  | succ j=>
   obtain⟨u,g1,g2⟩:=ih r0 j dj (by simpa[rsD]using e)
   exact⟨u,by simpa using g1,by simpa using g2⟩
theorem QaW.apart(rel:Rel K H0 A0 hs ρ F σ H)(h:QaW K ρ F σ i H H' rs vs Gs){d:D}(hρ:ρ[i]? =some (some (d,true)))(hM:i∉rsM rs):∀j,(∃r,rs[j]? =some (some r))->∀b∈F i,b∉Gs.getD j []:=by
 induction h with
 | nil=>intro j ⟨r,e⟩;simp at e
 | val p t ih=>
  intro j hj b hb
  cases j with
  | zero=>
   simp only[List.getD_cons_zero]
   intro hbG
   obtain⟨o1,o2,o3,o4,o5⟩:=rel.own i d hρ
   rcases p.src b hbG with w | ⟨j,d',b',ej,mj,hj'⟩
   ·obtain⟨u,hu⟩:=rel.mem hρ hb
    rw[w]at hu;cases hu
   ·by_cases hji:j=i
    ·subst hji
     rw[hρ]at ej
     cases ej
     exact hM (Zd _ (hj' rfl))
    ·exact o4 j d' b' hji ej b hb mj
  | succ j=>
   obtain⟨r',e⟩:=hj
   simp only[List.getD_cons_succ]
   exact ih (rel.ext p.same) (λz=>hM (Ze _ z)) j ⟨r',by simpa using e⟩ b hb
 | slot e1 t ih=>
  intro j hj b hb
  obtain⟨r',e⟩:=hj
  cases j with
  | zero=>simp at e
  | succ j=>
   simp only[List.getD_cons_succ]
   exact ih rel hM j ⟨r',by simpa using e⟩ b hb
theorem QaW.Qt7(h:QaW K ρ F σ i H H' rs vs Gs):∀j,rs[j]? =some none->Gs.getD j []=F i/\∃v,σ[i]? =some (some v)/\vs[j]? =some v:=by
 induction h with
 | nil=>intro j e;simp at e
 | val p t ih=>
  intro j e
  cases j with
  | zero=>simp at e
  | succ j=>
   obtain⟨g1,v,g2,g3⟩:=ih j (by simpa using e)
   exact⟨by simpa using g1,v,g2,by simpa using g3⟩
 | slot e1 t ih=>
  intro j e
  cases j with
  | zero=>exact⟨by simp,_,e1,by simp⟩
  | succ j=>
   obtain⟨g1,v,g2,g3⟩:=ih j (by simpa using e)
   exact⟨by simpa using g1,v,g2,by simpa using g3⟩
theorem Qep:∀{fs:List (Option DE)}{ρ:En}{rs:List (Option R)},evs fs ρ=some rs->fs.all Option.isSome=true->∀j,j<rs.length->∃r,rs[j]? =some (some r)
 | [],_,_,h,_,j,hj=>by cases h;simp at hj
 | some f::fs,_,_,h,ha,j,hj=>by
  refine Qf h λr h1 h=>?_
  obtain⟨rs',h2,rfl⟩:=Zc.mp h
  cases j with
  | zero=>exact⟨r,rfl⟩
  | succ j=>
   obtain⟨r',e⟩:=Qep h2 (by simpa using ha) j (by simpa using hj)
   exact⟨r',by simpa using e⟩
 | none::fs,_,_,h,ha,j,hj=>by simp at ha
theorem QkN:∀{fs:List (Option DE)}{p:Nat}{ρ:En}{rs:List (Option R)},oneAt fs p=true->evs fs ρ=some rs->rs[p]? =some none/\none∈fs/\∀j,j<rs.length->j≠p->∃r,rs[j]? =some (some r)
 | [],_,_,_,h,_=>by cases h
 | none::fs,0,_,_,h,e=>by
  obtain⟨rs',h2,rfl⟩:=Zc.mp e
  refine⟨rfl,Zf,λj hj h0=>?_⟩
  cases j with
  | zero=>exact absurd rfl h0
  | succ j=>
   obtain⟨r,e⟩:=Qep h2 h j (by simpa using hj)
   exact⟨r,by simpa using e⟩
 | none::fs,p+1,_,_,h,_=>by cases h
 | some f::fs,0,_,_,h,_=>by cases h
 | some f::fs,p+1,_,_,h,e=>by
  refine Qf e λr h1 e=>?_
  obtain⟨rs',h2,rfl⟩:=Zc.mp e
  obtain⟨g1,g2,g3⟩:=QkN (fs:=fs) (p:=p) h h2
  refine⟨by simpa using g1,Zb _ g2,λj hj h0=>?_⟩
  cases j with
  | zero=>exact⟨r,rfl⟩
  | succ j=>
   obtain⟨r',e⟩:=g3 j (by simpa using hj) (λz=>h0 (by rw[z]))
   exact⟨r',by simpa using e⟩
theorem QmB:∀{rs:List (Option R)}{p:Nat}{e:D},rs[p]? =some none->(rsD rs e).getD p .non=e
 | [],_,_,h=>by simp at h
 | none::rs,0,e,h=>rfl
 | some r::rs,0,e,h=>by simp at h
 | none::rs,p+1,e,h=>by rw[rsD,List.getD_cons_succ];exact QmB (by simpa using h)
 | some r::rs,p+1,e,h=>by rw[rsD,List.getD_cons_succ];exact QmB (by simpa using h)
end
def QrC(X:Cx)(x:Str)(r:IoR):Prop:=∃k f fd ps,Qaq X.prog X.w X.K X.mg X.base CX0 k f fd ps (QeC X.K r.n r.p r.den)/\Qag k X.A/\X.mg x=some (.ref f)/\PySem.W.keepIn X.K (.ref f)=true/\Binds X.K fd ps []
section
variable {X:Cx}{nm g:Str}{e:Expr}{es:List Expr}{f:Option DE}{fs:List (Option DE)}{pos cpos np p:Pos}{i x:Nat}{r:IoR}
theorem Qwe(hN:X.N.Nodup)(hx1:X.N[x]? =some nm)(hx2:Loc X.env.scope nm)(hx3:X.fn nm=true∨X.env.scope.names.lookup nm=some .local)(hF:QrC X g r)(hg:Gl X g)(hdb:(g == ("__debug__" :Str))=false)
  (ha:Qbp X i (e::es) fs) (hst:starEach (e::es) X.env=(false,eval e X.env)::starEach es X.env) (hpl:(backTo cpos (starEach es X.env)).any (·.1)=false):
  S1 X (.Assign [.Name nm p] (.Call (.Name g np) (e::es) [] cpos) pos) (QhX r x i fs):=by
 intro H0 A0 pins s σ H E I hpt
 obtain⟨ρ,hs,F,out,rel,e,q⟩:=hpt
 refine Qf e λrs e1 e=>?_
 split at e
 ·rename_i d hρ
  split at e
  ·rename_i hc
   simp only[Zg,decide_eq_true_eq,ZY]at hc
   obtain⟨⟨⟨hxi,hM0⟩,hone⟩,hlen⟩:=hc
   have hi:i∉rsM rs:=λz=>by rw[ZG.mpr z]at hM0;cases hM0
   obtain⟨qq,e2,rfl⟩:=Zc.mp e
   obtain⟨e0,z,hgd,hd⟩:=QlA e2
   obtain⟨v,hv,rp⟩:=rel.val i d true hρ
   obtain⟨o1,o2,o3,o4,o5⟩:=rel.own i d hρ
   have r0:Rp X.K H e0 v (F i)/\e0.nl=d.nl:=by
    rcases hd with⟨a,rfl,_⟩ | ⟨rfl,_⟩
    ·exact⟨rp.Qdj.2,(Qc5 _ _).symm⟩
    ·exact⟨rp,rfl⟩
   have un:qq.2.nl=z.nl:=by
    rcases hd with⟨a,rfl,h2⟩ | ⟨rfl,h2⟩
    ·rw[h2,Qc5]
    ·rw[h2]
   have up:∀{H'':Hp}{L:List Addr},Rp X.K H'' z v L->Rp X.K H'' qq.2 v L:=λ{H'' L} h=>by
    rcases hd with⟨a,rfl,h2⟩ | ⟨rfl,h2⟩
    ·obtain⟨ea,_⟩:=rp.Qdj
     rw[h2]
     subst ea
     exact Rp.Qi8 h
    ·rw[h2];exact h
   obtain⟨k,f,fd,ps,c3,c4,c6,c7,c5⟩:=hF
   obtain⟨s1,s2,s3⟩:=QkN hone e1
   refine(Qd3 hN hx1 hx2 (QjN c3 c4 hg c6 c7 c5 .nil Qho (QvZ ha H0 A0) hdb hst hpl) (QbZ rfl) hx3) pins s σ H E I ⟨ρ,hs,F,rs,rel,e1,λ_=>⟨v,hv⟩,λvs H1 Gs pl=>?_⟩
   obtain⟨gs1,v',gv,gv2⟩:=pl.Qt7 r.p s1
   rw[hv]at gv
   cases gv
   split at hgd
   case isFalse=>cases hgd
   rename_i hir
   obtain⟨a,rfl⟩:=r0.1.QpD hir
   have hrl:rs.length=r.n:=by rw[Qhw e1,hlen]
   refine⟨rsD rs e0,λj=>Gs.getD j [],a,qq.1,z,by rw[QfG,hrl],by rw[ZC,pl.len,hrl],λj dj ej=>?_,?_,by rw[ZC];exact gv2,(show(Gs.getD r.p []).Nodup by rw[gs1];exact o2),?_,λj hj hj0 b hb=>?_,hgd,λv2 H2 G2 Gp ip=>?_⟩
   ·rw[ZC]
    exact pl.each hv r0.1 j dj ej
   ·have:=(Zi.mp s1).1
    omega
   ·dsimp only
    rw[gs1,o1,QmB s1,r0.2]
   ·dsimp only at hb ⊢
    rw[gs1]at hb
    exact pl.apart rel hρ hi j (s3 j (by omega) hj0) b hb
   ·dsimp only at ip
    rw[gs1]at ip
    obtain⟨F',rel'⟩:=(rel.ext pl.same).Qta hρ hv ip (up (H'':=H2)) un hxi
    exact q _ _ F' rel'
  ·cases e
 ·cases e
end
end HS
namespace HS
open PySem PySem.Spec L2 PyProof.Rows
section
variable {K:PySem.W.Frag}{H0 H H':Hp}{A0:List Addr}{hs:List (V×D×List Addr)}{ρ:En}{F:Nat->List Addr}{σ:L2.St}{i:Nat}{rs:List (Option R)}{vs:List V}{Gs:List (List Addr)}
theorem QaW.later(rel:Rel K H0 A0 hs ρ F σ H)(h:QaW K ρ F σ i H H' rs vs Gs){b:Addr}(hb:∃u,H b=some u)(hf:∀(j:Nat) d c,ρ[j]? =some (some (d,c))->b∉F j):∀j,(∃r,rs[j]? =some (some r))->b∉Gs.getD j []:=by
 induction h with
 | nil=>intro j ⟨r,e⟩;simp at e
 | val p t ih=>
  intro j hj
  cases j with
  | zero=>
   simp only[List.getD_cons_zero]
   intro hbG
   rcases p.src b hbG with w | ⟨j,d',b',ej,mj,_⟩
   ·obtain⟨u,hu⟩:=hb
    rw[w]at hu;cases hu
   ·exact hf j d' b' ej mj
  | succ j=>
   obtain⟨r',e⟩:=hj
   simp only[List.getD_cons_succ]
   obtain⟨u,hu⟩:=hb
   exact ih (rel.ext p.same) ⟨u,p.same _ _ hu⟩ j ⟨r',by simpa using e⟩
 | slot e1 t ih=>
  intro j hj
  obtain⟨r',e⟩:=hj
  cases j with
  | zero=>simp at e
  | succ j=>
   simp only[List.getD_cons_succ]
   exact ih rel hb j ⟨r',by simpa using e⟩
theorem QaW.QzY(rel:Rel K H0 A0 hs ρ F σ H)(h:QaW K ρ F σ i H H' rs vs Gs):∀p r,rs[p]? =some (some r)->r.fr=true->r.M=[]->(Gs.getD p []).Nodup/\(Gs.getD p []).length=r.d.nl/\(∀b∈Gs.getD p [],H b=none)/\∀j,j≠p->(∃r',rs[j]? =some (some r'))->∀b∈Gs.getD p [],b∉Gs.getD j []:=by
 induction h with
 | nil=>intro p r e;simp at e
 | @val H H1 H2 r0 v G rs vs Gs p t ih=>
  intro k r e hf hM
  cases k with
  | zero=>
   simp at e
   subst e
   obtain⟨c,ln⟩:=p.cnt hf
   rw[hM]at c
   have c1:∀b,G.count b<=nw H b:=λb=>by have:=c b;simpa using this
   have fr:∀b∈G,H b=none:=λb hb=>by
    cases q:H b with
    | none=>rfl
    | some u=>
     have h1:=c1 b
     rw[Qdk q]at h1
     have h2:0<G.count b:=Zas.mpr hb
     omega
   simp only[List.getD_cons_zero]
   refine⟨Zae.mpr λb=>?_,ln,fr,λj hj hj' b hb=>?_⟩
   ·have h1:=c1 b
    have h2:nw H b<=1:=by unfold nw;split<;>omega
    omega
   ·cases j with
    | zero=>exact absurd rfl hj
    | succ j=>
     obtain⟨r',e'⟩:=hj'
     simp only[List.getD_cons_succ]
     refine t.later (rel.ext p.same) (p.rp.mem b hb) (λk d c ek hk=>?_) j ⟨r',by simpa using e'⟩
     obtain⟨u,hu⟩:=rel.mem ek hk
     rw[fr b hb]at hu;cases hu
  | succ k=>
   obtain⟨g1,g2,g3,g4⟩:=ih (rel.ext p.same) k r (by simpa using e) hf hM
   simp only[List.getD_cons_succ]
   refine⟨g1,g2,λb hb=>p.same.free (g3 b hb),λj hj hj' b hb=>?_⟩
   cases j with
   | zero=>
    simp only[List.getD_cons_zero]
    intro z
    obtain⟨u,hu⟩:=p.rp.mem b z
    rw[g3 b hb]at hu;cases hu
   | succ j=>
    obtain⟨r',e'⟩:=hj'
    simp only[List.getD_cons_succ]
    exact g4 j (λz=>hj (by rw[z])) ⟨r',by simpa using e'⟩ b hb
 | slot e1 t ih=>
  intro k r e hf hM
  cases k with
  | zero=>simp at e
  | succ k=>
   obtain⟨g1,g2,g3,g4⟩:=ih rel k r (by simpa using e) hf hM
   simp only[List.getD_cons_succ]
   refine⟨g1,g2,g3,λj hj hj' b hb=>?_⟩
   obtain⟨r',e'⟩:=hj'
   cases j with
   | zero=>simp at e'
   | succ j=>
    simp only[List.getD_cons_succ]
    exact g4 j (λz=>hj (by rw[z])) ⟨r',by simpa using e'⟩ b hb
theorem QaW.QtB(h:QaW K ρ F σ i H H' rs vs Gs):∀j r,rs[j]? =some (some r)->∃u,vs[j]? =some u/\Rp K H' r.d u (Gs.getD j []):=by
 induction h with
 | nil=>intro j r e;simp at e
 | val p t ih=>
  intro j r e
  cases j with
  | zero=>simp at e;subst e;exact⟨_,rfl,by simpa using p.rp.same t.same⟩
  | succ j=>
   obtain⟨u,g1,g2⟩:=ih j r (by simpa using e)
   exact⟨u,by simpa using g1,by simpa using g2⟩
 | slot e1 t ih=>
  intro j r e
  cases j with
  | zero=>simp at e
  | succ j=>
   obtain⟨u,g1,g2⟩:=ih j r (by simpa using e)
   exact⟨u,by simpa using g1,by simpa using g2⟩
theorem Qgq:∀{rs:List (Option R)}{d:D}{j:Nat}{r:R},rs[j]? =some (some r)->(rsD rs d)[j]? =some r.d
 | [],_,_,_,h=>by simp at h
 | some r0::rs,d,0,r,h=>by simp at h;subst h;rfl
 | none::rs,d,0,r,h=>by simp at h
 | some r0::rs,d,j+1,r,h=>by rw[rsD,List.getElem?_cons_succ];exact Qgq (by simpa using h)
 | none::rs,d,j+1,r,h=>by rw[rsD,List.getElem?_cons_succ];exact Qgq (by simpa using h)
theorem Qur{H1:Hp}{Fp G Gp:List Addr}{d dp:D}{vp v:V}(s:QD H H1)(fr:∀b∈Fp,H b=none)(ip:QiG K H1 Fp d dp vp v H' G Gp):Q6 K ρ F H H' ⟨d,true,[]⟩ v G where
 same:=λb u e=>QbH ip.same (s b u e) λz=>by rw[fr b z]at e;cases e
 rp:=ip.rp
 src:=λa ha=>by
  rcases ip.fr a (Zd _ ha)with z | z
  ·exact .inl (fr a z)
  ·exact .inl (s.free z)
 cnt:=λ_=>by
  refine⟨λa=>?_,ip.len⟩
  have n1:=(ZT.mp ip.nd).1
  by_cases ha:a∈G
  ·have z:H a=none:=by
    rcases ip.fr a (Zd _ ha)with z | z
    ·exact fr a z
    ·exact s.free z
   rw[QaS z]
   have:=Zae.mp n1 a
   omega
  ·rw[ZQ.mpr ha];exact ZZ _
 own:=Qbg.nil
end
noncomputable def QxG(r:IoR)(fs:List (Option DE)):DE:=λρ=>(evs fs ρ).bind λrs=>match rs[r.p]? with
 | some (some rp)=>if(rp.fr && rp.M.isEmpty && isRef rp.d && fs.all Option.isSome && decide (fs.length=r.n))=true then(r.den (rsD rs .non)).map λq=>⟨q.1,true,[]⟩else none
 | _=>none
section
variable {X:Cx}{g:Str}{e:Expr}{es:List Expr}{fs:List (Option DE)}{cpos np:Pos}{r:IoR}
theorem QmM{fs:List (Option DE)}(h:fs.all Option.isSome=true):none∉fs:=λz=>by
 have:=ZW.mp h none z
 cases this
theorem Qv0(hF:QrC X g r)(hg:Gl X g)(hdb:(g == ("__debug__" :Str))=false)(ha:Qbp X 0 (e::es) fs)(hst:starEach (e::es) X.env=(false,eval e X.env)::starEach es X.env)(hpl:(backTo cpos (starEach es X.env)).any (·.1)=false):
  SE X (.Call (.Name g np) (e::es) [] cpos) (QxG r fs):=by
 intro H0 A0
 obtain⟨k,f,fd,ps,c3,c4,c6,c7,c5⟩:=hF
 refine(QjN c3 c4 hg c6 c7 c5 .nil Qho (QvZ ha H0 A0) hdb hst hpl).mono λσ H Q=>exK λρ hs F out rel e q=>?_
 refine Qf e λrs e1 e=>?_
 split at e
 ·rename_i rp hp
  split at e
  ·rename_i hc
   simp only[Zg,decide_eq_true_eq]at hc
   obtain⟨⟨⟨⟨c1,c2⟩,c8⟩,c9⟩,c10⟩:=hc
   have hM:rp.M=[]:=ZbJ.mp c2
   obtain⟨qq,e2,rfl⟩:=Zc.mp e
   refine⟨ρ,hs,F,rs,rel,e1,λz=>absurd z (QmM c9),λvs H1 Gs pl=>?_⟩
   have hrl:rs.length=r.n:=by rw[Qhw e1,c10]
   obtain⟨t1,t2,t3,t4⟩:=pl.QzY rel r.p rp hp c1 hM
   obtain⟨u,u1,u2⟩:=pl.QtB r.p rp hp
   obtain⟨a,rfl⟩:=u2.QpD c8
   have hpl:r.p<rs.length:=(Zi.mp hp).1
   refine⟨rsD rs .non,λj=>Gs.getD j [],a,qq.1,qq.2,by rw[QfG,hrl],by rw[ZC,pl.len,hrl],λj dj ej=>?_,by omega,by rw[ZC];exact u1,t1,?_,λj hj hj0 b hb=>?_,e2,λv2 H2 G2 Gp ip=>?_⟩
   ·have hj:j<rs.length:=by have:=(Zi.mp ej).1;rw[QfG]at this;exact this
    obtain⟨r',er⟩:=Qep e1 c9 j hj
    rw[Qgq er]at ej
    cases ej
    obtain⟨w,w1,w2⟩:=pl.QtB j r' er
    exact⟨w,by rw[ZC];exact w1,w2⟩
   ·dsimp only
    rw[t2,Zz,Qgq hp];rfl
   ·exact t4 j hj0 (Qep e1 c9 j (by omega)) b hb
   ·exact q v2 H2 G2 (Qur pl.same t3 ip)
  ·cases e
 ·cases e
end
noncomputable def Qle(cn:Str)(r:IoR)(fs:DA):DE:=λρ=>(fs ρ).bind λra=>if r.n=ra.ds.length+1 then(r.den (.obj (.ins cn []) []::ra.ds)).bind λq=>match q.1 with
 | .non=>some ⟨q.2,true,[]⟩
 | _=>none
 else none
noncomputable def Qjd(cn:Str):DE:=λ_=>some ⟨.obj (.ins cn []) [],true,[]⟩
def QvU(X:Cx)(cn:Str)(r:IoR):Prop:=∃k C f fd ps,PySem.W.nsIn X.K mainGlobals cn=some (some (.ref C))/\Mk X.K C f/\Qaq X.prog X.w X.K X.mg X.base CX0 k f fd ps (QeC X.K r.n 0 r.den)/\Qag (k+1) X.A/\X.mg cn=some (.ref C)/\Binds X.K fd ps []
def Qti(X:Cx)(cn:Str):Prop:=∃C,PySem.W.nsIn X.K mainGlobals cn=some (some (.ref C))/\PySem.W.makesIn X.K C=true/\PySem.W.findIn X.K (.ref C) "__init__" =some (some (.builtin "object.__init__"))/\PySem.W.keepIn X.K (.ref C)=true/\X.mg cn=some (.ref C)
section
variable {X:Cx}{g:Str}{e:Expr}{es:List Expr}{fs:DA}{cpos np:Pos}{r:IoR}
theorem Quo(hF:QvU X g r)(hg:Gl X g)(hdb:(g == ("__debug__" :Str))=false)(ha:SA X (e::es) fs)(hst:starEach (e::es) X.env=(false,eval e X.env)::starEach es X.env)(hpl:(backTo cpos (starEach es X.env)).any (·.1)=false):
  SE X (.Call (.Name g np) (e::es) [] cpos) (Qle g r fs):=by
 intro H0 A0
 obtain⟨k,C,f,fd,ps,cn,c2,c3,c4,c6,c5⟩:=hF
 refine(Qvr c2 c3 c4 hg c6 c5 .nil Qho (ha H0 A0) hdb hst hpl).mono λσ H Q=>exK λρ hs F out rel e q=>?_
 refine Qf e λra e1 e=>?_
 split at e
 ·rename_i hn
  refine Qf e λqq e2 e=>?_
  split at e
  ·rename_i hq1
   cases e
   refine⟨ρ,hs,F,ra,rel,e1,λvs H1 G p1 x dx hx hdx hne=>?_⟩
   obtain⟨Fs,f1,f2⟩:=Qlo p1.rp
   have hlen:=p1.rp.length
   have sm:QD H1 (upd (upd H1 dx (.own x)) x (.ins C dx [])):=(Qbc hdx).trans (Qbc (by rw[QF (Ne.symm hne)];exact hx))
   have hxx:(upd (upd H1 dx (.own x)) x (.ins C dx [])) x=some (.ins C dx []):=Qao ..
   refine⟨.obj (.ins g []) []::ra.ds,λj=>match j with | 0=>[x] | j+1=>Fs j,x,qq.1,qq.2,by rw[Zk,hn],by rw[ZC,Zk,← hlen,hn],λj dj ej=>?_,by omega,rfl,(by simp),rfl,λj hj hj0 b hb=>?_,e2,λv2 H2 G2 Gp ip=>?_⟩
   ·cases j with
    | zero=>
     simp at ej
     subst ej
     refine⟨_,rfl,Rp.QiJ (ns:=[]) (vs:=[]) (G:=[]) cn hxx rfl ?_⟩
     simp[Rps]
    | succ j=>
     obtain⟨u,g1,g2⟩:=f2 j dj (by simpa using ej)
     exact⟨u,by simpa using g1,g2.same sm⟩
   ·cases j with
    | zero=>exact absurd rfl hj0
    | succ j=>
     intro z
     rw[Zj.mp hb]at z
     obtain⟨u,hu⟩:=p1.rp.mem x (f1 j x z)
     rw[hx]at hu;cases hu
   ·have hv:v2= .non:=by
     have:=ip.rp
     rw[hq1]at this
     exact this.Qfy
    refine⟨hv,q _ H2 Gp ?_⟩
    have fr:∀a∈Gp,H a=none:=λa ha=>by
     rcases ip.fr a (Ze _ ha)with z | z
     ·rw[Zj.mp z];exact p1.same.free hx
     ·exact p1.same.free (sm.free z)
    refine⟨λb u eb=>QbH ip.same (sm b u (p1.same b u eb)) λz=>?_,ip.rpp,λa ha=> .inl (fr a ha),λ_=>⟨λa=>?_,ip.lenp⟩,Qbg.nil⟩
    ·rw[Zj.mp z]at eb
     rw[p1.same.free hx]at eb;cases eb
    ·by_cases ha:a∈Gp
     ·rw[QaS (fr a ha)]
      have:=Zae.mp (ZT.mp ip.nd).2.1 a
      omega
     ·rw[ZQ.mpr ha];exact ZZ _
  ·cases e
 ·cases e
theorem Qrz(hF:Qti X g)(hg:Gl X g)(hdb:(g == ("__debug__" :Str))=false):SE X (.Call (.Name g np) [] [] cpos) (Qjd g):=by
 intro H0 A0 pins s σ H Q I hpt
 obtain⟨ρ,hs,F,out,rel,e,q⟩:=hpt
 cases e
 obtain⟨C,cn,h1,h2,h3,h4⟩:=hF
 refine wpAny_Call_Name_kw (Qdq I hg h4 ?_ hdb)
 refine PySem.W.callWith_K0 I.kIn h3 ?_
 have hx:=I.hok.fresh (ZaI s.heap.objs.size)
 have hdx:=I.hok.fresh (Zn s.heap.objs.size)
 have hne:s.heap.objs.size≠s.heap.objs.size+1:=ZN (ZaB _)
 have I2:=Inv.made (C:=C) I
 have sm:QD H (upd (upd H s.heap.objs.size (.own (s.heap.objs.size+1))) (s.heap.objs.size+1) (.ins C s.heap.objs.size [])):=(Qbc hdx).trans (Qbc (by rw[QF (Ne.symm hne)];exact hx))
 have hq:EP X pins σ Q (.ref (s.heap.objs.size+1)) {s with heap:=(s.heap.push PySem.W.emptyDict).push (PySem.W.instObj C s.heap.objs.size)}:=by
  refine⟨V.ref (s.heap.objs.size+1),_,I2,rfl,q _ _ [s.heap.objs.size+1] ⟨sm,Rp.QiJ (ns:=[]) (vs:=[]) (G:=[]) cn (Qao ..) rfl (by simp[Rps]),λa ha=> .inl (by rw[Zj.mp ha];exact hx),λ_=>⟨λa=>?_,rfl⟩,Qbg.nil⟩⟩
  by_cases ha:a=s.heap.objs.size+1
  ·rw[ha,QaS hx];simp
  ·rw[ZQ.mpr (by simpa using ha)];exact ZZ _
 have Y:=ZbB (M:=model X.prog X.w) I.kIn h1
 refine wpAny_call ?_
 refine Qqw I.kIn h1 h2 (λself=>PySem.W.Looks.of_pure (PySem.W.oi_bind self)) ?_
 have e2:((s.heap.push PySem.W.emptyDict).push (PySem.W.instObj C s.heap.objs.size)).get? (s.heap.objs.size+1)=some (PySem.W.instObj C s.heap.objs.size):=by
  have:=ZL (s.heap.push PySem.W.emptyDict) (o:=PySem.W.instObj C s.heap.objs.size) rfl
  rwa[ZaD]at this
 have t1:PySem.W.Looks (model X.prog X.w) ((s.heap.push PySem.W.emptyDict).push (PySem.W.instObj C s.heap.objs.size)) (typeOf (.ref (s.heap.objs.size+1))) (.ref C):=(PySem.W.Looks.ld e2).andThen .now
 have t2:PySem.W.Looks (model X.prog X.w) ((s.heap.push PySem.W.emptyDict).push (PySem.W.instObj C s.heap.objs.size)) (isInstance (.ref (s.heap.objs.size+1)) (.type "object")) true:=t1.andThen (Y.top.keeps λb o e=>Zs _ (Zs _ e))
 refine codeAny_call_builtin PySem.W.oi_plain PySem.W.entry_oi (@PySem.W.check_slot (model X.prog X.w) _ _ _ "object.__init__" "object" "__init__" (.ref (s.heap.objs.size+1)) [] [] _ PySem.W.oi_kind PySem.W.oi_split t2 (PySem.W.oi_args (.ref (s.heap.objs.size+1))) ?_)
 rw[PySem.W.oi_run]
 exact wpAny_pure (And.intro rfl hq)
end
end HS
namespace HS
open PySem PySem.Spec L2 PyProof.Rows
structure ObT where
 cl:ClT
 me:MeT
 io:List (Str×IoR)
 ma:List (Str×IoR)
 mk0:List Str
structure Qmf (X:Cx) (T:ObT):Prop where
 cl:Qe9 X.K T.cl
 me:QpV X T.me
 io:∀g r,look g T.io=some r->QrC X g r
 ma:∀g r,look g T.ma=some r->QvU X g r
 mk0:∀g∈T.mk0,Qti X g
noncomputable def te1(n:Nat)(Θ:Th)(T:ObT)(e:Expr):Option DE:=match e with
 | .Attribute o f _=>(Qax o).bind λx=>(Θ.slot x).map λi=>QdL T.cl f (Qa i)
 | .Call fn args kw _=>match kw with
  | _::_=>none
  | []=>(Qax fn).bind λx=>if Θ.gl x=true then(match args with
   | []=>if T.mk0.contains x=true then some (Qjd x)else none
   | a::as=>(look x T.ma).bind λr=>(Qa7 n Θ (a::as)).map λfs=>Qle x r fs)else none
 | _=>none
noncomputable def Qlf(n:Nat)(Θ:Th):List Expr->Option (List (Option DE))
 | []=>some []
 | e::es=>(Qs n Θ e).bind λf=>(Qlf n Θ es).map λfs=>some f::fs
noncomputable def Qov(n:Nat)(Θ:Th):Nat->List Expr->Option (Nat×List (Option DE))
 | _,[]=>none
 | 0,e::es=>(Qax e).bind λx=>(Θ.slot x).bind λi=>(Qlf n Θ es).map λfs=>(i,none::fs)
 | p+1,e::es=>(Qs n Θ e).bind λf=>(Qov n Θ p es).map λq=>(q.1,some f::q.2)
noncomputable def te2(n:Nat)(Θ:Th)(T:ObT)(e:Expr):Option DE:=match te1 n Θ T e with
 | some f=>some f
 | none=>match e with
  | .Call fn args kw _=>match kw with
   | _::_=>none
   | []=>match args with
    | []=>none
    | a::as=>(Qax fn).bind λx=>if Θ.gl x=true then(look x T.io).bind λr=>(Qlf n {Θ with te:=te1 n Θ T} (a::as)).map λfs=>QxG r fs else none
  | _=>none
noncomputable def QpA:Expr->Bool
 | .Subscript a i _=>match a with
  | .Name _ _=>match i with
   | .Constant _ _ _=>true
   | _=>false
  | _=>false
 | _=>false
noncomputable def QsZ(T:MeT)(m:Str):Bool:=T.any λq=>(look m q.2).isSome
noncomputable def QxJ(n:Nat)(Θ:Th)(T:ObT)(p:Option Nat)(st:Stmt):Option DS:=match st with
 | .Assign ts e _=>match ts with
  | []=>none
  | t::ts=>match ts with
   | _::_=>none
   | []=>match t with
    | .Name x _=>match e with
     | .Call fn args kw cp=>match kw with
      | _::_=>none
      | []=>match args with
       | []=>none
       | a::as=>match fn with
        | .Attribute o m ap=>if(QsZ T.me m && (ap.endLine == cp.line) && decide (as.length<20))=true then(Qax o).bind λy=>(Θ.Qbz x).bind λix=>(Θ.slot y).bind λi=>(Qa7 n Θ (a::as)).map λfs=>Qhc T.me ix i m fs else none
        | .Name g _=>if Θ.gl g=true then(look g T.io).bind λr=>(Θ.Qbz x).bind λix=>(Qov n Θ r.p (a::as)).map λq=>QhX r ix q.1 q.2 else none
        | _=>none
     | .Tuple es k q=>if es.any QpA=true then(Θ.Qbz x).bind λix=>(Qs n Θ (.Tuple es k q)).map λfa=>Qr ix (Qcc fa)else none
     | _=>none
    | .Attribute o f _=>if Qew e=true then(Qax o).bind λy=>(Θ.slot y).bind λi=>(Qs n Θ e).map λfa=>Qhx T.cl i f fa else none
    | _=>none
 | .AugAssign t op e _=>match t with
  | .Attribute o f _=>match op with
   | .Add=>(Qax o).bind λy=>(Θ.slot y).bind λi=>(Qs n Θ e).map λfa=>Qhd T.cl i f fa
   | _=>none
  | _=>none
 | .Return v _=>v.bind λe=>p.bind λp=>(Qs n Θ e).map λfa=>Qes p fa
 | _=>none
theorem QqW{o:Expr}{m:Str}{apos cpos:Pos}{es:List Expr}{env:Env}(hb:attributeBase o m env (eval o env)=eval o env)(hl:(apos.endLine == cpos.line)=true)(ha:(backTo cpos (starEach es env)).all (λx=> !x.1)=true)(hn:es.length<29):
  eval (.Call (.Attribute o m apos) es [] cpos) env=(do
   let ov ← eval o env
   standAt apos.atName
   let (f,first) ← holding [ov] (getMethod ov m (do return (← importBound o env).getD true))
   callWith cpos f first (backTo cpos (starEach es env)) (backToKw cpos (keywordEach [] env))):=by
 rw[arm_eval_Call,hb]
 have hform:methodCallForm (es.length+([]:List Keyword).length) (backTo cpos (starEach es env)) (backToKw cpos (keywordEach [] env))=true:=by
  unfold methodCallForm
  rw[ha]
  have:es.length+([]:List Keyword).length+(if(backToKw cpos (keywordEach [] env)).isEmpty=true then 0 else 1)<30:=by
   split<;>(simp only[List.length_nil];omega)
  simp only[Zca,Zg,decide_eq_true_eq]
  exact⟨rfl,this⟩
 have hpos:methodCallPos true o env apos cpos=pure cpos:=by unfold methodCallPos;simp[hl]
 have key:∀ov,methodCall o m apos cpos env ov (es.length+([]:List Keyword).length) (backTo cpos (starEach es env)) (backToKw cpos (keywordEach [] env))=(do
   let (f,first) ← holding [ov] (getMethod ov m (do return (← importBound o env).getD true))
   callWith cpos f first (backTo cpos (starEach es env)) (backToKw cpos (keywordEach [] env))):=by
  intro ov
  unfold methodCall
  rw[hform,hpos]
  rfl
 simp only[key]
section
variable {X:Cx}{Θ:Th}{T:ObT}{n:Nat}
theorem QH.Qmu{f:Expr->Option DE}(ok:QH X Θ)(h:∀e g,f e=some g->SE X e g):QH X {Θ with te:=f}:=
 ⟨⟨ok.N,ok.nd,ok.lc,ok.ce,ok.fe,ok.gl,ok.units,ok.mg,ok.cs⟩,ok.calm,ok.pass,ok.fns,ok.tr,h⟩
theorem QH.QqY{f:Stmt->Option DS}(ok:QH X Θ)(h:∀st g,f st=some g->S1 X st g):QH X {Θ with tr:=f}:=
 ⟨⟨ok.N,ok.nd,ok.lc,ok.ce,ok.fe,ok.gl,ok.units,ok.mg,ok.cs⟩,ok.calm,ok.pass,ok.fns,h,ok.te⟩
theorem Qb6{e:Expr}{x:Str}(h:Qax e=some x):∃p,e= .Name x p:=by
 cases e with
 | Name z p=>cases h;exact⟨p,rfl⟩
 | _=>exact nomatch (show(none:Option Str)=some _ from h)
theorem Qqo(ok:QH X Θ)(ob:Qmf X T):∀e f,te1 n Θ T e=some f->SE X e f:=by
 intro e f h
 cases e with
 | Attribute o fl p=>
  refine Qf (show(Qax o).bind _=some f from h) λx hx h=>?_
  refine mapR h λi hi=>?_
  obtain⟨np,rfl⟩:=Qb6 hx
  exact QwU ob.cl (Qms (Qdo ok.toCtxB hi)) rfl
 | Call fn args kw p=>
  cases kw with
  | cons _ _=>exact nomatch (show(none:Option DE)=some _ from h)
  | nil=>
   refine Qf (show(Qax fn).bind _=some f from h) λx hx h'=>?_
   clear h
   obtain⟨np,rfl⟩:=Qb6 hx
   have h:=h'
   clear h'
   split at h
   ·rename_i hg
    obtain⟨g1,g2,g3⟩:=QcO ok.toCtxB hg
    cases args with
    | nil=>
     dsimp only at h
     split at h
     ·rename_i hc
      cases h
      exact Qrz (ob.mk0 x (ZG.mp hc)) g1 g2
     ·cases h
    | cons a as=>
     refine Qf h λr hr h=>?_
     refine mapR h λfs hfs=>?_
     obtain⟨s1,s2⟩:=callArgs (X:=X) hfs rfl p
     exact Quo (ob.ma x r hr) g1 g2 ((QaC n).A X Θ _ fs ok hfs) s1 s2
   ·cases h
 | _=>exact nomatch (show(none:Option DE)=some _ from h)
theorem QhY(ok:QH X Θ)(i:Nat):∀{es:List Expr}{fs:List (Option DE)},Qlf n Θ es=some fs->Qbp X i es fs
 | [],fs,h=>by cases h;exact .nil
 | e::es,fs,h=>by
  refine Qf h λf h1 h=>?_
  exact mapR (M:=λfs=>Qbp X i (e::es) fs) h λfs' h2=> .cons (show Qla X i e (some f)from(QaC n).E X Θ e f ok h1) (λes env=>QbA h1 es env) (QhY ok i h2)
theorem QmQ(ok:QH X Θ):∀{p:Nat}{es:List Expr}{q:Nat×List (Option DE)},Qov n Θ p es=some q->Qbp X q.1 es q.2
 | p,[],q,h=>by cases p<;>cases h
 | 0,e::es,q,h=>by
  refine Qf (show(Qax e).bind _=some q from h) λx hx h1=>?_
  clear h
  refine Qf h1 λi hi h=>?_
  clear h1
  obtain⟨np,rfl⟩:=Qb6 hx
  exact mapR (M:=λq=>Qbp X q.1 (Expr.Name x np::es) q.2) h λfs hf=> .cons (show Qla X i (.Name x np) none from Qdo ok.toCtxB hi) (λ_ _=>rfl) (QhY ok i hf)
 | p+1,e::es,q,h=>by
  refine Qf (show(Qs n Θ e).bind _=some q from h) λf h1 h=>?_
  exact mapR (M:=λq=>Qbp X q.1 (e::es) q.2) h λq' hq=> .cons (show Qla X q'.1 e (some f)from(QaC n).E X Θ e f ok h1) (λes env=>QbA h1 es env) (QmQ ok hq)
theorem Qbp.star{i:Nat}{e:Expr}{es:List Expr}{fs:List (Option DE)}(h:Qbp X i (e::es) fs)(pos:Pos):starEach (e::es) X.env=(false,eval e X.env)::starEach es X.env/\(backTo pos (starEach es X.env)).any (·.1)=false:=by
 cases h with
 | cons h s t=>exact⟨s _ _,t.any pos X.env⟩
theorem Qqc(ok:QH X Θ)(ob:Qmf X T):∀e f,te2 n Θ T e=some f->SE X e f:=by
 intro e f h
 unfold te2 at h
 split at h
 ·rename_i g hg
  cases h
  exact Qqo ok ob e _ hg
 ·cases e with
  | Call fn args kw p=>
   cases kw with
   | cons _ _=>exact nomatch (show(none:Option DE)=some _ from h)
   | nil=>
    cases args with
    | nil=>exact nomatch (show(none:Option DE)=some _ from h)
    | cons a as=>
     refine Qf (show(Qax fn).bind _=some f from h) λx hx h'=>?_
     clear h
     obtain⟨np,rfl⟩:=Qb6 hx
     have h:=h'
     clear h'
     split at h
     ·rename_i hg
      obtain⟨g1,g2,g3⟩:=QcO ok.toCtxB hg
      refine Qf h λr hr h=>?_
      refine mapR h λfs hfs=>?_
      have ha:=QhY (ok.Qmu (Qqo ok ob)) 0 hfs
      obtain⟨s1,s2⟩:=ha.star p
      exact Qv0 (ob.io x r hr) g1 g2 ha s1 s2
     ·cases h
  | _=>exact nomatch (show(none:Option DE)=some _ from h)
theorem Qvb(ok:QH X Θ)(ob:Qmf X T)(p:Option Nat):∀st f,QxJ n Θ T p st=some f->S1 X st f:=by
 intro st f h
 have hN:X.N.Nodup:=by rw[ok.N];exact ok.nd
 cases st with
 | Assign ts e pos=>
  rcases ts with _ | ⟨t,_ | ⟨t2,ts⟩⟩
  ·exact nomatch (show(none:Option DS)=some _ from h)
  ·cases t with
   | Name x xp=>
    cases e with
    | Call fn args kw cp=>
     cases kw with
     | cons _ _=>exact nomatch (show(none:Option DS)=some _ from h)
     | nil=>
      cases args with
      | nil=>exact nomatch (show(none:Option DS)=some _ from h)
      | cons a as=>
       cases fn with
       | Attribute o m ap=>
        change(if(QsZ T.me m && (ap.endLine == cp.line) && decide (as.length<20))=true then _ else none)=some f at h
        split at h
        ·rename_i hcc
         simp only[Zg,decide_eq_true_eq]at hcc
         refine Qf h λy hy h=>?_
         refine Qf h λix hx h=>?_
         refine Qf h λi hi h=>?_
         refine mapR h λfs hfs=>?_
         obtain⟨np,rfl⟩:=Qb6 hy
         obtain⟨x1,x2,x3⟩:=QbG ok.toCtxB hx
         obtain⟨s1,s2⟩:=callArgs (X:=X) hfs rfl cp
         exact QuC hN x1 x2 x3 ob.me (Qdo ok.toCtxB hi) ((QaC n).A X Θ _ fs ok hfs) s1 s2 (QqW rfl hcc.1.2 (by
          have:=QjS hfs cp X.env
          rw[List.all_eq_not_any_not]
          simpa using this) (by rw[Zk];omega))
        ·cases h
       | Name g gp=>
        change(if Θ.gl g=true then _ else none)=some f at h
        split at h
        ·rename_i hg
         refine Qf h λr hr h=>?_
         refine Qf h λix hx h=>?_
         refine mapR h λq hq=>?_
         obtain⟨g1,g2,g3⟩:=QcO ok.toCtxB hg
         obtain⟨x1,x2,x3⟩:=QbG ok.toCtxB hx
         have ha:=QmQ ok hq
         obtain⟨s1,s2⟩:=ha.star cp
         exact Qwe hN x1 x2 x3 (ob.io g r hr) g1 g2 ha s1 s2
        ·cases h
       | _=>exact nomatch (show(none:Option DS)=some _ from h)
    | Tuple es k q=>
     change(if es.any QpA=true then _ else none)=some f at h
     split at h
     ·refine Qf h λix hx h=>?_
      refine mapR h λfa hfa=>?_
      obtain⟨x1,x2,x3⟩:=QbG ok.toCtxB hx
      exact QgL λH0 A0=>Qd3 hN x1 x2 (QmK ((QaC n).E X Θ _ fa ok hfa) H0 A0) (QbZ rfl) x3
     ·cases h
    | _=>exact nomatch (show(none:Option DS)=some _ from h)
   | Attribute o fl ap=>
    change(if Qew e=true then _ else none)=some f at h
    split at h
    ·rename_i hc
     refine Qf h λy hy h=>?_
     refine Qf h λi hi h=>?_
     refine mapR h λfa hfa=>?_
     obtain⟨np,rfl⟩:=Qb6 hy
     exact Qt8 ob.cl (Qdo ok.toCtxB hi) ((QaC n).E X Θ e fa ok hfa) (QbZ hc)
    ·cases h
   | _=>exact nomatch (show(none:Option DS)=some _ from h)
  ·exact nomatch (show(none:Option DS)=some _ from h)
 | AugAssign t op e pos=>
  cases t with
  | Attribute o fl ap=>
   cases op with
   | Add=>
    refine Qf (show(Qax o).bind _=some f from h) λy hy h=>?_
    refine Qf h λi hi h=>?_
    refine mapR h λfa hfa=>?_
    obtain⟨np,rfl⟩:=Qb6 hy
    exact Qt4 ob.cl (Qdo ok.toCtxB hi) ((QaC n).E X Θ e fa ok hfa)
   | _=>exact nomatch (show(none:Option DS)=some _ from h)
  | _=>exact nomatch (show(none:Option DS)=some _ from h)
 | Return v pos=>
  refine Qf (show v.bind _=some f from h) λe he h=>?_
  cases he
  refine Qf h λp hp h=>?_
  exact mapR (M:=λf=>S1 X (.Return (some e) pos) f) h λfa hfa=>QuT ((QaC n).E X Θ e fa ok hfa)
 | _=>exact nomatch (show(none:Option DS)=some _ from h)
noncomputable def thO(n:Nat)(Θ:Th)(T:ObT)(p:Option Nat):Th:={Θ with te:=te2 n Θ T,tr:=QxJ n {Θ with te:=te2 n Θ T} T p}
theorem Qpo(ok:QH X Θ)(ob:Qmf X T)(p:Option Nat):QH X (thO n Θ T p):=
 (ok.Qmu (Qqc ok ob)).QqY (Qvb (ok.Qmu (Qqc ok ob)) ob p)
end
section
variable (P:Program) (w:World) (K:PySem.W.Frag) (mg:Str->Option Value) (base:Heap)
structure QcC (k:Nat) (T:ObT):Prop where
 cl:Qe9 K T.cl
 me:∀x ms m r,look x T.me=some ms->look m ms=some r->∀C,PySem.W.nsIn K mainGlobals x=some (some (.ref C))->∃f fd ps,Cls K C/\QjE K C m f/\Qaq P w K mg base CX0 k f fd ps (QeC K r.n 0 r.den)/\Binds K fd ps []
 io:∀g r,look g T.io=some r->∃f fd ps,Qaq P w K mg base CX0 k f fd ps (QeC K r.n r.p r.den)/\mg g=some (.ref f)/\PySem.W.keepIn K (.ref f)=true/\Binds K fd ps []
 ma:∀g r,look g T.ma=some r->∃C f fd ps,PySem.W.nsIn K mainGlobals g=some (some (.ref C))/\Mk K C f/\Qaq P w K mg base CX0 k f fd ps (QeC K r.n 0 r.den)/\mg g=some (.ref C)/\Binds K fd ps []
 mk0:∀g∈T.mk0,∃C,PySem.W.nsIn K mainGlobals g=some (some (.ref C))/\PySem.W.makesIn K C=true/\PySem.W.findIn K (.ref C) "__init__" =some (some (.builtin "object.__init__"))/\PySem.W.keepIn K (.ref C)=true/\mg g=some (.ref C)
end
section
variable {P:Program}{w:World}{K:PySem.W.Frag}{mg:Str->Option Value}{base:Heap}
theorem QcC.mono{j k:Nat}{T:ObT}(t:QcC P w K mg base j T)(h:j<=k):QcC P w K mg base k T where
 cl:=t.cl
 me:=λx ms m r h1 h2 C h3=>let ⟨f,fd,ps,c1,c2,c3,c4⟩:=t.me x ms m r h1 h2 C h3;⟨f,fd,ps,c1,c2,c3.mono h,c4⟩
 io:=λg r h1=>let ⟨f,fd,ps,c1,c2⟩:=t.io g r h1;⟨f,fd,ps,c1.mono h,c2⟩
 ma:=λg r h1=>let ⟨C,f,fd,ps,c1,c2,c3,c4⟩:=t.ma g r h1;⟨C,f,fd,ps,c1,c2,c3.mono h,c4⟩
 mk0:=t.mk0
theorem QcC.ob{k:Nat}{T:ObT}{X:Cx}(t:QcC X.prog X.w X.K X.mg X.base k T)(hr:Qag (k+1) X.A):Qmf X T where
 cl:=t.cl
 me:=λx ms m r h1 h2 C h3=>let ⟨f,fd,ps,c1,c2,c3,c4⟩:=t.me x ms m r h1 h2 C h3;⟨k,f,fd,ps,c1,c2,c3,hr.mono (ZaI k),c4⟩
 io:=λg r h1=>let ⟨f,fd,ps,c1,c2,c3,c4⟩:=t.io g r h1;⟨k,f,fd,ps,c1,hr.mono (ZaI k),c2,c3,c4⟩
 ma:=λg r h1=>let ⟨C,f,fd,ps,c1,c2,c3,c4,c5⟩:=t.ma g r h1;⟨k,C,f,fd,ps,c1,c2,c3,hr,c4,c5⟩
 mk0:=t.mk0
theorem Qty{x qual:Str}{st:Stmt}{f:Addr}{fd:FuncData}{ps:List Str}{k n n' p:Nat}{Γ:List (Str×FnR)}{cs:List (Str×Cn)}{T:ObT}{g:DS}{den:QbI}(F:Fun K x qual st f fd)(S:QaA (namesOf (Qg st)) ps (Qg st))(M:Qb8 mg cs)(tab:Qaz P w K mg base (k+1) Γ)(tabo:QcC P w K mg base k T)
  (hc:Qac n (thO n' (QbL st Γ cs) T (some p)) (Q2 st)=some g) (hU:UIO (namesOf (Qg st)).length p g den):Qaq P w K mg base CX0 (k+2) f fd ps (QeC K ps.length p den):=by
 refine Qyq F S (λcdv A outer s H E hr=>?_) hc hU
 have ok:=Qiu (P:=P) (w:=w) (K:=K) (base:=base) (qual:=qual) (f:=f) (cdv:=cdv) (outer:=outer) (s:=s) (H:=H) (E:=E) S M tab hr
 exact Qpo ok (QcC.ob (X:=(Qcr CX0 P w K mg base (namesOf (Qg st)) qual (Qg st) f cdv A outer s H E).nox) tabo hr) (some p)
theorem Qs9{x qual:Str}{st:Stmt}{f:Addr}{fd:FuncData}{ps:List Str}{k n n':Nat}{Γ:List (Str×FnR)}{cs:List (Str×Cn)}{T:ObT}{g:DS}(F:Fun K x qual st f fd)(S:QaA (namesOf (Qg st)) ps (Qg st))(M:Qb8 mg cs)(tab:Qaz P w K mg base (k+1) Γ)(tabo:QcC P w K mg base k T)
  (hc:Qac n (thO n' (QbL st Γ cs) T none) (Q2 st)=some g):Qaq P w K mg base CX0 (k+2) f fd ps (spV K ps.length (QB (namesOf (Qg st)).length g)):=by
 refine F.ok S (Qke rfl) λcdv A outer s H vs Q E hr h=>?_
 obtain⟨ds,L,d,fr,rps,hl,hd,q⟩:=h
 have ok:=Qiu (P:=P) (w:=w) (K:=K) (base:=base) (qual:=qual) (f:=f) (cdv:=cdv) (outer:=outer) (s:=s) (H:=H) (E:=E) S M tab hr
 have ok2:=Qpo (n:=n') ok (QcC.ob (X:=(Qcr CX0 P w K mg base (namesOf (Qg st)) qual (Qg st) f cdv A outer s H E).nox) tabo hr) none
 refine⟨_,(Qe5 n).Ss _ _ _ g ok2 hc H L,?_⟩
 obtain⟨F0,rel⟩:=Qd2 (N:=namesOf (Qg st)) rps
 unfold QB at hd
 refine Qf hd λo ho hd=>?_
 refine⟨_,[],F0,o,rel,ho,?_⟩
 cases o with
 | nx ρ=>
  cases hd
  exact λσ H' F' rel'=>q .non H' [] ⟨rel'.same,.QgO,λa ha=>by simp at ha,λ_=>⟨Zap,rfl,λa ha=>by simp at ha⟩⟩
 | bk ρ=>cases hd
 | ct ρ=>cases hd
 | rt d' fr'=>
  cases hd
  exact λv H' G r=>q v H' G r
theorem Qvx{h:Heap}{x:Str}{st:Stmt}{ps:List Str}{k n n':Nat}{Γ:List (Str×FnR)}{cs:List (Str×Cn)}{T:ObT}{g:DS}(X:K.In h)(G:h.Ns mainGlobals mg)(F:Fact K x st)(S:QaA (namesOf (Qg st)) ps (Qg st))(B:QN x st ps)(M:Qb8 mg cs)(tab:Qaz P w K mg base (k+1) Γ)(tabo:QcC P w K mg base k T)
  (hc:Qac n (thO n' (QbL st Γ cs) T none) (Q2 st)=some g):Known P w K mg base (k+2) x ⟨ps.length,[],QB (namesOf (Qg st)).length g⟩:=by
 obtain⟨f,fd,Fn,a⟩:=F.ex
 exact⟨f,fd,ps,Qs9 Fn S M tab tabo hc,Zal X G a,Fn.kp,λm hm=>⟨[],[],Fn.binds (B ·),.nil,λH=>by simp[Rps]⟩⟩
theorem Qwl{h:Heap}{x y:Str}{st:Stmt}{fa:Addr}{k n n':Nat}{Γ:List (Str×FnR)}{cs:List (Str×Cn)}{T:ObT}{g:DS}(X:K.In h)(G:h.Ns mainGlobals mg)(hmg:mg x=some (.ref fa))
  (F:Fact K x st) (S:QaA (namesOf (Qg st)) [y] (Qg st)) (B:QN x st [y]) (M:Qb8 mg cs) (tab:∀base:Heap,Qaz P w K mg base (k+1) Γ) (tabo:∀base:Heap,QcC P w K mg base k T) (hc:Qac n (thO n' (QbL st Γ cs) T none) (Q2 st)=some g):
  ∃fd:FuncData,(∀(s:Shared) (u:Value),BindsTo s fd ⟨[u],[]⟩ [(y,u)])∧
    ∀base:Heap,K.In base->base.Ns mainGlobals mg->Qaq P w K mg base CX0 (k+2) fa fd [y] (spV K 1 (QB (namesOf (Qg st)).length g)):=by
 obtain⟨f,fd,Fn,a⟩:=F.ex
 have e:=hmg.symm.trans (Zal X G a)
 cases e
 refine⟨fd,λs u=>?_,λbase _ _=>Qs9 Fn S M (tab base) (tabo base) hc⟩
 obtain⟨oc,od,kV,doc,pm,an,cdv,ct,osl,rfl,lk,hcd⟩:=Fn.ex
 exact .of_eq (B kV doc pm an cdv ct [u] rfl)
structure Qhh (K:PySem.W.Frag) (c m qual:Str) (st:Stmt):Prop where
 ex:∃C f fd,PySem.W.nsIn K mainGlobals c=some (some (.ref C))/\Cls K C/\QjE K C m f/\Fun K m qual st f fd
theorem QfR{c m qual:Str}{st:Stmt}{C f:Addr}{oc:Value}{od an:Option Addr}{osl:Array (Option Value)}{kV doc pm cdv ct:Value}(a:PySem.W.nsIn K mainGlobals c=some (some (.ref C)))
  (c1:PySem.W.plainGet K C Str.empty=true) (c2:PySem.W.hasDictIn K C=true) (c3:PySem.W.plainOver K C=true) (c4:PySem.W.findIn K (.ref C) "__setattr__" =some (some (.builtin "object.__setattr__")))
  (m1:PySem.W.findIn K (.ref C) m=some (some (.ref f))) (m2:PySem.W.isFn K (.ref f)=true) (k:PySem.W.keepIn K (.ref f)=true)
  (l:K.lookup f=some ⟨oc,od,.func (PySem.W.fnOf m qual (Qdi st) (Q2 st) (Qg st) .none kV doc pm an cdv ct),osl⟩) (cd:PySem.W.codeIn K cdv qual=true):Qhh K c m qual st:=
 ⟨C,f,_,a,⟨c1,c2,c3,c4⟩,⟨m1,m2,k⟩,Qp7 l cd k⟩
end
end HS
namespace HS
open PySem PySem.Spec L2 PyProof.Rows
noncomputable def QeP(k p:Nat)(g:DS):QbI:=λds=>open Classical in if h:∃q,∀a,∃o,g (QcL k p a ds)=some o/\Qhk p a o=some q then some h.choose else none
theorem QeL{k p:Nat}{g:DS}:UIO k p g (QeP k p g):=λds q e a=>by
 unfold QeP at e
 split at e
 ·rename_i h
  cases e
  exact h.choose_spec a
 ·cases e
theorem QtI{k p:Nat}{g:DS}{ds:List D}{q:D×D}(h:∀a,∃o,g (QcL k p a ds)=some o/\Qhk p a o=some q):QeP k p g ds=some q:=by
 have hx:∃q,∀a,∃o,g (QcL k p a ds)=some o/\Qhk p a o=some q:=⟨q,h⟩
 unfold QeP
 rw[dif_pos hx]
 obtain⟨o,h1,h2⟩:=h 0
 obtain⟨o',h3,h4⟩:=hx.choose_spec 0
 rw[h1]at h3
 cases h3
 rw[h2]at h4
 exact h4.symm
section
variable (P:Program) (w:World) (K:PySem.W.Frag) (mg:Str->Option Value) (base:Heap)
noncomputable def Qlg(C:Addr):List Str->Prop
 | []=>True
 | f::r=>QbX K C f/\Qlg C r
def Qjf(x:Str)(fs:List Str):Prop:=∃C,PySem.W.nsIn K mainGlobals x=some (some (.ref C))/\Cls K C/\Qlg K C fs
noncomputable def QoG:ClT->Prop
 | []=>True
 | (x,fs)::r=>Qjf K x fs/\QoG r
def Qld(x:Str):Prop:=∃C,PySem.W.nsIn K mainGlobals x=some (some (.ref C))/\PySem.W.makesIn K C=true/\PySem.W.findIn K (.ref C) "__init__" =some (some (.builtin "object.__init__"))/\PySem.W.keepIn K (.ref C)=true
def Qlh(x:Str):Prop:=∃C,PySem.W.nsIn K mainGlobals x=some (some (.ref C))/\PySem.W.makesIn K C=true/\PySem.W.keepIn K (.ref C)=true
noncomputable def QrW:List Str->Prop
 | []=>True
 | x::r=>Qld K x/\QrW r
def QfV(k:Nat)(x m:Str)(r:IoR):Prop:=∃C f fd ps,PySem.W.nsIn K mainGlobals x=some (some (.ref C))/\Cls K C/\QjE K C m f/\Qaq P w K mg base CX0 k f fd ps (QeC K r.n 0 r.den)/\Binds K fd ps []
noncomputable def Qo7(k:Nat)(x:Str):List (Str×IoR)->Prop
 | []=>True
 | (m,r)::l=>QfV P w K mg base k x m r/\Qo7 k x l
noncomputable def QoL(k:Nat):MeT->Prop
 | []=>True
 | (x,ms)::l=>Qo7 P w K mg base k x ms/\QoL k l
def QjM(k:Nat)(g:Str)(r:IoR):Prop:=∃f fd ps,Qaq P w K mg base CX0 k f fd ps (QeC K r.n r.p r.den)/\mg g=some (.ref f)/\PySem.W.keepIn K (.ref f)=true/\Binds K fd ps []
noncomputable def QoF(k:Nat):List (Str×IoR)->Prop
 | []=>True
 | (g,r)::l=>QjM P w K mg base k g r/\QoF k l
noncomputable def Qog(k:Nat):List (Str×IoR)->Prop
 | []=>True
 | (g,r)::l=>(Qlh K g/\QfV P w K mg base k g "__init__" r)/\Qog k l
def Qg3(x qual:Str)(st:Stmt)(ps:List Str):Prop:=∀(kV doc pm:Value) (an:Option Addr) (cdv ct:Value) (us:List Value),us.length=ps.length->bindArgs (PySem.W.fnOf x qual (Qdi st) (Q2 st) (Qg st) .none kV doc pm an cdv ct) ⟨us,[]⟩=pure (ps.zip us)
end
section
variable {P:Program}{w:World}{K:PySem.W.Frag}{mg:Str->Option Value}{base:Heap}
theorem Qlm{C:Addr}:∀{fs:List Str},Qlg K C fs->∀f∈fs,QbX K C f
 | [],_,f,hf=>by simp at hf
 | g::r,h,f,hf=>by
  rcases Zl.mp hf with rfl | hf
  ·exact h.1
  ·exact Qlm h.2 f hf
theorem QlX:∀{T:ClT},QoG K T->Qe9 K T
 | [],_,x,fs,h,_,_=>by cases h
 | (y,gs)::r,hc,x,fs,h,C,hC=>by
  unfold look at h
  split at h
  ·rename_i e
   cases h
   subst e
   obtain⟨C',h1,h2,h3⟩:=hc.1
   rw[hC]at h1
   cases h1
   exact⟨h2,Qlm h3⟩
  ·exact QlX hc.2 x fs h C hC
theorem QnT{h:Heap}(X:K.In h)(G:h.Ns mainGlobals mg):∀{l:List Str},QrW K l->∀g∈l,∃C,PySem.W.nsIn K mainGlobals g=some (some (.ref C))/\PySem.W.makesIn K C=true/\PySem.W.findIn K (.ref C) "__init__" =some (some (.builtin "object.__init__"))/\PySem.W.keepIn K (.ref C)=true/\mg g=some (.ref C)
 | [],_,f,hf=>by simp at hf
 | g::r,hh,f,hf=>by
  rcases Zl.mp hf with rfl | hf
  ·obtain⟨C,h1,h2,h3,h4⟩:=hh.1
   exact⟨C,h1,h2,h3,h4,Zal X G h1⟩
  ·exact QnT X G hh.2 f hf
theorem Qmy{k:Nat}{x:Str}:∀{l:List (Str×IoR)},Qo7 P w K mg base k x l->∀m r,look m l=some r->QfV P w K mg base k x m r
 | [],_,m,r,h=>by cases h
 | (y,q)::l,hh,m,r,h=>by
  unfold look at h
  split at h
  ·rename_i e
   cases h
   subst e
   exact hh.1
  ·exact Qmy hh.2 m r h
theorem Qmd{k:Nat}:∀{T:MeT},QoL P w K mg base k T->∀x ms m r,look x T=some ms->look m ms=some r->QfV P w K mg base k x m r
 | [],_,x,ms,m,r,h,_=>by cases h
 | (y,q)::l,hh,x,ms,m,r,h,h2=>by
  unfold look at h
  split at h
  ·rename_i e
   cases h
   subst e
   exact Qmy hh.1 m r h2
  ·exact Qmd hh.2 x ms m r h h2
theorem QmS{k:Nat}:∀{l:List (Str×IoR)},QoF P w K mg base k l->∀g r,look g l=some r->QjM P w K mg base k g r
 | [],_,m,r,h=>by cases h
 | (y,q)::l,hh,m,r,h=>by
  unfold look at h
  split at h
  ·rename_i e
   cases h
   subst e
   exact hh.1
  ·exact QmS hh.2 m r h
theorem Qma{k:Nat}:∀{l:List (Str×IoR)},Qog P w K mg base k l->∀g r,look g l=some r->Qlh K g/\QfV P w K mg base k g "__init__" r
 | [],_,m,r,h=>by cases h
 | (y,q)::l,hh,m,r,h=>by
  unfold look at h
  split at h
  ·rename_i e
   cases h
   subst e
   exact hh.1
  ·exact Qma hh.2 m r h
theorem QfV.mono{j k:Nat}{x m:Str}{r:IoR}(h:QfV P w K mg base j x m r)(hk:j<=k):QfV P w K mg base k x m r:=by
 obtain⟨C,f,fd,ps,c1,c2,c3,c4,c5⟩:=h
 exact⟨C,f,fd,ps,c1,c2,c3,c4.mono hk,c5⟩
theorem QjM.mono{j k:Nat}{g:Str}{r:IoR}(h:QjM P w K mg base j g r)(hk:j<=k):QjM P w K mg base k g r:=by
 obtain⟨f,fd,ps,c1,c2⟩:=h
 exact⟨f,fd,ps,c1.mono hk,c2⟩
theorem Qaz.rise{j k:Nat}{Γ:List (Str×FnR)}(t:Qaz P w K mg base j Γ)(hk:j<=k):Qaz P w K mg base k Γ:=λx r e=>(t x r e).mono hk
theorem Qjw{h:Heap}{k:Nat}{T:ObT}(X:K.In h)(G:h.Ns mainGlobals mg)(h1:QoG K T.cl)(h2:QoL P w K mg base k T.me)(h3:QoF P w K mg base k T.io)(h4:Qog P w K mg base k T.ma)(h5:QrW K T.mk0):QcC P w K mg base k T where
 cl:=QlX h1
 me:=λx ms m r e1 e2 C hC=>by
  obtain⟨C',f,fd,ps,c1,c2,c3,c4,c5⟩:=Qmd h2 x ms m r e1 e2
  rw[hC]at c1
  cases c1
  exact⟨f,fd,ps,c2,c3,c4,c5⟩
 io:=λg r e=>QmS h3 g r e
 ma:=λg r e=>by
  obtain⟨⟨C,b1,b2,b3⟩,C',f,fd,ps,c1,c2,c3,c4,c5⟩:=Qma h4 g r e
  rw[b1]at c1
  cases c1
  exact⟨C,f,fd,ps,b1,⟨b2,c3.at_,c3.fn,b3⟩,c4,Zal X G b1,c5⟩
 mk0:=QnT X G h5
theorem Qk6{c m qual:Str}{st:Stmt}{ps:List Str}{k n n':Nat}{Γ:List (Str×FnR)}{cs:List (Str×Cn)}{T:ObT}{g:DS}{den:QbI}(F:Qhh K c m qual st)(S:QaA (namesOf (Qg st)) ps (Qg st))(B:Qg3 m qual st ps)(M:Qb8 mg cs)(tab:Qaz P w K mg base (k+1) Γ)(tabo:QcC P w K mg base k T)
  (hc:Qac n (thO n' (QbL st Γ cs) T (some 0)) (Q2 st)=some g) (hU:UIO (namesOf (Qg st)).length 0 g den):QfV P w K mg base (k+2) c m ⟨ps.length,0,den⟩:=by
 obtain⟨C,f,fd,c1,c2,c3,Fn⟩:=F.ex
 exact⟨C,f,fd,ps,c1,c2,c3,Qty Fn S M tab tabo hc hU,Fn.binds (B ·)⟩
theorem QxW{h:Heap}{x:Str}{st:Stmt}{ps:List Str}{k n n' p:Nat}{Γ:List (Str×FnR)}{cs:List (Str×Cn)}{T:ObT}{g:DS}{den:QbI}(X:K.In h)(G:h.Ns mainGlobals mg)(F:Fact K x st)(S:QaA (namesOf (Qg st)) ps (Qg st))(B:QN x st ps)(M:Qb8 mg cs)(tab:Qaz P w K mg base (k+1) Γ)(tabo:QcC P w K mg base k T)
  (hc:Qac n (thO n' (QbL st Γ cs) T (some p)) (Q2 st)=some g) (hU:UIO (namesOf (Qg st)).length p g den):QjM P w K mg base (k+2) x ⟨ps.length,p,den⟩:=by
 obtain⟨f,fd,Fn,a⟩:=F.ex
 exact⟨f,fd,ps,Qty Fn S M tab tabo hc hU,Zal X G a,Fn.kp,Fn.binds (B ·)⟩
theorem Qh0{x:Str}{fs:List Str}{C:Addr}(a:PySem.W.nsIn K mainGlobals x=some (some (.ref C)))(c1:PySem.W.plainGet K C Str.empty=true)(c2:PySem.W.hasDictIn K C=true)(c3:PySem.W.plainOver K C=true)(c4:PySem.W.findIn K (.ref C) "__setattr__" =some (some (.builtin "object.__setattr__")))(n:Qlg K C fs):Qjf K x fs:=
 ⟨C,a,⟨c1,c2,c3,c4⟩,n⟩
theorem QmE{x:Str}{C:Addr}(a:PySem.W.nsIn K mainGlobals x=some (some (.ref C)))(c1:PySem.W.makesIn K C=true)(c2:PySem.W.findIn K (.ref C) "__init__" =some (some (.builtin "object.__init__")))(c3:PySem.W.keepIn K (.ref C)=true):Qld K x:=⟨C,a,c1,c2,c3⟩
theorem Qrw{x:Str}{C:Addr}(a:PySem.W.nsIn K mainGlobals x=some (some (.ref C)))(c1:PySem.W.makesIn K C=true)(c3:PySem.W.keepIn K (.ref C)=true):Qlh K x:=⟨C,a,c1,c3⟩
end
end HS
namespace HS
open PySem L2
noncomputable def pairD(p:Int×Int):D:= .tup [.int p.1,.int p.2]
noncomputable def Qcp(p:Int×Int×Bool):D:= .tup [.int p.1,.int p.2.1,.bl p.2.2]
noncomputable def Qy(ns:List Int):D:= .lst (ns.map .int)
noncomputable def Qad(ps:List (Int×Int)):D:= .lst (ps.map pairD)
noncomputable def Qh(m:Int)(R L:List (Int×Int)):D:= .tup [.int m,Qad R,Qad L]
theorem Qbj{α:Type}{f:α->D}(h:∀a,(f a).flat=true):∀l:List α,Qab (l.map f)=true
 | []=>rfl
 | a::l=>by simp[Qab,h a,Qbj h l]
@[simp] theorem Qzh(i:Int):(D.int i).flat=true:=rfl
@[simp] theorem Qz1(i:Bool):(D.bl i).flat=true:=rfl
@[simp] theorem QzM:D.non.flat=true:=rfl
@[simp] theorem QzI(x:Str):(D.str x).flat=true:=rfl
@[simp] theorem Qz0(xs:List D):(D.lst xs).flat=false:=rfl
@[simp] theorem Qzl(xs:List D):(D.tup xs).flat=Qab xs:=rfl
@[simp] theorem Qy5:Qab []=true:=rfl
@[simp] theorem QyK(d:D)(ds:List D):Qab (d::ds)=(d.flat && Qab ds):=rfl
@[simp] theorem Qy1(p:Int×Int):(pairD p).flat=true:=rfl
@[simp] theorem QzD(p:Int×Int×Bool):(Qcp p).flat=true:=rfl
@[simp] theorem Qy2(ns:List Int):(Qy ns).flat=false:=rfl
@[simp] theorem Qyn(ns:List (Int×Int)):(Qad ns).flat=false:=rfl
@[simp] theorem QxV(ps:List (Int×Int)):Qab (ps.map pairD)=true:=Qbj (λ_=>rfl) _
@[simp] theorem QoQ(ps:List (Int×Int×Bool)):Qab (ps.map Qcp)=true:=Qbj (λ_=>rfl) _
@[simp] theorem QfZ(ns:List Int):Qab (ns.map .int)=true:=Qbj (λ_=>rfl) _
@[simp] theorem Qy4(xs ys:List D):Qab (xs++ys)=(Qab xs && Qab ys):=Qcz xs ys
def Run(f:DS)(ρ:En)(Q:Out->Prop):Prop:=∃o,f ρ=some o/\Q o
noncomputable def Nx(Q:En->Prop):Out->Prop
 | .nx ρ=>Q ρ
 | _=>False
noncomputable def Rt(Q:D->Bool->Prop):Out->Prop
 | .rt d fr=>Q d fr
 | _=>False
theorem Run.mono(h:Run f ρ Q)(m:∀o,Q o->Q' o):Run f ρ Q':=let ⟨o,h1,h2⟩:=h;⟨o,h1,m o h2⟩
theorem Qn(h:Q (.nx ρ)):Run Ql ρ Q:=⟨_,rfl,h⟩
theorem run_seq(h:Run f ρ (Nx λρ'=>Run g ρ' Q)):Run (Qd f g) ρ Q:=by
 obtain⟨o,h1,h2⟩:=h
 cases o with
 | nx ρ'=>
  obtain⟨o',h3,h4⟩:=h2
  exact⟨o',by simp[Qd,h1,h3],h4⟩
 | _=>exact False.elim h2
theorem QA(h:Run f ρ λo=>match o with | .nx ρ'=>Run g ρ' Q | o=>Q o):Run (Qd f g) ρ Q:=by
 obtain⟨o,h1,h2⟩:=h
 cases o with
 | nx ρ'=>
  obtain⟨o',h3,h4⟩:=h2
  exact⟨o',by simp[Qd,h1,h3],h4⟩
 | bk ρ'=>exact⟨_,by simp[Qd,h1],h2⟩
 | ct ρ'=>exact⟨_,by simp[Qd,h1],h2⟩
 | rt d fr=>exact⟨_,by simp[Qd,h1],h2⟩
theorem Qi(h:fa ρ=some r)(q:Q (.nx (asg i r ρ))):Run (Qr i fa) ρ Q:=⟨_,by simp[Qr,h],q⟩
theorem Qez(h:fa ρ=some r)(q:Q (.rt r.d (r.norm.fr && decide r.norm.M.Nodup))):Run (Q3 fa) ρ Q:=⟨_,by simp[Q3,h],q⟩
theorem QQ(h:g ρ=some b)(q1:b=true->Run f1 ρ Q)(q2:b=false->Run f2 ρ Q):Run (sIf g f1 f2) ρ Q:=by
 cases b with
 | true=>obtain⟨o,h1,h2⟩:=q1 rfl;exact⟨o,by simp[sIf,h,h1],h2⟩
 | false=>obtain⟨o,h1,h2⟩:=q2 rfl;exact⟨o,by simp[sIf,h,h1],h2⟩
theorem QaF(h:Run f (Qat k ds) (Rt λd' fr'=>d'=d/\fr'=fr)):QB k f ds=some (d,fr):=by
 obtain⟨o,h1,h2⟩:=h
 unfold QB
 cases o with
 | rt d' fr'=>obtain⟨rfl,rfl⟩:=h2;rw[h1];rfl
 | _=>exact False.elim h2
theorem Qm1{α:Type}{t:Tg}{fb:DS}{toD:α->D}{Q:Out->Prop}(I:Nat->En->Prop):∀(xs ys:List α) (ρ:En),I ys.length ρ→
  (∀i x ρ,(ys++xs)[i]? =some x->ys.length<=i->I i ρ->∃ρ1,Qbh t (toD x) ρ=some ρ1/\Run fb ρ1 λo=>match o with | .nx ρ2=>I (i+1) ρ2 | .ct ρ2=>I (i+1) ρ2 | .bk ρ2=>Q (.nx ρ2) | .rt d fr=>Q (.rt d fr))→
  (∀ρ,I (ys++xs).length ρ->Q (.nx ρ))->Run (QcR t fb (xs.map toD)) ρ Q
 | [],ys,ρ,h0,_,fin=>⟨_,rfl,fin ρ (by simpa using h0)⟩
 | x::xs,ys,ρ,h0,turn,fin=>by
  obtain⟨ρ1,h1,o,h2,h3⟩:=turn ys.length x ρ (by simp) (Zn _) h0
  have next:∀ρ2,I (ys.length+1) ρ2->Run (QcR t fb (xs.map toD)) ρ2 Q:=λρ2 hi=>
   Qm1 I xs (ys++[x]) ρ2 (by simpa using hi) (λi y ρ' e hl=>turn i y ρ' (by simpa using e) (by simp at hl;omega)) (λρ' h=>fin ρ' (by simpa using h))
  cases o with
  | nx ρ2=>obtain⟨o',e1,e2⟩:=next ρ2 h3;exact⟨o',by simp[QcR,h1,h2,e1],e2⟩
  | ct ρ2=>obtain⟨o',e1,e2⟩:=next ρ2 h3;exact⟨o',by simp[QcR,h1,h2,e1],e2⟩
  | bk ρ2=>exact⟨_,by simp[QcR,h1,h2],h3⟩
  | rt d fr=>exact⟨_,by simp[QcR,h1,h2],h3⟩
theorem QaT{α:Type}{fi:DI}{t:Tg}{fb:DS}{toD:α->D}{ρ:En}{ir:IR}{Q:Out->Prop}(xs:List α)(I:Nat->En->Prop)(h:fi ρ=some ir)(hx:ir.items=xs.map toD)(h0:I 0 (QbE ir.M ρ))
  (turn:∀i x ρ,xs[i]? =some x->I i ρ->∃ρ1,Qbh t (toD x) ρ=some ρ1/\Run fb ρ1 λo=>match o with | .nx ρ2=>I (i+1) ρ2 | .ct ρ2=>I (i+1) ρ2 | .bk ρ2=>Q (.nx ρ2) | .rt d fr=>Q (.rt d fr))
  (fin:∀ρ,I xs.length ρ->Q (.nx ρ)):Run (Qbb fi t fb) ρ Q:=by
 obtain⟨o,h1,h2⟩:=Qm1 (t:=t) (fb:=fb) (toD:=toD) (Q:=Q) I xs [] (QbE ir.M ρ) h0 (λi x ρ e _=>turn i x ρ (by simpa using e)) (λρ h=>fin ρ (by simpa using h))
 exact⟨o,by simp[Qbb,h,hx,h1],h2⟩
theorem QkL{α:Type}{t:Tg}{ft:DT}{fe:DE}{ρc:En}{toD:α->D}{keep:α->Bool}{out:α->D}:∀(xs:List α) (acc:List D),
  (∀x∈xs,∃ρ1,Qbh t (toD x) ρc=some ρ1/\ft ρ1=some (keep x)/\(keep x=true->∃r,fe ρ1=some r/\r.d=out x/\r.norm.fr=true))→
  (xs.map toD).foldlM (Qe0 t ft fe ρc) (acc,true)=some (acc++(xs.filter keep).map out,true)
 | [],acc,_=>by simp
 | x::xs,acc,h=>by
  obtain⟨ρ1,h1,h2,h3⟩:=h x Zf
  have ih:=λacc=>QkL xs acc (λy hy=>h y (Zb _ hy))
  cases hk:keep x with
  | false=>
   have e:Qe0 t ft fe ρc (acc,true) (toD x)=some (acc,true):=by simp[Qe0,h1,h2,hk]
   simp[ZbG,e,ih,hk]
  | true=>
   obtain⟨r,h4,h5,h6⟩:=h3 hk
   have e:Qe0 t ft fe ρc (acc,true) (toD x)=some (acc++[out x],true):=by simp[Qe0,h1,h2,hk,h4,h5,h6]
   simp[ZbG,e,ih,hk]
theorem QfL{α:Type}{fi:DI}{t:Tg}{cap:List (Option Nat)}{ft:DT}{fe:DE}{ρ:En}{ir:IR}{toD:α->D}{keep:α->Bool}{out:α->D}(xs:List α)(h:fi ρ=some ir)(hx:ir.items=xs.map toD)
  (turn:∀x∈xs,∃ρ1,Qbh t (toD x) (Qdb cap ρ)=some ρ1/\ft ρ1=some (keep x)/\(keep x=true->∃r,fe ρ1=some r/\r.d=out x/\r.norm.fr=true)):
  Q7 fi t cap ft fe ρ=some ⟨.lst ((xs.filter keep).map out),true,[]⟩:=by
 unfold Q7
 rw[h,Za,hx,QkL xs [] turn]
 simp
theorem QaG{α:Type}{fi:DI}{t:Tg}{cap:List (Option Nat)}{fe:DE}{ρ:En}{ir:IR}{toD:α->D}{out:α->D}(xs:List α)(h:fi ρ=some ir)(hx:ir.items=xs.map toD)
  (turn:∀x∈xs,∃ρ1,Qbh t (toD x) (Qdb cap ρ)=some ρ1/\∃r,fe ρ1=some r/\r.d=out x/\r.norm.fr=true):
  Q7 fi t cap QaN fe ρ=some ⟨.lst (xs.map out),true,[]⟩:=by
 have:=QfL (keep:=λ_=>true) (ft:=QaN) xs h hx (cap:=cap) (t:=t) (fe:=fe) (out:=out) λx hx=>by
  obtain⟨ρ1,h1,h2⟩:=turn x hx
  exact⟨ρ1,h1,rfl,λ_=>h2⟩
 rw[this,List.filter_eq_self.mpr λ_ _=>rfl]
@[simp] theorem Qm3(d:D):R.norm ⟨d,true,[]⟩=⟨d,true,[]⟩:=by unfold R.norm;split<;>rfl
@[simp] theorem Qz(i:Nat)(d:D)(ρ:En):asg i ⟨d,true,[]⟩ ρ=ρ.set i (some (d,true)):=by unfold asg;simp[kill]
theorem Qmo{i:Nat}{d:D}{fr:Bool}{M:List Nat}{ρ:En}(h:d.flat=true):asg i ⟨d,fr,M⟩ ρ=ρ.set i (some (d,true)):=by
 unfold asg R.norm;simp[h,kill]
theorem Qa4{i:Nat}{ρ:En}{d:D}{b:Bool}(h:ρ[i]? =some (some (d,b))):Qa i ρ=some (if d.flat then⟨d,true,[]⟩else if b then⟨d,true,[i]⟩else⟨d,false,[]⟩):=by
 unfold Qa
 rw[h]
 dsimp only
 split
 ·simp_all
 ·split<;>simp_all
theorem Qxr{i:Nat}{ρ:En}{n:Int}{b:Bool}(h:ρ[i]? =some (some (.int n,b))):Qa i ρ=some ⟨.int n,true,[]⟩:=by rw[Qa4 h];rfl
@[simp] theorem QfW(d:D)(ρ:En):dC d ρ=some ⟨d,true,[]⟩:=rfl
theorem Q8{g:D->D->Option D}{fa fb:DE}{ρ:En}{ra rb:R}{d:D}(ha:fa ρ=some ra)(hb:fb ρ=some rb)(h:g ra.d rb.d=some d):dOp g fa fb ρ=some ⟨d,true,[]⟩:=by simp[dOp,ha,hb,h]
theorem Qu{fa:DE}{fs:DA}{ρ:En}{r:R}{rs:RA}(ha:fa ρ=some r)(hs:fs ρ=some rs):Qb fa fs ρ=some ⟨r.d::rs.ds,r.fr && rs.fr,r.M++rs.M⟩:=by simp[Qb,ha,hs]
@[simp] theorem QZ(ρ:En):Qe ρ=some ⟨[],true,[]⟩:=rfl
noncomputable def vf(d:D)(b:Bool)(i:Nat):R:=if d.flat then⟨d,true,[]⟩else if b then⟨d,true,[i]⟩else⟨d,false,[]⟩
@[simp] theorem QAa(d:D)(b:Bool)(i:Nat):(vf d b i).d=d:=by unfold vf;split;rfl;split<;>rfl
@[simp] theorem QrU(i j:Int)(h:0<=j):Qg9 i j=i % j:=by unfold Qg9;rw[if_pos h]
@[simp] theorem Qmj(i j:Int)(h:0<=j):QfY i j=i / j:=by unfold QfY;rw[if_pos h]
theorem Qey{i j:Int}(h:i.natAbs<2^64):Qeq i j=true:=by unfold Qeq;simp[h]
theorem QdJ{i j:Int}(h:j.natAbs<2^64):Qeq i j=true:=by unfold Qeq;simp[h]
theorem Qem:(sizeLine:Nat)=16777216:=sizeLine_eq
noncomputable def Qc(m:Nat)(f:Nat->Int):D:= .lst ((List.range m).map λi=> .int (f i))
noncomputable def Qbi(m n:Nat)(f:Nat->Nat->Int):D:= .lst ((List.range m).map λi=>Qc n (f i))
@[simp] theorem Qzs(m:Nat)(f:Nat->Int):(Qc m f).flat=false:=rfl
@[simp] theorem QzK(m n:Nat)(f:Nat->Nat->Int):(Qbi m n f).flat=false:=rfl
@[simp] theorem Qpp(m:Nat)(f:Nat->Int):Qab ((List.range m).map λi=>D.int (f i))=true:=Qbj (f:=λi=>D.int (f i)) (λ_=>rfl) _
noncomputable def up(f:Nat->Int)(i:Nat)(v:Int):Nat->Int:=λj=>if j=i then v else f j
noncomputable def up2(f:Nat->Nat->Int)(i j:Nat)(v:Int):Nat->Nat->Int:=λk=>if k=i then up (f k) j v else f k
theorem QfE{n:Nat}{i:Int}(h0:0<=i)(h:i<n):ixN n i=some i.toNat:=by
 unfold ixN;rw[if_pos (by omega),if_pos (by omega)]
theorem QjZ{α:Type}{xs:List α}{i:Int}(h0:0<=i)(h:i<xs.length):atI xs i=xs[i.toNat]? :=by
 unfold atI;rw[QfE h0 h];rfl
theorem QgB{α:Type}{m:Nat}{f:Nat->α}{i:Nat}{v:α}:((List.range m).map f).set i v=(List.range m).map λj=>if j=i then v else f j:=by
 apply Zbb
 intro k
 rw[List.getElem?_set]
 simp only[Zm,ZM,Zy]
 by_cases hk:k<m
 ·rw[Zai hk]
  by_cases e:i=k
  ·subst e;simp[hk]
  ·simp[e,Ne.symm e]
 ·rw[Zw (by simp;omega)]
  by_cases e:i=k
  ·subst e;simp[hk]
  ·simp[e]
theorem QjW{m:Nat}{f:Nat->Int}{i:Nat}{v:Int}:((List.range m).map λj=>D.int (f j)).set i (.int v)=(List.range m).map λj=>D.int (up f i v j):=by
 rw[QgB]
 congr 1;funext j;unfold up;split<;>rfl
theorem QnH{m:Nat}{f:Nat->Int}{i:Int}(h0:0<=i)(h:i<m):atI ((List.range m).map λj=>D.int (f j)) i=some (.int (f i.toNat)):=by
 rw[QjZ h0 (by simpa using h),Zy,Zai (by omega)];rfl
theorem QuV{m n:Nat}{f:Nat->Nat->Int}{i:Int}(h0:0<=i)(h:i<m):atI ((List.range m).map λj=>Qc n (f j)) i=some (Qc n (f i.toNat)):=by
 rw[QjZ h0 (by simpa using h),Zy,Zai (by omega)];rfl
theorem QdO{x m:Nat}{f:Nat->Int}{fi fa:DE}{ρ:En}{i:Int}{v:Int}{ri ra:R}{Q:Out->Prop}(hx:ρ[x]? =some (some (Qc m f,true)))(hi:fi ρ=some ri)(ei:ri.d= .int i)(ha:fa ρ=some ra)(ea:ra.d= .int v)(h0:0<=i)(h:i<m)
  (q:Q (.nx (ρ.set x (some (Qc m (up f i.toNat v),true))))):Run (QcX x QaK fi fa) ρ Q:=by
 refine⟨_,?_,q⟩
 have hn:ra.norm=⟨.int v,true,[]⟩:=by unfold R.norm;rw[ea];rfl
 unfold QcX
 rw[ha,Za,hx]
 simp only[QaK,Za,hi,ei,Qb4,Qc,Zm,ZM,QfE h0 h,hn,ea,Qbe,QjW]
 simp[kill]
theorem Qr7{g:D->D->Option D}{x m:Nat}{f:Nat->Int}{fi fa:DE}{ρ:En}{i w:Int}{ri ra:R}{Q:Out->Prop}(hx:ρ[x]? =some (some (Qc m f,true)))(hi:fi ρ=some ri)(ei:ri.d= .int i)(ha:fa ρ=some ra)(h0:0<=i)(h:i<m)
  (hg:g (.int (f i.toNat)) ra.d=some (.int w)) (q:Q (.nx (ρ.set x (some (Qc m (up f i.toNat w),true))))):Run (QdB g x QaK fi fa) ρ Q:=by
 refine⟨_,?_,q⟩
 have hj:((List.range m).map λj=>D.int (f j))[i.toNat]? =some (.int (f i.toNat)):=by rw[Zy,Zai (by omega)];rfl
 unfold QdB
 rw[hx]
 simp only[QaK,Za,hi,ei,Qb4,Qc,Zm,ZM,QfE h0 h,hj,ha,hg,Qbe,QjW,ZX]
theorem QlH{g:D->D->Option D}{x m n:Nat}{f:Nat->Nat->Int}{fp fi fa:DE}{ρ:En}{i j w:Int}{rp ri ra:R}{Q:Out->Prop}(hx:ρ[x]? =some (some (Qbi m n f,true)))(hp:fp ρ=some rp)(ep:rp.d= .int i)(hi:fi ρ=some ri)(ei:ri.d= .int j)(ha:fa ρ=some ra)
  (h0:0<=i) (h:i<m) (k0:0<=j) (k:j<n) (hg:g (.int (f i.toNat j.toNat)) ra.d=some (.int w)) (q:Q (.nx (ρ.set x (some (Qbi m n (up2 f i.toNat j.toNat w),true))))):Run (QdB g x (Qgn QaK fp) fi fa) ρ Q:=by
 refine⟨_,?_,q⟩
 have hj:((List.range n).map λk=>D.int (f i.toNat k))[j.toNat]? =some (.int (f i.toNat j.toNat)):=by rw[Zy,Zai (by omega)];rfl
 have hd:Qb4 (Qbi m n f) [i]=some (Qc n (f i.toNat)):=by
  simp only[Qb4,Qbi,D.items,Za,QuV h0 h]
 have hu:Qbe [i] (Qbi m n f) (.lst (((List.range n).map λk=>D.int (f i.toNat k)).set j.toNat (.int w)))=Qbi m n (up2 f i.toNat j.toNat w):=by
  simp only[Qbe,Qbi,Zm,ZM,QfE h0 h,QjW]
  rw[QgB]
  congr 2;funext k
  unfold up2
  split
  ·rename_i e;subst e;rfl
  ·rfl
 unfold QdB
 rw[hx]
 simp only[Qgn,QaK,Za,hp,ep,Zbi,hi,ei,hd,Qc,Zm,ZM,QfE k0 k,hj,ha,hg,ZX]
 rw[hu]
theorem QdE{n:Nat}(h:fa ρ=some r)(e:r.d= .int n)(hn:n<=16777216):QaY fa ρ=some ⟨(List.range n).map λ(k:Nat)=> .int (k:Int),[]⟩:=by
 unfold QaY
 rw[h,Za,e]
 dsimp only
 rw[if_pos ⟨by omega,by omega⟩]
 simp[Qik]
theorem QnR{α:Type}(x:α):∀n:Nat,(List.replicate n [x]).flatten=(List.range n).map λ_=>x
 | 0=>rfl
 | n+1=>by
  rw[Zah,Zao,QnR x n,List.range_succ_eq_map,Zq,Zam];rfl
theorem Qd0{n:Nat}(h:fb ρ=some r)(e:r.d= .int n)(hn:n<=16777216):QaD (QT (Qb (dC (.int z)) Qe)) fb ρ=some ⟨Qc n (λ_=>z),true,[]⟩:=by
 have h1:QT (Qb (dC (.int z)) Qe) ρ=some ⟨.lst [.int z],true,[]⟩:=rfl
 unfold QaD
 rw[h1,Za,h,Za,e]
 dsimp only
 rw[if_pos ⟨by simp[Qem];omega,by omega,by omega,rfl⟩]
 simp only[ZP,QnR]
 rfl
noncomputable def QjA:DS:=(Qd (Qr 2 (Q7 (Qav (Qa 0)) (.tp [1,2]) [none,none,none] QaN (QaH (Qb (Qa 1) (Qb (Qa 2) Qe))))) (Qd (Qr 3 (Q7 (Qav (Qa 0)) (.tp [1,2]) [none,none,none] QaN (QaH (Qb (Qa 2) (Qb (Qa 1) Qe))))) (Qd (Q3 (QC (QC (Qa 2) (Qa 3)) (dList (Qb (Qa 1) Qe)))) Ql)))
theorem Qka(ha:fa ρ=some ra)(ea:ra.d=Qad A)(hb:fb ρ=some rb)(eb:rb.d=Qad B)(hl:A.length+B.length<=16777216):QC fa fb ρ=some ⟨Qad (A++B),true,[]⟩:=by
 unfold QC
 rw[ha,Za,hb,Za,ea,eb]
 simp only[Qad,Zm,Qem,if_pos hl,QaE]
 simp
theorem Qij(h:fs ρ=some rs)(e:rs.ds=[Qad A])(_:True=True):dList fs ρ=some ⟨Qad A,true,[]⟩:=by
 unfold dList
 rw[h,Za,e]
 simp[Qad,QaE]
theorem Qaa(h:fa ρ=some r)(q:Q r.d (r.norm.fr && decide r.norm.M.Nodup)):Run (Qd (Q3 fa) g) ρ (Rt Q):=QA (Qez h q)
theorem Qrc{R L:List (Int×Int)}(hl:R.length+R.length+L.length<=16777216):QB 4 QjA [Qad R,Qad L]=some (Qad (R++R.map Prod.swap++L),true):=by
 refine QaF ?_
 refine run_seq (Qi (QaG R rfl rfl λx _=>⟨[none,some (.int x.1,true),some (.int x.2,true)],rfl,⟨pairD x,true,[]⟩,rfl,rfl,rfl⟩) ?_)
 refine run_seq (Qi (QaG R rfl rfl λx _=>⟨[none,some (.int x.1,true),some (.int x.2,true)],rfl,⟨pairD x.swap,true,[]⟩,rfl,rfl,rfl⟩) ?_)
 have e1:(R.map λx=>pairD x.swap)=(R.map Prod.swap).map pairD:=by simp[Zam,Function.comp_def]
 rw[e1]
 exact Qaa (Qka (Qka rfl rfl rfl rfl (by simpa using(by omega:R.length+R.length<=16777216))) rfl (Qij rfl rfl rfl) rfl (by simpa using hl)) ⟨rfl,rfl⟩
theorem QP(h:fs ρ=some r)(hd:den (r.ds++dfl)=some (d,true))(hl:r.ds.length+dfl.length=n):Qx n den dfl fs ρ=some ⟨d,true,[]⟩:=by
 unfold Qx
 rw[h,Za,if_pos hl,hd]
 simp
theorem Qcl(h:fa ρ=some r)(e:r.d= .lst xs):Qav fa ρ=some ⟨xs,r.M⟩:=by
 unfold Qav
 rw[h,Za,e]
noncomputable def stepT(m:Nat)(f:Nat->Nat->Int)(s:Int×Int):Nat->Nat->Int:=
 let f1:=if s.1<m then up2 f s.1.toNat s.1.toNat (f s.1.toNat s.1.toNat-1)else f
 if s.1<m/\s.2<m then up2 f1 s.1.toNat s.2.toNat (f1 s.1.toNat s.2.toNat+1)else f1
noncomputable def Qq(m:Nat)(S:List (Int×Int)):Nat->Nat->Int:=S.foldl (stepT m) λ_ _=>0
noncomputable def QeG(Qdl:Den):DS:=(Qd (Qr 1 (Qcc (Qm (Qa 0) (dC (.int 0))))) (Qd (Qr 2 (Q7 (QaY (Qa 1)) (.nm 1) [none,none,some 1] QaN (QaD (QT (Qb (dC (.int 0)) Qe)) (Qa 2)))) (Qd (Qbb (Qav (Qx 2 Qdl [] (Qb (Qm (Qa 0) (dC (.int 1))) (Qb (Qm (Qa 0) (dC (.int 2))) Qe)))) (.tp [3,4]) (Qd (sIf (QE (dOp gLt (Qa 3) (Qa 1))) (Qd (QdB QdN 2 (Qgn QaK (Qa 3)) (Qa 3) (dC (.int 1))) Ql) Ql) (Qd (sIf (QjG (QE (dOp gLt (Qa 3) (Qa 1))) (QE (dOp gLt (Qa 4) (Qa 1)))) (Qd (QdB (gI λi j=>some (.int (i+j))) 2 (Qgn QaK (Qa 3)) (Qa 4) (dC (.int 1))) Ql) Ql) Ql))) (Qd (Q3 (Qa 2)) Ql))))
theorem QsS{Qdl:Den}{m:Nat}{R L S:List (Int×Int)}(hm:m<=16777216)(hs:Qdl [Qad R,Qad L]=some (Qad S,true))(hS:∀s∈S,0<=s.1/\0<=s.2):QB 5 (QeG Qdl) [Qh m R L]=some (Qbi m m (Qq m S),true):=by
 refine QaF ?_
 refine run_seq (Qi rfl ?_)
 refine run_seq (Qi (QaG (List.range m) (QdE rfl rfl hm) rfl λx _=>⟨[none,some (.int x,true),some (.int m,true)],rfl,_,Qd0 rfl rfl hm,rfl,rfl⟩) ?_)
 refine run_seq (QaT S (λi ρ=>∃j1 j2,ρ=[some (Qh m R L,false),some (.int m,true),some (Qbi m m (Qq m (S.take i)),true),j1,j2]) (ir:=⟨S.map pairD,[]⟩) ?_ rfl ⟨none,none,rfl⟩ ?_ ?_)
 ·exact Qcl (QP (r:=⟨[Qad R,Qad L],false,[]⟩) rfl hs rfl) rfl
 ·rintro i s ρ hi ⟨j1,j2,rfl⟩
  refine⟨_,rfl,?_⟩
  obtain⟨s1,s2⟩:=hS s (Zac hi)
  refine run_seq (Run.mono (Q:=Nx λρ=>ρ=[some (Qh m R L,false),some (.int m,true),some (Qbi m m (if s.1<m then up2 (Qq m (S.take i)) s.1.toNat s.1.toNat (Qq m (S.take i) s.1.toNat s.1.toNat-1)else Qq m (S.take i)),true),some (.int s.1,true),some (.int s.2,true)]) ?_ ?_)
  ·refine QQ rfl (λh=>?_) (λh=>?_)
   ·have h:=of_decide_eq_true h
    rw[if_pos h]
    exact run_seq (QlH rfl rfl rfl rfl rfl rfl s1 h s1 h rfl (Qn rfl))
   ·have h:=of_decide_eq_false h
    rw[if_neg h]
    exact Qn rfl
  ·intro o ho
   cases o with
   | nx ρ=>
    subst ho
    have fin:Qq m (S.take (i+1))=stepT m (Qq m (S.take i)) s:=by
     unfold Qq
     rw[Zbr,hi,List.foldl_append];rfl
    refine run_seq (Run.mono (Q:=Nx λρ=>ρ=[some (Qh m R L,false),some (.int m,true),some (Qbi m m (stepT m (Qq m (S.take i)) s),true),some (.int s.1,true),some (.int s.2,true)]) ?_ ?_)
    ·refine QQ (b:=decide (s.1<m/\s.2<m)) ?_ (λh=>?_) (λh=>?_)
     ·by_cases h:s.1<(m:Int)
      ·simp[QjG,QE,dOp,Qa,gLt,gI,D.tru,h]
      ·simp[QjG,QE,dOp,Qa,gLt,gI,D.tru,h]
     ·have h:=of_decide_eq_true h
      refine run_seq (QlH rfl rfl rfl rfl rfl rfl s1 h.1 s2 h.2 rfl (Qn ?_))
      unfold stepT
      rw[if_pos h];rfl
     ·have h:=of_decide_eq_false h
      refine Qn ?_
      unfold stepT
      rw[if_neg h];rfl
    ·intro o ho
     cases o with
     | nx ρ=>
      subst ho
      exact Qn ⟨_,_,by rw[fin]⟩
     | _=>exact False.elim ho
   | _=>exact False.elim ho
 ·rintro ρ ⟨j1,j2,rfl⟩
  rw[Zaf]
  exact Qaa rfl ⟨rfl,rfl⟩
noncomputable def hit(i j:Nat)(s:Int×Int):Int:=(if s.1=i/\s.2=j then 1 else 0)-(if s.1=i/\i=j then 1 else 0)
theorem Qn7:up2 f a b v i j=if i=a/\j=b then v else f i j:=by
 unfold up2 up
 by_cases h1:i=a
 ·by_cases h2:j=b
  ·simp[h1,h2]
  ·simp[h1,h2]
 ·simp[h1]
theorem Qp4(hi:i<m)(hj:j<m)(h1:0<=s.1)(h2:0<=s.2):stepT m f s i j=f i j+hit i j s:=by
 unfold stepT hit
 have e1:(s.1=(i:Int))↔(i=s.1.toNat):=by omega
 have e2:(s.2=(j:Int))↔(j=s.2.toNat):=by omega
 simp only[e1,e2]
 by_cases c1:s.1<(m:Int)
 ·by_cases c2:s.2<(m:Int)
  ·simp only[c1,c2,and_self,if_true,Qn7]
   generalize s.1.toNat=a
   generalize s.2.toNat=b
   by_cases d1:i=a
   ·subst d1
    by_cases d2:j=b
    ·subst d2
     by_cases d3:i=j
     ·subst d3;simp
     ·have d4:¬j=i:=λz=>d3 z.symm
      simp[d3,d4]
    ·by_cases d3:i=j
     ·subst d3;simp[d2];omega
     ·have d4:¬j=i:=λz=>d3 z.symm
      simp[d2,d3,d4]
   ·simp[d1]
  ·have d2:¬(j=s.2.toNat):=by omega
   simp only[c1,c2,and_false,if_false,if_true,Qn7,d2]
   generalize s.1.toNat=a
   by_cases d1:i=a
   ·subst d1
    by_cases d3:i=j
    ·subst d3;simp;omega
    ·have d4:¬j=i:=λz=>d3 z.symm
     simp[d3,d4]
   ·simp[d1]
 ·have d1:¬(i=s.1.toNat):=by omega
  simp[c1,d1]
theorem Qkv(hi:i<m)(hj:j<m):∀(S:List (Int×Int)) (f:Nat->Nat->Int),(∀s∈S,0<=s.1/\0<=s.2)->S.foldl (stepT m) f i j=f i j+(S.map (hit i j)).sum
 | [],f,_=>by simp
 | s::S,f,h=>by
  obtain⟨h1,h2⟩:=h s Zf
  rw[ZbU,Qkv hi hj S _ (λt ht=>h t (Zb _ ht)),Qp4 hi hj h1 h2,Zq,ZS]
  omega
theorem Qb1(hi:i<m)(hj:j<m)(h:∀s∈S,0<=s.1/\0<=s.2):Qq m S i j=(S.map (hit i j)).sum:=by
 unfold Qq
 rw[Qkv hi hj S _ h];simp
noncomputable def isI(i:Nat)(a:Int):Int:=if a=i then 1 else 0
noncomputable def Qv(R L:List (Int×Int))(i:Nat):Int:=(R.map λr=>isI i r.1+isI i r.2).sum+(L.map λl=>isI i l.1).sum
theorem sum_neg(S:List (Int×Int))(i:Nat)(h:∀s∈S,s.1≠s.2):(S.map (hit i i)).sum= -(S.map λs=>isI i s.1).sum:=by
 induction S with
 | nil=>rfl
 | cons s S ih=>
  rw[Zq,ZS,ih λt ht=>h t (Zb _ ht),Zq,ZS]
  have hn:=h s Zf
  unfold hit isI
  by_cases e:s.1=(i:Int)
  ·have:¬(s.2=(i:Int)):=λz=>hn (e.trans z.symm)
   simp[e,this];omega
  ·simp[e]
noncomputable def Qj(R L:List (Int×Int)):List (Int×Int):=R++R.map Prod.swap++L
theorem QkR(R L:List (Int×Int))(i:Nat):((Qj R L).map λs=>isI i s.1).sum=Qv R L i:=by
 unfold Qj Qv
 rw[ZF,ZF,Zaj,Zaj]
 have:(R.map λr=>isI i r.1+isI i r.2).sum=(R.map λs=>isI i s.1).sum+((R.map Prod.swap).map λs=>isI i s.1).sum:=by
  induction R with
  | nil=>rfl
  | cons r R ih=>simp only[Zq,ZS,ih,Prod.fst_swap];omega
 omega
def Good(m:Nat)(s:Int×Int):Prop:=0<=s.1/\0<=s.2/\s.1<=m/\s.2<=m/\s.1≠s.2
theorem QaP{m:Nat}{R L:List (Int×Int)}(hR:∀s∈R,Good m s)(hL:∀s∈L,Good m s):∀s∈Qj R L,Good m s:=λs hs=>by
 unfold Qj at hs
 rcases Zo.mp hs with hs | hs
 ·rcases Zo.mp hs with hs | hs
  ·exact hR s hs
  ·obtain⟨t,ht,rfl⟩:=ZK.mp hs
   obtain⟨h1,h2,h3,h4,h5⟩:=hR t ht
   exact⟨h2,h1,h4,h3,λz=>h5 z.symm⟩
 ·exact hL s hs
def Qfs(d:Den):Prop:=∀(m:Nat) (R L:List (Int×Int)),m<=1000->R.length+R.length+L.length<=1000000->(∀s∈R,Good m s)->(∀s∈L,Good m s)->d [Qh m R L]=some (Qbi m m (Qq m (Qj R L)),true)
theorem Qn1:Qfs (QB 5 (QeG (QB 4 QjA))):=λm R L hm hl hR hL=>by
 refine QsS (by omega) (Qrc (by omega)) λs hs=>?_
 obtain⟨h1,h2,_⟩:=QaP hR hL s hs
 exact⟨h1,h2⟩
noncomputable def Qfq(Qaw:Den):DS:=(Qd (Q3 (Q7 (Qd8 (Qx 1 Qaw [] (Qb (Qa 0) Qe))) (.tp [1,2]) [none,none,none] QaN (dOp QdN (dC (.int 0)) (Qm (Qa 2) (Qa 1))))) Ql)
theorem QiR{α:Type}(m:Nat)(f:Nat->D):QdC ((List.range m).map f)=(List.range m).map λi=> .tup [.int i,f i]:=by
 apply Zbb
 intro k
 unfold QdC
 simp only[Zy,Zbh,Nat.zero_add]
 by_cases hk:k<m
 ·rw[Zai hk];rfl
 ·rw[Zw (by simp;omega)];rfl
theorem Qsg{d:Den}(hd:Qfs d){m:Nat}{R L:List (Int×Int)}(hm:m<=1000)(hl:R.length+R.length+L.length<=1000000)(hR:∀s∈R,Good m s)(hL:∀s∈L,Good m s):QB 1 (Qfq d) [Qh m R L]=some (Qc m (Qv R L),true):=by
 refine QaF ?_
 refine Qaa (QaG (toD:=λ(i:Nat)=> .tup [.int i,Qc m (Qq m (Qj R L) i)]) (out:=λ(i:Nat)=> .int (Qv R L i)) (ir:=⟨QdC ((List.range m).map λi=>Qc m (Qq m (Qj R L) i)),[]⟩) (List.range m) ?_ ?_ λi hi=>?_) ⟨rfl,rfl⟩
 ·unfold Qd8
  rw[QP (n:=1) (fs:=Qb (Qa 0) Qe) (ρ:=Qat 1 [Qh m R L]) (dfl:=[]) (r:=⟨[Qh m R L],false,[]⟩) rfl (hd m R L hm hl hR hL) rfl];rfl
 ·exact QiR (α:=Nat) m _
 ·have hi:=ZH.mp hi
  refine⟨[none,some (.int i,true),some (Qc m (Qq m (Qj R L) i),false)],rfl,⟨.int (0-Qq m (Qj R L) i i),true,[]⟩,?_,?_,rfl⟩
  ·have e:Qm (Qa 2) (Qa 1) [none,some (.int (i:Int),true),some (Qc m (Qq m (Qj R L) i),false)]=some ⟨.int (Qq m (Qj R L) i i),true,[]⟩:=by
    show((D.items (Qc m (Qq m (Qj R L) i))).bind λxs=>(atI xs (i:Int)).map λd=>(HS.R.norm ⟨d,false,[]⟩))=_
    unfold Qc
    rw[show D.items (.lst ((List.range m).map λj=>D.int (Qq m (Qj R L) i j)))=some ((List.range m).map λj=>D.int (Qq m (Qj R L) i j))from rfl,Za,QnH (by omega) (by omega)]
    rfl
   exact Q8 (rfl) e rfl
  ·have g:=QaP hR hL
   rw[Qb1 hi hi λs hs=>⟨(g s hs).1,(g s hs).2.1⟩,sum_neg _ i λs hs=>(g s hs).2.2.2.2,QkR]
   show D.int (0- -(Qv R L i))=_
   rw[show(0:Int)- -(Qv R L i)=Qv R L i by omega]
theorem Qjj(a b:Int):deq (.int a) (.int b)=decide (a=b):=by
 show PyData.eqv (.int a) (.int b)=_
 unfold PyData.eqv
 exact Bool.beq_eq_decide_eq a b
theorem Qda(ha:fa ρ=some ra)(ea:ra.d= .int a)(hb:fb ρ=some rb)(eb:rb.d= .int b):dOp gEq fa fb ρ=some ⟨.bl (decide (a=b)),true,[]⟩:=by
 refine Q8 ha hb ?_
 rw[ea,eb]
 show some (D.bl (deq (.int a) (.int b)))=_
 rw[Qjj]
theorem Qhb(ha:fa ρ=some ra)(ea:ra.d= .int a)(hb:fb ρ=some rb)(eb:rb.d= .int b):dOp gNe fa fb ρ=some ⟨.bl (!decide (a=b)),true,[]⟩:=by
 refine Q8 ha hb ?_
 rw[ea,eb]
 show some (D.bl (!deq (.int a) (.int b)))=_
 rw[Qjj]
theorem Qs8(ha:fa ρ=some ⟨.bl a,true,[]⟩)(hb:fb ρ=some ⟨.bl b,true,[]⟩):dOr fa fb ρ=some ⟨.bl (a || b),true,[]⟩:=by
 unfold dOr
 rw[ha]
 cases a<;>simp[D.tru,hb]
theorem QlR(ha:fa ρ=some ⟨.bl a,true,[]⟩)(hb:fb ρ=some ⟨.bl b,true,[]⟩):Qdg fa fb ρ=some ⟨.bl (a && b),true,[]⟩:=by
 unfold Qdg
 rw[ha]
 cases a<;>simp[D.tru,hb]
theorem QL(ha:fa ρ=some r)(e:r.d= .bl b):QE fa ρ=some b:=by
 unfold QE
 rw[ha,Za,e];rfl
theorem Qcw(h:g ρ=some b):QcB g ρ=some (!b):=by unfold QcB;rw[h];rfl
theorem Qdv(ha:g1 ρ=some a)(hb:g2 ρ=some b):bOr g1 g2 ρ=some (a || b):=by
 unfold bOr;rw[ha];cases a<;>simp[hb]
theorem QbQ(ha:fa ρ=some ra)(ea:ra.d= .int a)(hb:fb ρ=some rb)(eb:rb.d= .int b)(h:Qeq a b=true):QaD fa fb ρ=some ⟨.int (a*b),true,[]⟩:=by
 unfold QaD
 rw[ha,Za,hb,Za,ea,eb]
 simp[h]
theorem Qah(ha:fa ρ=some ra)(ea:ra.d= .int a)(hb:fb ρ=some rb)(eb:rb.d= .int b):QC fa fb ρ=some ⟨.int (a+b),true,[]⟩:=by
 unfold QC
 rw[ha,Za,hb,Za,ea,eb]
theorem Qai(ha:fa ρ=some ra)(ea:ra.d= .int a)(hb:fb ρ=some rb)(eb:rb.d= .int b)(h:0<b):dOp Q4 fa fb ρ=some ⟨.int (a % b),true,[]⟩:=by
 refine Q8 ha hb ?_
 rw[ea,eb]
 show(if b≠0 then some (D.int (Qg9 a b))else none)=_
 rw[if_pos (by omega),QrU _ _ (by omega)]
theorem QeV(ha:fa ρ=some ra)(ea:ra.d= .int a)(hb:fb ρ=some rb)(eb:rb.d= .int b)(h:0<b)(h2:b<2^64):dOp Qdh fa fb ρ=some ⟨.int (a / b),true,[]⟩:=by
 refine Q8 ha hb ?_
 rw[ea,eb]
 have:QdU b=true:=by
  unfold QdU
  have h3:b.natAbs<2^8000:=Zu (by omega:b.natAbs<2^64) (ZaK (by decide) (by decide))
  simp only[Zg,decide_eq_true_eq]
  exact⟨by omega,h3⟩
 show(if QdU b=true then some (D.int (QfY a b))else none)=_
 rw[if_pos this,Qmj _ _ (by omega)]
theorem Qgl(h:fa ρ=some r):Qcc fa ρ=some ⟨r.d,false,r.M⟩:=by unfold Qcc;rw[h];rfl
theorem Qbw{fa fb:DE}{ρ:En}{ra rb:R}{m:Nat}{f:Nat->Int}{i:Int}(ha:fa ρ=some ra)(ea:ra.d=Qc m f)(hb:fb ρ=some rb)(eb:rb.d= .int i)(h0:0<=i)(h:i<m):Qm fa fb ρ=some ⟨.int (f i.toNat),true,[]⟩:=by
 unfold Qm
 rw[ha,Za,hb,Za,ea,eb]
 simp only[Qc,D.items,Za,QnH h0 h,ZX]
 rfl
theorem Qev{fa fb:DE}{ρ:En}{ra rb:R}{ns:List Int}{i:Int}{v:Int}(ha:fa ρ=some ra)(ea:ra.d= .lst (ns.map .int))(hb:fb ρ=some rb)(eb:rb.d= .int i)(h0:0<=i)(h:ns[i.toNat]? =some v):Qm fa fb ρ=some ⟨.int v,true,[]⟩:=by
 have hl:i<ns.length:=by have:=(Zi.mp h).1;omega
 unfold Qm
 rw[ha,Za,hb,Za,ea,eb]
 simp only[D.items,Za]
 rw[QjZ h0 (by simpa using hl),Zy,h]
 rfl
theorem QqD{m n:Nat}{f:Nat->Int}(h:n<=m):cutD ((List.range m).map λi=>D.int (f i)) none (some (n:Int))=(List.range n).map λi=>D.int (f i):=by
 unfold cutD
 simp only[Zm,ZM,HT.Qgo,HT.Qhs,ZbY,ZbO,ZbV h]
 rw[← Zbe,List.take_range,ZbV h]
theorem Qhq{fa fb:DE}{ρ:En}{ra rb:R}{m n:Nat}{f:Nat->Int}(ha:fa ρ=some ra)(ea:ra.d=Qc m f)(hb:fb ρ=some rb)(eb:rb.d= .int n)(h:n<=m):QaO fa QaJ (Qae fb) ρ=some ⟨Qc n f,true,[]⟩:=by
 unfold QaO QaJ Qae
 rw[ha,Za,hb,ea]
 simp only[Za,eb,Qc,QqD h,QaE,Qpp,if_true]
theorem QlB(h:fs ρ=some r)(hd:den (r.ds++dfl)=some (d,fr))(hl:r.ds.length+dfl.length=n):Qx n den dfl fs ρ=some (if fr=true then⟨d,true,[]⟩else HS.R.norm ⟨d,false,r.M⟩):=by
 unfold Qx
 rw[h,Za,if_pos hl,hd]
 rfl
noncomputable def QfM:DS:=(Qd (sIf (QE (dOp gLt (Qa 1) (dBf Qbo (Qb (Qa 0) Qe)))) (Qd (Q3 (Qm (Qa 0) (Qa 1))) Ql) Ql) (Qd (Q3 (dC (.int 0))) Ql))
def Qi5(d:Den):Prop:=∀(ns:List Int) (k:Nat),d [.lst (ns.map .int),.int k]=some (.int (ns.getD k 0),true)
theorem Qug:Qi5 (QB 2 QfM):=λns k=>by
 refine QaF ?_
 refine QA (QQ (b:=decide ((k:Int)<ns.length)) ?_ (λh=>?_) (λh=>?_))
 ·refine QL (Q8 (rb:=⟨.int ns.length,true,[]⟩) rfl ?_ rfl) rfl
  show some (HS.R.mk (.int ((ns.map D.int).length:Int)) true [])=_
  rw[Zm]
 ·have h:=of_decide_eq_true h
  have hk:k<ns.length:=by omega
  have e:ns[k]? =some (ns.getD k 0):=by rw[Zz,ZA hk];rfl
  exact QA (Qez (Qev rfl rfl rfl rfl (by omega) (by simpa using e)) ⟨rfl,rfl⟩)
 ·have h:=of_decide_eq_false h
  have e:ns.getD k 0=0:=by rw[Zz,Zw (by omega)];rfl
  rw[e]
  exact Qn (Qaa rfl ⟨rfl,rfl⟩)
noncomputable def Qbq(t k:Int):Int:=(t+17)*(k*k+7*k+11)*69621 % 2147483647
noncomputable def QeD(m t k:Int):Int:=if Qbq t k % (k+1)<k then(Qbq t k % (k+1)+t) % m else m
noncomputable def QdK(m t kind:Int)(k:Int):Int×Int×Bool:=((k+t) % m,QeD m t k,decide (kind=2) || (decide (kind=3) && decide (Qbq t k / 64 % 2=1)))
noncomputable def QaX(m:Nat)(t kind:Int):List (Int×Int×Bool):=(List.range m).map λ(k:Nat)=>QdK m t kind k
def GoodW(m:Nat)(w:Int×Int×Bool):Prop:=Good m (w.1,w.2.1)/\(w.2.2=true->w.1<m)
noncomputable def Qar(W:List (Int×Int×Bool)):D:= .lst (W.map Qcp)
@[simp] theorem QyO(W:List (Int×Int×Bool)):(Qar W).flat=false:=rfl
theorem QqL{a x n:Int}(h1:0<x)(h2:x<n):(a+x) % n≠a % n:=λh=>by
 have h3:(a+x-a) % n=0:=Int.emod_eq_emod_iff_emod_sub_eq_zero.mp h
 rw[show a+x-a=x by omega,Zbs (by omega) h2]at h3
 omega
theorem QqF{m:Nat}{t kind:Int}{k:Nat}(hk:k<m):GoodW m (QdK m t kind k):=by
 have hm:(0:Int)<m:=by omega
 have h1:=ZI ((k:Int)+t) (by omega:(m:Int)≠0)
 have h2:=ZE ((k:Int)+t) hm
 unfold QdK QeD
 split
 ·rename_i hlt
  have h3:=ZI (Qbq t k) (by omega:((k:Int)+1)≠0)
  have h4:=ZI (Qbq t k % (k+1)+t) (by omega:(m:Int)≠0)
  have h5:=ZE (Qbq t k % (k+1)+t) hm
  refine⟨⟨h1,h4,by dsimp only;omega,by dsimp only;omega,?_⟩,λ_=>by dsimp only;omega⟩
  dsimp only
  have h6:=QqL (a:=Qbq t k % (k+1)+t) (x:=k-Qbq t k % (k+1)) (n:=m) (by omega) (by omega)
  rw[show Qbq t k % (k+1)+t+(k-Qbq t k % (k+1))=k+t by omega]at h6
  exact h6
 ·exact⟨⟨h1,by dsimp only;omega,by dsimp only;omega,by dsimp only;omega,by dsimp only;omega⟩,λ_=>by dsimp only;omega⟩
noncomputable def QhN:DS:=(Qd (Qr 3 (QT Qe)) (Qd (Qbb (QaY (Qa 0)) (.nm 4) (Qd (Qr 5 (dOp Q4 (QaD (QaD (QC (Qa 1) (dC (.int 17))) (QC (QC (QaD (Qa 4) (Qa 4)) (QaD (dC (.int 7)) (Qa 4))) (dC (.int 11)))) (dC (.int 69621))) (dC (.int 2147483647)))) (Qd (Qr 6 (Qcc (Qa 0))) (Qd (sIf (QE (dOp gLt (dOp Q4 (Qa 5) (QC (Qa 4) (dC (.int 1)))) (Qa 4))) (Qd (Qr 6 (dOp Q4 (QC (dOp Q4 (Qa 5) (QC (Qa 4) (dC (.int 1)))) (Qa 1)) (Qa 0))) Ql) Ql) (Qd (Qdr 3 QaK (QaH (Qb (dOp Q4 (QC (Qa 4) (Qa 1)) (Qa 0)) (Qb (Qa 6) (Qb (dOr (dOp gEq (Qa 2) (dC (.int 2))) (Qdg (dOp gEq (Qa 2) (dC (.int 3))) (dOp gEq (dOp Q4 (dOp Qdh (Qa 5) (dC (.int 64))) (dC (.int 2))) (dC (.int 1))))) Qe))))) Ql))))) (Qd (Q3 (Qa 3)) Ql)))
theorem Qud(hx:ρ[x]? =some (some (.lst xs,true)))(ha:fa ρ=some r)(hf:r.d.flat=true)(hl:xs.length<16777216)(q:Q (.nx (ρ.set x (some (.lst (xs++[r.d]),true))))):Run (Qdr x QaK fa) ρ Q:=by
 refine⟨_,?_,q⟩
 have hn:r.norm=⟨r.d,true,[]⟩:=by unfold HS.R.norm;rw[if_pos hf]
 unfold Qdr
 rw[hx]
 simp only[QaK,Za,ha,Qb4,Qhy,hn,Qbe,kill,Qem]
 simp[hl]
def Ql9(d:Den):Prop:=∀(m:Nat) (t kind:Int),0<m->m<=1000->0<=t->t<2000000->d [.int m,.int t,.int kind]=some (Qar (QaX m t kind),true)
theorem QtX:Ql9 (QB 7 QhN):=λm t kind h0 hm ht ht2=>by
 refine QaF ?_
 refine run_seq (Qi (r:=⟨.lst [],true,[]⟩) rfl ?_)
 rw[Qz]
 refine run_seq (QaT (List.range m) (λi ρ=>∃j4 j5 j6,ρ=[some (.int m,true),some (.int t,true),some (.int kind,true),some (.lst (((List.range i).map λ(k:Nat)=>QdK m t kind k).map Qcp),true),j4,j5,j6]) (QdE (n:=m) (r:=⟨.int m,true,[]⟩) rfl rfl (by omega)) rfl ⟨none,none,none,rfl⟩ ?_ ?_)
 ·rintro i k ρ hi ⟨j4,j5,j6,rfl⟩
  have hk:i<m/\i=k:=by
   obtain⟨h1,h2⟩:=Zi.mp hi
   simp at h1 h2;exact⟨h1,h2⟩
  obtain⟨hk,rfl⟩:=hk
  refine⟨_,rfl,?_⟩
  have n1:(t+17).natAbs<2^64:=by omega
  have n2:(69621:Int).natAbs<2^64:=by decide
  refine run_seq (Qi (r:=⟨.int (Qbq t i),true,[]⟩) ?_ ?_)
  ·exact Qai (QbQ (QbQ (Qah (a:=t) (b:=17) rfl rfl rfl rfl) rfl (Qah (Qah (QbQ (a:=(i:Int)) (b:=i) rfl rfl rfl rfl (Qey (by omega))) rfl (QbQ (a:=7) (b:=(i:Int)) rfl rfl rfl rfl (Qey (by decide))) rfl) rfl (QfW (.int 11) _) rfl) rfl (Qey n1)) rfl (QfW (.int 69621) _) rfl (QdJ n2)) rfl (QfW (.int 2147483647) _) rfl (by decide)
  ·rw[Qz]
   refine run_seq (Qi (r:=⟨.int m,false,[]⟩) rfl ?_)
   rw[Qmo rfl]
   refine run_seq (f:=sIf _ _ _) (Run.mono (Q:=Nx λρ=>ρ=[some (.int m,true),some (.int t,true),some (.int kind,true),some (.lst (((List.range i).map λ(k:Nat)=>QdK m t kind k).map Qcp),true),some (.int i,true),some (.int (Qbq t i),true),some (.int (QeD m t i),true)]) ?_ ?_)
   ·have e1:∀(ρ:En),ρ=[some (.int m,true),some (.int t,true),some (.int kind,true),some (.lst (((List.range i).map λ(k:Nat)=>QdK m t kind k).map Qcp),true),some (.int i,true),some (.int (Qbq t i),true),some (.int m,true)]->dOp Q4 (Qa 5) (QC (Qa 4) (dC (.int 1))) ρ=some ⟨.int (Qbq t i % (i+1)),true,[]⟩:=by
     rintro ρ rfl
     exact Qai (a:=Qbq t i) (b:=(i:Int)+1) rfl rfl (Qah (a:=(i:Int)) (b:=1) rfl rfl rfl rfl) rfl (by omega)
    refine QQ (b:=decide (Qbq t i % (i+1)<i)) (QL (Q8 (e1 _ rfl) rfl rfl) rfl) (λh=>?_) (λh=>?_)
    ·have h:=of_decide_eq_true h
     refine run_seq (Qi (Qai (a:=Qbq t i % (i+1)+t) (b:=m) (Qah (a:=Qbq t i % (i+1)) (b:=t) (e1 _ rfl) rfl rfl rfl) rfl rfl rfl (by omega)) (Qn ?_))
     rw[Qz]
     unfold QeD
     rw[if_pos h];rfl
    ·have h:=of_decide_eq_false h
     refine Qn ?_
     unfold QeD
     rw[if_neg h];rfl
   ·intro o ho
    cases o with
    | nx ρ=>
     subst ho
     refine run_seq (Qud (r:=⟨Qcp (QdK m t kind i),true,[]⟩) rfl ?_ rfl (by simp;omega) ?_)
     ·have e:=Qs8 (Qda (a:=kind) (b:=2) (fa:=Qa 2) (fb:=dC (.int 2)) (ρ:=[some (.int m,true),some (.int t,true),some (.int kind,true),some (.lst (((List.range i).map λ(k:Nat)=>QdK m t kind k).map Qcp),true),some (.int i,true),some (.int (Qbq t i),true),some (.int (QeD m t i),true)]) rfl rfl rfl rfl)
       (QlR (Qda (fa:=Qa 2) (fb:=dC (.int 3)) rfl rfl rfl rfl) (Qda (fb:=dC (.int 1)) (Qai (fb:=dC (.int 2)) (QeV (fa:=Qa 5) (fb:=dC (.int 64)) rfl rfl rfl rfl (by decide) (by decide)) rfl rfl rfl (by decide)) rfl rfl rfl))
      have e2:dOp Q4 (QC (Qa 4) (Qa 1)) (Qa 0) [some (.int m,true),some (.int t,true),some (.int kind,true),some (.lst (((List.range i).map λ(k:Nat)=>QdK m t kind k).map Qcp),true),some (.int i,true),some (.int (Qbq t i),true),some (.int (QeD m t i),true)]=some ⟨.int ((i+t) % m),true,[]⟩:=
       Qai (Qah rfl rfl rfl rfl) rfl rfl rfl (by omega)
      unfold QaH
      rw[Qu e2 (Qu rfl (Qu e (QZ _)))]
      rfl
     ·refine Qn ⟨some (.int i,true),some (.int (Qbq t i),true),some (.int (QeD m t i),true),?_⟩
      show [some (D.int m,true),some (D.int t,true),some (D.int kind,true),some (D.lst (((List.range i).map λ(k:Nat)=>QdK m t kind k).map Qcp++[Qcp (QdK m t kind i)]),true),_,_,_]=_
      rw[Zbk,ZF,ZF];rfl
    | _=>exact False.elim ho
 ·rintro ρ ⟨j4,j5,j6,rfl⟩
  rw[ZM]
  exact Qaa rfl ⟨rfl,rfl⟩
theorem QfI{x y m:Nat}{f:Nat->Int}{ρ:En}{i:Int}{b:Bool}{Q:Out->Prop}(hx:ρ[x]? =some (some (Qc m f,true)))(hy:ρ[y]? =some (some (.int i,b)))(h0:0<=i)(h:i<m)
  (q:Q (.nx (ρ.set x (some (Qc m (up f i.toNat (f i.toNat+1)),true))))):Run (QcX x QaK (Qa y) (QC (Qm (Qa x) (Qa y)) (dC (.int 1)))) ρ Q:=by
 have e1:Qa y ρ=some ⟨.int i,true,[]⟩:=Qxr hy
 have e2:=Qa4 hx
 exact QdO hx e1 rfl (Qah (Qbw e2 (by simp) e1 rfl h0 h) rfl (QfW (.int 1) _) rfl) rfl h0 h q
theorem Run.nx(h:Run f ρ (Nx Q))(m:∀ρ,Q ρ->Q' ρ):Run f ρ (Nx Q'):=h.mono λo ho=>by
 cases o with
 | nx ρ=>exact m ρ ho
 | _=>exact ho.elim
theorem Qa9(h:Run f ρ (Nx P))(k:∀ρ',P ρ'->Run g ρ' Q):Run (Qd f g) ρ Q:=run_seq (h.nx k)
noncomputable def Qbr(c:Int):Int:=c*48271 % 2147483647
noncomputable def mStart(m c:Int):Int:=Qbr c % (m+1)
noncomputable def Qg2(m c:Int):Int:=(mStart m c+1+Qbr c / 9 % m) % (m+1)
noncomputable def Qdf(m kind c:Int):Int×Int×Bool:=(mStart m c,Qg2 m c,decide (mStart m c<m) && (decide (kind=2) || (decide (kind=3) && decide (Qbr c / 72 % 3=1))))
theorem QpX{m:Nat}(hm:0<m)(kind c:Int):GoodW m (Qdf m kind c):=by
 have h1:=ZI (Qbr c) (by omega:(m:Int)+1≠0)
 have h2:=ZE (Qbr c) (by omega:(0:Int)<m+1)
 have h3:=ZI (Qbr c / 9) (by omega:(m:Int)≠0)
 have h4:=ZE (Qbr c / 9) (by omega:(0:Int)<m)
 have h5:=ZI (mStart m c+1+Qbr c / 9 % m) (by omega:(m:Int)+1≠0)
 have h6:=ZE (mStart m c+1+Qbr c / 9 % m) (by omega:(0:Int)<m+1)
 have h7:=QqL (a:=mStart m c) (x:=1+Qbr c / 9 % m) (n:=(m:Int)+1) (by omega) (by omega)
 rw[← Zbf,show mStart m c % ((m:Int)+1)=mStart m c from Zbs h1 h2]at h7
 refine⟨⟨h1,h5,?_,?_,λz=>h7 z.symm⟩,λh=>?_⟩
 ·show mStart m c<=m;unfold mStart;omega
 ·show Qg2 m c<=m;unfold Qg2;omega
 ·have:(Qdf m kind c).2.2=(decide (mStart m c<m) && (decide (kind=2) || (decide (kind=3) && decide (Qbr c / 72 % 3=1)))):=rfl
  rw[this,Zg,decide_eq_true_eq]at h
  exact h.1
theorem QtM{fa fb:DE}{ρ:En}{ra rb:R}{A B:List (Int×Int×Bool)}(ha:fa ρ=some ra)(ea:ra.d=Qar A)(hb:fb ρ=some rb)(eb:rb.d=Qar B)(hl:A.length+B.length<=16777216):QC fa fb ρ=some ⟨Qar (A++B),true,[]⟩:=by
 unfold QC
 rw[ha,Za,hb,Za,ea,eb]
 simp only[Qar,Zm,Qem,if_pos hl,QaE]
 simp
noncomputable def Qcb(w:Int×Int×Bool):Int×Int:=(if w.2.1<w.1 then w.2.1 else w.1,if w.2.1>w.1 then w.2.1 else w.1)
noncomputable def QiT(w:Int×Int×Bool):Int×Int:=(w.1,w.2.1)
noncomputable def Qal(W:List (Int×Int×Bool)):List (Int×Int):=(W.filter λw=> !w.2.2).map Qcb
noncomputable def QY(W:List (Int×Int×Bool)):List (Int×Int):=(W.filter λw=>w.2.2).map QiT
theorem Qdu{m:Nat}{W:List (Int×Int×Bool)}(h:∀w∈W,GoodW m w):∀s∈Qal W,Good m s/\s.1<s.2:=λs hs=>by
 obtain⟨w,hw,rfl⟩:=ZK.mp hs
 obtain⟨⟨h1,h2,h3,h4,h5⟩,_⟩:=h w (Zau.mp hw).1
 simp only at h1 h2 h3 h4 h5
 unfold Qcb Good
 simp only
 split<;>split<;>omega
theorem QcM{m:Nat}{W:List (Int×Int×Bool)}(h:∀w∈W,GoodW m w):∀s∈QY W,Good m s/\s.1<m:=λs hs=>by
 obtain⟨w,hw,rfl⟩:=ZK.mp hs
 obtain⟨h1,h2⟩:=h w (Zau.mp hw).1
 exact⟨h1,h2 (by simpa using(Zau.mp hw).2)⟩
theorem QkA(W:List (Int×Int×Bool)):(Qal W).length<=W.length:=by unfold Qal;rw[Zm];exact List.length_filter_le _ _
theorem QkQ(W:List (Int×Int×Bool)):(QY W).length<=W.length:=by unfold QY;rw[Zm];exact List.length_filter_le _ _
structure QxI (m:Nat) (t kind:Int) (R L:List (Int×Int)):Prop where
 ex:∃W,(∀w∈QaX m t kind,w∈W)/\(∀w∈W,GoodW m w)/\W.length<=100/\R=Qal W/\L=QY W
theorem QxI.good{m:Nat}{t kind:Int}{R L:List (Int×Int)}(h:QxI m t kind R L):(∀s∈R,Good m s)/\(∀s∈L,Good m s)/\R.length<=100/\L.length<=100:=by
 obtain⟨W,_,h2,h3,rfl,rfl⟩:=h.ex
 exact⟨λs hs=>(Qdu h2 s hs).1,λs hs=>(QcM h2 s hs).1,ZD (QkA W) h3,ZD (QkQ W) h3⟩
theorem Qsy{fa:DE}{ρ:En}{r:R}{W:List (Int×Int×Bool)}(h:fa ρ=some r)(e:r.d=Qar W):Q7 (Qav fa) (.tp [1,2,3]) [none,none,none,none] (QcB (QE (Qa 3))) (QaH (Qb (dBf QiO (Qb (Qa 1) (Qb (Qa 2) Qe))) (Qb (dBf Qje (Qb (Qa 1) (Qb (Qa 2) Qe))) Qe))) ρ=some ⟨Qad (Qal W),true,[]⟩:=by
 rw[QfL W (Qcl h e) rfl λw _=>⟨[none,some (.int w.1,true),some (.int w.2.1,true),some (.bl w.2.2,true)],rfl,Qcw (QL rfl rfl),λ_=>⟨⟨pairD (Qcb w),true,[]⟩,rfl,rfl,rfl⟩⟩]
 unfold Qad Qal
 rw[Zam];rfl
theorem QrG{fa:DE}{ρ:En}{r:R}{W:List (Int×Int×Bool)}(h:fa ρ=some r)(e:r.d=Qar W):Q7 (Qav fa) (.tp [1,2,3]) [none,none,none,none] (QE (Qa 3)) (QaH (Qb (Qa 1) (Qb (Qa 2) Qe))) ρ=some ⟨Qad (QY W),true,[]⟩:=by
 rw[QfL W (Qcl h e) rfl λw _=>⟨[none,some (.int w.1,true),some (.int w.2.1,true),some (.bl w.2.2,true)],rfl,QL rfl rfl,λ_=>⟨⟨pairD (QiT w),true,[]⟩,rfl,rfl,rfl⟩⟩]
 unfold Qad QY
 rw[Zam];rfl
theorem Qim{fa:DE}{ρ:En}{r:R}{ns:List Int}{a b:Int}(h:fa ρ=some r)(e:r.d= .lst (ns.map .int)):∃cs:List Int,cs.length<=ns.length/\QaO fa (Qae (dC (.int a))) (Qae (dC (.int b))) ρ=some ⟨.lst (cs.map .int),true,[]⟩:=by
 refine⟨(ns.drop (HT.sIx ns.length 0 (some a))).take (HT.sIx ns.length ns.length (some b)-HT.sIx ns.length 0 (some a)),by rw[ZaC,ZbD];omega,?_⟩
 unfold QaO Qae
 rw[h,Za,e]
 simp only[QfW,Za,cutD,QaE,Zm,← List.map_drop,← Zbe,QfZ,if_true]
theorem Qii{m:Nat}{t kind:Int}:∀w∈QaX m t kind,GoodW m w:=λw hw=>by
 obtain⟨k,hk,rfl⟩:=ZK.mp hw
 exact QqF (ZH.mp hk)
theorem Qf5(m:Nat)(t kind:Int):(QaX m t kind).length=m:=by simp[QaX]
theorem Qfu:up f i v k=if k=i then v else f k:=rfl
theorem Qa6{fa:DE}{ρ:En}{r:R}{m:Int}{R L:List (Int×Int)}(h:fa ρ=some r)(e:r.d=Qh m R L):
  Qm fa (dC (.int 0)) ρ=some ⟨.int m,true,[]⟩/\Qm fa (dC (.int 1)) ρ=some ⟨Qad R,r.fr,r.M⟩/\Qm fa (dC (.int 2)) ρ=some ⟨Qad L,r.fr,r.M⟩:=by
 unfold Qm
 rw[h]
 simp only[Za,e,QfW]
 exact⟨rfl,rfl,rfl⟩
noncomputable def Qja:DS:=(Qd (Qr 1 (QaD (QT (Qb (dC (.int 0)) Qe)) (QC (Qm (Qa 0) (dC (.int 0))) (dC (.int 1))))) (Qd (Qbb (Qav (Qm (Qa 0) (dC (.int 1)))) (.tp [2,3]) (Qd (QcX 1 QaK (Qa 2) (QC (Qm (Qa 1) (Qa 2)) (dC (.int 1)))) (Qd (QcX 1 QaK (Qa 3) (QC (Qm (Qa 1) (Qa 3)) (dC (.int 1)))) Ql))) (Qd (Qbb (Qav (Qm (Qa 0) (dC (.int 2)))) (.tp [2,3]) (Qd (QcX 1 QaK (Qa 2) (QC (Qm (Qa 1) (Qa 2)) (dC (.int 1)))) Ql)) (Qd (Q3 (QaO (Qa 1) QaJ (Qae (Qm (Qa 0) (dC (.int 0)))))) Ql))))
theorem Qgs{α:Type}{g:α->Int}{xs:List α}{i:Nat}{x:α}(h:xs[i]? =some x):((xs.take (i+1)).map g).sum=((xs.take i).map g).sum+g x:=by
 rw[Zbr,h,ZF,Zaj];simp
def Qkd(d:Den):Prop:=∀(m:Nat) (R L:List (Int×Int)),m<=1000->(∀s∈R,Good m s)->(∀s∈L,Good m s)->d [Qh m R L]=some (Qc m (Qv R L),true)
theorem Qw7:Qkd (QB 4 Qja):=λm R L hm hR hL=>by
 refine QaF ?_
 have it:∀{ρ:En},ρ[0]? =some (some (Qh m R L,false))->Qa 0 ρ=some ⟨Qh m R L,false,[]⟩:=λh=>Qa4 h
 refine run_seq (Qi (Qd0 (n:=m+1) (Qah (Qa6 (it rfl) rfl).1 rfl rfl rfl) rfl (by omega)) ?_)
 rw[Qz]
 refine Qa9 (P:=λρ=>∃j2 j3,ρ=[some (Qh m R L,false),some (Qc (m+1) (λk=>(R.map λr=>isI k r.1+isI k r.2).sum),true),j2,j3]) ?_ ?_
 ·refine QaT R (λi ρ=>∃f j2 j3,(∀k,f k=((R.take i).map λr=>isI k r.1+isI k r.2).sum)/\ρ=[some (Qh m R L,false),some (Qc (m+1) f,true),j2,j3]) (Qcl (Qa6 (it rfl) rfl).2.1 rfl) rfl ⟨λ_=>0,none,none,λk=>by simp,rfl⟩ ?_ ?_
  ·rintro i s ρ hi ⟨f,j2,j3,hf,rfl⟩
   obtain⟨h1,h2,h3,h4,h5⟩:=hR s (Zac hi)
   refine⟨_,rfl,?_⟩
   refine run_seq (QfI rfl rfl h1 (by omega) ?_)
   refine run_seq (QfI rfl rfl h2 (by omega) (Qn ⟨_,_,_,λk=>?_,rfl⟩))
   rw[Qgs hi,← hf k]
   unfold isI
   simp only[Qfu]
   have n1:¬s.1.toNat=s.2.toNat:=by omega
   by_cases c1:k=s.1.toNat
   ·have c2:¬k=s.2.toNat:=by omega
    have c3:s.1=(k:Int):=by omega
    have c4:¬s.2=(k:Int):=by omega
    rw[if_neg c2,if_pos c1,if_pos c3,if_neg c4,c1];omega
   ·have c3:¬s.1=(k:Int):=by omega
    by_cases c2:k=s.2.toNat
    ·have c4:s.2=(k:Int):=by omega
     rw[if_pos c2,if_neg (λz=>n1 z.symm),if_neg c3,if_pos c4,c2];omega
    ·have c4:¬s.2=(k:Int):=by omega
     rw[if_neg c2,if_neg c1,if_neg c3,if_neg c4];omega
  ·rintro ρ ⟨f,j2,j3,hf,rfl⟩
   rw[Zaf]at hf
   have:f=λk=>(R.map λr=>isI k r.1+isI k r.2).sum:=funext hf
   subst this
   exact⟨j2,j3,rfl⟩
 rintro ρ ⟨j2,j3,rfl⟩
 refine Qa9 (P:=λρ=>∃j2 j3,ρ=[some (Qh m R L,false),some (Qc (m+1) (Qv R L),true),j2,j3]) ?_ ?_
 ·refine QaT L (λi ρ=>∃f j2 j3,(∀k,f k=(R.map λr=>isI k r.1+isI k r.2).sum+((L.take i).map λl=>isI k l.1).sum)/\ρ=[some (Qh m R L,false),some (Qc (m+1) f,true),j2,j3]) (Qcl (Qa6 (it rfl) rfl).2.2 rfl) rfl ⟨_,j2,j3,λk=>by simp,rfl⟩ ?_ ?_
  ·rintro i s ρ hi ⟨f,j2,j3,hf,rfl⟩
   obtain⟨h1,h2,h3,h4,h5⟩:=hL s (Zac hi)
   refine⟨_,rfl,?_⟩
   refine run_seq (QfI rfl rfl h1 (by omega) (Qn ⟨_,_,_,λk=>?_,rfl⟩))
   rw[Qgs hi,← Zbf,← hf k]
   unfold isI
   simp only[Qfu]
   by_cases c1:k=s.1.toNat
   ·have c3:s.1=(k:Int):=by omega
    rw[if_pos c1,if_pos c3,c1]
   ·have c3:¬s.1=(k:Int):=by omega
    rw[if_neg c1,if_neg c3];omega
  ·rintro ρ ⟨f,j2,j3,hf,rfl⟩
   rw[Zaf]at hf
   have:f=Qv R L:=funext hf
   subst this
   exact⟨j2,j3,rfl⟩
 rintro ρ ⟨j2,j3,rfl⟩
 exact Qaa (Qhq (Qa4 rfl) rfl (Qa6 (it rfl) rfl).1 rfl (by omega)) ⟨rfl,rfl⟩
def QlI(d:Den):Prop:=∀ns:List Int,d [.lst (ns.map .int),.lst (ns.map .int)]=some (.bl true,true)
theorem Qsz(ns:List Int):QeI (ns.map D.int) (ns.map D.int)=ns.map λn=> .tup [.int n,.int n]:=by
 induction ns with
 | nil=>rfl
 | cons n ns ih=>unfold QeI at ih ⊢;simp only[Zq,ZaF,ih]
theorem Qd9(h:fa ρ=some r)(e:r.d= .lst xs):dBf Qbo (Qb fa Qe) ρ=some ⟨.int xs.length,true,[]⟩:=by
 unfold dBf
 rw[Qu h (QZ _),Za]
 simp[e,Qbo]
theorem Qe3(n:Nat)(ps:List (Int×Int)):(Qad ps).sim (n+2)=true:=by
 unfold Qad
 simp only[D.sim,List.all_map,ZW]
 intro p _
 cases n<;>rfl
theorem Qu9(m:Int)(R L:List (Int×Int)):(Qh m R L).sim 8=true:=by
 unfold Qh
 simp only[D.sim,Zbx,ZbP,Zby,Zca,Zg]
 exact⟨Qe3 5 R,Qe3 5 L⟩
theorem Qpq(ha:fa ρ=some ra)(ea:ra.d=d)(hb:fb ρ=some rb)(eb:rb.d=d)(hs:d.sim 8=true):dOp gNe fa fb ρ=some ⟨.bl false,true,[]⟩:=by
 refine Q8 ha hb ?_
 rw[ea,eb]
 unfold gNe
 rw[hs,QmP hs];rfl
def QlM(d:Den):Prop:=∀(m:Nat) (R L:List (Int×Int)),m<=1000->R.length+R.length+L.length<=1000000->(∀s∈R,Good m s)->(∀s∈L,Good m s)->d [Qh m R L]=some (Qc m (Qv R L),true)
theorem QvE(h:Qfs d):QlM (QB 1 (Qfq d)):=λm R L h1 h2 h3 h4=>Qsg h h1 h2 h3 h4
theorem QpF{fa:DE}{ρ:En}{r:R}{m:Int}{R L:List (Int×Int)}(h:fa ρ=some r)(e:r.d=Qh m R L):QaH (Qb (Qm fa (dC (.int 0))) (Qb (dList (Qb (Qm fa (dC (.int 1))) Qe)) (Qb (dList (Qb (Qm fa (dC (.int 2))) Qe)) Qe))) ρ=some ⟨Qh m R L,true,[]⟩:=by
 obtain⟨e0,e1,e2⟩:=Qa6 h e
 unfold QaH
 rw[Qu e0 (Qu (Qij (A:=R) (Qu e1 (QZ _)) rfl rfl) (Qu (Qij (A:=L) (Qu e2 (QZ _)) rfl rfl) (QZ _)))]
 rfl
theorem QqM(h:0<b)(h2:b<2^200):QdU b=true:=by
 unfold QdU
 have h3:b.natAbs<2^8000:=Zu (by omega:b.natAbs<2^200) (ZaK (by decide) (by decide))
 simp only[Zg,decide_eq_true_eq]
 exact⟨by omega,h3⟩
theorem QzJ(n:Nat)(ns:List Int):(Qy ns).sim (n+1)=true:=by
 unfold Qy
 simp only[D.sim,List.all_map,ZW]
 intro p _
 cases n<;>rfl
def Esc(m:Nat)(W:List (Int×Int×Bool)):Prop:=∀A:Nat->Prop,(∃p,p<m/\A p)->∃w∈W,w.1<m/\A w.1.toNat/\(w.2.1=m∨¬A w.2.1.toNat)
theorem Esc.mono{m:Nat}{W W':List (Int×Int×Bool)}(h:Esc m W)(s:∀w∈W,w∈W'):Esc m W':=λA hA=>let ⟨w,hw,r⟩:=h A hA;⟨w,s w hw,r⟩
def QrV(m:Nat)(O:List Int)(w:Int×Int×Bool)(j:Nat):Prop:=O[j]? =some w.1/\(w.2.1=m∨∃i,i<j/\O[i]? =some w.2.1)
theorem QrV.app{m:Nat}{O O':List Int}{w:Int×Int×Bool}{j:Nat}(h:QrV m O w j):QrV m (O++O') w j:=by
 obtain⟨h1,h2⟩:=h
 have hj:j<O.length:=(Zi.mp h1).1
 refine⟨by rw[Zab hj];exact h1,?_⟩
 rcases h2 with h2 | ⟨i,hi,h2⟩
 ·exact .inl h2
 ·exact .inr ⟨i,hi,by rw[Zab (by omega)];exact h2⟩
noncomputable def Qgy:DS:=(Qd (Qr 3 (QaD (QT (Qb (dC (.int 0)) Qe)) (QC (Qa 0) (dC (.int 1))))) (Qd (Qbb (Qav (Qa 1)) (.tp [4,5,6]) (Qd (QcX 3 QaK (Qa 4) (QC (Qm (Qa 3) (Qa 4)) (dC (.int 1)))) (Qd (sIf (QcB (QE (Qa 6))) (Qd (QcX 3 QaK (Qa 5) (QC (Qm (Qa 3) (Qa 5)) (dC (.int 1)))) Ql) Ql) Ql))) (Qd (Qr 7 (dC (.int 1))) (Qd (Qbb (Qav (QaO (Qa 3) QaJ (Qae (Qa 0)))) (.nm 8) (Qd (Qr 7 (QaD (Qa 7) (Qa 8))) Ql)) (Qd (Q3 (dOp gLe (Qa 7) (Qa 2))) Ql)))))
noncomputable def Qo(m:Nat)(g:Nat->Int):Int:=((List.range m).map g).sum
theorem QW(m:Nat)(g:Nat->Int):Qo (m+1) g=Qo m g+g m:=by
 unfold Qo;rw[Zbk,ZF,Zaj];simp
theorem QU(h:∀i,i<m->f i=g i):Qo m f=Qo m g:=by
 unfold Qo;rw[ZR λi hi=>h i (ZH.mp hi)]
theorem Qaf(m:Nat)(f g:Nat->Int):Qo m (λi=>f i+g i)=Qo m f+Qo m g:=by
 induction m with
 | zero=>rfl
 | succ m ih=>rw[QW,QW,QW,ih];omega
theorem Qs1(m:Nat)(f:Nat->Int):Qo m (λi=> -f i)= -Qo m f:=by
 induction m with
 | zero=>rfl
 | succ m ih=>rw[QW,QW,ih];omega
theorem QO(m:Nat):Qo m (λ_=>0)=0:=by
 induction m with
 | zero=>rfl
 | succ m ih=>rw[QW,ih];rfl
theorem Qf2(m:Nat)(c:Int)(f:Nat->Int):Qo m (λi=>c*f i)=c*Qo m f:=by
 induction m with
 | zero=>simp[Qo]
 | succ m ih=>rw[QW,QW,ih,ZaL]
theorem Qp3(m n:Nat)(f:Nat->Nat->Int):Qo m (λi=>Qo n λj=>f i j)=Qo n λj=>Qo m λi=>f i j:=by
 induction m with
 | zero=>show 0=Qo n λj=>0;rw[QO]
 | succ m ih=>
  rw[QW,ih,← Qaf]
  exact QU λj _=>by rw[QW]
theorem Qaj(hp:p<m)(v:Int)(f:Nat->Int):Qo m (λi=>(if i=p then v else 0)*f i)=v*f p:=by
 induction m with
 | zero=>omega
 | succ m ih=>
  rw[QW]
  by_cases h:p=m
  ·subst h
   rw[if_pos rfl,QU (g:=λ_=>0) λi hi=>by rw[if_neg (by omega)];simp,QO];simp
  ·rw[ih (by omega),if_neg (λz=>h z.symm)];simp
noncomputable def Qt(m:Nat)(T:Nat->Nat->Int)(f c:Nat->Int):Nat->Int:=λj=>f j+Qo m λi=>c i*T i j
theorem Qeu(h:∀i,i<m->f i=g i):Qc m f=Qc m g:=by
 unfold Qc
 congr 1
 refine ZR λi hi=>?_
 rw[h i (ZH.mp hi)]
noncomputable def Qc4:DS:=(Qd (Qbb (Qav (Qa 1)) (.nm 2) (Qd (sIf (QE (dOp gNe (dBf Qbo (Qb (Qa 2) Qe)) (Qm (Qa 0) (dC (.int 0))))) (Qd QK Ql) Ql) Ql)) Ql)
def QgW(d:Den):Prop:=∀(m:Nat) (R L:List (Int×Int)) (fs:List (Nat->Int)),d [Qh m R L,.lst (fs.map λf=>Qc m f)]=some (.non,true)
theorem QnX:QgW (QB 3 Qc4):=λm R L fs=>by
 have key:Run Qc4 (Qat 3 [Qh m R L,.lst (fs.map λf=>Qc m f)]) (Nx λ_=>True):=by
  refine run_seq (QaT fs (λ_ ρ=>∃j2,ρ=[some (Qh m R L,false),some (.lst (fs.map λf=>Qc m f),false),j2]) rfl rfl ⟨none,rfl⟩ ?_ ?_)
  ·rintro i f ρ _ ⟨j2,rfl⟩
   refine⟨_,rfl,?_⟩
   refine run_seq (QQ (b:=false) (QL (Qhb (Qd9 rfl rfl) rfl (Qa6 rfl rfl).1 rfl) (by simp)) (λh=>by cases h) (λ_=>Qn (Qn ⟨_,rfl⟩)))
  ·rintro ρ ⟨j2,rfl⟩
   exact Qn trivial
 obtain⟨o,h1,h2⟩:=key
 unfold QB
 rw[h1]
 cases o with
 | nx ρ=>rfl
 | _=>exact h2.elim
noncomputable def QnK(Qan:Den)(Qaw:Den):DS:=(Qd (Qbd (Qx 2 Qan [] (Qb (Qa 0) (Qb (QT (Qb (Qa 1) (Qb (Qa 2) Qe))) Qe)))) (Qd (Qr 3 (dList (Qb (Qa 1) Qe))) (Qd (Qbb (Qb2 (Qx 1 Qaw [] (Qb (Qa 0) Qe)) (Qa 2)) (.tp [4,5]) (Qd (Qr 3 (Q7 (Qb2 (Qa 3) (Qa 4)) (.tp [1,2]) [none,none,none,some 5] QaN (QC (Qa 1) (QaD (Qa 3) (Qa 2))))) Ql)) (Qd (Q3 (Qa 3)) Ql))))
theorem QdQ(h:fa ρ=some r)(q:Q (.nx ρ)):Run (Qbd fa) ρ Q:=⟨_,by simp[Qbd,h],q⟩
theorem Qpd(f g:Nat->D):QeI ((List.range m).map f) ((List.range m).map g)=(List.range m).map λi=> .tup [f i,g i]:=by
 generalize List.range m=l
 induction l with
 | nil=>rfl
 | cons n ns ih=>unfold QeI at ih ⊢;simp only[Zq,ZaF,ih]
theorem QbK(h:fs ρ=some rs)(e:rs.ds=[Qc m f]):dList fs ρ=some ⟨Qc m f,true,[]⟩:=by
 unfold dList
 rw[h,Za,e]
 simp[Qc,QaE]
theorem QeA(ha:fa ρ=some ra)(ea:ra.d= .lst ((List.range m).map f))(hb:fb ρ=some rb)(eb:rb.d= .lst ((List.range m).map g)):Qb2 fa fb ρ=some ⟨(List.range m).map λi=> .tup [f i,g i],ra.M++rb.M⟩:=by
 unfold Qb2
 rw[ha,Za,hb,Za,ea,eb]
 simp only[Qpd]
theorem Qvj(i j:Nat)(s:Int×Int):(hit i j s).natAbs<=1:=by unfold hit;split<;>split<;>decide
theorem Qfh(i j:Nat):∀S:List (Int×Int),((S.map (hit i j)).sum).natAbs<=S.length
 | []=>by simp
 | s::S=>by
  have:=Qfh i j S
  have:=Qvj i j s
  rw[Zq,ZS,Zk]
  omega
def QjU(d:Den):Prop:=∀(m:Nat) (R L:List (Int×Int)) (f c:Nat->Int),m<=1000->R.length+R.length+L.length<=1000000->(∀s∈R,Good m s)->(∀s∈L,Good m s)->d [Qh m R L,Qc m f,Qc m c]=some (Qc m (Qt m (Qq m (Qj R L)) f c),true)
theorem Qr1(hn:QgW dn)(ht:Qfs dt):QjU (QB 6 (QnK dn dt)):=λm R L f c hm hl hR hL=>by
 have gS:=QaP hR hL
 have tb:∀i j,i<m->j<m->(Qq m (Qj R L) i j).natAbs<2^64:=λi j hi hj=>by
  rw[Qb1 hi hj λs hs=>⟨(gS s hs).1,(gS s hs).2.1⟩]
  have:=Qfh i j (Qj R L)
  have:(Qj R L).length<=1000000:=by unfold Qj;simp;omega
  omega
 refine QaF ?_
 refine run_seq (QdQ (QP rfl (hn m R L [f,c]) rfl) ?_)
 refine run_seq (Qi (QbK rfl rfl) ?_)
 rw[Qz]
 refine Qa9 (P:=λρ=>∃j4 j5,ρ=[some (Qh m R L,false),some (Qc m f,false),some (Qc m c,false),some (Qc m (Qt m (Qq m (Qj R L)) f c),true),j4,j5]) ?_ ?_
 ·refine QaT (List.range m) (λk ρ=>∃j4 j5,ρ=[some (Qh m R L,false),some (Qc m f,false),some (Qc m c,false),some (Qc m (λj=>f j+Qo k λi=>c i*Qq m (Qj R L) i j),true),j4,j5]) (QeA (QP rfl (ht m R L hm hl hR hL) rfl) rfl rfl rfl) rfl ⟨none,none,?_⟩ ?_ ?_
  ·show [some (Qh m R L,false),some (Qc m f,false),some (Qc m c,false),some (Qc m f,true),none,none]=_
   have:Qc m f=Qc m λj=>f j+Qo 0 λi=>c i*Qq m (Qj R L) i j:=Qeu λi _=>by show f i=f i+0;omega
   rw[← this]
  ·rintro k k' ρ hk ⟨j4,j5,rfl⟩
   have hk':k<m/\k=k':=by
    obtain⟨h1,h2⟩:=Zi.mp hk
    simp at h1 h2;exact⟨h1,h2⟩
   obtain⟨hkm,rfl⟩:=hk'
   refine⟨_,rfl,?_⟩
   refine run_seq (Qi ?_ (Qn ⟨_,_,by rw[Qz];rfl⟩))
   have e:=QaG (fi:=Qb2 (Qa 3) (Qa 4)) (t:= .tp [1,2]) (cap:=[none,none,none,some 5]) (fe:=QC (Qa 1) (QaD (Qa 3) (Qa 2))) (ρ:=[some (Qh m R L,false),some (Qc m f,false),some (Qc m c,false),some (Qc m (λj=>f j+Qo k λi=>c i*Qq m (Qj R L) i j),true),some (Qc m (Qq m (Qj R L) k),false),some (.int (c k),true)])
    (List.range m) (QeA rfl rfl rfl rfl) rfl λj hj=>by
     have hj:=ZH.mp hj
     exact⟨[none,some (.int (f j+Qo k λi=>c i*Qq m (Qj R L) i j),true),some (.int (Qq m (Qj R L) k j),true),some (.int (c k),true)],rfl,_,Qah rfl rfl (QbQ rfl rfl rfl rfl (QdJ (tb k j hkm hj))) rfl,rfl,rfl⟩
   refine e.trans ?_
   congr 2
   show D.lst _=D.lst _
   congr 1
   refine ZR λj _=>?_
   show _=D.int (f j+Qo (k+1) λi=>c i*Qq m (Qj R L) i j)
   rw[QW,Zbf]
  ·rintro ρ ⟨j4,j5,rfl⟩
   rw[ZM]
   exact⟨j4,j5,rfl⟩
 rintro ρ ⟨j4,j5,rfl⟩
 exact Qaa rfl ⟨rfl,rfl⟩
structure Qau (m:Nat) (R L:List (Int×Int)):Prop where
 ex:∃W,Esc m W/\(∀w∈W,GoodW m w)/\W.length<=200/\R=Qal W/\L=QY W
theorem Qau.good{m:Nat}{R L:List (Int×Int)}(h:Qau m R L):(∀s∈R,Good m s)/\(∀s∈L,Good m s)/\R.length<=200/\L.length<=200/\(∀s∈R,s.1<s.2)/\∀s∈L,s.1<m:=by
 obtain⟨W,_,h2,h3,rfl,rfl⟩:=h.ex
 exact⟨λs hs=>(Qdu h2 s hs).1,λs hs=>(QcM h2 s hs).1,ZD (QkA W) h3,ZD (QkQ W) h3,λs hs=>(Qdu h2 s hs).2,λs hs=>(QcM h2 s hs).2⟩
theorem QpO(h:d.flat=false):asg i (if fr=true then⟨d,true,[]⟩else HS.R.norm ⟨d,false,M⟩) ρ=(if fr=true then ρ else QbE M ρ).set i (some (d,fr)):=by
 cases fr
 ·simp[HS.R.norm,h,asg]
 ·simp
theorem Qrj(hi:i<m)(g:Good m s):Qo m (λj=>hit i j s)= -(if s.1=i/\s.2=m then 1 else 0):=by
 obtain⟨g1,g2,g3,g4,g5⟩:=g
 have e:(λj:Nat=>hit i j s)=λj=>(if j=s.2.toNat then(if s.1=(i:Int)then 1 else 0)else 0)*1+ -((if j=i then(if s.1=(i:Int)then 1 else 0)else 0)*1):=by
  funext j
  unfold hit
  have e2:(s.2=(j:Int))↔(j=s.2.toNat):=by omega
  have e3:(i=j)↔(j=i):=⟨Eq.symm,Eq.symm⟩
  simp only[e2,e3]
  by_cases a:s.1=(i:Int)
  ·simp only[a,true_and,if_true,Zbq,Int.sub_eq_add_neg]
  ·simp[a]
 rw[e,Qaf,Qs1,Qaj hi]
 by_cases hm:s.2=(m:Int)
 ·have:Qo m (λj=>(if j=s.2.toNat then(if s.1=(i:Int)then(1:Int)else 0)else 0)*1)=0:=by
   rw[QU (g:=λ_=>0) λj hj=>by rw[if_neg (by omega)];rfl,QO]
  rw[this]
  by_cases a:s.1=(i:Int)<;>simp[a,hm]
 ·rw[Qaj (by omega)]
  simp[hm,Int.add_right_neg]
theorem Qdp{α:Type}(m:Nat)(g:Nat->α->Int):∀S:List α,Qo m (λj=>(S.map (g j)).sum)=(S.map λs=>Qo m λj=>g j s).sum
 | []=>by simp[QO]
 | s::S=>by
  simp only[Zq,ZS]
  rw[Qaf,Qdp m g S]
theorem Qhv{α:Type}(c:Int)(f:α->Int):∀S:List α,c*(S.map f).sum=(S.map λs=>c*f s).sum
 | []=>by simp
 | s::S=>by simp only[Zq,ZS,ZaL,Qhv c f S]
theorem QsH:Qc m (Qt m T f λ_=>0)=Qc m f:=Qeu λj _=>by
 unfold Qt
 rw[QU (g:=λ_=>0) λi _=>by simp,QO];omega
theorem Qvi(h:fa ρ=some r)(e:r.d=Qc m f):dBf Qgk (Qb fa Qe) ρ=some ⟨.int (Qo m f),true,[]⟩:=by
 unfold dBf
 rw[Qu h (QZ _),Za]
 have:Qc m f= .lst (((List.range m).map f).map .int):=by unfold Qc;rw[Zam];rfl
 simp only[e,this,Qgk,Qgc,ZX]
 rfl
theorem Qub(ha:fa ρ=some ra)(ea:ra.d=d)(hb:fb ρ=some rb)(eb:rb.d=d)(hs:d.sim 8=true):dOp gEq fa fb ρ=some ⟨.bl true,true,[]⟩:=by
 refine Q8 ha hb ?_
 rw[ea,eb]
 unfold gEq
 rw[hs,QmP hs];rfl
theorem QrY(n m:Nat)(f:Nat->Int):(Qc m f).sim (n+1)=true:=by
 have:Qc m f=Qy ((List.range m).map f):=by unfold Qc Qy;rw[Zam];rfl
 rw[this];exact QzJ n _
structure TP (m:Nat) (T:Nat->Nat->Int):Prop where
 neg:∀p,p<m->T p p<0
 pos:∀i j,i<m->j<m->i≠j->0<=T i j
 bnd:∀i j,i<m->j<m->(T i j).natAbs<2^64
 wt:∃w:Nat->Int,(∀j,0<=w j)/\∀i,i<m->Qo m (λj=>T i j*w j)<= -1
inductive Leg (m:Nat) (T:Nat->Nat->Int) (f:Nat->Int):(Nat->Int)->Prop where
 | nil:Leg m T f λ_=>0
 | step {c:Nat->Int}{p:Nat}{t:Int}:Leg m T f c->p<m->0<=t->t*(0-T p p)<=Qt m T f c p->Leg m T f (up c p (c p+t))
def Stb(m:Nat)(T:Nat->Nat->Int)(g:Nat->Int):Prop:=∀p,p<m->g p<0-T p p
theorem Qhl(hp:p<m)(j:Nat):Qt m T f (up c p (c p+v)) j=Qt m T f c j+v*T p j:=by
 unfold Qt
 have e2:(λi=>up c p (c p+v) i*T i j)=λi=>c i*T i j+(if i=p then v else 0)*T i j:=by
  funext i
  unfold up
  by_cases h:i=p
  ·subst h;simp only[if_true];rw[Zax]
  ·simp[h]
 rw[e2,Qaf,Qaj hp]
 omega
theorem Leg.nonneg(h:Leg m T f c):∀i,0<=c i:=by
 induction h with
 | nil=>intro i;exact Zak _
 | step _ _ ht _ ih=>
  intro i
  unfold up
  split
  ·have:=ih ‹Nat›;rename_i p _ _ _ _ _;have:=ih p;omega
  ·exact ih i
theorem QaI(h:∀i,i<m->f i<=g i):Qo m f<=Qo m g:=by
 induction m with
 | zero=>exact Zak _
 | succ m ih=>
  rw[QW,QW]
  have:=ih λi hi=>h i (by omega)
  have:=h m (by omega)
  omega
theorem Leg.least(tp:TP m T)(h:Leg m T f c)(h0:∀i,i<m->0<=c' i)(hs:Stb m T (Qt m T f c')):∀i,i<m->c i<=c' i:=by
 induction h with
 | nil=>exact h0
 | @step c p t _ hp ht hle ih=>
  intro i hi
  unfold up
  split
  ·rename_i e
   subst e
   have key:Qt m T f c i+(c' i-c i)*T i i<=Qt m T f c' i:=by
    unfold Qt
    have e1:Qo m (λk=>c k*T k i)+(c' i-c i)*T i i=Qo m (λk=>c k*T k i+(if k=i then c' i-c i else 0)*T k i):=by rw[Qaf,Qaj hi]
    have e2:Qo m (λk=>c k*T k i+(if k=i then c' i-c i else 0)*T k i)<=Qo m (λk=>c' k*T k i):=by
     refine QaI λk hk=>?_
     by_cases hki:k=i
     ·subst hki;rw[if_pos rfl,← Zax];rw[show c k+(c' k-c k)=c' k by omega];exact Zak _
     ·rw[if_neg hki,Zar,Zbo]
      exact Zan (ih k hk) (tp.pos k i hk hi hki)
    omega
   have h1:=hs i hi
   have h2:=tp.neg i hi
   by_cases hlt:c i+t<=c' i
   ·exact hlt
   ·exfalso
    have h3:(c' i-c i+1)<=t:=by omega
    have h4:(c' i-c i+1)*(0-T i i)<=t*(0-T i i):=Zan h3 (by omega)
    have h5:(c' i-c i+1)*(0-T i i)=(0-T i i)-(c' i-c i)*T i i:=by rw[Zax,Zba,Zbt,ZbQ];omega
    omega
  ·exact ih i hi
theorem Leg.unique(tp:TP m T)(hc:Leg m T f c)(hd:Leg m T f d)(sc:Stb m T (Qt m T f c))(sd:Stb m T (Qt m T f d)):∀i,i<m->c i=d i:=λi hi=>by
 have h1:=hc.least tp (λi _=>hd.nonneg i) sd i hi
 have h2:=hd.least tp (λi _=>hc.nonneg i) sc i hi
 omega
theorem QnU{m:Nat}{T:Nat->Nat->Int}{f c b:Nat->Int}(j:Nat):Qt m T (λi=>2*f i+b i) (λi=>2*c i) j=2*Qt m T f c j+b j:=by
 unfold Qt
 have e:(λi=>2*c i*T i j)=λi=>2*(c i*T i j):=by funext i;rw[ZaM]
 rw[e,Qf2];show 2*f j+b j+2*_=2*(f j+_)+b j;omega
theorem QcD(j:Nat)(h1:f j=g j)(h2:∀i,i<m->c i=d i):Qt m T f c j=Qt m T g d j:=by
 unfold Qt
 rw[h1,QU λi hi=>by rw[h2 i hi]]
theorem Leg.QxS(h:Leg m T f c)(b:Nat->Int)(hb:∀i,0<=b i):∃d,Leg m T (λi=>2*f i+b i) d/\∀i,d i=2*c i:=by
 induction h with
 | nil=>exact⟨_,.nil,λi=>by simp⟩
 | @step c p t _ hp ht hle ih=>
  obtain⟨d,hd,e⟩:=ih
  have ed:d=λi=>2*c i:=funext e
  subst ed
  refine⟨_,.step (t:=2*t) hd hp (by omega) ?_,λi=>?_⟩
  ·rw[QnU]
   have:=hb p
   have e2:2*t*(0-T p p)=2*(t*(0-T p p)):=by rw[ZaM]
   omega
  ·show up (λi=>2*c i) p (2*c p+2*t) i=2*up c p (c p+t) i
   unfold up
   split
   ·omega
   ·rfl
theorem Leg.cast(h:Leg m T f c)(e:∀i,c i=d i):Leg m T f d:=by
 have:c=d:=funext e
 rw[← this];exact h
theorem Leg.Qto(h:Leg m T f c)(e:∀i,i<m->f i=g i):Leg m T g c:=by
 induction h with
 | nil=>exact .nil
 | @step c p t _ hp ht hle ih=>exact .step ih hp ht (by rw[← QcD p (e p hp) (λ_ _=>rfl)];exact hle)
noncomputable def wtF(m:Nat)(w g:Nat->Int):Int:=Qo m λj=>g j*w j
theorem QyF(hw:∀i,i<m->Qo m (λj=>T i j*w j)<= -1)(hp:p<m)(ht:0<=t):wtF m w (Qt m T f (up c p (c p+t)))<=wtF m w (Qt m T f c)-t:=by
 unfold wtF
 have e:(λj=>Qt m T f (up c p (c p+t)) j*w j)=λj=>Qt m T f c j*w j+t*(T p j*w j):=by
  funext j;rw[Qhl hp,Zax,ZaM]
 rw[e,Qaf,Qf2]
 have h1:t*Qo m (λj=>T p j*w j)<=t*(-1):=ZO (hw p hp) ht
 omega
theorem Qqz(hw:∀j,0<=w j)(hg:∀j,j<m->0<=g j):0<=wtF m w g:=by
 have:=QaI λi hi=>Zaq (hg i hi) (hw i)
 rw[QO]at this
 exact this
theorem Qki(I:Nat->En->Prop)(step:∀n ρ,I n ρ->∃b,g ρ=some b/\(b=false->Q (.nx ρ))/\(b=true->Run fb ρ λo=>match o with | .nx ρ2=>∃n',n'<n/\I n' ρ2 | .ct ρ2=>∃n',n'<n/\I n' ρ2 | .bk ρ2=>Q (.nx ρ2) | .rt d fr=>Q (.rt d fr))):
  ∀(n:Nat) (ρ:En),I n ρ->Run (Qb9 g fb) ρ Q:=by
 intro n
 induction n using Nat.strongRecOn with
 | _ n ih=>
  intro ρ h
  obtain⟨b,hb,hf,ht⟩:=step n ρ h
  unfold Run
  rw[Qq3,hb,Za]
  cases b with
  | false=>exact⟨_,by simp,hf rfl⟩
  | true=>
   obtain⟨o,ho,hq⟩:=ht rfl
   rw[if_pos rfl,ho,Za]
   cases o with
   | nx ρ2=>obtain⟨n',hn,hI⟩:=hq;exact ih n' hn ρ2 hI
   | ct ρ2=>obtain⟨n',hn,hI⟩:=hq;exact ih n' hn ρ2 hI
   | bk ρ2=>exact⟨_,rfl,hq⟩
   | rt d fr=>exact⟨_,rfl,hq⟩
theorem Qvv(ha:fa ρ=some ra)(ea:ra.d= .int a)(hb:fb ρ=some rb)(eb:rb.d= .int b)(h:0<b)(h2:b<2^200):dOp Qdh fa fb ρ=some ⟨.int (a / b),true,[]⟩:=by
 refine Q8 ha hb ?_
 rw[ea,eb]
 show(if QdU b=true then some (D.int (QfY a b))else none)=_
 rw[if_pos (QqM h h2),Qmj _ _ (by omega)]
theorem QeR{i:Nat}(ha:fa ρ=some ra)(ea:ra.d=Qc m f)(hb:fb ρ=some rb)(eb:rb.d= .int i)(h:i<m):Qm fa fb ρ=some ⟨.int (f i),true,[]⟩:=by
 have:=Qbw ha ea hb eb (by omega) (by omega)
 rw[ZP]at this
 exact this
noncomputable def Qkp:DS:=(Qd (Qr 3 (dList (Qb (Qa 1) Qe))) (Qd (Qr 4 (dList (Qb (Qa 2) Qe))) (Qd (Qr 5 (dC (.bl true))) (Qd (Qb9 (QE (Qa 5)) (Qd (Qr 5 (dC (.bl false))) (Qd (Qbb (Qd8 (Qa 0)) (.tp [6,7]) (Qd (Qr 8 (dOp Qdh (Qm (Qa 3) (Qa 6)) (dOp QdN (dC (.int 0)) (Qm (Qa 7) (Qa 6))))) (Qd (sIf (QE (dOp gGt (Qa 8) (dC (.int 0)))) (Qd (Qr 5 (dC (.bl true))) (Qd (QdB (gI λi j=>some (.int (i+j))) 4 QaK (Qa 6) (Qa 8)) (Qd (Qr 3 (Q7 (Qb2 (Qa 3) (Qa 7)) (.tp [1,2]) [none,none,none,some 8] QaN (QC (Qa 1) (QaD (Qa 3) (Qa 2))))) Ql))) Ql) Ql))) Ql))) (Qd (Q3 (QaH (Qb (Qa 3) (Qb (Qa 4) Qe)))) Ql)))))
def QkP(d:Den):Prop:=∀(m:Nat) (T:Nat->Nat->Int) (f k:Nat->Int),m<=1000->TP m T->Leg m T f k->(∀j,j<m->0<=Qt m T f k j)->∃k',d [Qbi m m T,Qc m (Qt m T f k),Qc m k]=some (.tup [Qc m (Qt m T f k'),Qc m k'],true)/\Leg m T f k'/\(∀j,j<m->0<=Qt m T f k' j)/\Stb m T (Qt m T f k')
theorem Qoc{h s:Int}(hs:0<s)(ht:¬0<h / s)(h0:0<=h):h<s:=by
 have:=Int.ediv_nonneg h0 (by omega:0<=s)
 have e:h / s=0:=by omega
 have:=ZE h hs
 have:=Int.emod_add_mul_ediv h s
 rw[e]at this;omega
theorem QoA{h s:Int}(hs:0<s):h / s*s<=h:=Int.ediv_mul_le h (by omega)
theorem Qpg:QkP (QB 9 Qkp):=λm T f k hm tp hk hpos=>by
 obtain⟨w,hw0,hw⟩:=tp.wt
 have key:Run Qkp (Qat 9 [Qbi m m T,Qc m (Qt m T f k),Qc m k]) (Rt λd fr=>∃k',d= .tup [Qc m (Qt m T f k'),Qc m k']/\fr=true/\Leg m T f k'/\(∀j,j<m->0<=Qt m T f k' j)/\Stb m T (Qt m T f k')):=by
  refine run_seq (Qi (QbK rfl rfl) ?_)
  rw[Qz]
  refine run_seq (Qi (QbK rfl rfl) ?_)
  rw[Qz]
  refine run_seq (Qi rfl ?_)
  rw[Qz]
  refine run_seq (Run.mono (Q:=Nx λρ=>∃k' j5 j6 j7 j8,Leg m T f k'/\(∀j,j<m->0<=Qt m T f k' j)/\Stb m T (Qt m T f k')/\ρ=[some (Qbi m m T,false),some (Qc m (Qt m T f k),false),some (Qc m k,false),some (Qc m (Qt m T f k'),true),some (Qc m k',true),j5,j6,j7,j8]) ?_ ?_)
  ·refine Qki (λn ρ=>∃k' bz j6 j7 j8,Leg m T f k'/\(∀j,j<m->0<=Qt m T f k' j)/\(bz=false->Stb m T (Qt m T f k'))/\n=(wtF m w (Qt m T f k')).toNat+(if bz=true then 1 else 0)/\ρ=[some (Qbi m m T,false),some (Qc m (Qt m T f k),false),some (Qc m k,false),some (Qc m (Qt m T f k'),true),some (Qc m k',true),some (.bl bz,true),j6,j7,j8]) ?_ _ _ ⟨k,true,none,none,none,hk,hpos,λh=>by(cases h),rfl,rfl⟩
   rintro n ρ ⟨k',bz,j6,j7,j8,hL,hP,hS,rfl,rfl⟩
   refine⟨bz,QL rfl rfl,λh=>⟨k',_,_,_,_,hL,hP,hS h,rfl⟩,λhb=>?_⟩
   subst hb
   refine run_seq (Qi rfl ?_)
   rw[Qz]
   refine QA (Run.mono (Q:=Nx λρ=>∃k2 b2 j6 j7 j8,Leg m T f k2/\(∀j,j<m->0<=Qt m T f k2 j)/\(b2=false->Stb m T (Qt m T f k2))/\(wtF m w (Qt m T f k2)+(if b2=true then 1 else 0)<=wtF m w (Qt m T f k'))/\ρ=[some (Qbi m m T,false),some (Qc m (Qt m T f k),false),some (Qc m k,false),some (Qc m (Qt m T f k2),true),some (Qc m k2,true),some (.bl b2,true),j6,j7,j8]) ?_ ?_)
   ·refine QaT (List.range m) (λi ρ=>∃k2 b2 j6 j7 j8,Leg m T f k2/\(∀j,j<m->0<=Qt m T f k2 j)/\(b2=false->∀p,p<i->Qt m T f k2 p<0-T p p)/\(wtF m w (Qt m T f k2)+(if b2=true then 1 else 0)<=wtF m w (Qt m T f k'))/\ρ=[some (Qbi m m T,false),some (Qc m (Qt m T f k),false),some (Qc m k,false),some (Qc m (Qt m T f k2),true),some (Qc m k2,true),some (.bl b2,true),j6,j7,j8]) rfl (QiR (α:=Nat) m _) ⟨k',false,_,_,_,hL,hP,λ_ p hp=>absurd hp (by omega),by simp,rfl⟩ ?_ ?_
    ·rintro i p ρ hi ⟨k2,b2,j6,j7,j8,hL2,hP2,hS2,hW2,rfl⟩
     have hp':i<m/\i=p:=by
      obtain⟨h1,h2⟩:=Zi.mp hi
      simp at h1 h2;exact⟨h1,h2⟩
     obtain⟨him,rfl⟩:=hp'
     have hneg:=tp.neg i him
     have hb:=tp.bnd i i him him
     have h0:=hP2 i him
     refine⟨_,rfl,?_⟩
     refine run_seq (Qi (Qvv (QeR rfl rfl rfl rfl him) rfl (Q8 rfl (QeR rfl rfl rfl rfl him) rfl) rfl (by omega) (by omega)) ?_)
     rw[Qz]
     generalize et:Qt m T f k2 i / (0-T i i)=t
     have t0:0<=t:=by rw[← et];exact Int.ediv_nonneg h0 (by omega)
     refine QA (QQ (QL rfl rfl) (λh=>?_) (λh=>?_))
     ·have h:=of_decide_eq_true h
      have hle:t*(0-T i i)<=Qt m T f k2 i:=by rw[← et];exact QoA (by omega)
      refine run_seq (Qi rfl ?_)
      rw[Qz]
      refine run_seq (Qr7 rfl rfl rfl rfl (by omega) (by omega) rfl ?_)
      rw[ZP]
      refine run_seq (Qi (r:=⟨Qc m (Qt m T f (up k2 i (k2 i+t))),true,[]⟩) ?_ (Qn (Qn ?_)))
      ·have e:=QaG (fi:=Qb2 (Qa 3) (Qa 7)) (t:= .tp [1,2]) (cap:=[none,none,none,some 8]) (fe:=QC (Qa 1) (QaD (Qa 3) (Qa 2))) (ρ:=[some (Qbi m m T,false),some (Qc m (Qt m T f k),false),some (Qc m k,false),some (Qc m (Qt m T f k2),true),some (Qc m (up k2 i (k2 i+t)),true),some (.bl true,true),some (.int i,true),some (Qc m (T i),false),some (.int t,true)])
        (List.range m) (QeA rfl rfl rfl rfl) rfl λj hj=>by
         have hj:=ZH.mp hj
         exact⟨[none,some (.int (Qt m T f k2 j),true),some (.int (T i j),true),some (.int t,true)],rfl,_,Qah rfl rfl (QbQ rfl rfl rfl rfl (QdJ (tp.bnd i j him hj))) rfl,rfl,rfl⟩
       refine e.trans ?_
       congr 2
       show D.lst _=D.lst _
       congr 1
       refine ZR λj _=>?_
       rw[Qhl him]
      ·rw[Qz]
       have hup:=QyF hw (f:=f) (c:=k2) him t0
       refine⟨up k2 i (k2 i+t),true,_,_,_,.step hL2 him t0 hle,λj hj=>?_,λz=>(by cases z),?_,rfl⟩
       ·rw[Qhl him]
        by_cases hji:j=i
        ·subst hji
         have:t*T j j= -(t*(0-T j j)):=by rw[Int.zero_sub,Int.mul_neg,Int.neg_neg]
         omega
        ·have:=hP2 j hj
         have:=Zaq t0 (tp.pos i j him hj (λz=>hji z.symm))
         omega
       ·rw[if_pos rfl]
        have:(0:Int)<=if b2=true then 1 else 0:=by split<;>omega
        omega
     ·have h:=of_decide_eq_false h
      refine Qn (Qn ⟨k2,b2,_,_,_,hL2,hP2,λhb2 p hp=>?_,hW2,rfl⟩)
      by_cases hpi:p=i
      ·subst hpi;exact Qoc (by omega) (by rw[et];exact h) h0
      ·exact hS2 hb2 p (by omega)
    ·rintro ρ ⟨k2,b2,j6,j7,j8,hL2,hP2,hS2,hW2,rfl⟩
     rw[ZM]at hS2
     exact⟨k2,b2,_,_,_,hL2,hP2,hS2,hW2,rfl⟩
   ·intro o ho
    cases o with
    | nx ρ=>
     obtain⟨k2,b2,j6,j7,j8,hL2,hP2,hS2,hW2,rfl⟩:=ho
     refine Qn ⟨_,?_,k2,b2,_,_,_,hL2,hP2,hS2,rfl,rfl⟩
     have n1:=Qqz hw0 hP2
     rw[if_pos rfl]
     cases b2<;>simp at hW2 ⊢ <;>omega
    | _=>exact ho.elim
  ·intro o ho
   cases o with
   | nx ρ=>
    obtain⟨k',j5,j6,j7,j8,hL,hP,hS,rfl⟩:=ho
    exact Qaa rfl ⟨k',rfl,rfl,hL,hP,hS⟩
   | _=>exact ho.elim
 obtain⟨o,h1,h2⟩:=key
 cases o with
 | rt d fr=>
  obtain⟨k',rfl,rfl,h3,h4,h5⟩:=h2
  exact⟨k',by unfold QB;rw[h1];rfl,h3,h4,h5⟩
 | _=>exact h2.elim
def Qic(m:Nat)(S:List (Int×Int)):Prop:=∀A:Nat->Prop,(∃p,p<m/\A p)->∃s∈S,s.1<m/\A s.1.toNat/\(s.2=m∨¬A s.2.toNat)
theorem Qe8(h:Esc m W):Qic m (Qj (Qal W) (QY W)):=λA hA=>by
 obtain⟨w,hw,h1,h2,h3⟩:=h A hA
 refine⟨(w.1,w.2.1),?_,h1,h2,h3⟩
 unfold Qj
 cases e:w.2.2 with
 | true=>exact Ze _ (ZK.mpr ⟨w,Zau.mpr ⟨hw,e⟩,rfl⟩)
 | false=>
  have hr:Qcb w∈Qal W:=ZK.mpr ⟨w,Zau.mpr ⟨hw,by simp[e]⟩,rfl⟩
  by_cases hlt:w.2.1<w.1
  ·refine Zd _ (Ze _ (ZK.mpr ⟨Qcb w,hr,?_⟩))
   unfold Qcb
   rw[if_pos hlt,if_neg (by omega)];rfl
  ·refine Zd _ (Zd _ ?_)
   have:Qcb w=(w.1,w.2.1):=by
    unfold Qcb
    rw[if_neg hlt]
    by_cases hgt:w.2.1>w.1
    ·rw[if_pos hgt]
    ·rw[if_neg hgt];rw[show w.2.1=w.1 by omega]
   rw[← this];exact hr
inductive Rk (m:Nat) (S:List (Int×Int)):Nat->Nat->Prop where
 | pit {s:Int×Int}{n:Nat}:s∈S->s.2=m->Rk m S (n+1) s.1.toNat
 | step {s:Int×Int}{k n:Nat}:s∈S->s.2≠m->Rk m S k s.2.toNat->k<n->Rk m S n s.1.toNat
theorem Qig{P:Nat->Prop}(h:∃n,P n):∃n,P n/\∀k,k<n->¬P k:=by
 obtain⟨n,hn⟩:=h
 induction n using Nat.strongRecOn with
 | _ n ih=>
  by_cases h:∃k,k<n/\P k
  ·obtain⟨k,hk,h⟩:=h;exact ih k hk h
  ·exact⟨n,hn,λk hk hx=>h ⟨k,hk,hx⟩⟩
theorem QyH(he:Qic m S):∀p,p<m->∃n,Rk m S n p:=λp hp=>by
 by_cases h:∃n,Rk m S n p
 ·exact h
 ·exfalso
  obtain⟨s,hs,h1,h2,h3⟩:=he (λp=>¬ ∃n,Rk m S n p) ⟨p,hp,h⟩
  by_cases e:s.2=m
  ·exact h2 ⟨1,.pit hs e⟩
  ·rcases h3 with h3 | h3
   ·exact e h3
   ·have:∃n,Rk m S n s.2.toNat:=Classical.byContradiction λz=>h3 z
    obtain⟨k,hk⟩:=this
    exact h2 ⟨k+1,.step hs e hk (by omega)⟩
theorem QjC{m:Nat}{S:List (Int×Int)}(hg:∀s∈S,Good m s)(he:Qic m S):∃r:Nat->Nat,r m=0/\∀p,p<m->∃s∈S,s.1=p/\r s.2.toNat<r p:=by
 have h:∀p,∃n,(p<m->Rk m S n p/\∀k,k<n->¬Rk m S k p)/\(p=m->n=0):=λp=>by
  by_cases hp:p<m
  ·obtain⟨n,hn⟩:=Qig (QyH he p hp)
   exact⟨n,λ_=>hn,λz=>by omega⟩
  ·exact⟨0,λz=>absurd z hp,λ_=>rfl⟩
 obtain⟨r,hr⟩:=ZbK h
 refine⟨r,(hr m).2 rfl,λp hp=>?_⟩
 have h1:=((hr p).1 hp).1
 generalize r p=n at h1
 cases h1 with
 | @pit s n hs e=>
  obtain⟨g1,g2,g3,g4,g5⟩:=hg s hs
  exact⟨s,hs,by omega,by rw[e,ZP,(hr m).2 rfl];omega⟩
 | @step s k n hs e hk hkn=>
  obtain⟨g1,g2,g3,g4,g5⟩:=hg s hs
  refine⟨s,hs,by omega,?_⟩
  have hl:s.2.toNat<m:=by omega
  have:=((hr s.2.toNat).1 hl).2 k
  have:¬k<r s.2.toNat:=λz=>this z hk
  omega
theorem Qml(r:Nat->Nat):∀m:Nat,∃N,∀p,p<=m->r p<=N
 | 0=>⟨r 0,λp hp=>by rw[show p=0 by omega];exact Zn _⟩
 | m+1=>by
  obtain⟨N,hN⟩:=Qml r m
  refine⟨N+r (m+1),λp hp=>?_⟩
  by_cases e:p=m+1
  ·subst e;omega
  ·have:=hN p (by omega);omega
theorem Qpr(hi:i<m)(g:Good m s)(w:Nat->Int)(hw:w m=0):Qo m (λj=>hit i j s*w j)=if s.1=i then w s.2.toNat-w i else 0:=by
 obtain⟨g1,g2,g3,g4,g5⟩:=g
 by_cases h:s.1=i
 ·rw[if_pos h]
  have e:Qo m (λj=>hit i j s*w j)=Qo m (λj=>(if j=s.2.toNat then 1 else 0)*w j+(if j=i then-1 else 0)*w j):=QU λj _=>by
   have:hit i j s=(if j=s.2.toNat then 1 else 0)+(if j=i then-1 else 0):=by
    unfold hit
    by_cases a:s.2=j
    ·by_cases b:i=j
     ·rw[if_pos ⟨h,a⟩,if_pos ⟨h,b⟩,if_pos (by omega),if_pos b.symm];omega
     ·rw[if_pos ⟨h,a⟩,if_neg (λz=>b z.2),if_pos (by omega),if_neg (λz=>b z.symm)];omega
    ·by_cases b:i=j
     ·rw[if_neg (λz=>a z.2),if_pos ⟨h,b⟩,if_neg (by omega),if_pos b.symm];omega
     ·rw[if_neg (λz=>a z.2),if_neg (λz=>b z.2),if_neg (by omega),if_neg (λz=>b z.symm)];omega
   rw[this,Zax]
  rw[e,Qaf,Qaj hi]
  by_cases hm:s.2.toNat<m
  ·rw[Qaj hm];omega
  ·have e2:Qo m (λj=>(if j=s.2.toNat then 1 else 0)*w j)=0:=by
    rw[QU λj hj=>by rw[if_neg (by omega),Zar],QO]
   rw[e2,show s.2.toNat=m by omega,hw];omega
 ·rw[if_neg h]
  rw[QU (g:=λ_=>0) λj hj=>by
   unfold hit
   rw[if_neg (λz=>h z.1),if_neg (λz=>h z.1)];rw[Int.sub_self,Zar],QO]
theorem Qgm{α:Type}{g:α->Int}{X:Int}:∀S:List α,(∀s∈S,g s<=X)->(S.map g).sum<=S.length*X
 | [],_=>by simp
 | a::S,h=>by
  have h1:=h a (by simp)
  have h2:=Qgm S λs hs=>h s (by simp[hs])
  simp only[Zq,ZS,Zk,Int.natCast_add,Zax]
  rw[show((1:Nat):Int)*X=X by simp]
  omega
theorem Qen{α:Type}{g:α->Int}{X Y:Int}:∀(S:List α),(∀s∈S,g s<=X)->(∃s∈S,g s<=Y)->(S.map g).sum<=S.length*X-X+Y
 | [],_,h=>by obtain⟨s,hs,_⟩:=h;exact absurd hs (by simp)
 | a::S,h,h2=>by
  obtain⟨s,hs,hy⟩:=h2
  have hb:∀s∈S,g s<=X:=λs hs=>h s (by simp[hs])
  simp only[Zq,ZS,Zk,Int.natCast_add,Zax]
  rw[show((1:Nat):Int)*X=X by simp]
  rcases Zl.mp hs with e | hs
  ·subst e
   have:=Qgm S hb
   omega
  ·have:=Qen S hb ⟨s,hs,hy⟩
   have:=h a (by simp)
   omega
theorem Qb5{α:Type}{g:α->Int}:∀S:List α,(∀s∈S,0<=g s)->0<=(S.map g).sum
 | [],_=>by simp
 | a::S,h=>by
  have h1:=h a (by simp)
  have h2:=Qb5 S λs hs=>h s (by simp[hs])
  simp only[Zq,ZS]
  omega
theorem Qrm{m:Nat}{S:List (Int×Int)}(hg:∀s∈S,Good m s)(he:Qic m S)(hl:S.length<2^60):TP m (Qq m S):=by
 have hn:∀s∈S,0<=s.1/\0<=s.2:=λs hs=>⟨(hg s hs).1,(hg s hs).2.1⟩
 have pos:∀i j,i<m->j<m->i≠j->0<=Qq m S i j:=λi j hi hj hij=>by
  rw[Qb1 hi hj hn]
  refine Qb5 S λs _=>?_
  unfold hit
  rw[if_neg (λz=>hij z.2) (c:=s.1=i/\i=j)]
  split<;>omega
 obtain⟨r,r0,hr⟩:=QjC hg he
 obtain⟨N,hN⟩:=Qml r m
 have M1:1<=S.length+1:=by omega
 have wt:∃w:Nat->Int,(∀j,0<=w j)/\∀i,i<m->Qo m (λj=>Qq m S i j*w j)<= -1:=by
  refine⟨λv=>(((S.length+1)^N:Nat):Int)-(((S.length+1)^(N-r v):Nat):Int),λj=>?_,λi hi=>?_⟩
  ·have:=ZaK M1 (Nat.sub_le N (r j))
   show(0:Int)<=(((S.length+1)^N:Nat):Int)-(((S.length+1)^(N-r j):Nat):Int)
   omega
  ·generalize hw:(λv=>(((S.length+1)^N:Nat):Int)-(((S.length+1)^(N-r v):Nat):Int))=w
   have hw':∀v,w v=(((S.length+1)^N:Nat):Int)-(((S.length+1)^(N-r v):Nat):Int):=λv=>by rw[← hw]
   have wm:w m=0:=by rw[hw',r0,ZbO];omega
   have e:Qo m (λj=>Qq m S i j*w j)=(S.map λs=>if s.1=(i:Int)then w s.2.toNat-w i else 0).sum:=by
    rw[QU (g:=λj=>(S.map λs=>hit i j s*w j).sum) λj hj=>by
     rw[Qb1 hi hj hn,Zaw,Qhv]
     congr 1
     exact ZR λs _=>Zaw _ _]
    rw[Qdp m (λj s=>hit i j s*w j) S]
    congr 1
    exact ZR λs hs=>Qpr hi (hg s hs) w wm
   rw[e]
   obtain⟨s0,hs0,e0,hlt⟩:=hr i hi
   generalize hX:(((S.length+1)^(N-r i):Nat):Int)=X
   have X1:1<=X:=by
    have:0<(S.length+1)^(N-r i):=Nat.pow_pos (by omega)
    omega
   have key:=Qen (Y:=X-(S.length+1)*X) S (λs _=>by
    show(if s.1=i then w s.2.toNat-w i else 0)<=X
    split
    ·rw[hw',hw' i,hX]
     have:0<=(((S.length+1)^(N-r s.2.toNat):Nat):Int):=Int.natCast_nonneg _
     omega
    ·omega) ⟨s0,hs0,by
    show(if s0.1=i then w s0.2.toNat-w i else 0)<=_
    rw[if_pos e0,hw',hw' i,hX]
    have hb:=hN i (by omega)
    have h1:(S.length+1)^(N-r i+1)<=(S.length+1)^(N-r s0.2.toNat):=ZaK M1 (by omega)
    rw[Nat.pow_succ]at h1
    have h2:((((S.length+1)^(N-r i)*(S.length+1):Nat)):Int)<=(((S.length+1)^(N-r s0.2.toNat):Nat):Int):=by exact_mod_cast h1
    rw[Int.natCast_mul,hX,Zaw]at h2
    rw[show((S.length+1:Nat):Int)=(S.length:Int)+1 by omega]at h2
    omega⟩
   have:((S.length:Int)+1)*X=S.length*X+X:=by rw[Zax,Zba]
   omega
 refine⟨λp hp=>?_,pos,λi j hi hj=>?_,wt⟩
 ·obtain⟨w,w0,hw⟩:=wt
  have h1:=hw p hp
  by_cases hneg:Qq m S p p<0
  ·exact hneg
  ·exfalso
   have:0<=Qo m (λj=>Qq m S p j*w j):=by
    have:=QaI (f:=λ_=>0) (g:=λj=>Qq m S p j*w j) λj hj=>by
     by_cases e:p=j
     ·subst e;exact Zaq (by omega) (w0 _)
     ·exact Zaq (pos p j hp hj e) (w0 _)
    rw[QO]at this
    exact this
   omega
 ·rw[Qb1 hi hj hn]
  have:=Qfh i j S
  omega
theorem Qau.tp{m:Nat}{R L:List (Int×Int)}(h:Qau m R L):TP m (Qq m (Qj R L)):=by
 have hg:=h.good
 refine Qrm (QaP hg.1 hg.2.1) ?_ ?_
 ·obtain⟨W,h1,_,_,rfl,rfl⟩:=h.ex
  exact Qe8 h1
 ·unfold Qj
  simp only[Zp,Zm]
  omega
theorem Qau.neg{m:Nat}{R L:List (Int×Int)}(h:Qau m R L){i:Nat}(hi:i<m):0-Qq m (Qj R L) i i=Qv R L i:=by
 have hg:=h.good
 have hs:=QaP hg.1 hg.2.1
 rw[Qb1 hi hi (λs z=>⟨(hs s z).1,(hs s z).2.1⟩),sum_neg _ _ (λs z=>(hs s z).2.2.2.2),QkR]
 omega
theorem Qau.Qga{m:Nat}{R L:List (Int×Int)}(h:Qau m R L){i:Nat}(hi:i<m):0<Qv R L i:=by
 have:=h.neg hi
 have:=h.tp.neg i hi
 omega
theorem Qg4(m:Nat)(f:Nat->Int):Qc m f= .lst (((List.range m).map f).map D.int):=by
 unfold Qc;rw[Zam];rfl
theorem Qn8:∀{ns:List Int},ns≠[]->∃m,Qh1 ns=some m
 | [],h=>absurd rfl h
 | [n],_=>⟨n,rfl⟩
 | n::k::r,_=>by
  obtain⟨m,hm⟩:=Qn8 (ns:=k::r) (by simp)
  exact⟨if m<n then m else n,by simp only[Qh1,hm,ZX]⟩
theorem QnY:∀{ns:List Int},ns≠[]->∃m,Qin ns=some m
 | [],h=>absurd rfl h
 | [n],_=>⟨n,rfl⟩
 | n::k::r,_=>by
  obtain⟨m,hm⟩:=QnY (ns:=k::r) (by simp)
  exact⟨if n<m then m else n,by simp only[Qin,hm,ZX]⟩
theorem Qqq(h:0<m)(f:Nat->Int):(List.range m).map f≠[]:=by
 intro z
 have:=congrArg List.length z
 simp at this
 omega
theorem Qn2(m0:0<m)(f:Nat->Int):∃v,(∃i,i<m/\v=f i)/\(∀i,i<m->v<=f i)/\∀{fa:DE}{ρ:En}{r:R},fa ρ=some r->r.d=Qc m f->dBf QdX (Qb fa Qe) ρ=some ⟨.int v,true,[]⟩:=by
 obtain⟨v,hv⟩:=Qn8 (Qqq m0 f)
 obtain⟨h1,h2⟩:=Qhi hv
 refine⟨v,?_,λi hi=>h2 _ (ZK.mpr ⟨i,ZH.mpr hi,rfl⟩),λ{fa ρ r} h e=>?_⟩
 ·obtain⟨i,hi,e⟩:=ZK.mp h1
  exact⟨i,ZH.mp hi,e.symm⟩
 ·unfold dBf
  rw[Qu h (QZ _),Za]
  simp only[e,Qg4,QdX,Qgc,Za,hv,ZX]
theorem QtF(m0:0<m)(f:Nat->Int):∃v,(∃i,i<m/\v=f i)/\(∀i,i<m->f i<=v)/\∀{fa:DE}{ρ:En}{r:R},fa ρ=some r->r.d=Qc m f->dBf Qoh (Qb fa Qe) ρ=some ⟨.int v,true,[]⟩:=by
 obtain⟨v,hv⟩:=QnY (Qqq m0 f)
 obtain⟨h1,h2⟩:=Qn5 hv
 refine⟨v,?_,λi hi=>h2 _ (ZK.mpr ⟨i,ZH.mpr hi,rfl⟩),λ{fa ρ r} h e=>?_⟩
 ·obtain⟨i,hi,e⟩:=ZK.mp h1
  exact⟨i,ZH.mp hi,e.symm⟩
 ·unfold dBf
  rw[Qu h (QZ _),Za]
  simp only[e,Qg4,Qoh,Qgc,Za,hv,ZX]
noncomputable def Qcy(Qan:Den):DS:=(Qd (Qbd (Qx 2 Qan [] (Qb (Qa 0) (Qb (Qa 1) Qe)))) (Qd (Qbb (Qav (Qa 1)) (.nm 2) (Qd (sIf (QE (dOp gLt (dBf QdX (Qb (Qa 2) Qe)) (dC (.int 0)))) (Qd QK Ql) Ql) Ql)) Ql))
def QfO(d:Den):Prop:=∀(m:Nat) (R L:List (Int×Int)) (fs:List (Nat->Int)),0<m->(∀f∈fs,∀j,j<m->0<=f j)->d [Qh m R L,.lst (fs.map λf=>Qc m f)]=some (.non,true)
theorem Qmc(hn:QgW dn):QfO (QB 3 (Qcy dn)):=λm R L fs m0 hf=>by
 have key:Run (Qcy dn) (Qat 3 [Qh m R L,.lst (fs.map λf=>Qc m f)]) (Nx λ_=>True):=by
  refine run_seq (QdQ (QP rfl (hn m R L fs) rfl) ?_)
  refine run_seq (QaT fs (λ_ ρ=>∃j2,ρ=[some (Qh m R L,false),some (.lst (fs.map λf=>Qc m f),false),j2]) rfl rfl ⟨none,rfl⟩ ?_ ?_)
  ·rintro i f ρ hi ⟨j2,rfl⟩
   refine⟨_,rfl,?_⟩
   obtain⟨v,⟨q,hq,e⟩,_,hv⟩:=Qn2 m0 f
   have h0:=hf f (Zac hi) q hq
   refine run_seq (QQ (b:=false) (QL (Q8 (hv rfl rfl) rfl rfl) ?_) (λh=>by cases h) (λ_=>Qn (Qn ⟨_,rfl⟩)))
   show D.bl _=_
   rw[decide_eq_false (by omega)]
  ·rintro ρ ⟨j2,rfl⟩
   exact Qn trivial
 obtain⟨o,h1,h2⟩:=key
 unfold QB
 rw[h1]
 cases o with
 | nx ρ=>rfl
 | _=>exact h2.elim
noncomputable def Qn9(Q0:Den)(Qaw:Den)(d_settled:Den):DS:=(Qd (Qbd (Qx 2 Q0 [] (Qb (Qa 0) (Qb (QT (Qb (Qa 1) Qe)) Qe)))) (Qd (Qr 2 (Qx 1 Qaw [] (Qb (Qa 0) Qe))) (Qd (Qr 3 (QaD (QT (Qb (dC (.int 0)) Qe)) (Qm (Qa 0) (dC (.int 0))))) (Qd (Qr 4 (QaD (QT (Qb (dC (.int 0)) Qe)) (Qm (Qa 0) (dC (.int 0))))) (Qd (Qr 5 (QaH (Qb (Qa 3) (Qb (Qa 4) Qe)))) (Qd (Qr 6 (dBf Qoh (Qb (Qa 1) Qe))) (Qd (Qbb (QjL (dOp QdN (Qyy (Qa 6)) (dC (.int 1))) (QdA (dC (.int 1))) (QdA (dC (.int 1)))) (.nm 7) (Qd (Qr 3 (Q7 (Qb2 (Qm (Qa 5) (dC (.int 0))) (Qa 1)) (.tp [1,2]) [none,none,none,some 7] QaN (QC (QaD (dC (.int 2)) (Qa 1)) (dOp Q4 (dOp Qrg (Qa 2) (Qa 3)) (dC (.int 2)))))) (Qd (Qr 4 (Q7 (Qav (Qm (Qa 5) (dC (.int 1)))) (.nm 1) [none,none] QaN (QaD (dC (.int 2)) (Qa 1)))) (Qd (Qr 5 (Qx 3 d_settled [] (Qb (Qa 2) (Qb (Qa 3) (Qb (Qa 4) Qe))))) Ql)))) (Qd (Q3 (Qa 5)) Ql))))))))
noncomputable def QdW(m:Nat)(T:Nat->Nat->Int)(f c:Nat->Int):D:= .tup [Qc m (Qt m T f c),Qc m c]
structure Told (m:Nat) (T:Nat->Nat->Int) (f c:Nat->Int):Prop where
 leg:Leg m T f c
 pos:∀j,j<m->0<=Qt m T f c j
 stb:Stb m T (Qt m T f c)
def QuG(d:Den):Prop:=∀(m:Nat) (R L:List (Int×Int)) (f:Nat->Int),0<m->m<=1000->Qau m R L->(∀j,j<m->0<=f j/\f j<2^200)->∃c,d [Qh m R L,Qc m f]=some (QdW m (Qq m (Qj R L)) f c,true)/\Told m (Qq m (Qj R L)) f c
theorem Qpz(ha:fa ρ=some ra)(ea:ra.d= .int ((n:Int)-1))(hb:fb ρ=some rb)(eb:rb.d= .int (-1))(hc:fc ρ=some rc)(ec:rc.d= .int (-1))(hn:n<=16777216):QjL fa fb fc ρ=some ⟨(List.range n).map λ(k:Nat)=> .int ((n:Int)-1-k),[]⟩:=by
 unfold QjL
 rw[ha,Za,hb,Za,hc,Za,ea,eb,ec]
 show(if(n:Int)-1- -1<=16777216/\_ then _ else _)=_
 rw[if_pos ⟨by omega,by omega,by omega,by omega,by omega⟩]
 rw[show((n:Int)-1- -1).toNat=n by omega]
 rfl
theorem Qxj{fa fb:DE}{ρ:En}{ra rb:R}{a:Int}{k:Nat}(ha:fa ρ=some ra)(ea:ra.d= .int a)(hb:fb ρ=some rb)(eb:rb.d= .int k):dOp Qrg fa fb ρ=some ⟨.int (a / 2^k),true,[]⟩:=by
 refine Q8 ha hb ?_
 rw[ea,eb]
 show(if(0:Int)<=k then some (D.int (a / 2^(k:Int).toNat))else none)=_
 rw[if_pos (by omega),ZP]
theorem QrH(x:Int)(s:Nat):x / 2^s=2*(x / 2^(s+1))+x / 2^s % 2:=by
 have e:x / 2^(s+1)=x / 2^s / 2:=by rw[Int.pow_succ,Int.ediv_ediv_of_nonneg (Int.pow_nonneg (by decide))]
 rw[e]
 omega
theorem QiU(e:∀j,j<m->f j=g j)(h:Told m T f c):Told m T g c where
 leg:=h.leg.Qto e
 pos:=λj hj=>by rw[← QcD j (e j hj) (λ_ _=>rfl)];exact h.pos j hj
 stb:=λj hj=>by rw[← QcD j (e j hj) (λ_ _=>rfl)];exact h.stb j hj
theorem QhP(e:∀j,j<m->f j=g j):QdW m T f c=QdW m T g c:=by
 unfold QdW
 rw[Qeu λj hj=>QcD j (e j hj) λ_ _=>rfl]
theorem Qsu(hn:QfO dn)(ht:Qfs dt)(hs:QkP ds):QuG (QB 8 (Qn9 dn dt ds)):=λm R L f m0 hm hw hf=>by
 have hg:=hw.good
 have tp:=hw.tp
 have htoll:=ht m R L hm (by omega) hg.1 hg.2.1
 generalize hT:Qq m (Qj R L)=T at tp htoll ⊢
 obtain⟨top,⟨q,hq,etop⟩,hmax,evmax⟩:=QtF m0 f
 have htop0:0<=top:=by rw[etop];exact(hf q hq).1
 have hB:Builtin.Int.intBits top<=200:=by
  rw[intBits_le_iff]
  have:top<2^200:=by rw[etop];exact(hf q hq).2
  have e2:((2^200:Nat):Int)=(2:Int)^200:=by rw[Int.natCast_pow];rfl
  generalize (2:Int)^200=z at this e2
  generalize (2:Nat)^200=z' at e2 ⊢
  omega
 have hlt:∀j,j<m->f j / 2^Builtin.Int.intBits top=0:=λj hj=>by
  have h1:=(intBits_le_iff (m:=Builtin.Int.intBits top)).mp (Zn _)
  refine Int.ediv_eq_zero_of_lt (hf j hj).1 ?_
  have h2:=hmax j hj
  have e2:((2^Builtin.Int.intBits top:Nat):Int)=(2:Int)^Builtin.Int.intBits top:=by rw[Int.natCast_pow];rfl
  rw[← e2]
  omega
 generalize hBe:Builtin.Int.intBits top=B at hB hlt
 have key:Run (Qn9 dn dt ds) (Qat 8 [Qh m R L,Qc m f]) (Rt λd fr=>∃c,d=QdW m T f c/\fr=true/\Told m T f c):=by
  have hneed:=hn m R L [f] m0 (λg hg' j hj=>by rw[Zj.mp hg'];exact(hf j hj).1)
  refine run_seq (QdQ (QP rfl hneed rfl) ?_)
  refine run_seq (Qi (QP rfl htoll rfl) ?_)
  rw[Qz]
  refine run_seq (Qi (Qd0 rfl rfl (by omega)) ?_)
  rw[Qz]
  refine run_seq (Qi (Qd0 rfl rfl (by omega)) ?_)
  rw[Qz]
  refine run_seq (Qi rfl ?_)
  refine run_seq (Qi (evmax rfl rfl) ?_)
  rw[Qz]
  refine Qa9 (P:=λρ=>∃c j3 j4 j7,Told m T f c/\ρ=[some (Qh m R L,false),some (Qc m f,false),some (Qbi m m T,true),j3,j4,some (QdW m T f c,true),some (.int top,true),j7]) ?_ ?_
  ·refine QaT (List.range B) (λi ρ=>∃c j3 j4 j7,Told m T (λj=>f j / 2^(B-i)) c/\ρ=[some (Qh m R L,false),some (Qc m f,false),some (Qbi m m T,true),j3,j4,some (QdW m T (λj=>f j / 2^(B-i)) c,true),some (.int top,true),j7])
    (Qpz (Q8 (ra:=⟨.int B,true,[]⟩) (by rw[← hBe];rfl) rfl rfl) rfl rfl rfl rfl rfl (by omega)) rfl ⟨λ_=>0,none,none,none,?_,?_⟩ ?_ ?_
   ·refine QiU (λj hj=>(hlt j hj).symm) ⟨.nil,λj hj=>?_,λj hj=>?_⟩
    ·unfold Qt
     rw[QU λi _=>by rw[Zar],QO]
     exact Zak _
    ·unfold Qt
     rw[QU λi _=>by rw[Zar],QO]
     have:=tp.neg j hj
     show(0:Int)+0<_
     omega
   ·show _=[some (Qh m R L,false),some (Qc m f,false),some (Qbi m m T,true),none,none,some (QdW m T (λj=>f j / 2^B) λ_=>0,true),some (.int top,true),none]
    rw[← QhP λj hj=>(hlt j hj).symm]
    unfold QdW
    rw[QsH]
    rfl
   ·rintro i i' ρ hi ⟨c,j3,j4,j7,hc,rfl⟩
    have hi':i<B/\i=i':=by
     obtain⟨h1,h2⟩:=Zi.mp hi
     simp at h1 h2;exact⟨h1,h2⟩
    obtain⟨hiB,rfl⟩:=hi'
    obtain⟨s,hsB⟩:∃s:Nat,B-i=s+1:=⟨B-i-1,by omega⟩
    have es:(B:Int)-1-i=(s:Int):=by omega
    have es2:B-(i+1)=s:=by omega
    rw[hsB]at hc
    rw[hsB,es2,es]
    generalize hF:(λj=>f j / 2^(s+1))=F at hc
    have hF':∀j,F j=f j / 2^(s+1):=λj=>by rw[← hF]
    refine⟨_,rfl,?_⟩
    have e2:∀j,2*F j+f j / 2^s % 2=f j / 2^s:=λj=>by rw[hF',← QrH]
    have erow:∀j,2*Qt m T F c j+f j / 2^s % 2=Qt m T (λj=>f j / 2^s) (λi=>2*c i) j:=λj=>by
     have:=QnU (m:=m) (T:=T) (f:=F) (c:=c) (b:=λj=>f j / 2^s % 2) j
     rw[← this]
     exact(QcD j (e2 j).symm λ_ _=>rfl).symm
    refine run_seq (Qi (r:=⟨Qc m (Qt m T (λj=>f j / 2^s) (λi=>2*c i)),true,[]⟩) ?_ ?_)
    ·have e:=QaG (fi:=Qb2 (Qm (Qa 5) (dC (.int 0))) (Qa 1)) (t:= .tp [1,2]) (cap:=[none,none,none,some 7]) (fe:=QC (QaD (dC (.int 2)) (Qa 1)) (dOp Q4 (dOp Qrg (Qa 2) (Qa 3)) (dC (.int 2)))) (ρ:=[some (Qh m R L,false),some (Qc m f,false),some (Qbi m m T,true),j3,j4,some (QdW m T F c,true),some (.int top,true),some (.int s,true)])
      (List.range m) (QeA rfl rfl rfl rfl) rfl λj hj=>
       ⟨[none,some (.int (Qt m T F c j),true),some (.int (f j),true),some (.int s,true)],rfl,_,Qah (QbQ rfl rfl rfl rfl (Qey (by decide))) rfl (Qai (Qxj rfl rfl rfl rfl) rfl rfl rfl (by decide)) rfl,rfl,rfl⟩
     refine e.trans ?_
     congr 2
     show D.lst _=D.lst _
     congr 1
     refine ZR λj _=>?_
     rw[erow]
    ·rw[Qz]
     refine run_seq (Qi (r:=⟨Qc m (λi=>2*c i),true,[]⟩) ?_ ?_)
     ·exact QaG (List.range m) (Qcl rfl rfl) rfl λj hj=>⟨[none,some (.int (c j),true)],rfl,_,QbQ rfl rfl rfl rfl (Qey (by decide)),rfl,rfl⟩
     ·rw[Qz]
      obtain⟨d2,hd2,ed2⟩:=hc.leg.QxS (λj=>f j / 2^s % 2) (λj=>ZI _ (by decide))
      have hleg:Leg m T (λj=>f j / 2^s) (λi=>2*c i):=(hd2.cast ed2).Qto λj _=>e2 j
      have hpos:∀j,j<m->0<=Qt m T (λj=>f j / 2^s) (λi=>2*c i) j:=λj hj=>by
       rw[← erow]
       have:=hc.pos j hj
       have:=ZI (f j / 2^s) (by decide:(2:Int)≠0)
       omega
      obtain⟨k',h1,h2,h3,h4⟩:=hs m T _ _ hm tp hleg hpos
      refine run_seq (Qi (QP rfl h1 rfl) (Qn ?_))
      rw[Qz]
      exact⟨k',_,_,_,⟨h2,h3,h4⟩,rfl⟩
   ·rintro ρ ⟨c,j3,j4,j7,hc,rfl⟩
    rw[ZM,Nat.sub_self]at *
    have e:∀j,j<m->f j / 2^0=f j:=λj _=>by rw[Int.pow_zero,Int.ediv_one]
    exact⟨c,_,_,_,QiU e hc,by rw[QhP e]⟩
  ·rintro ρ ⟨c,j3,j4,j7,hc,rfl⟩
   exact Qaa rfl ⟨c,rfl,rfl,hc⟩
 obtain⟨o,h1,h2⟩:=key
 cases o with
 | rt d fr=>
  obtain⟨c,rfl,rfl,h3⟩:=h2
  exact⟨c,by unfold QB;rw[h1];rfl,h3⟩
 | _=>exact h2.elim
theorem Qkh{x:Nat}{W:List (Int×Int×Bool)}{ρ:En}{b:Bool}(h:ρ[x]? =some (some (Qar W,b))):QlZ (Qa x) (QdA (dC (.int 1))) ρ=some ⟨Qar W.reverse,true,[]⟩:=by
 unfold QlZ
 rw[Qa4 h,Za]
 have e:(if(Qar W).flat=true then HS.R.mk (Qar W) true []else if b=true then HS.R.mk (Qar W) true [x]else HS.R.mk (Qar W) false []).d=Qar W:=by cases b<;>rfl
 rw[e]
 show some (QaE (W.map Qcp).reverse _)=_
 rw[← List.map_reverse]
 unfold QaE
 rw[if_pos (QoQ _)];rfl
theorem QhW{m:Nat}{t kind:Int}:Esc m (QaX m t kind):=λA hpt=>by
 obtain⟨p,hp,hA⟩:=hpt
 have ex:∃j:Nat,j<m/\A (((j:Int)+t) % m).toNat:=by
  have h1:=ZI ((p:Int)-t) (by omega:(m:Int)≠0)
  have h2:=ZE ((p:Int)-t) (by omega:(0:Int)<m)
  refine⟨(((p:Int)-t) % m).toNat,by omega,?_⟩
  have e:(((((p:Int)-t) % m).toNat:Int)+t) % m=p:=by
   rw[Int.toNat_of_nonneg h1,Int.emod_add_emod,Int.sub_add_cancel]
   exact Zbs (by omega) (by omega)
  rw[e,ZP];exact hA
 obtain⟨j,⟨hj,hAj⟩,hmin⟩:=Qig ex
 have s1:=ZI ((j:Int)+t) (by omega:(m:Int)≠0)
 have s2:=ZE ((j:Int)+t) (by omega:(0:Int)<m)
 refine⟨QdK m t kind j,ZK.mpr ⟨j,ZH.mpr hj,rfl⟩,?_,hAj,?_⟩
 ·exact s2
 ·show QeD m t j=m∨¬A (QeD m t j).toNat
  unfold QeD
  split
  ·rename_i h
   have n1:=ZI (Qbq t j) (by omega:(j:Int)+1≠0)
   right
   intro z
   refine hmin (Qbq t j % ((j:Int)+1)).toNat (by omega) ⟨by omega,?_⟩
   rw[Int.toNat_of_nonneg n1]
   exact z
  ·exact .inl rfl
noncomputable def Qei(QaL:Den):DS:=(Qd (Qbb (Qav (Qa 1)) (.nm 5) (Qd (Qr 6 (dOp Q4 (QaD (Qa 5) (dC (.int 48271))) (dC (.int 2147483647)))) (Qd (Qr 7 (dOp Q4 (Qa 6) (QC (Qa 2) (dC (.int 1))))) (Qd (Qr 8 (dOp Q4 (QC (QC (Qa 7) (dC (.int 1))) (dOp Q4 (dOp Qdh (Qa 6) (dC (.int 9))) (Qa 2))) (QC (Qa 2) (dC (.int 1))))) (Qd (Qr 9 (QaH (Qb (Qa 7) (Qb (Qa 8) (Qb (Qdg (dOp gLt (Qa 7) (Qa 2)) (dOr (dOp gEq (Qa 3) (dC (.int 2))) (Qdg (dOp gEq (Qa 3) (dC (.int 3))) (dOp gEq (dOp Q4 (dOp Qdh (Qa 6) (dC (.int 72))) (dC (.int 3))) (dC (.int 1)))))) Qe))))) (Qd (sIf (QE (Qx 3 QaL [] (Qb (Qa 2) (Qb (QC (Qa 0) (QT (Qb (Qa 9) Qe))) (Qb (Qa 4) Qe))))) (Qd (Qr 0 (QC (Qa 0) (QT (Qb (Qa 9) Qe)))) Ql) Ql) Ql)))))) (Qd (Q3 (Qa 0)) Ql))
theorem QqU{m:Nat}{kind c:Int}{s0 s1 s4 s5 s6 s7 s8:Option (D×Bool)}{g:DS}{Q:Out->Prop}(hm:0<m)
  (k:Run g [s0,s1,some (.int m,true),some (.int kind,true),s4,some (.int c,true),some (.int (Qbr c),true),some (.int (mStart m c),true),some (.int (Qg2 m c),true),some (Qcp (Qdf m kind c),true)] Q):
  Run (Qd (Qr 6 (dOp Q4 (QaD (Qa 5) (dC (.int 48271))) (dC (.int 2147483647)))) (Qd (Qr 7 (dOp Q4 (Qa 6) (QC (Qa 2) (dC (.int 1))))) (Qd (Qr 8 (dOp Q4 (QC (QC (Qa 7) (dC (.int 1))) (dOp Q4 (dOp Qdh (Qa 6) (dC (.int 9))) (Qa 2))) (QC (Qa 2) (dC (.int 1))))) (Qd (Qr 9 (QaH (Qb (Qa 7) (Qb (Qa 8) (Qb (Qdg (dOp gLt (Qa 7) (Qa 2)) (dOr (dOp gEq (Qa 3) (dC (.int 2))) (Qdg (dOp gEq (Qa 3) (dC (.int 3))) (dOp gEq (dOp Q4 (dOp Qdh (Qa 6) (dC (.int 72))) (dC (.int 3))) (dC (.int 1)))))) Qe))))) g))))
   [s0,s1,some (.int m,true),some (.int kind,true),s4,some (.int c,true),s5,s6,s7,s8] Q:=by
 refine run_seq (Qi (Qai (b:=2147483647) (QbQ (a:=c) (b:=48271) rfl rfl rfl rfl (QdJ (by decide))) rfl rfl rfl (by decide)) ?_)
 rw[Qz]
 refine run_seq (Qi (Qai (a:=Qbr c) (b:=(m:Int)+1) rfl rfl (Qah (a:=(m:Int)) (b:=1) rfl rfl rfl rfl) rfl (by omega)) ?_)
 rw[Qz]
 refine run_seq (Qi (Qai (a:=mStart m c+1+Qbr c / 9 % m) (b:=(m:Int)+1) (Qah (Qah (a:=mStart m c) (b:=1) rfl rfl rfl rfl) rfl (Qai (a:=Qbr c / 9) (b:=m) (QeV (a:=Qbr c) (b:=9) rfl rfl rfl rfl (by decide) (by decide)) rfl rfl rfl (by omega)) rfl) rfl (Qah (a:=(m:Int)) (b:=1) rfl rfl rfl rfl) rfl (by omega)) ?_)
 rw[Qz]
 refine run_seq (Qi (r:=⟨Qcp (Qdf m kind c),true,[]⟩) ?_ ?_)
 ·have e:=QlR (ρ:=[s0,s1,some (.int m,true),some (.int kind,true),s4,some (.int c,true),some (.int (Qbr c),true),some (.int (mStart m c),true),some (.int (Qg2 m c),true),s8])
   (Q8 (g:=gLt) (fa:=Qa 7) (fb:=Qa 2) (ra:=⟨.int (mStart m c),true,[]⟩) (rb:=⟨.int m,true,[]⟩) rfl rfl rfl)
   (Qs8 (Qda (a:=kind) (b:=2) (fa:=Qa 3) (fb:=dC (.int 2)) rfl rfl rfl rfl)
    (QlR (Qda (a:=kind) (b:=3) (fa:=Qa 3) (fb:=dC (.int 3)) rfl rfl rfl rfl) (Qda (a:=Qbr c / 72 % 3) (b:=1) (fb:=dC (.int 1)) (Qai (a:=Qbr c / 72) (b:=3) (fb:=dC (.int 3)) (QeV (a:=Qbr c) (b:=72) (fa:=Qa 6) (fb:=dC (.int 72)) rfl rfl rfl rfl (by decide) (by decide)) rfl rfl rfl (by decide)) rfl rfl rfl)))
  have t:QaH (Qb (Qa 7) (Qb (Qa 8) (Qb (Qdg (dOp gLt (Qa 7) (Qa 2)) (dOr (dOp gEq (Qa 3) (dC (.int 2))) (Qdg (dOp gEq (Qa 3) (dC (.int 3))) (dOp gEq (dOp Q4 (dOp Qdh (Qa 6) (dC (.int 72))) (dC (.int 3))) (dC (.int 1)))))) Qe))) [s0,s1,some (.int m,true),some (.int kind,true),s4,some (.int c,true),some (.int (Qbr c),true),some (.int (mStart m c),true),some (.int (Qg2 m c),true),s8]=some ⟨Qcp (Qdf m kind c),true,[]⟩:=by
   unfold QaH
   rw[Qu (r:=⟨.int (mStart m c),true,[]⟩) rfl (Qu (r:=⟨.int (Qg2 m c),true,[]⟩) rfl (Qu e (QZ _)))]
   rfl
  exact t
 ·rw[Qz]
  exact k
noncomputable def QhO:DS:=(Qd (sIf (bOr (QcB (QE (Qff "list" (Qa 0)))) (QE (dOp gNe (dBf Qbo (Qb (Qa 0) Qe)) (dBf Qbo (Qb (Qa 1) Qe))))) (Qd (Q3 (dC (.bl false))) Ql) Ql) (Qd (Qbb (Qb2 (Qa 0) (Qa 1)) (.tp [2,3]) (Qd (sIf (bOr (QcB (QE (Qff "int" (Qa 2)))) (bOr (QE (Qff "bool" (Qa 2))) (QE (dOp gNe (Qa 2) (Qa 3))))) (Qd (Q3 (dC (.bl false))) Ql) Ql) Ql)) (Qd (Q3 (dC (.bl true))) Ql)))
theorem QyP:QlI (QB 4 QhO):=λns=>by
 refine QaF ?_
 refine QA (QQ (b:=false) (Qdv (a:=false) (b:=false) (Qcw (b:=true) (QL (b:=true) rfl rfl)) (QL (b:=false) (r:=⟨.bl false,true,[]⟩) ?_ rfl)) (λh=>by cases h) (λ_=>Qn ?_))
 ·rw[Qhb (Qd9 (xs:=ns.map D.int) rfl rfl) rfl (Qd9 (xs:=ns.map D.int) rfl rfl) rfl];simp
 refine QA (QaT (toD:=λn=> .tup [.int n,.int n]) ns (λ_ ρ=>∃j2 j3,ρ=[some (.lst (ns.map .int),false),some (.lst (ns.map .int),false),j2,j3]) (ir:=⟨QeI (ns.map D.int) (ns.map D.int),[]⟩) rfl (Qsz ns) ⟨none,none,rfl⟩ ?_ ?_)
 ·rintro i n ρ _ ⟨j2,j3,rfl⟩
  refine⟨_,rfl,?_⟩
  refine QA (QQ (b:=false) (Qdv (a:=false) (b:=false) (Qcw (b:=true) (QL (b:=true) rfl rfl)) (Qdv (a:=false) (b:=false) (QL (b:=false) rfl rfl) (QL (b:=false) (r:=⟨.bl false,true,[]⟩) ?_ rfl))) (λh=>by cases h) (λ_=>Qn (Qn ⟨_,_,rfl⟩)))
  rw[Qhb (a:=n) (b:=n) rfl rfl rfl rfl];simp
 ·rintro ρ ⟨j2,j3,rfl⟩
  exact Qaa rfl ⟨rfl,rfl⟩
noncomputable def QM(m:Nat)(f:Nat->Int):Nat->Int:=λi=>if i<m then f i else 0
theorem Qku(ha:fa ρ=some ra)(ea:ra.d=Qc m f)(hm:m<=1000):QC fa (QT (Qb (dC (.int 0)) Qe)) ρ=some ⟨Qc (m+1) (QM m f),true,[]⟩:=by
 have e:Qc (m+1) (QM m f)= .lst (((List.range m).map λi=>D.int (f i))++[.int 0]):=by
  unfold Qc
  rw[Zbk,ZF]
  congr 2
  ·refine ZR λi hi=>?_
   unfold QM
   rw[if_pos (ZH.mp hi)]
  ·show [D.int (QM m f m)]=_
   unfold QM
   rw[if_neg (by omega)]
 rw[e]
 unfold QC
 rw[ha,Za]
 show(Option.bind (some (⟨.lst [.int 0],true,[]⟩:HS.R)) _)=_
 rw[Za,ea]
 simp only[Qc,Zm,ZM,Qem]
 rw[if_pos (by simp;omega)]
 simp[QaE]
noncomputable def Q9(o:Nat->Int)(s:Int×Int)(j:Nat):Int:=(if s.2=j then o s.1.toNat else 0)-(if s.1=j then o s.1.toNat else 0)
theorem Qpy(hj:j<m)(g:Good m s)(c:Nat->Int):Qo m (λi=>c i*hit i j s)=Q9 (QM m c) s j:=by
 obtain⟨g1,g2,g3,g4,g5⟩:=g
 have e:Qo m (λi=>c i*hit i j s)=Qo m (λi=>(if i=s.1.toNat then(if s.2=j then 1 else 0)-(if s.1=j then 1 else 0)else 0)*c i):=QU λi _=>by
  have:hit i j s=(if i=s.1.toNat then(if s.2=j then 1 else 0)-(if s.1=j then 1 else 0)else 0):=by
   unfold hit
   by_cases a:s.1=i
   ·rw[if_pos (show i=s.1.toNat by omega)]
    congr 1
    ·by_cases b:s.2=j
     ·rw[if_pos ⟨a,b⟩,if_pos b]
     ·rw[if_neg (λz=>b z.2),if_neg b]
    ·by_cases b:i=j
     ·rw[if_pos ⟨a,b⟩,if_pos (by omega)]
     ·rw[if_neg (λz=>b z.2),if_neg (by omega)]
   ·rw[if_neg (λz=>a z.1),if_neg (λz=>a z.1),if_neg (by omega)];rfl
  rw[this,Zaw]
 rw[e]
 unfold Q9 QM
 by_cases hm:s.1.toNat<m
 ·rw[Qaj hm,if_pos hm]
  by_cases a:s.2=j
  ·rw[if_pos a,if_pos a]
   by_cases b:s.1=j
   ·rw[if_pos b,if_pos b];omega
   ·rw[if_neg b,if_neg b];omega
  ·rw[if_neg a,if_neg a]
   by_cases b:s.1=j
   ·rw[if_pos b,if_pos b];omega
   ·rw[if_neg b,if_neg b];omega
 ·rw[QU (g:=λ_=>0) λi hi=>by rw[if_neg (by omega),Zar],QO,if_neg hm]
  simp
theorem QnI{m:Nat}{R L:List (Int×Int)}(hR:∀s∈R,Good m s)(hL:∀s∈L,Good m s)(f c:Nat->Int){j:Nat}(hj:j<m):
  Qt m (Qq m (Qj R L)) f c j=QM m f j+(R.map λs=>Q9 (QM m c) s j+Q9 (QM m c) s.swap j).sum+(L.map λs=>Q9 (QM m c) s j).sum:=by
 have gS:=QaP hR hL
 have e:Qo m (λi=>c i*Qq m (Qj R L) i j)=((Qj R L).map λs=>Q9 (QM m c) s j).sum:=by
  rw[QU (g:=λi=>((Qj R L).map λs=>c i*hit i j s).sum) λi hi=>by
   rw[Qb1 hi hj λs hs=>⟨(gS s hs).1,(gS s hs).2.1⟩,Qhv]]
  rw[Qdp m (λi s=>c i*hit i j s) (Qj R L)]
  congr 1
  exact ZR λs hs=>Qpy hj (gS s hs) c
 unfold Qt
 rw[e,show QM m f j=f j by unfold QM;rw[if_pos hj]]
 unfold Qj
 rw[ZF,ZbW,ZF,ZbW,Zam]
 have:∀R:List (Int×Int),(R.map λs=>Q9 (QM m c) s j+Q9 (QM m c) s.swap j).sum=(R.map λs=>Q9 (QM m c) s j).sum+(R.map ((λs=>Q9 (QM m c) s j) ∘ Prod.swap)).sum:=by
  intro R
  induction R with
  | nil=>rfl
  | cons s R ih=>simp only[Zq,ZS,ih,Function.comp];omega
 rw[this]
 omega
noncomputable def Qe2:DS:=(Qd (Qr 3 (QC (Qa 1) (QT (Qb (dC (.int 0)) Qe)))) (Qd (Qr 4 (QC (Qa 2) (QT (Qb (dC (.int 0)) Qe)))) (Qd (Qbb (Qav (Qm (Qa 0) (dC (.int 1)))) (.tp [5,6]) (Qd (QcX 3 QaK (Qa 5) (dOp QdN (QC (Qm (Qa 3) (Qa 5)) (Qm (Qa 4) (Qa 6))) (Qm (Qa 4) (Qa 5)))) (Qd (QcX 3 QaK (Qa 6) (dOp QdN (QC (Qm (Qa 3) (Qa 6)) (Qm (Qa 4) (Qa 5))) (Qm (Qa 4) (Qa 6)))) Ql))) (Qd (Qbb (Qav (Qm (Qa 0) (dC (.int 2)))) (.tp [5,6]) (Qd (QcX 3 QaK (Qa 5) (dOp QdN (Qm (Qa 3) (Qa 5)) (Qm (Qa 4) (Qa 5)))) (Qd (QcX 3 QaK (Qa 6) (QC (Qm (Qa 3) (Qa 6)) (Qm (Qa 4) (Qa 5)))) Ql))) (Qd (Q3 (QaO (Qa 3) QaJ (Qae (Qm (Qa 0) (dC (.int 0)))))) Ql)))))
def QoD(d:Den):Prop:=∀(m:Nat) (R L:List (Int×Int)) (f c:Nat->Int),m<=1000->(∀s∈R,Good m s)->(∀s∈L,Good m s)->d [Qh m R L,Qc m f,Qc m c]=some (Qc m (Qt m (Qq m (Qj R L)) f c),true)
theorem Qv7:QoD (QB 7 Qe2):=λm R L f c hm hR hL=>by
 refine QaF ?_
 have it:∀{ρ:En},ρ[0]? =some (some (Qh m R L,false))->Qa 0 ρ=some ⟨Qh m R L,false,[]⟩:=λh=>Qa4 h
 refine run_seq (Qi (Qku (m:=m) (f:=f) (ra:=⟨Qc m f,false,[]⟩) rfl rfl hm) ?_)
 rw[Qz]
 refine run_seq (Qi (Qku (m:=m) (f:=c) (ra:=⟨Qc m c,false,[]⟩) rfl rfl hm) ?_)
 rw[Qz]
 generalize ho:QM m c=o
 generalize hh:QM m f=h0
 refine Qa9 (P:=λρ=>∃j5 j6,ρ=[some (Qh m R L,false),some (Qc m f,false),some (Qc m c,false),some (Qc (m+1) (λj=>h0 j+(R.map λs=>Q9 o s j+Q9 o s.swap j).sum),true),some (Qc (m+1) o,true),j5,j6]) ?_ ?_
 ·refine QaT (toD:=pairD) R (λi ρ=>∃g j5 j6,(∀j,g j=h0 j+((R.take i).map λs=>Q9 o s j+Q9 o s.swap j).sum)/\ρ=[some (Qh m R L,false),some (Qc m f,false),some (Qc m c,false),some (Qc (m+1) g,true),some (Qc (m+1) o,true),j5,j6]) (ir:=⟨R.map pairD,[]⟩) (Qcl (Qa6 (it rfl) rfl).2.1 rfl) rfl ⟨h0,none,none,λj=>by simp,rfl⟩ ?_ ?_
  ·rintro i s ρ hi ⟨g,j5,j6,hg,rfl⟩
   obtain⟨h1,h2,h3,h4,h5⟩:=hR s (Zac hi)
   refine⟨_,rfl,?_⟩
   refine run_seq (QdO (m:=m+1) (f:=g) (i:=s.1) (v:=g s.1.toNat+o s.2.toNat-o s.1.toNat) rfl rfl rfl (Q8 (Qah (a:=g s.1.toNat) (b:=o s.2.toNat) (Qbw (m:=m+1) (f:=g) (i:=s.1) rfl rfl rfl rfl h1 (by omega)) rfl (Qbw (m:=m+1) (f:=o) (i:=s.2) rfl rfl rfl rfl h2 (by omega)) rfl) (Qbw (m:=m+1) (f:=o) (i:=s.1) rfl rfl rfl rfl h1 (by omega)) rfl) rfl h1 (by omega) ?_)
   refine run_seq (QdO (m:=m+1) (f:=up g s.1.toNat (g s.1.toNat+o s.2.toNat-o s.1.toNat)) (i:=s.2) (v:=up g s.1.toNat (g s.1.toNat+o s.2.toNat-o s.1.toNat) s.2.toNat+o s.1.toNat-o s.2.toNat) rfl rfl rfl (Q8 (Qah (a:=up g s.1.toNat (g s.1.toNat+o s.2.toNat-o s.1.toNat) s.2.toNat) (b:=o s.1.toNat) (Qbw (m:=m+1) (f:=up g s.1.toNat (g s.1.toNat+o s.2.toNat-o s.1.toNat)) (i:=s.2) rfl rfl rfl rfl h2 (by omega)) rfl (Qbw (m:=m+1) (f:=o) (i:=s.1) rfl rfl rfl rfl h1 (by omega)) rfl) (Qbw (m:=m+1) (f:=o) (i:=s.2) rfl rfl rfl rfl h2 (by omega)) rfl) rfl h2 (by omega) (Qn ⟨_,_,_,λj=>?_,rfl⟩))
   rw[Qgs hi,← Zbf,← hg j]
   unfold Q9
   simp only[Qfu,Prod.fst_swap,Prod.snd_swap]
   have n1:¬s.1.toNat=s.2.toNat:=by omega
   by_cases c1:j=s.1.toNat
   ·have c2:¬j=s.2.toNat:=by omega
    have c3:s.1=(j:Int):=by omega
    have c4:¬s.2=(j:Int):=by omega
    rw[if_neg c2,if_pos c1,if_neg c4,if_pos c3,if_pos c3,if_neg c4,c1];omega
   ·have c3:¬s.1=(j:Int):=by omega
    by_cases c2:j=s.2.toNat
    ·have c4:s.2=(j:Int):=by omega
     rw[if_pos c2,if_neg (λz=>n1 z.symm),if_pos c4,if_neg c3,if_neg c3,if_pos c4,c2];omega
    ·have c4:¬s.2=(j:Int):=by omega
     rw[if_neg c2,if_neg c1,if_neg c4,if_neg c3,if_neg c3,if_neg c4];omega
  ·rintro ρ ⟨g,j5,j6,hg,rfl⟩
   rw[Zaf]at hg
   have:g=λj=>h0 j+(R.map λs=>Q9 o s j+Q9 o s.swap j).sum:=funext hg
   subst this
   exact⟨j5,j6,rfl⟩
 rintro ρ ⟨j5,j6,rfl⟩
 refine Qa9 (P:=λρ=>∃j5 j6,ρ=[some (Qh m R L,false),some (Qc m f,false),some (Qc m c,false),some (Qc (m+1) (λj=>h0 j+(R.map λs=>Q9 o s j+Q9 o s.swap j).sum+(L.map λs=>Q9 o s j).sum),true),some (Qc (m+1) o,true),j5,j6]) ?_ ?_
 ·refine QaT (toD:=pairD) L (λi ρ=>∃g j5 j6,(∀j,g j=h0 j+(R.map λs=>Q9 o s j+Q9 o s.swap j).sum+((L.take i).map λs=>Q9 o s j).sum)/\ρ=[some (Qh m R L,false),some (Qc m f,false),some (Qc m c,false),some (Qc (m+1) g,true),some (Qc (m+1) o,true),j5,j6]) (ir:=⟨L.map pairD,[]⟩) (Qcl (Qa6 (it rfl) rfl).2.2 rfl) rfl ⟨_,j5,j6,λj=>by simp,rfl⟩ ?_ ?_
  ·rintro i s ρ hi ⟨g,j5,j6,hg,rfl⟩
   obtain⟨h1,h2,h3,h4,h5⟩:=hL s (Zac hi)
   refine⟨_,rfl,?_⟩
   refine run_seq (QdO (m:=m+1) (f:=g) (i:=s.1) (v:=g s.1.toNat-o s.1.toNat) rfl rfl rfl (Q8 (Qbw (m:=m+1) (f:=g) (i:=s.1) rfl rfl rfl rfl h1 (by omega)) (Qbw (m:=m+1) (f:=o) (i:=s.1) rfl rfl rfl rfl h1 (by omega)) rfl) rfl h1 (by omega) ?_)
   refine run_seq (QdO (m:=m+1) (f:=up g s.1.toNat (g s.1.toNat-o s.1.toNat)) (i:=s.2) (v:=up g s.1.toNat (g s.1.toNat-o s.1.toNat) s.2.toNat+o s.1.toNat) rfl rfl rfl (Qah (a:=up g s.1.toNat (g s.1.toNat-o s.1.toNat) s.2.toNat) (b:=o s.1.toNat) (Qbw (m:=m+1) (f:=up g s.1.toNat (g s.1.toNat-o s.1.toNat)) (i:=s.2) rfl rfl rfl rfl h2 (by omega)) rfl (Qbw (m:=m+1) (f:=o) (i:=s.1) rfl rfl rfl rfl h1 (by omega)) rfl) rfl h2 (by omega) (Qn ⟨_,_,_,λj=>?_,rfl⟩))
   rw[Qgs hi,← Zbf,← hg j]
   unfold Q9
   simp only[Qfu]
   have n1:¬s.1.toNat=s.2.toNat:=by omega
   by_cases c1:j=s.1.toNat
   ·have c2:¬j=s.2.toNat:=by omega
    have c3:s.1=(j:Int):=by omega
    have c4:¬s.2=(j:Int):=by omega
    rw[if_neg c2,if_pos c1,if_neg c4,if_pos c3,c1];omega
   ·have c3:¬s.1=(j:Int):=by omega
    by_cases c2:j=s.2.toNat
    ·have c4:s.2=(j:Int):=by omega
     rw[if_pos c2,if_neg (λz=>n1 z.symm),if_pos c4,if_neg c3,c2];omega
    ·have c4:¬s.2=(j:Int):=by omega
     rw[if_neg c2,if_neg c1,if_neg c4,if_neg c3];omega
  ·rintro ρ ⟨g,j5,j6,hg,rfl⟩
   rw[Zaf]at hg
   have:g=λj=>h0 j+(R.map λs=>Q9 o s j+Q9 o s.swap j).sum+(L.map λs=>Q9 o s j).sum:=funext hg
   subst this
   exact⟨j5,j6,rfl⟩
 rintro ρ ⟨j5,j6,rfl⟩
 refine Qaa (Qhq (m:=m+1) (n:=m) (f:=λj=>h0 j+(R.map λs=>Q9 o s j+Q9 o s.swap j).sum+(L.map λs=>Q9 o s j).sum) (ra:=⟨Qc (m+1) (λj=>h0 j+(R.map λs=>Q9 o s j+Q9 o s.swap j).sum+(L.map λs=>Q9 o s j).sum),true,[3]⟩) rfl rfl (Qa6 (it rfl) rfl).1 rfl (by omega)) ⟨?_,rfl⟩
 refine Qeu λj hj=>?_
 rw[QnI hR hL f c hj,ho,hh]
theorem QtY{a:Int}{k:Nat}{ρ:En}(h1:a.natAbs<2^200)(h2:k<=1000):dOp Qol (dC (.int a)) (dC (.int k)) ρ=some ⟨.int (a^k),true,[]⟩:=by
 refine Q8 (ra:=⟨.int a,true,[]⟩) (rb:=⟨.int k,true,[]⟩) rfl rfl ?_
 show(if 0<=(k:Int)/\(k:Int)<=1000/\a.natAbs<2^200 then some (D.int (a^(k:Int).toNat))else none)=_
 rw[if_pos ⟨by omega,by omega,h1⟩,ZP]
theorem Qg0(h:fs ρ=some rs)(hl:rs.ds.length<=64):QT fs ρ=some ⟨.lst rs.ds,rs.fr,rs.M⟩:=by
 unfold QT
 rw[h,Za,if_pos hl]
noncomputable def Qp(l:List Nat):D:= .lst (l.map λ(p:Nat)=> .int (p:Int))
theorem QrS(hx:ρ[x]? =some (some (d0,true)))(hp:pf ρ=some is)(hd:Qb4 d0 is=some (.lst xs))(ha:fa ρ=some ⟨d,true,[]⟩)(hl:xs.length<16777216)(q:Q (.nx (ρ.set x (some (Qbe is d0 (.lst (xs++[d])),true))))):Run (Qdr x pf fa) ρ Q:=by
 refine⟨_,?_,q⟩
 unfold Qdr
 rw[hx]
 simp only[hp,Za,ha,hd,Qhy,Qm3,kill,Qem]
 simp[hl]
theorem QiM(l:List Nat):Qab (l.map λ(p:Nat)=>D.int (p:Int))=true:=Qbj (λ_=>rfl) l
theorem Qkn(l:List Nat):Qp l= .lst ((l.map λ(p:Nat)=>(p:Int)).map D.int):=by unfold Qp;rw[Zam];rfl
theorem Qvf{o:Nat}{l:List Nat}:(l.map λ(p:Nat)=>D.int (p:Int)).any (λy=>deq y (.int o))=l.contains o:=by
 induction l with
 | nil=>rfl
 | cons a l ih=>
  rw[Zq,Zbw,ih,Qjj,List.contains_cons]
  congr 1
  by_cases h:a=o
  ·subst h;simp
  ·rw[decide_eq_false (by omega)]
   exact(beq_eq_false_iff_ne.mpr (λz=>h z.symm)).symm
theorem Qsh(n:Nat)(l:List Nat):(Qp l).sim (n+1)=true:=by
 unfold Qp
 simp only[D.sim,List.all_map,ZW]
 intro p _
 cases n<;>rfl
theorem Qps{o:Nat}(ha:fa ρ=some ra)(ea:ra.d= .int o)(hb:fb ρ=some rb)(eb:rb.d=Qp l):dOp (gIn neg) fa fb ρ=some ⟨.bl (if neg then !l.contains o else l.contains o),true,[]⟩:=by
 refine Q8 ha hb ?_
 rw[ea,eb]
 have:(D.int (o:Int)).sim 8=true:=rfl
 show(if(D.int (o:Int)).sim 8 && (Qp l).sim 8 then some (D.bl (if neg then !((l.map λ(p:Nat)=>D.int (p:Int)).any λy=>deq y (.int o))else(l.map λ(p:Nat)=>D.int (p:Int)).any λy=>deq y (.int o)))else none)=_
 rw[this,Qsh 7 l,Qvf]
 rfl
noncomputable def Qor:Option Int->D
 | none=> .non
 | some i=> .int i
@[simp] theorem Qsq(o:Option Int):(Qor o).flat=true:=by cases o<;>rfl
noncomputable def QzL(m:Nat)(F:Nat->Option Int):D:= .lst ((List.range m).map λi=>Qor (F i))
@[simp] theorem Qzq(m:Nat)(F:Nat->Option Int):(QzL m F).flat=false:=rfl
@[simp] theorem Qy3(m:Nat)(F:Nat->Option Int):Qab ((List.range m).map λi=>Qor (F i))=true:=Qbj (f:=λi=>Qor (F i)) (λ_=>Qsq _) _
noncomputable def upO(F:Nat->Option Int)(i:Nat)(v:Option Int):Nat->Option Int:=λj=>if j=i then v else F j
noncomputable def Qdc(t:Int)(F:Nat->Option Int)(s:Int×Int):Nat->Option Int:=if F s.1.toNat=none/\F s.2.toNat=some t then upO F s.1.toNat (some (t+1))else F
noncomputable def QbO(S:List (Int×Int))(F:Nat->Option Int):Nat->Nat->Option Int
 | 0=>F
 | t+1=>S.foldl (Qdc t) (QbO S F t)
noncomputable def Qb3(m:Nat):Nat->Option Int:=λi=>if i=m then some 0 else none
theorem QnB{fa fb:DE}{ρ:En}{ra rb:R}{l:List Nat}{i:Int}{v:Nat}(ha:fa ρ=some ra)(ea:ra.d=Qp l)(hb:fb ρ=some rb)(eb:rb.d= .int i)(h0:0<=i)(h:l[i.toNat]? =some v):Qm fa fb ρ=some ⟨.int v,true,[]⟩:=by
 refine Qev (ns:=l.map λ(p:Nat)=>(p:Int)) ha (by rw[ea,Qkn]) hb eb h0 ?_
 rw[Zy,h];rfl
theorem Qj3{fa:DE}{ρ:En}{r:R}{l:List Nat}(h:fa ρ=some r)(e:r.d=Qp l):dBf Qbo (Qb fa Qe) ρ=some ⟨.int l.length,true,[]⟩:=by
 rw[Qd9 h e,Zm]
noncomputable abbrev wCl:ClT:=[("Way",[]),("Together",[]),("Picked",["picks","used"])]
inductive Wk where
 | plain | both | pick (ps:List Int)
noncomputable def wkD(k:Wk)(u:Nat):D:=match k with
 | .plain=> .obj (.ins "Way" []) []
 | .both=> .obj (.ins "Together" []) []
 | .pick ps=> .obj (.ins "Picked" ["picks","used"]) [Qy ps,.int u]
noncomputable def QaB(a:Addr)(d:D):D:= .obj (.pin a) [d]
noncomputable def QS(m:Nat)(s f:Nat->Int):List Nat:=(List.range m).filter λp=>decide (s p<=f p)
noncomputable def sel(k:Wk)(u:Nat)(l:List Nat):List Nat:=match k with
 | .plain=>l.take 1
 | .both=>l
 | .pick ps=>if l=[]then []else [l.getD (ps.getD u 0 % (l.length:Int)).toNat 0]
noncomputable def nxt(u:Nat)(l:List Nat):Nat:=if l=[]then u else u+1
noncomputable def QX(t:List Nat):Nat->Int:=λp=>if p∈t then 1 else 0
noncomputable def QI(ts:List (List Nat)):Nat->Int:=λp=>(ts.map λt=>QX t p).sum
noncomputable def QcA(ts:List (List Nat)):D:= .lst (ts.map Qp)
noncomputable def Qob:Wk->Prop
 | .pick ps=>ps.length<=1000
 | _=>True
noncomputable def IoE(p:Nat)(a:Addr)(d dp:D):Out->Prop
 | .rt d' fr=>d'= .obj .pair [d,QaB a dp]/\fr=true
 | .nx ρ=>d= .non/\ρ[p]? =some (some (QaB a dp,true))
 | _=>False
theorem Qfx{k p:Nat}{g:DS}{ds:List D}{d dp:D}(h:∀a,Run g (QcL k p a ds) (IoE p a d dp)):QeP k p g ds=some (d,dp):=QtI λa=>by
 obtain⟨o,h1,h2⟩:=h a
 refine⟨o,h1,?_⟩
 cases o with
 | rt d' fr=>
  obtain⟨rfl,rfl⟩:=h2
  show(if a=a then some (d,dp)else none)=_
  rw[if_pos rfl]
 | nx ρ=>
  obtain⟨rfl,e⟩:=h2
  show(match ρ[p]? with | some (some (.obj (.pin b) [dp],true))=>if b=a then some (D.non,dp)else none | _=>none)=_
  rw[e]
  show(if a=a then some (D.non,dp)else none)=_
  rw[if_pos rfl]
 | _=>exact False.elim h2
theorem QeK{fa:DE}{ρ:En}{r:HS.R}{p:Nat}{dp:D}{Q:Out->Prop}(h:fa ρ=some r)(hp:ρ[p]? =some (some (dp,true)))(c:(r.norm.fr && decide r.norm.M.Nodup && !r.norm.M.contains p && !r.d.Qpf)=true)(q:Q (.rt (.obj .pair [r.d,dp]) true)):Run (Qes p fa) ρ Q:=by
 refine⟨_,?_,q⟩
 unfold Qes
 rw[h,Za,hp]
 show(if _ then _ else _)=_
 rw[if_pos c]
theorem QmO{T:ClT}{i:Nat}{f:Str}{fa:DE}{ρ:En}{d d' y:D}{Q:Out->Prop}(h:fa ρ=some ⟨y,true,[]⟩)(hp:ρ[i]? =some (some (d,true)))(e:QgY (putD T f y) d=some d')(q:Q (.nx (ρ.set i (some (d',true))))):Run (Qhx T i f fa) ρ Q:=by
 refine⟨_,?_,q⟩
 unfold Qhx
 rw[h,Za,hp,Qm3]
 show(if _ then _ else _)=_
 rw[if_pos (show(true && decide ([]:List Nat).Nodup && !([]:List Nat).contains i)=true from rfl),e]
 rfl
theorem Qs3{T:ClT}{i:Nat}{f:Str}{fa:DE}{ρ:En}{d d':D}{k m:Int}{Q:Out->Prop}(hp:ρ[i]? =some (some (d,true)))(h1:Qjz T f d=some (.int k))(h:fa ρ=some ⟨.int m,true,[]⟩)(e:QgY (putD T f (.int (k+m))) d=some d')(q:Q (.nx (ρ.set i (some (d',true))))):Run (Qhd T i f fa) ρ Q:=by
 refine⟨_,?_,q⟩
 unfold Qhd
 rw[hp]
 show(Qjz T f d).bind _=_
 rw[h1,Za]
 show(fa ρ).bind _=_
 rw[h,Za]
 show(QgY _ _).map _=_
 rw[e];rfl
theorem QmR{T:MeT}{x i:Nat}{m:Str}{fs:DA}{ρ:En}{r:RA}{d:D}{q:D×D}{Q:Out->Prop}(h:fs ρ=some r)(hp:ρ[i]? =some (some (d,true)))(c:(decide (x≠i) && !r.M.contains i)=true)(e:QeE (ioM T m r.ds) d=some q)(k:Q (.nx ((ρ.set i (some (q.2,true))).set x (some (q.1,true))))):Run (Qhc T x i m fs) ρ Q:=by
 refine⟨_,?_,k⟩
 unfold Qhc
 rw[h,Za,hp]
 show(if _ then _ else _)=_
 rw[if_pos c,e];rfl
noncomputable def QfH(Q0:Den)(Qch:Den):DS:=(Qd (Qbd (Qx 2 Q0 [] (Qb (Qa 0) (Qb (QT (Qb (Qa 1) Qe)) Qe)))) (Qd (Q3 (Q7 (Qd8 (Qx 1 Qch [] (Qb (Qa 0) Qe))) (.tp [1,2]) [none,none,none,some 1] (QE (dOp gGe (Qm (Qa 3) (Qa 1)) (Qa 2))) (Qa 1))) Ql))
def Qfv(d:Den):Prop:=∀(m:Nat) (R L:List (Int×Int)) (f:Nat->Int),0<m->m<=1000->Qau m R L->(∀j,j<m->0<=f j)->d [Qh m R L,Qc m f]=some (Qp (QS m (Qv R L) f),true)
theorem QpI{fa:DE}{ρ:En}{ra:HS.R}{n:Nat}{f:Nat->Int}(ha:fa ρ=some ra)(ea:ra.d=Qc n f):Qd8 fa ρ=some ⟨(List.range n).map λ(i:Nat)=> .tup [.int i,.int (f i)],ra.M⟩:=by
 unfold Qd8
 rw[ha,Za,ea]
 show some (IR.mk (QdC ((List.range n).map λi=>D.int (f i))) ra.M)=_
 congr 2
 unfold QdC
 refine Zbb λi=>?_
 rw[Zy,Zy,Zbh,Zy]
 by_cases z:i<n
 ·rw[Zai z];simp
 ·rw[Zw (by simp;omega)];rfl
theorem QsV{dn ds:Den}(hn:QfO dn)(hs:QlM ds):Qfv (QB 2 (QfH dn ds)):=λm R L f m0 hm hw hf=>by
 obtain⟨g1,g2,g3,g4,_⟩:=hw.good
 refine QaF ?_
 refine run_seq (QdQ (QP rfl (hn m R L [f] m0 λg hg=>by rw[Zj.mp hg];exact hf) rfl) ?_)
 refine Qaa (QfL (keep:=λp=>decide (Qv R L p<=f p)) (out:=λ(p:Nat)=>D.int p) (List.range m) (QpI (QP rfl (hs m R L hm (by omega) g1 g2) rfl) rfl) rfl λp hp=>?_) ⟨rfl,rfl⟩
 have hp:=ZH.mp hp
 refine⟨[none,some (.int p,true),some (.int (Qv R L p),true),some (Qc m f,false)],rfl,?_,λ_=>⟨_,rfl,rfl,rfl⟩⟩
 exact QL (Q8 (d:= .bl (decide (Qv R L p<=f p))) (rb:=⟨.int (Qv R L p),true,[]⟩) (QeR (m:=m) (f:=f) (i:=p) (ra:=⟨Qc m f,false,[]⟩) (rb:=⟨.int p,true,[]⟩) rfl rfl rfl rfl hp) rfl rfl) rfl
theorem QkS{m:Nat}{s f:Nat->Int}{p:Nat}:p∈QS m s f↔p<m/\s p<=f p:=by
 unfold QS
 rw[Zau,ZH,decide_eq_true_eq]
theorem Qnx{m:Nat}{s f:Nat->Int}:(QS m s f).Nodup:=List.nodup_range.filter _
theorem Qnc{fa:DE}{ρ:En}{ra:HS.R}{l:List Nat}(ha:fa ρ=some ra)(ea:ra.d=Qp l):QaO fa QaJ (Qae (dC (.int 1))) ρ=some ⟨Qp (l.take 1),true,[]⟩:=by
 have hc:cutD (l.map λ(p:Nat)=>D.int (p:Int)) none (some 1)=(l.take 1).map λ(p:Nat)=>D.int (p:Int):=by
  unfold cutD
  rw[show(1:Int)=((1:Nat):Int)from rfl]
  simp only[Zm,HT.Qgo,HT.Qhs,ZbO,ZbY]
  rw[← Zbe]
  congr 1
  cases l with
  | nil=>rfl
  | cons a l=>simp
 unfold QaO QaJ Qae
 simp only[ha,QfW,Za,ea,Qp,hc,QaE,QiM,if_true]
noncomputable def QgI(Q5:Den):DS:=(Qd (Qes 0 (QaO (Qx 2 Q5 [] (Qb (Qa 1) (Qb (Qa 2) Qe))) QaJ (Qae (dC (.int 1))))) Ql)
noncomputable def Qek(Q5:Den):DS:=(Qd (Qes 0 (Qx 2 Q5 [] (Qb (Qa 1) (Qb (Qa 2) Qe)))) Ql)
noncomputable def Qe4(Q5:Den):DS:=(Qd (Qr 3 (Qx 2 Q5 [] (Qb (Qa 1) (Qb (Qa 2) Qe)))) (Qd (sIf (QcB (QE (Qa 3))) (Qd (Qes 0 (QT Qe)) Ql) Ql) (Qd (Qr 4 (dIf (QE (dOp gLt (QdL wCl "used" (Qa 0)) (dBf Qbo (Qb (QdL wCl "picks" (Qa 0)) Qe)))) (Qm (QdL wCl "picks" (Qa 0)) (QdL wCl "used" (Qa 0))) (dC (.int 0)))) (Qd (Qhd wCl 0 "used" (dC (.int 1))) (Qd (Qes 0 (QT (Qb (Qm (Qa 3) (dOp Q4 (Qa 4) (dBf Qbo (Qb (Qa 3) Qe)))) Qe))) Ql)))))
noncomputable def Qel:DS:=(Qd (Qhx wCl 0 "picks" (dList (Qb (Qa 1) Qe))) (Qd (Qhx wCl 0 "used" (dC (.int 0))) Ql))
def Qf3(k:Wk)(e:QbI):Prop:=∀(u m:Nat) (R L:List (Int×Int)) (f:Nat->Int),0<m->m<=1000->Qau m R L->(∀j,j<m->0<=f j)->e [wkD k u,Qh m R L,Qc m f]=some (Qp (sel k u (QS m (Qv R L) f)),wkD k (nxt u (QS m (Qv R L) f)))
theorem QxT{dr:Den}(hr:Qfv dr):Qf3 .plain (QeP 3 0 (QgI dr)):=λu m R L f m0 hm hw hf=>Qfx λa=>by
 refine QA (QeK (Qnc (QP (r:=⟨[Qh m R L,Qc m f],false,[]⟩) rfl (hr m R L f m0 hm hw hf) rfl) rfl) (dp:=QaB a (wkD .plain u)) rfl rfl ?_)
 exact⟨rfl,rfl⟩
theorem Qnt{dr:Den}(hr:Qfv dr):Qf3 .both (QeP 3 0 (Qek dr)):=λu m R L f m0 hm hw hf=>Qfx λa=>by
 refine QA (QeK (QP (r:=⟨[Qh m R L,Qc m f],false,[]⟩) rfl (hr m R L f m0 hm hw hf) rfl) (dp:=QaB a (wkD .both u)) rfl rfl ?_)
 exact⟨rfl,rfl⟩
theorem QkM{fa:DE}{ρ:En}{r:HS.R}{cs:List Int}(h:fa ρ=some r)(e:r.d=Qy cs):dList (Qb fa Qe) ρ=some ⟨Qy cs,true,[]⟩:=by
 unfold dList
 rw[Qu h (QZ ρ)]
 simp[e,Qy,QaE]
theorem Quf:∀ps:List Int,QeP 2 0 Qel [.obj (.ins "Picked" []) [],Qy ps]=some (.non,wkD (.pick ps) 0):=λps=>Qfx λa=>by
 refine run_seq (QmO (y:=Qy ps) (d:=QaB a (.obj (.ins "Picked" []) [])) (d':=QaB a (.obj (.ins "Picked" ["picks"]) [Qy ps])) ?_ rfl rfl ?_)
 ·exact QkM (cs:=ps) (r:=⟨Qy ps,false,[]⟩) rfl rfl
 refine run_seq (QmO (y:= .int 0) (d:=QaB a (.obj (.ins "Picked" ["picks"]) [Qy ps])) (d':=QaB a (wkD (.pick ps) 0)) rfl rfl rfl ?_)
 exact Qn ⟨rfl,rfl⟩
theorem Qpm{dr:Den}(hr:Qfv dr){ps:List Int}(hp:ps.length<=1000):Qf3 (.pick ps) (QeP 5 0 (Qe4 dr)):=λu m R L f m0 hm hw hf=>Qfx λa=>by
 obtain⟨l,hl⟩:∃l,l=QS m (Qv R L) f:=⟨_,rfl⟩
 have el:=hr m R L f m0 hm hw hf
 rw[← hl]at el ⊢
 refine run_seq (Qi (QP (r:=⟨[Qh m R L,Qc m f],false,[]⟩) rfl el rfl) ?_)
 change Nx _ (.nx [some (QaB a (wkD (.pick ps) u),true),some (Qh m R L,false),some (Qc m f,false),some (Qp l,true),none])
 refine QA (QQ (b:=l.isEmpty) ?_ (λhe=>?_) (λhe=>?_))
 ·refine(Qcw (b:= !l.isEmpty) ?_).trans (by rw[Bool.not_not])
  show(D.lst (l.map λ(p:Nat)=>D.int (p:Int))).tru=_
  cases l<;>rfl
 ·have he:l=[]:=ZbJ.mp he
  subst he
  exact QA (QeK (r:=⟨.lst [],true,[]⟩) rfl (dp:=QaB a (wkD (.pick ps) u)) rfl rfl ⟨rfl,rfl⟩)
 ·have hne:l≠[]:=λz=>by rw[z]at he;cases he
  have hpos:0<l.length:=ZaN.mpr hne
  have fu:QdL wCl "used" (Qa 0) [some (QaB a (wkD (.pick ps) u),true),some (Qh m R L,false),some (Qc m f,false),some (Qp l,true),none]=some ⟨.int u,true,[]⟩:=rfl
  have fp:QdL wCl "picks" (Qa 0) [some (QaB a (wkD (.pick ps) u),true),some (Qh m R L,false),some (Qc m f,false),some (Qp l,true),none]=some ⟨Qy ps,true,[0]⟩:=rfl
  refine Qn ?_
  refine run_seq (Qi (r:=⟨.int (ps.getD u 0),true,[]⟩) ?_ ?_)
  ·have fl:=Qd9 (fa:=QdL wCl "picks" (Qa 0)) (xs:=ps.map D.int) fp rfl
   by_cases hlt:u<ps.length
   ·have hg:QE (dOp gLt (QdL wCl "used" (Qa 0)) (dBf Qbo (Qb (QdL wCl "picks" (Qa 0)) Qe))) _=some true:=QL (b:=true) (Q8 (d:= .bl true) fu fl (by show some (D.bl (decide ((u:Int)<((ps.map D.int).length:Nat))))=_;rw[Zm,decide_eq_true (by omega)])) rfl
    unfold dIf
    rw[hg,Za,if_pos rfl]
    exact Qev (ns:=ps) fp rfl fu rfl (by omega) (by rw[ZP,Zz,ZA hlt];rfl)
   ·have hg:QE (dOp gLt (QdL wCl "used" (Qa 0)) (dBf Qbo (Qb (QdL wCl "picks" (Qa 0)) Qe))) _=some false:=QL (b:=false) (Q8 (d:= .bl false) fu fl (by show some (D.bl (decide ((u:Int)<((ps.map D.int).length:Nat))))=_;rw[Zm,decide_eq_false (by omega)])) rfl
    unfold dIf
    rw[hg,Za,if_neg ZJ,Zz,Zw (by omega)]
    rfl
  change Nx _ (.nx [some (QaB a (wkD (.pick ps) u),true),some (Qh m R L,false),some (Qc m f,false),some (Qp l,true),some (.int (ps.getD u 0),true)])
  refine run_seq (Qs3 (d:=QaB a (wkD (.pick ps) u)) (d':=QaB a (wkD (.pick ps) (u+1))) (k:=u) (m:=1) rfl rfl rfl rfl ?_)
  change Nx _ (.nx [some (QaB a (wkD (.pick ps) (u+1)),true),some (Qh m R L,false),some (Qc m f,false),some (Qp l,true),some (.int (ps.getD u 0),true)])
  have hm0:0<=ps.getD u 0 % (l.length:Int):=ZI _ (by omega)
  have hm1:ps.getD u 0 % (l.length:Int)<l.length:=ZE _ (by omega)
  have hlt:(ps.getD u 0 % (l.length:Int)).toNat<l.length:=by omega
  have es:sel (.pick ps) u l=[l.getD (ps.getD u 0 % (l.length:Int)).toNat 0]:=by unfold sel;dsimp only;rw[if_neg hne]
  have en:nxt u l=u+1:=by unfold nxt;rw[if_neg hne]
  rw[es,en]
  refine QA (QeK (r:=⟨.lst [.int (l.getD (ps.getD u 0 % (l.length:Int)).toNat 0:Nat)],true,[]⟩) ?_ (dp:=QaB a (wkD (.pick ps) (u+1))) rfl rfl ⟨rfl,rfl⟩)
  refine(Qg0 (rs:=⟨[.int (l.getD (ps.getD u 0 % (l.length:Int)).toNat 0:Nat)],true,[]⟩) ?_ (show 1<=64 by decide)).trans rfl
  refine(Qu (r:=⟨.int (l.getD (ps.getD u 0 % (l.length:Int)).toNat 0:Nat),true,[]⟩) ?_ (QZ _)).trans rfl
  exact QnB (l:=l) (ra:=⟨Qp l,true,[3]⟩) rfl rfl (Qai (b:=l.length) (ra:=⟨.int (ps.getD u 0),true,[]⟩) rfl rfl (Qj3 (l:=l) (r:=⟨Qp l,true,[3]⟩) rfl rfl) rfl (by omega)) rfl hm0 (by rw[ZA hlt,Zz (l:=l),ZA hlt];rfl)
noncomputable def wMe(e1 e2 e3:QbI):MeT:=[("Way",[("chosen",⟨3,0,e1⟩)]),("Together",[("chosen",⟨3,0,e2⟩)]),("Picked",[("chosen",⟨3,0,e3⟩)])]
def Qsi(T:MeT):Prop:=∀(k:Wk) (u m:Nat) (R L:List (Int×Int)) (f:Nat->Int),Qob k->0<m->m<=1000->Qau m R L->(∀j,j<m->0<=f j)->ioM T "chosen" [Qh m R L,Qc m f] (wkD k u)=some (Qp (sel k u (QS m (Qv R L) f)),wkD k (nxt u (QS m (Qv R L) f)))
theorem QyL{e1 e2 e3:QbI}(h1:Qf3 .plain e1)(h2:Qf3 .both e2)(h3:∀ps:List Int,ps.length<=1000->Qf3 (.pick ps) e3):Qsi (wMe e1 e2 e3):=λk u m R L f hk m0 hm hw hf=>by
 cases k with
 | plain=>exact h1 u m R L f m0 hm hw hf
 | both=>exact h2 u m R L f m0 hm hw hf
 | pick ps=>exact h3 ps hk u m R L f m0 hm hw hf
theorem Qru(hx:ρ[x]? =some (some (.lst xs,true)))(ha:fa ρ=some ⟨d,true,[]⟩)(hl:xs.length<16777216)(q:Q (.nx (ρ.set x (some (.lst (xs++[d]),true))))):Run (Qdr x QaK fa) ρ Q:=by
 refine⟨_,?_,q⟩
 have hn:(HS.R.mk d true []).norm=⟨d,true,[]⟩:=by unfold R.norm;split<;>rfl
 unfold Qdr
 rw[hx]
 simp only[QaK,Za,ha,Qb4,Qhy,hn,Qem]
 simp[hl,kill,Qbe]
noncomputable def hpA(m:Nat)(T:Nat->Nat->Int)(f:Nat->Int)(ts:List (List Nat)):Nat->Int:=Qt m T f (QI ts)
structure Qby (k:Wk) (u m:Nat) (T:Nat->Nat->Int) (s f:Nat->Int) (ts:List (List Nat)):Prop where
 st:∀i t,ts[i]? =some t->QS m s (hpA m T f (ts.take i))≠[]/\t=sel k (u+i) (QS m s (hpA m T f (ts.take i)))
theorem Qsm(ts:List (List Nat))(t:List Nat)(p:Nat):QI (ts++[t]) p=QI ts p+QX t p:=by
 unfold QI
 rw[ZF,ZbW]
 simp
theorem QdP{ts:List (List Nat)}{i:Nat}{t:List Nat}(h:ts[i]? =some t)(p:Nat):QI (ts.take (i+1)) p=QI (ts.take i) p+QX t p:=by
 rw[List.take_succ,h]
 exact Qsm _ _ _
theorem Qvn{k:Wk}{u:Nat}{l:List Nat}:∀p∈sel k u l,p∈l:=λp hp=>by
 cases k with
 | plain=>exact List.mem_of_mem_take hp
 | both=>exact hp
 | pick ps=>
  unfold sel at hp
  dsimp only at hp
  split at hp
  ·simp at hp
  ·rename_i hne
   have hpos:0<l.length:=ZaN.mpr hne
   have hm0:0<=ps.getD u 0 % (l.length:Int):=ZI _ (by omega)
   have hm1:ps.getD u 0 % (l.length:Int)<l.length:=ZE _ (by omega)
   rw[Zj.mp hp,Zz (l:=l),ZA (by omega)]
   exact ZbI _
theorem QpQ{k:Wk}{u:Nat}{l:List Nat}(h:l.Nodup):(sel k u l).Nodup:=by
 cases k with
 | plain=>exact h.sublist (List.take_sublist 1 l)
 | both=>exact h
 | pick ps=>
  unfold sel
  dsimp only
  split<;>simp
theorem Qj5{k:Wk}{u:Nat}{l:List Nat}:sel k u l=[]↔l=[]:=by
 cases k with
 | plain=>unfold sel;dsimp only;cases l<;>simp
 | both=>exact Iff.rfl
 | pick ps=>
  unfold sel
  dsimp only
  by_cases h:l=[]
  ·rw[if_pos h];simp[h]
  ·rw[if_neg h];simp[h]
theorem Qlz{m:Nat}{T:Nat->Nat->Int}{f c d:Nat->Int}(j:Nat):Qt m T f (λp=>c p+d p) j=Qt m T f c j+Qo m (λi=>d i*T i j):=by
 unfold Qt
 have:(λi=>(c i+d i)*T i j)=λi=>c i*T i j+d i*T i j:=by funext i;rw[Zax]
 rw[this,Qaf];omega
theorem QnZ{m:Nat}{T:Nat->Nat->Int}{f c d:Nat->Int}(j:Nat):Qt m T (Qt m T f c) d j=Qt m T f (λp=>c p+d p) j:=by
 rw[Qlz];rfl
theorem Qlt{p q:Nat}{l:List Nat}(h:p∉l):QX (p::l) q=if q=p then 1 else QX l q:=by
 unfold QX
 by_cases e:q=p
 ·subst e;simp
 ·simp[e]
theorem QnO{m:Nat}:∀{t:List Nat},t.Nodup->(∀p∈t,p<m)->Qo m (QX t)=t.length
 | [],_,_=>by
  have:(QX []:Nat->Int)=λ_=>0:=by funext p;unfold QX;simp
  rw[this,QO];rfl
 | p::l,nd,h=>by
  obtain⟨h1,h2⟩:=ZU.mp nd
  have e:(QX (p::l))=λq=>QX l q+(if q=p then 1 else 0)*1:=by
   funext q
   rw[Qlt h1]
   by_cases z:q=p
   ·subst z;rw[if_pos rfl,if_pos rfl];unfold QX;rw[if_neg h1];omega
   ·rw[if_neg z,if_neg z];omega
  rw[e,Qaf,Qaj (h p Zf),QnO h2 λq hq=>h q (Zb _ hq)]
  simp
theorem Qlr{m:Nat}{T:Nat->Nat->Int}{f c:Nat->Int}(tp:TP m T)(h:Leg m T f c):∀t:List Nat,t.Nodup->(∀p∈t,p<m/\0-T p p<=Qt m T f c p)->Leg m T f (λp=>c p+QX t p)
 | [],_,_=>h.cast λp=>by unfold QX;simp
 | p::l,nd,hp=>by
  obtain⟨h1,h2⟩:=ZU.mp nd
  have ih:=Qlr tp h l h2 λq hq=>hp q (Zb _ hq)
  obtain⟨pm,pl⟩:=hp p Zf
  have ge:Qt m T f c p<=Qt m T f (λq=>c q+QX l q) p:=by
   rw[Qlz]
   have:Qo m (λ_=>(0:Int))<=Qo m (λi=>QX l i*T i p):=QaI λi hi=>by
    by_cases e:i=p
    ·subst e;unfold QX;rw[if_neg h1,Zar];exact Zak _
    ·refine Zaq ?_ (tp.pos i p hi pm e)
     unfold QX;split<;>omega
   rw[QO]at this
   omega
  refine(Leg.step (p:=p) (t:=1) ih pm (by omega) (by rw[Zba];omega)).cast λq=>?_
  unfold up
  rw[Qlt h1]
  by_cases e:q=p
  ·subst e
   rw[if_pos rfl,if_pos rfl]
   unfold QX
   rw[if_neg h1];omega
  ·rw[if_neg e,if_neg e]
section
variable {k:Wk}{u m:Nat}{T:Nat->Nat->Int}{s f:Nat->Int}{ts:List (List Nat)}
theorem Qby.nil:Qby k u m T s f []:=⟨λi t e=>by simp at e⟩
theorem Qby.snoc(w:Qby k u m T s f ts)(h:QS m s (hpA m T f ts)≠[]):Qby k u m T s f (ts++[sel k (u+ts.length) (QS m s (hpA m T f ts))]):=⟨λi t e=>by
 by_cases hi:i<ts.length
 ·rw[Zab hi]at e
  rw[List.take_append_of_le_length (by omega)]
  exact w.st i t e
 ·by_cases h2:i=ts.length
  ·subst h2
   rw[ZaE (Zn _),Nat.sub_self]at e
   cases e
   rw[List.take_left']
   ·exact⟨h,rfl⟩
   ·rfl
  ·rw[Zw (by simp;omega)]at e
   cases e⟩
theorem Qby.mem(w:Qby k u m T s f ts){i:Nat}{t:List Nat}(e:ts[i]? =some t):t.Nodup/\t≠[]/\∀p∈t,p<m/\s p<=hpA m T f (ts.take i) p:=by
 obtain⟨h1,h2⟩:=w.st i t e
 subst h2
 exact⟨QpQ Qnx,λz=>h1 (Qj5.mp z),λp hp=>QkS.mp (Qvn p hp)⟩
theorem Qby.leg(tp:TP m T)(hs:∀p,p<m->s p=0-T p p)(w:Qby k u m T s f ts):∀i,i<=ts.length->Leg m T f (QI (ts.take i))
 | 0,_=>Leg.nil.cast λp=>by simp[QI]
 | i+1,h=>by
  have e:ts[i]? =some (ts[i]'(by omega)):=ZA (by omega)
  obtain⟨n1,n2,n3⟩:=w.mem e
  refine(Qlr tp (w.leg tp hs i (by omega)) _ n1 λp hp=>⟨(n3 p hp).1,?_⟩).cast λp=>(QdP e p).symm
  rw[← hs p (n3 p hp).1]
  exact(n3 p hp).2
theorem QgS{i:Nat}{t:List Nat}(w:Qby k u m T s f ts)(e:ts[i]? =some t):Qo m (QI (ts.take (i+1)))=Qo m (QI (ts.take i))+t.length:=by
 obtain⟨n1,n2,n3⟩:=w.mem e
 rw[QU λp _=>QdP e p,Qaf,QnO n1 λp hp=>(n3 p hp).1]
theorem QvN{h:Nat->Int}(hs:∀p,p<m->s p=0-T p p)(e:QS m s h=[]):Stb m T h:=λp hp=>by
 rw[← hs p hp]
 have:p∉QS m s h:=by rw[e];simp
 rw[QkS]at this
 omega
theorem Qua(tp:TP m T)(hs:∀p,p<m->s p=0-T p p){c:Nat->Int}(c0:∀p,p<m->0<=c p)(st:Stb m T (Qt m T f c)):∀(n:Nat) (ts:List (List Nat)),Qby k u m T s f ts->(Qo m c-Qo m (QI ts)).toNat=n->∃ts',Qby k u m T s f ts'/\QS m s (hpA m T f ts')=[]:=by
 intro n
 induction n using Nat.strongRecOn with
 | _ n ih=>
  intro ts w hn
  by_cases h:QS m s (hpA m T f ts)=[]
  ·exact⟨ts,w,h⟩
  ·have w':=w.snoc h
   obtain⟨t,ht⟩:∃t,t=sel k (u+ts.length) (QS m s (hpA m T f ts)):=⟨_,rfl⟩
   rw[← ht]at w'
   have e:(ts++[t])[ts.length]? =some t:=by rw[ZaE (Zn _),Nat.sub_self];rfl
   have l1:=w'.leg tp hs (ts++[t]).length (Zn _)
   rw[Zaf]at l1
   have le:=QaI (l1.least tp c0 st)
   have sm:=QgS w' e
   rw[List.take_left' rfl,ZaA (by simp)]at sm
   obtain⟨n1,n2,n3⟩:=w'.mem e
   have:=ZaN.mpr n2
   exact ih _ (by omega) (ts++[t]) w' rfl
theorem Qu6(tp:TP m T)(hs:∀p,p<m->s p=0-T p p){c:Nat->Int}(c0:∀p,p<m->0<=c p)(st:Stb m T (Qt m T f c)):∃ts,Qby k u m T s f ts/\QS m s (hpA m T f ts)=[]:=Qua tp hs c0 st _ [] .nil rfl
theorem Qby.Qzm(tp:TP m T)(hs:∀p,p<m->s p=0-T p p)(w:Qby k u m T s f ts)(e:QS m s (hpA m T f ts)=[]){c:Nat->Int}(lc:Leg m T f c)(st:Stb m T (Qt m T f c)):∀p,p<m->QI ts p=c p:=by
 have l1:=w.leg tp hs ts.length (Zn _)
 rw[Zaf]at l1
 exact l1.unique tp lc (QvN hs e) st
end
noncomputable def Qtm(Q0:Den)(QcN:Den)(me:MeT):DS:=(Qd (Qbd (Qx 2 Q0 [] (Qb (Qa 0) (Qb (QT (Qb (Qa 1) Qe)) Qe)))) (Qd (Qr 3 (dList (Qb (Qa 1) Qe))) (Qd (Qr 4 (QaD (QT (Qb (dC (.int 0)) Qe)) (Qm (Qa 0) (dC (.int 0))))) (Qd (Qr 5 (QT Qe)) (Qd (Qhc me 6 2 "chosen" (Qb (Qa 0) (Qb (Qa 3) Qe))) (Qd (Qb9 (QE (Qa 6)) (Qd (sIf (QE (dOp gGt (QC (dBf Qgk (Qb (Qa 4) Qe)) (dBf Qbo (Qb (Qa 6) Qe))) (dC (.int 2000)))) (Qd QK Ql) Ql) (Qd (Qr 7 (Q7 (QaY (Qm (Qa 0) (dC (.int 0)))) (.nm 1) [none,none,some 6] QaN (dIf (QE (dOp (gIn false) (Qa 1) (Qa 2))) (dC (.int 1)) (dC (.int 0))))) (Qd (Qr 3 (Qx 3 QcN [] (Qb (Qa 0) (Qb (Qa 3) (Qb (Qa 7) Qe))))) (Qd (Qr 4 (Q7 (Qb2 (Qa 4) (Qa 7)) (.tp [1,2]) [none,none,none] QaN (QC (Qa 1) (Qa 2)))) (Qd (Qdr 5 QaK (dList (Qb (Qa 6) Qe))) (Qd (Qhc me 6 2 "chosen" (Qb (Qa 0) (Qb (Qa 3) Qe))) Ql))))))) (Qd (Qes 2 (QaH (Qb (Qa 3) (Qb (Qa 4) (Qb (Qa 5) Qe))))) Ql)))))))
noncomputable def QJ(m:Nat)(T:Nat->Nat->Int)(f:Nat->Int)(ts:List (List Nat)):D:= .tup [Qc m (hpA m T f ts),Qc m (QI ts),QcA ts]
def Qlj(e:QbI):Prop:=∀(k:Wk) (u m:Nat) (R L:List (Int×Int)) (f c:Nat->Int),Qob k->0<m->m<=1000->Qau m R L->(∀j,j<m->0<=f j)->Told m (Qq m (Qj R L)) f c->Qo m c<=2000→
 ∃ts,Qby k u m (Qq m (Qj R L)) (Qv R L) f ts/\QS m (Qv R L) (hpA m (Qq m (Qj R L)) f ts)=[]/\(∀p,p<m->QI ts p=c p)/\ts.length<=2000∧
  e [Qh m R L,Qc m f,wkD k u]=some (QJ m (Qq m (Qj R L)) f ts,wkD k (u+ts.length))
theorem Qwp{m:Nat}{t:List Nat}{ρ:En}{R L:List (Int×Int)}(h0:ρ[0]? =some (some (Qh m R L,false)))(h6:Qdb [none,none,some 6] ρ=[none,none,some (Qp t,false)])(hm:m<=1000):
  Q7 (QaY (Qm (Qa 0) (dC (.int 0)))) (.nm 1) [none,none,some 6] QaN (dIf (QE (dOp (gIn false) (Qa 1) (Qa 2))) (dC (.int 1)) (dC (.int 0))) ρ=some ⟨Qc m (QX t),true,[]⟩:=by
 have hi:Qm (Qa 0) (dC (.int 0)) ρ=some ⟨.int m,true,[]⟩:=by
  unfold Qm
  rw[Qa4 h0]
  rfl
 refine(QaG (toD:=λ(p:Nat)=>D.int p) (out:=λ(p:Nat)=>D.int (QX t p)) (List.range m) (QdE (n:=m) hi rfl (by omega)) rfl λp hp=>?_).trans rfl
 rw[h6]
 refine⟨[none,some (.int p,true),some (Qp t,false)],rfl,⟨.int (QX t p),true,[]⟩,?_,rfl,rfl⟩
 unfold dIf
 rw[QL (b:=t.contains p) (Qps (neg:=false) (o:=p) (l:=t) (ra:=⟨.int p,true,[]⟩) (rb:=⟨Qp t,false,[]⟩) rfl rfl rfl rfl) rfl,Za]
 unfold QX
 by_cases e:p∈t
 ·rw[if_pos (ZG.mpr e),if_pos e];rfl
 ·rw[if_neg (λz=>e (ZG.mp z)),if_neg e];rfl
theorem Leg.ge0{m:Nat}{T:Nat->Nat->Int}{f c:Nat->Int}(tp:TP m T)(hf:∀j,j<m->0<=f j)(h:Leg m T f c):∀j,j<m->0<=Qt m T f c j:=by
 induction h with
 | nil=>
  intro j hj
  unfold Qt
  have z:(λi=>(0:Int)*T i j)=λ_=>0:=by funext i;rw[Zar]
  rw[z,QO]
  have:=hf j hj
  omega
 | @step c p t _ hp ht hle ih=>
  intro j hj
  rw[Qhl hp]
  by_cases e:j=p
  ·subst e
   rw[Zbt,ZbQ]at hle
   omega
  ·have h1:=ih j hj
   have h2:=Zaq ht (tp.pos p j hp hj (Ne.symm e))
   omega
theorem QkB{ρ:En}{A:List Nat}{fs:DA}{rs:RA}(h:fs ρ=some rs)(e:rs.ds=[Qp A]):dList fs ρ=some ⟨Qp A,true,[]⟩:=by
 unfold dList
 rw[h,Za,e]
 simp only[Qp,QaE,QiM,if_true]
theorem Qw4{dn da:Den}{T:MeT}(hn:QfO dn)(ha:QjU da)(hM:Qsi T):Qlj (QeP 8 2 (Qtm dn da T)):=λk u m R L f c hk m0 hm hw hf td hc=>by
 have tp:=hw.tp
 have hs:∀p,p<m->Qv R L p=0-Qq m (Qj R L) p p:=λp hp=>(hw.neg hp).symm
 obtain⟨g1,g2,g3,g4,_⟩:=hw.good
 obtain⟨ts,w,fin⟩:=Qu6 (k:=k) (u:=u) tp hs (λp _=>td.leg.nonneg p) td.stb
 have eq:=w.Qzm tp hs fin td.leg td.stb
 obtain⟨T0,rT⟩:∃T0,T0=Qq m (Qj R L):=⟨_,rfl⟩
 rw[← rT]at w fin tp hs td ⊢
 have sums:∀i,i<=ts.length->Qo m (QI (ts.take i))<=2000:=λi hi=>by
  have:=QaI ((w.leg tp hs i hi).least tp (λp _=>td.leg.nonneg p) td.stb)
  omega
 have lens:∀i,i<=ts.length->(i:Int)<=Qo m (QI (ts.take i)):=λi=>by
  induction i with
  | zero=>
   intro _
   have:(QI []:Nat->Int)=λ_=>0:=by funext p;simp[QI]
   rw[ZbZ,this,QO]
   exact Zak _
  | succ i ih=>
   intro hi
   have e:ts[i]? =some (ts[i]'(by omega)):=ZA (by omega)
   have h1:=ih (by omega)
   have h2:=QgS w e
   obtain⟨n1,n2,n3⟩:=w.mem e
   have:=ZaN.mpr n2
   omega
 have tl:ts.length<=2000:=by
  have h1:=lens ts.length (Zn _)
  have h2:=sums ts.length (Zn _)
  omega
 have pos:∀i,i<=ts.length->∀j,j<m->0<=hpA m T0 f (ts.take i) j:=λi hi=>(w.leg tp hs i hi).ge0 tp hf
 refine⟨ts,w,fin,eq,tl,Qfx λa=>?_⟩
 let E:Nat->Option (D×Bool)->En:=λi j7=>[some (Qh m R L,false),some (Qc m f,false),some (QaB a (wkD k (nxt (u+i) (QS m (Qv R L) (hpA m T0 f (ts.take i))))),true),some (Qc m (hpA m T0 f (ts.take i)),true),some (Qc m (QI (ts.take i)),true),some (QcA (ts.take i),true),some (Qp (sel k (u+i) (QS m (Qv R L) (hpA m T0 f (ts.take i)))),true),j7]
 refine run_seq (QdQ (QP (r:=⟨[Qh m R L,.lst [Qc m f]],false,[]⟩) rfl (hn m R L [f] m0 λg hg=>by rw[Zj.mp hg];exact hf) rfl) ?_)
 refine run_seq (Qi (QbK (m:=m) (f:=f) (rs:=⟨[Qc m f],false,[]⟩) rfl rfl) ?_)
 refine run_seq (Qi (Qd0 (z:=0) (n:=m) (r:=⟨.int m,true,[]⟩) rfl rfl (by omega)) ?_)
 refine run_seq (Qi (r:=⟨.lst [],true,[]⟩) rfl ?_)
 change Nx _ (.nx [some (Qh m R L,false),some (Qc m f,false),some (QaB a (wkD k u),true),some (Qc m f,true),some (Qc m (λ_=>0),true),some (.lst [],true),none,none])
 have h0:hpA m T0 f (ts.take 0)=f:=by
  funext j
  unfold hpA
  rw[ZbZ]
  have:(QI []:Nat->Int)=λ_=>0:=by funext p;simp[QI]
  rw[this]
  unfold Qt
  have z:(λi=>(0:Int)*T0 i j)=λ_=>0:=by funext i;rw[Zar]
  rw[z,QO];omega
 have c0:QI (ts.take 0)=λ_=>0:=by funext p;simp[QI]
 refine run_seq (QmR (r:=⟨[Qh m R L,Qc m f],false,[3]⟩) (d:=QaB a (wkD k u)) (q:=(Qp (sel k u (QS m (Qv R L) f)),QaB a (wkD k (nxt u (QS m (Qv R L) f))))) rfl rfl rfl ?_ ?_)
 ·show((ioM T "chosen" [Qh m R L,Qc m f] (wkD k u)).map λq=>(q.1,D.obj (.pin a) [q.2]))=_
  rw[hM k u m R L f hk m0 hm hw hf];rfl
 have start:[some (Qh m R L,false),some (Qc m f,false),some (QaB a (wkD k (nxt u (QS m (Qv R L) f))),true),some (Qc m f,true),some (Qc m (λ_=>0),true),some (.lst [],true),some (Qp (sel k u (QS m (Qv R L) f)),true),none]=E 0 none:=by
  show _=[some (Qh m R L,false),some (Qc m f,false),some (QaB a (wkD k (nxt (u+0) (QS m (Qv R L) (hpA m T0 f (ts.take 0))))),true),some (Qc m (hpA m T0 f (ts.take 0)),true),some (Qc m (QI (ts.take 0)),true),some (QcA (ts.take 0),true),some (Qp (sel k (u+0) (QS m (Qv R L) (hpA m T0 f (ts.take 0)))),true),none]
  rw[h0,c0];rfl
 change Nx _ (.nx [some (Qh m R L,false),some (Qc m f,false),some (QaB a (wkD k (nxt u (QS m (Qv R L) f))),true),some (Qc m f,true),some (Qc m (λ_=>0),true),some (.lst [],true),some (Qp (sel k u (QS m (Qv R L) f)),true),none])
 rw[start]
 refine run_seq (Qki (λn ρ=>∃i j7,i<=ts.length/\n=ts.length-i/\ρ=E i j7) ?_ ts.length (E 0 none) ⟨0,none,ZZ _,rfl,rfl⟩)
 rintro n ρ ⟨i,j7,hi,rfl,rfl⟩
 obtain⟨l,rl⟩:∃l,l=QS m (Qv R L) (hpA m T0 f (ts.take i)):=⟨_,rfl⟩
 have hE:E i j7=[some (Qh m R L,false),some (Qc m f,false),some (QaB a (wkD k (nxt (u+i) l)),true),some (Qc m (hpA m T0 f (ts.take i)),true),some (Qc m (QI (ts.take i)),true),some (QcA (ts.take i),true),some (Qp (sel k (u+i) l),true),j7]:=by rw[rl]
 rw[hE]
 refine⟨!(sel k (u+i) l).isEmpty,?_,λhb=>?_,λhb=>?_⟩
 ·show(D.lst ((sel k (u+i) l).map λ(p:Nat)=>D.int (p:Int))).tru=_
  cases sel k (u+i) l<;>rfl
 ·have hl:l=[]:=Qj5.mp (ZbJ.mp (by simpa using hb))
  have hi':i=ts.length:=by
   by_cases z:i<ts.length
   ·have:=(w.st i _ (ZA z)).1
    rw[← rl]at this
    exact absurd hl this
   ·omega
  subst hi'
  rw[Zaf,hl]
  refine QA (QeK (r:=⟨QJ m T0 f ts,true,[3,4,5]⟩) rfl (dp:=QaB a (wkD k (u+ts.length))) rfl rfl ⟨rfl,rfl⟩)
 ·have hl:l≠[]:=λz=>by rw[z,Qj5.mpr rfl]at hb;cases hb
  have hlt:i<ts.length:=by
   by_cases z:i<ts.length
   ·exact z
   ·exfalso
    have:i=ts.length:=by omega
    rw[this,Zaf,fin]at rl
    exact hl rl
  have et:ts[i]? =some ts[i]:=ZA hlt
  obtain⟨t,ht⟩:∃t,t=ts[i]:=⟨_,rfl⟩
  rw[← ht]at et
  have es:sel k (u+i) l=t:=by rw[rl];exact(w.st i t et).2.symm
  have en:nxt (u+i) l=u+(i+1):=by unfold nxt;rw[if_neg hl];omega
  rw[es,en]
  have st:=QgS w et
  have s2:=sums (i+1) (by omega)
  have hp1:Qc m (Qt m T0 (hpA m T0 f (ts.take i)) (QX t))=Qc m (hpA m T0 f (ts.take (i+1))):=Qeu λj _=>by
   show Qt m T0 (Qt m T0 f (QI (ts.take i))) (QX t) j=_
   rw[QnZ]
   exact QcD j rfl λp _=>(QdP et p).symm
  refine QA (QQ (b:=false) (QL (b:=false) (Q8 (d:= .bl false) (ra:=⟨.int (Qo m (QI (ts.take i))+t.length),true,[]⟩) (rb:=⟨.int 2000,true,[]⟩) (Qah (Qvi (m:=m) (f:=QI (ts.take i)) (r:=⟨Qc m (QI (ts.take i)),true,[4]⟩) rfl rfl) rfl (Qj3 (l:=t) (r:=⟨Qp t,true,[6]⟩) rfl rfl) rfl) rfl ?_) rfl) (λz=>by cases z) (λ_=>Qn ?_))
  ·show some (D.bl (decide ((2000:Int)<Qo m (QI (ts.take i))+t.length)))=_
   rw[decide_eq_false (by omega)]
  refine run_seq (Qi (Qwp (m:=m) (t:=t) (R:=R) (L:=L) rfl rfl hm) ?_)
  change Nx _ (.nx [some (Qh m R L,false),some (Qc m f,false),some (QaB a (wkD k (u+(i+1))),true),some (Qc m (hpA m T0 f (ts.take i)),true),some (Qc m (QI (ts.take i)),true),some (QcA (ts.take i),true),some (Qp t,true),some (Qc m (QX t),true)])
  have eaf:=ha m R L (hpA m T0 f (ts.take i)) (QX t) hm (by omega) g1 g2
  rw[← rT,hp1]at eaf
  refine run_seq (Qi (QP (r:=⟨[Qh m R L,Qc m (hpA m T0 f (ts.take i)),Qc m (QX t)],false,[3,7]⟩) rfl eaf rfl) ?_)
  change Nx _ (.nx [some (Qh m R L,false),some (Qc m f,false),some (QaB a (wkD k (u+(i+1))),true),some (Qc m (hpA m T0 f (ts.take (i+1))),true),some (Qc m (QI (ts.take i)),true),some (QcA (ts.take i),true),some (Qp t,true),some (Qc m (QX t),true)])
  refine run_seq (Qi (r:=⟨Qc m (QI (ts.take (i+1))),true,[]⟩) ?_ ?_)
  ·refine(QaG (toD:=λ(p:Nat)=>D.tup [.int (QI (ts.take i) p),.int (QX t p)]) (out:=λ(p:Nat)=>D.int (QI (ts.take (i+1)) p)) (List.range m) (QeA (m:=m) (f:=λp=>D.int (QI (ts.take i) p)) (g:=λp=>D.int (QX t p)) rfl rfl rfl rfl) rfl λp hp=>⟨[none,some (.int (QI (ts.take i) p),true),some (.int (QX t p),true)],rfl,⟨.int (QI (ts.take (i+1)) p),true,[]⟩,?_,rfl,rfl⟩).trans rfl
   rw[QdP et]
   exact Qah rfl rfl rfl rfl
  change Nx _ (.nx [some (Qh m R L,false),some (Qc m f,false),some (QaB a (wkD k (u+(i+1))),true),some (Qc m (hpA m T0 f (ts.take (i+1))),true),some (Qc m (QI (ts.take (i+1))),true),some (QcA (ts.take i),true),some (Qp t,true),some (Qc m (QX t),true)])
  refine run_seq (Qru (xs:=(ts.take i).map Qp) (d:=Qp t) rfl (QkB (A:=t) (rs:=⟨[Qp t],true,[6]⟩) rfl rfl) (by rw[Zm,ZaC];omega) ?_)
  have etu:D.lst ((ts.take i).map Qp++[Qp t])=QcA (ts.take (i+1)):=by
   unfold QcA
   rw[List.take_succ,et,ZF];rfl
  rw[etu]
  change Nx _ (.nx [some (Qh m R L,false),some (Qc m f,false),some (QaB a (wkD k (u+(i+1))),true),some (Qc m (hpA m T0 f (ts.take (i+1))),true),some (Qc m (QI (ts.take (i+1))),true),some (QcA (ts.take (i+1)),true),some (Qp t,true),some (Qc m (QX t),true)])
  obtain⟨l',rl'⟩:∃l',l'=QS m (Qv R L) (hpA m T0 f (ts.take (i+1))):=⟨_,rfl⟩
  refine QA (QmR (r:=⟨[Qh m R L,Qc m (hpA m T0 f (ts.take (i+1)))],false,[3]⟩) (d:=QaB a (wkD k (u+(i+1)))) (q:=(Qp (sel k (u+(i+1)) l'),QaB a (wkD k (nxt (u+(i+1)) l')))) rfl rfl rfl ?_ (Qn ?_))
  ·show((ioM T "chosen" [Qh m R L,Qc m (hpA m T0 f (ts.take (i+1)))] (wkD k (u+(i+1)))).map λq=>(q.1,D.obj (.pin a) [q.2]))=_
   rw[hM k (u+(i+1)) m R L _ hk m0 hm hw (pos (i+1) (by omega)),rl'];rfl
  ·refine⟨ts.length-(i+1),by omega,i+1,some (Qc m (QX t),true),by omega,rfl,?_⟩
   rw[rl'];rfl
end HS
namespace HS
open PySem PySem.Spec L2 PyProof.Rows PySem.NumText
noncomputable def cp(x:Str):List Nat:=x.cps.toList
noncomputable def tx(l:List Nat):Str:=⟨l.toArray⟩
theorem Qx4(l:List Nat):cp (tx l)=l:=rfl
theorem QtA(x:Str):tx (cp x)=x:=by cases x;rfl
theorem QqT{x y:Str}(h:cp x=cp y):x=y:=by rw[← QtA x,← QtA y,h]
theorem Qqv(x:Str):x.length=(cp x).length:=by unfold cp Str.length;exact Zat.symm
noncomputable def dig(n:Nat):List Nat:=(Nat.toDigits 10 n).map Char.toNat
theorem QnD:∀d:Nat,d<10->(Nat.digitChar d).toNat=48+d:=by decide
theorem QvT{n:Nat}(h:n<10):dig n=[48+n]:=by
 unfold dig
 rw[Nat.toDigits_of_lt_base h,Zq,QnD n h];rfl
theorem QtN{n:Nat}(h:10<=n):dig n=dig (n / 10)++[48+n % 10]:=by
 have e:n=10*(n / 10)+n % 10:=by omega
 have:=Nat.toDigits_append_toDigits (b:=10) (n:=n / 10) (d:=n % 10) (by decide) (by omega) (by omega)
 rw[← e]at this
 unfold dig
 rw[← this,ZF,Nat.toDigits_of_lt_base (show n % 10<10 by omega),Zq,QnD _ (by omega)];rfl
theorem Quu{P:Nat->Prop}(h1:∀n,n<10->P n)(h2:∀n,10<=n->P (n / 10)->P n)(n:Nat):P n:=by
 induction n using Nat.strongRecOn with
 | ind n ih=>
  by_cases h:n<10
  ·exact h1 n h
  ·exact h2 n (by omega) (ih _ (by omega))
theorem QvA(n:Nat):AllDigits (dig n):=by
 refine Quu (P:=λn=>AllDigits (dig n)) (λn h=>?_) (λn h ih=>?_) n
 ·rw[QvT h];intro c hc;rw[Zj]at hc;omega
 ·rw[QtN h];intro c hc
  rcases Zo.mp hc with hc | hc
  ·exact ih c hc
  ·rw[Zj]at hc;omega
theorem Qu7{n k:Nat}(hk:0<k)(h:n<10^k):(dig n).length<=k:=by
 unfold dig
 rw[Zm,← Nat.toList_repr,String.length_toList]
 exact(Nat.length_repr_le_iff hk).mpr h
section
variable {fa fb:DE}{ρ:En}{ra rb r:R}
end
def Small(k:Nat)(ns:List Int):Prop:=ns.length<=63/\∀n∈ns,n.natAbs<10^k
theorem Small.up{ns:List Int}{k l:Nat}(h:Small k ns)(hk:k<=l):Small l ns:=⟨h.1,λn hn=>Zu (h.2 n hn) (ZaK (by decide) hk)⟩
theorem Small.take{ns:List Int}{k i:Nat}(h:Small k ns):Small k (ns.take i):=⟨by have:=h.1;rw[ZaC];omega,λn hn=>h.2 n (List.mem_of_mem_take hn)⟩
end HS
namespace HS
open PySem PySem.Spec L2 PyProof.Rows
theorem Qst(x:QbB P w H h a o):∃u,h.get? a=some u:=by
 cases o with
 | lst xs=>obtain⟨_,_,_,_,e⟩:=x;exact⟨_,e⟩
 | tup xs=>obtain⟨_,_,_,ob,e,_⟩:=x;exact⟨_,e⟩
 | dK kvs=>obtain⟨_,_,_,_,o,_,_,e,_⟩:=x;exact⟨_,e⟩
 | dT kvs=>obtain⟨_,_,_,_,o,_,_,e,_⟩:=x;exact⟨_,e⟩
 | set S n=>obtain⟨o,_,_,_,e,_⟩:=x;exact⟨_,e⟩
 | ins C dx fs=>obtain⟨_,_,_,e,_⟩:=x;exact⟨_,e⟩
 | own y=>exact x
 | xd fs=>obtain⟨_,⟨_,_,_,e,_⟩,_⟩:=x;exact⟨_,e⟩
 | rng lo hi=>obtain⟨_,_,_,e⟩:=x;exact⟨_,e⟩
 | frz ob u=>obtain⟨e,_⟩:=x;exact⟨_,e⟩
 | tbl ps=>exact⟨_,show h.get? a=some _ from x⟩
 | met f y=>exact⟨_,show h.get? a=some _ from x⟩
 | ext φ=>obtain⟨_,e,_⟩:=x;exact e
section
variable {P:Program}{w:World}{H H':Hp}{h0 h h' B:Heap}{fs:List Addr}
def Cov(H:Hp)(B:Heap):Prop:=∀b u,H b=some u->∃o,B.get? b=some o
theorem QjR(hok:HOk P w H h)(hB:B.StaysIn h)(hB':B.StaysIn h')(cov:Cov H B):HOk P w H h':=λa o e=>
 (hok a o e).QeW (λc v hc q=>by
  have:∃u,H c=some u:=by
   rcases hc with rfl | hc
   ·exact⟨_,e⟩
   ·exact⟨_,hc⟩
  obtain⟨u,hu⟩:=this
  obtain⟨o',ho'⟩:=cov c u hu
  have:=hB _ _ ho'
  rw[q]at this
  cases this
  exact hB' _ _ ho') (λ_ q=>q) λ_ _ q=>q
theorem Qmb(u:Un fs [] H H' h0 h)(hB:B.StaysIn h)(hB':B.StaysIn h')(up:h.UpToSlots h')(old:∀b o,h0.get? b=some o->b∉fs->∃o',B.get? b=some o')
  (dat:∀b o,h0.get? b=some o->b∈fs->∀vs,o.data≠ .fields vs) (frf:∀b∈fs,H b=none):Un fs [] H H' h0 h' where
 keep:=λb o e n hb hx=>by
  obtain⟨o',e1⟩:=old b o e hb
  have:=hB _ _ e1
  rw[u.keep b o e n hb hx]at this
  cases this
  exact hB' _ _ e1
 slot:=λb o e n hb hx=>by
  obtain⟨sl,e1⟩:=u.slot b o e n hb hx
  obtain⟨sl',e2⟩:=up b _ e1 (dat b o e hb)
  exact⟨sl',e2⟩
 free:=u.free
 there:=λb o e hx=>by
  by_cases hb:b∈fs
  ·obtain⟨sl,e1⟩:=u.slot b o e (frf b hb) hb hx
   obtain⟨sl',e2⟩:=up b _ e1 (dat b o e hb)
   exact⟨_,e2⟩
  ·obtain⟨o',e1⟩:=old b o e hb
   exact⟨_,hB' _ _ e1⟩
 tups:=u.tups
 frzs:=u.frzs
 tbls:=u.tbls
end
noncomputable def CXR(P:Program)(w:World):CXT:=λouter H s E e s'=>∃ea C H' B a0,e=Value.ref ea/\s'.os=s.os/\AllBare s'.gens/\Un (frs outer) [] H H' s.heap s'.heap/\HOk P w H' s'.heap/\Heap.FlyingW B outer ea C a0 s'.heap∧
 Cov H' B/\(∀b o,s.heap.get? b=some o->b∉frs outer->∃o',B.get? b=some o')/\E C none H'
def QfQ(X:Cx)(H0:Hp)(A0:List Addr)(hs:List (V×D×List Addr))(ρ:En)(C:Value)(ea:Addr)(s':Shared):Prop:=∃pins σ H F,Rel X.K H0 A0 hs ρ F σ H∧
 ((∃sg args,Inv X pins σ H sg/\Heap.MadeExcOf sg.heap s'.heap ea C args/\s'.os=sg.os/\s'.gens=sg.gens)∨
  ∃B a0,Inv X pins σ H s'/\Heap.FlyingW B X.stack ea C a0 s'.heap/\Cov H B/\(∀b o,X.s₀.heap.get? b=some o->b∉X.fs->∃o',B.get? b=some o')/\∀p∈X.pn++pins,∃o,B.get? p.1=some o)
theorem QpH(I:Inv X pins σ H s)(hx:X.ex=[])(e:X.s₀.heap.get? b=some o)(hb:b∉X.fs):(∃o',s.heap.get? b=some o')/\b∉frs X.stack:=by
 refine⟨I.base.there b o e (by rw[hx];simp),λz=>?_⟩
 rcases Zl.mp (I.QeO b z)with q | q
 ·have h1:=Zv e
  have h2:=I.ok.above
  rw[q]at h1
  exact absurd (Zu h1 h2) (Zaa _)
 ·exact hb q
theorem Qix{X:Cx}(ok:X.Ok){b:Addr}{o:Obj}(e:X.s₀.heap.get? b=some o)(hb:b∈X.fs):∀vs,o.data≠ .fields vs:=by
 obtain⟨_,o',e',h⟩:=ok.QcW.mem hb
 rw[e]at e'
 cases e'
 exact h
theorem QlQ(I:Inv X pins σ H s)(hx:X.ex=[]):∃B:Heap,B.StaysIn s.heap/\s.heap.FunFrames B X.stack/\Cov H B/\(∀b o,X.s₀.heap.get? b=some o->b∉X.fs->∃o',B.get? b=some o')/\∀p∈X.pn++pins,∃o,B.get? p.1=some o:=by
 refine⟨PySem.W.hideAll s.heap (frs X.stack),λb o e=>PySem.W.of_hideAll _ e,PySem.W.funFrames_hide I.stack λenv he a ha=>ZaR.mpr ⟨env,he,ha⟩,λb u e=>?_,λb o e hb=>?_,λp hp=>?_⟩
 ·obtain⟨o,ho⟩:=Qst (I.hok b u e)
  exact⟨o,ZaX _ ho λz=>by rw[I.QjX b z]at e;cases e⟩
 ·obtain⟨⟨o',h1⟩,h2⟩:=QpH I hx e hb
  exact⟨o',ZaX _ h1 h2⟩
 ·obtain⟨e,_,ne,nf,_⟩:=I.pin p hp
  exact⟨_,ZaX _ e λz=>(Zl.mp (I.QeO _ z)).elim ne nf⟩
theorem Qha{X:Cx}{P:Program}{w:World}{E:XK}{H0:Hp}{A0:List Addr}{hs:List (V×D×List Addr)}{ρ:En}{C:Value}{ea:Addr}{s':Shared}{env:Env}{outer:List Env}{Er:Value->Shared->Prop}
  (hp:X.prog=P) (hw:X.w=w) (hx:X.ex=[]) (hst:X.stack=env::outer) (hfs:X.outer=outer) (hen:X.env=env) (hf:env.frame=some X.env.locals) (T:QfQ X H0 A0 hs ρ C ea s')
  (hE:∀H,QD H0 H->E C none H):wpAny (model P w) X.A (leaving env (.ref ea)) (λ_ s''=>CXR P w outer X.H₀ X.s₀ E (.ref ea) s'') Er s':=by
 subst hp hw hfs
 obtain⟨pins,σ,H,F,rel,⟨sg,args,I,hm,ho,hg⟩ | ⟨B,a0,I,fl,cov,old,_⟩⟩:=T
 ·obtain⟨B,b1,b2,cov,old,_⟩:=QlQ I hx
  rw[hst]at b2
  have hfr:=I.ok.frames
  rw[hst]at hfr
  refine wpAny_leaves_madeW hfr hf b1 b2 hm λh' t fl _ _ up=>?_
  have up':sg.heap.UpToSlots h':=(Heap.UpToSlots.of_keeps hm.keeps).trans up
  have hb:=I.base
  rw[hx]at hb
  exact⟨ea,C,H,B,_,rfl,ho.trans I.os,hg▸I.bare,Qmb hb b1 fl.1 up' old (λb o e hb=>Qix I.ok e hb) I.ok.frf,QjR I.hok b1 fl.1 cov,fl,cov,old,hE H rel.same⟩
 ·have hfr:=I.ok.frames
  rw[hst]at hfr fl
  refine wpAny_leaves_onW hfr hf fl λh' fl' up=>?_
  have hb:=I.base
  rw[hx]at hb
  exact⟨ea,C,H,B,_,rfl,I.os,I.bare,Qmb hb fl.1 fl'.1 up old (λb o e hb=>Qix I.ok e hb) I.ok.frf,QjR I.hok fl.1 fl'.1 cov,fl',cov,old,hE H rel.same⟩
end HS
namespace HS
open PySem PySem.Spec L2 PyProof.Rows
noncomputable abbrev DX:=En->Option (Str×En)
def ClsAt(K:PySem.W.Frag)(x:Str)(C:Addr):Prop:=PySem.W.nsIn K mainGlobals x=some (some (.ref C))
def cRz(X:Cx)(H0:Hp)(A0:List Addr)(fx:DX)(σ:L2.St)(H:Hp):Prop:=∃ρ hs F x ρ',Rel X.K H0 A0 hs ρ F σ H/\fx ρ=some (x,ρ')/\∀C ea s',ClsAt X.K x C->QfQ X H0 A0 hs ρ' (.ref C) ea s'->X.xe (.ref ea) s'
noncomputable def tRz(X:Cx)(H0:Hp)(A0:List Addr)(fx:DX):TS:=λ_ σ H=>cRz X H0 A0 fx σ H
noncomputable def eRz(X:Cx)(H0:Hp)(A0:List Addr)(fx:DX):TE:=λσ H _=>cRz X H0 A0 fx σ H
def Rz(X:Cx)(st:Stmt)(fx:DX):Prop:=∀H0 A0,PS X st (tRz X H0 A0 fx)
def RzS(X:Cx)(sts:List Stmt)(fx:DX):Prop:=∀H0 A0,PSs X sts (tRz X H0 A0 fx)
def RzE(X:Cx)(e:Expr)(fx:DX):Prop:=∀H0 A0,PE X e (eRz X H0 A0 fx)
noncomputable def xNo:DX:=λ_=>none
noncomputable def Qd4(x:Str)(fs:DA):DX:=λρ=>(fs ρ).bind λr=>if r.ds.length<=1 then some (x,ρ)else none
noncomputable def QbN(n:Nat)(xd:List D->Option Str)(fs:DA):DX:=λρ=>(fs ρ).bind λr=>if r.ds.length=n then(xd r.ds).map λc=>(c,ρ)else none
noncomputable def xIf(g:DT)(fa fb:DX):DX:=λρ=>(g ρ).bind λb=>if b=true then fa ρ else fb ρ
noncomputable def QaZ(f:DS)(fx fr:DX):DX:=λρ=>match f ρ with
 | some (.nx ρ')=>fr ρ'
 | some _=>none
 | none=>fx ρ
noncomputable def QdY(t:Tg)(fb:DS)(fx:DX):List D->DX
 | [],_=>none
 | d::ds,ρ=>(Qbh t d ρ).bind λρ1=>match fb ρ1 with
  | some (.nx ρ2)=>QdY t fb fx ds ρ2
  | some (.ct ρ2)=>QdY t fb fx ds ρ2
  | some _=>none
  | none=>fx ρ1
noncomputable def QgK(fi:DI)(t:Tg)(fb:DS)(fx:DX):DX:=λρ=>(fi ρ).bind λir=>QdY t fb fx ir.items (QbE ir.M ρ)
noncomputable def spX(K:PySem.W.Frag)(n:Nat)(xd:List D->Option Str):Sp:=λvs H _ E=>∃ds L x,Rps K H ds vs L/\ds.length=n/\xd ds=some x/\∀C H',ClsAt K x C->QD H H'->E (.ref C) none H'
theorem QnP{K:PySem.W.Frag}{n:Nat}{xd:List D->Option Str}{ps:List Str}(hn:ps.length=n):∀vs H Q E,spX K n xd vs H Q E->vs.length=ps.length:=λvs H Q E ⟨ds,L,x,r,hl,_⟩=>by rw[hn,← hl,r.length]
section
variable {X:Cx}{st:Stmt}{sts:List Stmt}{e:Expr}{es:List Expr}{fs:DA}{f:DS}{fx fr fy:DX}{g:DT}{pos p np cpos:Pos}{x:Str}{k n:Nat}{fa:Addr}{fd:FuncData}{ps:List Str}{xd:List D->Option Str}
theorem Qgb:Rz X st xNo:=λH0 A0 pins s σ H Dd I ⟨ρ,hs,F,x,ρ',rel,e,q⟩=>by cases e
theorem QuI:RzS X [] xNo:=λH0 A0 pins s σ H Dd I ⟨ρ,hs,F,x,ρ',rel,e,q⟩=>by cases e
theorem QfQ.hold(h:QfQ X H0 A0 (ts++hs) ρ C ea s'):QfQ X H0 A0 hs ρ C ea s':=by
 obtain⟨pins,σ,H,F,rel,q⟩:=h
 exact⟨pins,σ,H,F,rel.Ql8,q⟩
theorem Qvp(Fk:Qaq X.prog X.w X.K X.mg X.base (CXR X.prog X.w) k fa fd ps (spX X.K n xd))(hr:Qag k X.A)(hg:Gl X x)(hm:X.mg x=some (.ref fa))(hk:PySem.W.keepIn X.K (.ref fa)=true)(hb:Binds X.K fd ps [])(hx:X.ex=[])(hn:ps.length=n)
  (ha:SA X (e::es) fs) (hdb:(x == ("__debug__" :Str))=false) (he:starEach (e::es) X.env=(false,eval e X.env)::starEach es X.env) (hpl:(backTo pos (starEach es X.env)).any (·.1)=false):
  RzE X (.Call (.Name x p) (e::es) [] pos) (QbN n xd fs):=λH0 A0 pins s σ H Q I hpt=>by
 obtain⟨ρ,hs,F,c,ρ',rel,ex,q⟩:=hpt
 refine Qf ex λra e1 ex=>?_
 split at ex
 ·rename_i hl
  obtain⟨c',e2,e3⟩:=Zc.mp ex
  cases e3
  refine wpAny_Call_Name_kw (Qdq I hg hm ?_ hdb)
  refine ZaZ (h₀:=X.base) I.ok.mod.kin hk (thn (ha H0 A0 pos pins s σ H (λvs H1=>∃G,Qop X.K ρ F H H1 ra vs G) I ⟨ρ,hs,F,ra,rel,e1,λvs H1 G p1=>⟨G,p1⟩⟩) λus s1 ⟨vs,H1,I1,rv,G,p1⟩=>⟨I1.kIn,?_⟩) he hpl
  have hlen:(us++[]).length=ps.length:=by rw[ZC,← rv.length,← p1.rp.length,hl,hn]
  have hbb:=hb s1 us I1.kIn hlen
  rw[ZC]at hbb
  refine wpAny_call (codeAny_mono (Fk.run X.A X.stack s1 H1 ⟨us,[]⟩ us vs (λ_ _=>False) (λc' _ H'=>∃C,c'= .ref C/\ClsAt X.K c C/\QD H1 H') hr I1.Qrf hbb rv ⟨ra.ds,G,c,p1.rp,hl,e2,λC H' hC sm=>⟨C,rfl,hC,sm⟩⟩) λr s' hq=>?_)
  cases r with
  | error ev=>
   obtain⟨ea,C',H',B,a0,rfl,os,bare,un,hok,fl,cov,old,C,rfl,hC,sm⟩:=hq
   exact q C ea s' hC ⟨pins,σ,H',F,(rel.ext p1.same).ext sm,.inr ⟨B,a0,I1.Qts os un hok bare (λb z=>absurd z (by simp)),fl,cov,λb o eb hbf=>by
    obtain⟨⟨o',h1⟩,h2⟩:=QpH I1 hx eb hbf
    exact old b o' h1 h2,λp hp=>by
    obtain⟨e,_,ne,nf,_⟩:=I1.pin p hp
    exact old _ _ e λz=>(Zl.mp (I1.QeO _ z)).elim ne nf⟩⟩
  | ok fl=>
   cases fl with
   | ret u=>obtain⟨v,H',_,_,_,_,_,z⟩:=hq;exact z.elim
   | next=>exact False.elim hq
   | brk=>exact False.elim hq
   | cont=>exact False.elim hq
 ·cases ex
theorem QtJ(h:RzE X e fx)(hs:swapsWith e none pos.line X.env=pure false):Rz X (.Expr e pos) fx:=λH0 A0=>Qjp (h H0 A0) hs
theorem Qxl{i:Nat}(hN:X.N.Nodup)(h1:X.N[i]? =some x)(h2:Loc X.env.scope x)(h3:X.fn x=true∨X.env.scope.names.lookup x=some .local)(h:RzE X e fx)(hs:swapsWith e (some (.Name x p)) pos.line X.env=pure false):Rz X (.Assign [.Name x p] e pos) fx:=λH0 A0=>Qd3 hN h1 h2 (h H0 A0) hs h3
theorem QyE(hc:ST X c g)(ha:RzS X a fx)(hb:RzS X b fy):Rz X (.If c a b pos) (xIf g fx fy):=λH0 A0=>(Qtd (hc H0 A0) (ha H0 A0) (hb H0 A0)).mono λDd σ H hpt=>by
 obtain⟨ρ,hs,F,x,ρ',rel,e,q⟩:=hpt
 refine Qf e λc e1 e=>?_
 refine⟨ρ,hs,F,c,rel,e1,λH1 s1=>?_⟩
 cases c with
 | true=>exact Qpc ⟨ρ,hs,F,x,ρ',rel.ext s1,e,q⟩
 | false=>exact Qoi ⟨ρ,hs,F,x,ρ',rel.ext s1,e,q⟩
theorem QyX{t u:TS}(h1:PS X st t)(h2:PS X st u):PS X st (λDd σ H=>t Dd σ H∨u Dd σ H):=λpins s σ H Dd I q=>q.elim (h1 pins s σ H Dd I) (h2 pins s σ H Dd I)
theorem Qw2(h1:PSs X sts t)(h2:PSs X sts u):PSs X sts (λDd σ H=>t Dd σ H∨u Dd σ H):=λpins s σ H Dd I q=>q.elim (h1 pins s σ H Dd I) (h2 pins s σ H Dd I)
theorem QrA(h1:S1 X st f)(h2:Rz X st fx)(h3:RzS X sts fr):RzS X (st::sts) (QaZ f fx fr):=λH0 A0=>(QlL (QyX (h1 H0 A0) (h2 H0 A0)) (h3 H0 A0)).mono λDd σ H hpt=>by
 obtain⟨ρ,hs,F,x,ρ',rel,e,q⟩:=hpt
 unfold QaZ at e
 split at e
 ·rename_i ρ1 e1
  exact .inl ⟨ρ,hs,F,_,rel,e1,λσ' H' F' rel'=>⟨ρ1,hs,F',x,ρ',rel',e,q⟩⟩
 ·cases e
 ·exact .inr ⟨ρ,hs,F,x,ρ',rel,e,q⟩
theorem QwJ(hp:PassesOwn (model X.prog X.w) X.A X.env X.xe)(hc:X.calm=true)(hi:SI X tg iter fi)(hg:SG X tg t)(hb:SS X body f)(hbx:RzS X body fx)(hs:∀x,foldedSetIterable iter X.env x=pure x):
  Rz X (.For tg iter body [] pos) (QgK fi t f fx):=λH0 A0=>(Qpv hp hc (hi H0 A0) (hg H0 A0) (Qw2 (hb H0 A0) (hbx H0 A0)) hs).mono λDd σ H hpt=>by
 obtain⟨ρ,hs,F,c,ρ',rel,e,q⟩:=hpt
 refine Qf e λir e1 e=>?_
 refine⟨ρ,hs,F,ir,rel,e1,λJ H1 ts s1 wk hts ow hz=>?_⟩
 have rel1:Rel X.K H0 A0 (ts++hs) (QbE ir.M ρ) F σ H1:=((rel.ext s1).weak (Qck ir.M ρ)).hold λt ht=>⟨(hts t ht).1,Shr.of rel (hts t ht).2⟩
 refine⟨λi m σ' H'=>m=ir.items.length-i/\i<=ir.items.length/\∃ρi Fi,Rel X.K H0 A0 (ts++hs) ρi Fi σ' H'/\QdY t f fx (ir.items.drop i) ρi=some (c,ρ'),⟨_,rfl,ZZ _,_,F,rel1,by simpa using e⟩,?_⟩
 rintro i m σ' H' ⟨rfl,hi',ρi,Fi,reli,ei⟩
 have held:Qj1 X.K H' ts:=λt ht=>(reli.held t (Zd _ ht)).1
 by_cases hlt:i<ir.items.length
 ·rw[ZV hlt]at ei
  unfold QdY at ei
  refine Qf ei λρ1 eb ei=>?_
  refine .inr ⟨wk.go i H' hlt held,λσ2 H2=>∃ρ2 F2,Rel X.K H0 A0 (ts++hs) ρ2 F2 σ2 H2/\QdY t f fx (ir.items.drop (i+1)) ρ2=some (c,ρ'),λσ2 H2 ⟨ρ2,F2,rel2,e2⟩=>⟨_,by omega,rfl,hlt,ρ2,F2,rel2,e2⟩,λx H2 hy=>?_⟩
  obtain⟨s2,G0,rp0,hG0⟩:=wk.yld i ir.items[i] H' x H2 (by simp[hlt]) held hy
  have shr:Shr H0 A0 ρi Fi G0:=λa ha=>by
   obtain⟨t,ht,hat⟩:=hG0 a ha
   exact⟨(reli.held t (Zd _ ht)).2 a hat,λj d ej hj=>(reli.own j d ej).2.2.2.2 t (Zd _ ht) a hj hat⟩
  refine⟨ρi,ts++hs,Fi,ir.items[i],G0,ρ1,reli.ext s2,rp0,shr,eb,λσ3 F3 rel3 _ _=>?_⟩
  split at ei
  ·rename_i ρ2 eo
   exact .inl ⟨ρ1,ts++hs,F3,_,rel3,eo,λσ4 H4 F4 rel4=>⟨ρ2,F4,rel4,ei⟩⟩
  ·rename_i ρ2 eo
   exact .inl ⟨ρ1,ts++hs,F3,_,rel3,eo,λσ4 H4 F4 rel4=>⟨ρ2,F4,rel4,ei⟩⟩
  ·cases ei
  ·exact .inr ⟨ρ1,ts++hs,F3,c,ρ',rel3,ei,λC ea s' hC T=>q C ea s' hC T.hold⟩
 ·have hn:i=ir.items.length:=by omega
  subst hn
  rw[ZbH]at ei
  cases ei
end
noncomputable abbrev Qzi:List Value:=[.type "ValueError",.type "Exception",.type "BaseException",.type "object"]
structure Qf0 (K:PySem.W.Frag) (x:Str):Prop where
 ex:∃C,ClsAt K x C/\PySem.W.excIn K C Qzi "ValueError.__new__" =true
theorem Qs4{K:PySem.W.Frag}{C:Addr}{bmB:List Value}{newId:String}(q:PySem.W.excIn K C bmB newId=true){h:Heap}(X:K.In h):∃bm N nm qn bs hdct sn sub ab col dd k0 k1 k2 k3 k5 mN,
  h.get? C=some (excClassObj nm qn C N bs bm hdct sn sub ab col dd k0 k1 k2 k3 k5 newId)/\h.Ns N mN/\mN "__init__" =none/\OwnTail h bmB bm:=by
 rw[PySem.W.excIn.eq_def]at q
 split at q
 case h_2=>cases q
 rename_i dd cd sl ho
 split at q
 case h_2=>cases q
 rename_i C1 bm k0 k1 k2 k3 nid k5 em es
 simp only[Zg,beq_iff_eq,ZY]at q
 obtain⟨⟨⟨⟨⟨z1,z2⟩,nodel⟩,tl⟩,okN⟩,noInit⟩:=q
 subst z1 z2
 have hget:=X _ _ ho
 have hsl:sl= #[k0,k1,k2,k3,some (.builtin nid),k5]:=Array.ext' es
 rw[hsl]at hget
 refine⟨bm,cd.ns,cd.name,cd.qualname,cd.bases,cd.hasDict,cd.slotNames,cd.subclasses,cd.abstract,cd.collection,dd,k0,k1,k2,k3,k5,_,?_,.of_isNs (PySem.W.isNs_of_in X okN),PySem.W.nsMap_none_of_in X okN noInit,PySem.W.tail_of_in X tl⟩
 rw[hget]
 cases cd with
 | mk c1 c2 c3 c4 c5 c6 c7 c8 c9 c10 c11=>
  dsimp only at em nodel
  rw[em,nodel]
section
variable {X:Cx}{e:Expr}{fs:DA}{x:Str}{np cpos pos:Pos}
theorem Qry(hc:X.calm=true)(hg:Gl X x)(hk:Qf0 X.K x)(hdb:(x == ("__debug__" :Str))=false)(ha:SA X [e] fs)(he:starEach [e] X.env=(false,eval e X.env)::starEach [] X.env):
  Rz X (.Raise (some (.Call (.Name x np) [e] [] cpos)) none pos) (Qd4 x fs):=λH0 A0 pins s σ H Dd I hpt=>by
 obtain⟨ρ,hs,F,c,ρ',rel,ex,q⟩:=hpt
 refine Qf ex λra e1 e2=>?_
 split at e2
 case isFalse=>cases e2
 rename_i hl
 cases e2
 obtain⟨C,hC,hq⟩:=hk.ex
 obtain⟨bm,N,nm,qn,bs,hdct,sn,sub,ab,col,dd,k0,k1,k2,k3,k5,mN,o1,o2,o3,o4⟩:=Qs4 hq I.ok.mod.kin
 have hm:X.mg x=some (.ref C):=Zal I.ok.mod.kin I.ok.mod.glob hC
 refine wpAny_Raise_call_subT (C:=C) (nm:=nm) (q:=qn) (N:=N) (bs:=bs) (bm:=bm) (hdct:=hdct) (sn:=sn) (sub:=sub) (ab:=ab) (col:=col) (dd:=dd) (k0:=k0) (k1:=k1) (k2:=k2) (k3:=k3) (k5:=k5)
  PySem.F.excBase_ValueError (mN:=mN) (o4.hasType PySem.F.excBase_ValueError.hasBase) (I.ok.hd hc) (by rw[he];rfl) o3 (Qdq I hg hm ⟨rfl,?_⟩ hdb)
 have hargs:=ha H0 A0 cpos pins s σ H (λvs H1=>∃G,Qop X.K ρ F H H1 ra vs G) I ⟨ρ,hs,F,ra,rel,e1,λvs H1 G p1=>⟨G,p1⟩⟩
 rw[he]at hargs ⊢
 refine Calls.evalArgs_plain (thn hargs λus s2 ⟨vs,H1,I1,rv,G,p1⟩=>⟨rfl,?_,I1.bk _ _ o1,o2.keeps I1.bk,o4.keeps I1.bk,λh' ea hm=>?_⟩)
 ·show us.length<=sizeLine
  rw[← rv.length,← p1.rp.length]
  exact ZD hl (by decide)
 ·exact q C ea _ hC ⟨pins,σ,H1,F,rel.ext p1.same,.inl ⟨s2,us,I1,hm,rfl,rfl⟩⟩
end
end HS
namespace HS
open PySem PySem.Spec L2 PyProof.Rows
structure ThX where
 Γx:List (Str×(Nat×(List D->Option Str)))
 cls:List Str
structure XOk (X:Cx) (ΘX:ThX):Prop where
 ex:X.ex=[]
 stk:X.stack=X.env::X.outer
 fr:X.env.frame=some X.env.locals
 fx:∀x r,look x ΘX.Γx=some r->∃k f fd ps,Qaq X.prog X.w X.K X.mg X.base (CXR X.prog X.w) k f fd ps (spX X.K r.1 r.2)/\Qag k X.A/\X.mg x=some (.ref f)/\PySem.W.keepIn X.K (.ref f)=true/\Binds X.K fd ps []/\ps.length=r.1
 cl:∀x∈ΘX.cls,Qf0 X.K x
noncomputable def xc0(n:Nat)(Θ:Th)(ΘX:ThX)(e:Expr):DX:=match e with
 | .Call (.Name x _) (a::as) [] _=>if Θ.gl x then(match look x ΘX.Γx with
  | some r=>(match Qa7 n Θ (a::as)with | some fs=>QbN r.1 r.2 fs | none=>xNo)
  | none=>xNo)else xNo
 | _=>xNo
noncomputable abbrev xcE:=xc0
noncomputable def Qsc:List Expr->Option Str
 | [e]=>Qax e
 | _=>none
theorem Qk5{e:Expr}{x:Str}{G:Expr->Prop}(h:Qax e=some x)(g:∀p,G (.Name x p)):G e:=by
 cases e with
 | Name z p=>cases h;exact g p
 | _=>exact nomatch (show(none:Option Str)=some _ from h)
noncomputable def QxZ:Expr->Option (Str×Expr)
 | .Call f as kw _=>match kw with
  | _::_=>none
  | []=>match as with
   | []=>none
   | a::as=>match as with
    | _::_=>none
    | []=>(Qax f).map λx=>(x,a)
 | _=>none
mutual
noncomputable def Qpl(n:Nat)(Θ:Th)(ΘX:ThX)(st:Stmt):Option DX:=match n with
 | 0=>none
 | n+1=>match st with
  | .Raise v c _=>match c with
   | some _=>none
   | none=>v.bind λe=>(QxZ e).bind λq=>if Θ.gl q.1 && ΘX.cls.contains q.1 then(Qa7 n Θ [q.2]).map λfs=>Qd4 q.1 fs else none
  | .Expr e _=>some (xcE n Θ ΘX e)
  | .Assign ts e _=>match Qsc ts with
   | none=>some xNo
   | some x=>(Θ.Qbz x).map λ_=>xcE n Θ ΘX e
  | .If c a b _=>(QaV n Θ c).bind λg=>(Qc2 n Θ ΘX a).bind λfa=>(Qc2 n Θ ΘX b).map λfb=>xIf g fa fb
  | .For tg iter body els _=>match els with
   | _::_=>some xNo
   | []=>(Qh3 Θ tg).bind λt=>(Qf8 n Θ tg iter).bind λfi=>(Qac n Θ body).bind λfb=>(Qc2 n Θ ΘX body).map λfx=>QgK fi t fb fx
  | _=>some xNo
noncomputable def Qc2(n:Nat)(Θ:Th)(ΘX:ThX)(sts:List Stmt):Option DX:=match n with
  | 0=>none
  | n+1=>match sts with
    | []=>some xNo
    | st::r=>
     (Qis n Θ st).bind λf=>(Qpl n Θ ΘX st).bind λfx=>(Qc2 n Θ ΘX r).map λfr=>QaZ f fx fr
end
section
variable {X:Cx}{Θ:Th}{ΘX:ThX}
theorem Qiq{e:Expr}:RzE X e xNo:=λH0 A0 pins s σ H Q I ⟨ρ,hs,F,x,ρ',rel,e,q⟩=>by cases e
theorem Qxo{n:Nat}(ok:QH X Θ)(xk:XOk X ΘX)(e:Expr):RzE X e (xc0 n Θ ΘX e)/\(xc0 n Θ ΘX e≠xNo->∃x p a as pos,e= .Call (.Name x p) (a::as) [] pos):=by
 unfold xc0
 split
 ·rename_i x p a as pos
  refine⟨?_,λ_=>⟨x,p,a,as,pos,rfl⟩⟩
  split
  ·rename_i hg
   obtain⟨g1,g2,g3⟩:=QcO ok.toCtxB hg
   split
   ·rename_i r hr
    split
    ·rename_i fs hfs
     obtain⟨k,f,fd,ps,F1,F2,F3,F4,F5,F6⟩:=xk.fx x r hr
     obtain⟨s1,s2⟩:=callArgs (X:=X) hfs rfl pos
     exact Qvp F1 F2 g1 F3 F4 F5 xk.ex F6 ((QaC n).A X Θ _ fs ok hfs) g2 s1 s2
    ·exact Qiq
   ·exact Qiq
  ·exact Qiq
 ·exact⟨Qiq,λh=>absurd rfl h⟩
theorem Qqx{n:Nat}(ok:QH X Θ)(xk:XOk X ΘX)(e:Expr):RzE X e (xcE n Θ ΘX e)/\(xcE n Θ ΘX e≠xNo->∃x p a as pos,e= .Call (.Name x p) (a::as) [] pos):=Qxo ok xk e
structure QxC (n:Nat):Prop where
 X:∀X Θ ΘX st f,QH X Θ->XOk X ΘX->Qpl n Θ ΘX st=some f->Rz X st f
 Xs:∀X Θ ΘX sts f,QH X Θ->XOk X ΘX->Qc2 n Θ ΘX sts=some f->RzS X sts f
theorem QxL{n:Nat}(ih:QxC n):∀X Θ ΘX st f,QH X Θ->XOk X ΘX->Qpl (n+1) Θ ΘX st=some f->Rz X st f:=by
 intro X Θ ΘX st f ok xk h
 have hN:X.N.Nodup:=by rw[ok.N];exact ok.nd
 cases st with
 | Raise v c pos=>
  cases c with
  | some _=>exact nomatch (show(none:Option DX)=some _ from h)
  | none=>
   refine Qf (show v.bind _=some _ from h) λe he h=>?_
   cases he
   refine Qf h λq hq h'=>?_
   clear h
   split at h'
   ·rename_i hc
    simp only[Zg]at hc
    refine mapR h' λfs h1=>?_
    clear h'
    obtain⟨g1,g2,g3⟩:=QcO ok.toCtxB hc.1
    obtain⟨s1,s2⟩:=callArgs (X:=X) h1 rfl pos
    cases e with
    | Call fn as kw cp=>
     rcases kw with _ | ⟨k1,k2⟩
     ·rcases as with _ | ⟨a,_ | ⟨a2,as⟩⟩
      ·cases hq
      ·obtain⟨x,hx,rfl⟩:=Zc.mp (show(Qax fn).map _=some q from hq)
       exact Qk5 (G:=λt=>Rz X (.Raise (some (.Call t [a] [] cp)) none pos) (Qd4 x fs)) hx λnp=>Qry ok.calm g1 (xk.cl x (by simpa using hc.2)) g2 ((QaC n).A X Θ _ fs ok h1) s1
      ·cases hq
     ·cases hq
    | _=>exact nomatch (show(none:Option (Str×Expr))=some _ from hq)
   ·cases h'
 | Expr e pos=>
  cases(show some (xcE n Θ ΘX e)=some f from h)
  obtain⟨h1,h2⟩:=Qqx (n:=n) ok xk e
  by_cases hz:xcE n Θ ΘX e=xNo
  ·rw[hz];exact Qgb
  ·obtain⟨x,p,a,as,pos',rfl⟩:=h2 hz
   exact QtJ h1 rfl
 | Assign ts e pos=>
  rcases ts with _ | ⟨t,_ | ⟨t2,ts⟩⟩
  ·cases(show some xNo=some f from h);exact Qgb
  ·cases t with
   | Name x p=>
    refine mapR (show(Θ.Qbz x).map _=some f from h) λi hi=>?_
    obtain⟨g1,g2,g3⟩:=QbG ok.toCtxB hi
    obtain⟨h1,h2⟩:=Qqx (n:=n) ok xk e
    by_cases hz:xcE n Θ ΘX e=xNo
    ·rw[hz];exact Qgb
    ·obtain⟨x,p,a,as,pos',rfl⟩:=h2 hz
     exact Qxl hN g1 g2 g3 h1 (QbZ rfl)
   | _=>cases(show some xNo=some f from h);exact Qgb
  ·cases(show some xNo=some f from h);exact Qgb
 | If c a b pos=>
  refine Qf (show(QaV n Θ c).bind _=some f from h) λg h1 h=>?_
  exact bindR h λfa fb h2 h3=>QyE ((QaC n).T X Θ c g ok h1) (ih.Xs X Θ ΘX a fa ok xk h2) (ih.Xs X Θ ΘX b fb ok xk h3)
 | For tg iter body els pos=>
  cases els with
  | cons _ _=>cases(show some xNo=some f from h);exact Qgb
  | nil=>
   refine Qf (show(Qh3 Θ tg).bind _=some f from h) λt h1 h=>?_
   refine Qf h λfi h2 h=>?_
   refine bindR h λfb fx h3 h4=>?_
   obtain⟨i1,i2⟩:=(QaC n).I X Θ tg iter fi ok h2
   exact QwJ ok.pass ok.calm i1 (Qlc ok h1) ((Qe5 n).Ss X Θ body fb ok h3) (ih.Xs X Θ ΘX body fx ok xk h4) i2
 | _=>cases(show some xNo=some f from h);exact Qgb
theorem Qll:∀n,QxC n
 | 0=>⟨λ_ _ _ _ _ _ _ h=>(nomatch (show(none:Option DX)=some _ from h)),λ_ _ _ _ _ _ _ h=>(nomatch (show(none:Option DX)=some _ from h))⟩
 | n+1=>by
  have ih:=Qll n
  refine⟨QxL ih,λX Θ ΘX sts f ok xk h=>?_⟩
  cases sts with
  | nil=>cases(show some xNo=some f from h);exact QuI
  | cons st r=>
   refine Qf (show(Qis n Θ st).bind _=some f from h) λfs h1 h=>?_
   exact bindR h λfx fr h2 h3=>QrA (Qpu ok h1) (ih.X X Θ ΘX st fx ok xk h2) (ih.Xs X Θ ΘX r fr ok xk h3)
end
noncomputable def Qcq(k:Nat)(f:DX):List D->Option Str:=λds=>(f (Qat k ds)).map (·.1)
section
variable (P:Program) (w:World) (K:PySem.W.Frag) (mg:Str->Option Value) (base:Heap)
def QeU(k:Nat)(x:Str)(r:Nat×(List D->Option Str)):Prop:=∃f fd ps,Qaq P w K mg base (CXR P w) k f fd ps (spX K r.1 r.2)/\mg x=some (.ref f)/\PySem.W.keepIn K (.ref f)=true/\Binds K fd ps []/\ps.length=r.1
def QdI(k:Nat)(Γx:List (Str×(Nat×(List D->Option Str)))):Prop:=∀x r,look x Γx=some r->QeU P w K mg base k x r
end
section
variable {P:Program}{w:World}{K:PySem.W.Frag}{mg:Str->Option Value}{base:Heap}
theorem QdI.nil{k:Nat}:QdI P w K mg base k []:=λx r h=>by cases h
theorem QeU.mono{j k:Nat}{x:Str}{r:Nat×(List D->Option Str)}(h:QeU P w K mg base j x r)(hk:j<=k):QeU P w K mg base k x r:=by
 obtain⟨f,fd,ps,h1,h2⟩:=h
 exact⟨f,fd,ps,h1.mono hk,h2⟩
theorem QdI.mono{j k:Nat}{Γ:List (Str×(Nat×(List D->Option Str)))}(t:QdI P w K mg base j Γ)(hk:j<=k):QdI P w K mg base k Γ:=λx r e=>(t x r e).mono hk
theorem QdI.cons{k:Nat}{Γ:List (Str×(Nat×(List D->Option Str)))}{x:Str}{r:Nat×(List D->Option Str)}(t:QdI P w K mg base k Γ)(h:QeU P w K mg base (k+1) x r):QdI P w K mg base (k+1) ((x,r)::Γ):=λy q e=>by
 unfold look at e
 split at e
 ·rename_i z;cases e;subst z;exact h
 ·exact(t y q e).mono (ZaI _)
theorem Qaz.up{j k:Nat}{Γ:List (Str×FnR)}(t:Qaz P w K mg base j Γ)(hk:j<=k):Qaz P w K mg base k Γ:=λx r e=>(t x r e).mono hk
theorem Qjh{h:Heap}{x:Str}{st:Stmt}{ps:List Str}{k n:Nat}{Γ:List (Str×FnR)}{Γx:List (Str×(Nat×(List D->Option Str)))}{cls:List Str}{cs:List (Str×Cn)}{g:DX}(X:K.In h)(G:h.Ns mainGlobals mg)(F:Fact K x st)(S:QaA (namesOf (Qg st)) ps (Qg st))(B:QN x st ps)(M:Qb8 mg cs)(tab:Qaz P w K mg base k Γ)(tabx:QdI P w K mg base k Γx)
  (hcl:∀x∈cls,Qf0 K x) (hc:Qc2 n (QbL st Γ cs) ⟨Γx,cls⟩ (Q2 st)=some g):QeU P w K mg base (k+1) x (ps.length,Qcq (namesOf (Qg st)).length g):=by
 obtain⟨f,fd,Fn,a⟩:=F.ex
 refine⟨f,fd,ps,?_,Zal X G a,Fn.kp,Fn.binds (B ·),rfl⟩
 obtain⟨oc,od,kV,doc,pm,an,cdv,ct,osl,rfl,lk,hcd⟩:=Fn.ex
 refine QoU lk hcd S (QnP rfl) λA outer s H vs Q E hr hsp=>?_
 obtain⟨ds,L,y,rps,hl,hd,hE⟩:=hsp
 have ok:QH (Qcr (CXR P w) P w K mg base (namesOf (Qg st)) x (Qg st) f cdv A outer s H E) (QbL st Γ cs):=QjI (CX:=CXR P w) (E:=E) S M tab hr PassesOwn.leaving
 have xk:XOk (Qcr (CXR P w) P w K mg base (namesOf (Qg st)) x (Qg st) f cdv A outer s H E) ⟨Γx,cls⟩:=⟨rfl,rfl,rfl,λz r e=>by
  obtain⟨f',fd',ps',h1,h2,h3,h4,h5⟩:=tabx z r e
  exact⟨k,f',fd',ps',h1,hr,h2,h3,h4,h5⟩,hcl⟩
 refine⟨_,(Qll n).Xs _ _ _ _ g ok xk hc H L,?_⟩
 obtain⟨F0,rel⟩:=Qd2 (N:=namesOf (Qg st)) rps
 obtain⟨⟨y',ρ'⟩,e1,e2⟩:=Zc.mp hd
 cases e2
 exact⟨_,[],F0,y',ρ',rel,e1,λC ea s' hC T=>Qha rfl rfl rfl rfl rfl rfl rfl T λH' sm=>hE C H' hC sm⟩
end
end HS
namespace HS
open PySem PySem.Spec L2 PyProof.Rows
section
variable {X:Cx}{pins:List (Addr×Obj)}{σ:L2.St}{H:Hp}{s s':Shared}{B:Heap}
theorem QkK{h h':Heap}{c:Addr}{v:Option Value}(up:h.UpToSlots h')(z:h.IsCell c v):h'.IsCell c v:=by
 obtain⟨o,e,d⟩:=z
 obtain⟨sl,e'⟩:=up c o e λvs q=>by rw[d]at q;cases q
 exact⟨_,e',d⟩
theorem Qi7(I:Inv X pins σ H s)(ho:s'.os=s.os)(hg:AllBare s'.gens)(hx:X.ex=[])(b1:B.StaysIn s.heap)(b2:B.StaysIn s'.heap)(up:s.heap.UpToSlots s'.heap)(cov:Cov H B)
  (old:∀b o,X.s₀.heap.get? b=some o->b∉X.fs->∃o',B.get? b=some o') (pb:∀p∈X.pn++pins,∃o,B.get? p.1=some o):Inv X pins σ H s' where
 ok:=I.ok
 os:=ho.trans I.os
 bare:=hg
 base:=by
  have hb:=I.base
  rw[hx]at hb ⊢
  exact Qmb hb b1 b2 up old (λb o e hb=>Qix I.ok e hb) I.ok.frf
 loc:=by
  obtain⟨m,hn,hl⟩:=I.loc
  refine⟨m,up.ns hn,λi x v e1 e2 e3=>?_⟩
  obtain⟨u,r,q⟩:=hl i x v e1 e2 e3
  refine⟨u,r,?_⟩
  rcases q with q | ⟨k,c,e,z⟩
  ·exact .inl q
  ·exact .inr ⟨k,c,e,QkK up z⟩
 cell:=λx c e=>by
  obtain⟨v,z⟩:=I.cell x c e
  exact⟨v,QkK up z⟩
 free:=I.free
 freeC:=I.freeC
 pin:=λp hp=>by
  obtain⟨e,n,ne,nf,d⟩:=I.pin p hp
  obtain⟨o,eo⟩:=pb p hp
  have:=b1 _ _ eo
  rw[e]at this
  cases this
  exact⟨b2 _ _ eo,n,ne,nf,d⟩
 hok:=QjR I.hok b1 b2 cov
 len:=I.len
theorem Qun{ea C:Addr}{a0:Value}(I:Inv X pins σ H s)(hx:X.ex=[])(fl:Heap.FlyingW B X.stack ea (.ref C) a0 s.heap)(cov:Cov H B)(old:∀b o,X.s₀.heap.get? b=some o->b∉X.fs->∃o',B.get? b=some o')
  (pb:∀p∈X.pn++pins,∃o,B.get? p.1=some o):H ea=none/\Inv X pins σ (upd H ea (.ext (Qdd ea C))) s:=by
 obtain⟨oe,vs,he,hc,hd,_⟩:=fl.first
 have ne:∀{b o},B.get? b=some o->b≠ea:=λ{b o} e z=>by rw[z,fl.2.1]at e;cases e
 have hn:H ea=none:=by
  cases q:H ea with
  | none=>rfl
  | some u=>obtain⟨o,e⟩:=cov ea u q;exact absurd rfl (ne e)
 have nd:∀{b o},s.heap.get? b=some o->(∀vs,o.data≠ .fields vs)->b≠ea:=λ{b o} e h z=>by
  rw[z,he]at e
  cases e
  exact h vs hd
 have tr:∀b u,H b=some u->upd H ea (.ext (Qdd ea C)) b=some u:=λb u e=>by
  obtain⟨o,eo⟩:=cov b u e
  rw[QF (ne eo)];exact e
 refine⟨hn,I.ok,I.os,I.bare,⟨I.base.keep,I.base.slot,λb o e n hxx=>?_,I.base.there,λb xs q=>tr _ _ (I.base.tups b xs q),λb o u q=>tr _ _ (I.base.frzs b o u q),λb ps q=>?_⟩,I.loc,I.cell,?_,λx c e=>?_,λp hp=>?_,λb u e=>?_,I.len⟩
 ·rw[QF]
  ·exact I.base.free b o e n hxx
  ·by_cases hb:b∈X.fs
   ·obtain⟨sl,e1⟩:=I.base.slot b o e n hb hxx
    exact nd e1 λvs q=>Qix I.ok e hb vs q
   ·obtain⟨o',e1⟩:=old b o e hb
    exact ne e1
 ·obtain⟨more,q⟩:=I.base.tbls b ps q
  exact⟨more,tr _ _ q⟩
 ·rw[QF]
  ·exact I.free
  ·obtain⟨m,⟨o,es,ep,e,d,_⟩,_⟩:=I.loc
   exact nd e λvs q=>by rw[d]at q;cases q
 ·rw[QF]
  ·exact I.freeC x c e
  ·obtain⟨v,o,eo,d⟩:=I.cell x c e
   exact nd eo λvs q=>by rw[d]at q;cases q
 ·obtain⟨e,n,ne',nf,d⟩:=I.pin p hp
  obtain⟨o,eo⟩:=pb p hp
  exact⟨e,by rw[QF (ne eo)];exact n,ne',nf,d⟩
 ·by_cases hb:b=ea
  ·subst hb
   rw[Qao]at e
   cases e
   refine⟨⟨oe,vs,he,hc,hd⟩,⟨oe,he⟩,λh1 h2 ⟨o,w,e1,e2,e3⟩ k=>⟨o,w,k _ e1,e2,e3⟩⟩
  ·rw[QF hb]at e
   exact(I.hok b u e).QeW (λc v _ q=>q) (λc q=>tr _ _ q) λc xs q=>tr _ _ q
theorem Qi6{M:Model}{A:Around}{E:Value->Shared->Prop}{i:Nat}{x:Str}{pos:Pos}{Q:Unit->Shared->Prop}(I:Inv X pins σ H s)(hN:X.N.Nodup)(hi:X.N[i]? =some x)(hx:X.env.scope.names.lookup x=some .local)
  (h:∀s',Inv X pins (σ.set i none) H s'->Q () s'):wpAny M A (do bindName X.env x .none;unbindBehindTheSuite X.env x pos) Q E s:=by
 refine wpAny_bind (wpAny_bindName (Qgh (v:= .non) I hN hi (.inl hx) rfl (λs1 I1=>?_) (.inr hx)))
 have hcls:(X.env.scope.kind == .class || (X.env.scope.kind == .module && X.env.locals != X.env.globals))=false:=by rw[I.ok.kind];rfl
 have hiσ:i<σ.length:=by rw[I.len];exact(Zi.mp hi).1
 obtain⟨m,hn,hl⟩:=id I1.loc
 obtain⟨u,_,q⟩:=hl i x .non hi (Zr hiσ) (.inl hx)
 have hm:m x=some u:=by
  rcases q with⟨_,e⟩ | ⟨k,_⟩
  ·exact e
  ·have hx':X.env.kindOf x=some .local :=hx
   rcases k with k | k<;>rw[hx']at k<;>cases k
 unfold unbindBehindTheSuite
 refine wpAny_onRaise (wpAny_unbindName_local hx hn hm hcls λh' u' hn' hs=>h _ ?_)
 have cne:=I1.cne
 obtain⟨oL,_,_,hoL,_⟩:=id hn
 refine⟨I1.ok,I1.os,I1.bare,⟨λb o e n hb hx=>?_,λb o e n hb hx=>?_,I1.base.free,λb o e hx=>?_,I1.base.tups,I1.base.frzs,I1.base.tbls⟩,⟨_,hn',λj y v' e1 e2 e3=>?_⟩,λy c e=>?_,I1.free,I1.freeC,λp hp=>?_,λb ob e=>?_,by simpa using I1.len⟩
 ·exact(hs.2 b (ZN (Zu (Zv e) I.ok.above))).trans (I1.base.keep b o e n hb hx)
 ·obtain⟨sl,e1⟩:=I1.base.slot b o e n hb hx
  exact⟨sl,(hs.2 b (ZN (Zu (Zv e) I.ok.above))).trans e1⟩
 ·obtain⟨o',e1⟩:=I1.base.there b o e hx
  exact⟨o',(hs.2 b (ZN (Zu (Zv e) I.ok.above))).trans e1⟩
 ·by_cases hj:j=i
  ·subst hj
   rw[Zr hiσ]at e2
   cases e2
  ·rw[Zh (Ne.symm hj)]at e2
   have e2':(σ.set i (some V.non))[j]? =some (some v'):=by rw[Zh (Ne.symm hj)];exact e2
   obtain⟨u1,r1,q1⟩:=hl j y v' e1 e2' e3
   refine⟨u1,r1,?_⟩
   rcases q1 with⟨k,e⟩ | ⟨k,c,e,z⟩
   ·refine .inl ⟨k,?_⟩
    have:y≠x:=λe=>hj (Qif hN e1 (e▸hi))
    simp[this,e]
   ·exact .inr ⟨k,c,e,z.sameBut hs (cne y c e)⟩
 ·obtain⟨w',z⟩:=I1.cell y c e
  exact⟨w',z.sameBut hs (cne y c e)⟩
 ·obtain⟨e,n,ne,nf,d⟩:=I1.pin p hp
  exact⟨(hs.2 p.1 ne).trans e,n,ne,nf,d⟩
 ·refine(I1.hok b ob e).QeW (λc w' hc q=>(hs.2 c ?_).trans q) (λ_ q=>q) λ_ _ q=>q
  rintro rfl
  have hfree:=I1.free
  rcases hc with rfl | hc
  ·rw[hfree]at e;cases e
  ·rw[hfree]at hc;cases hc
end
end HS
namespace HS
open PySem PySem.Spec L2 PyProof.Rows
noncomputable abbrev inH(X:Cx)(ea:Addr):Cx:={X with A:=X.A.mark (some (.ref ea)),calm:=false,xe:=λ_ _=>False}
def Fly(X:Cx)(pins:List (Addr×Obj))(H:Hp)(ea C:Addr)(s:Shared):Prop:=∃B a0,Heap.FlyingW B X.stack ea (.ref C) a0 s.heap/\Cov H B/\(∀b o,X.s₀.heap.get? b=some o->b∉X.fs->∃o',B.get? b=some o')/\∀p∈X.pn++pins,∃o,B.get? p.1=some o
section
variable {X:Cx}{pins:List (Addr×Obj)}{σ:L2.St}{H:Hp}{s s':Shared}{B:Heap}{ea C:Addr}
theorem _root_.L2.Inv.inH(I:Inv X pins σ H s):Inv (HS.inH X ea) pins σ H s:=
 ⟨⟨I.ok.mod,I.ok.kind,I.ok.glob,I.ok.blt,I.ok.above,I.ok.inj,I.ok.has,I.ok.cab,λz=>(by cases z),I.ok.frames,I.ok.stk,I.ok.exf,I.ok.bs,I.ok.bsz,I.ok.noex,I.ok.exfs,I.ok.QcW,I.ok.frf⟩,I.os,I.bare,I.base,I.loc,I.cell,I.free,I.freeC,I.pin,I.hok,I.len⟩
theorem _root_.L2.Inv.Qfp(ok:X.Ok)(I:Inv (HS.inH X ea) pins σ H s):Inv X pins σ H s:=⟨ok,I.os,I.bare,I.base,I.loc,I.cell,I.free,I.freeC,I.pin,I.hok,I.len⟩
theorem Qnz{E:Value->Shared->Prop}{Qk:Shared->Prop}{H0:Hp}{A0:List Addr}{hs:List (V×D×List Addr)}{ρ:En}(T:QfQ X H0 A0 hs ρ (.ref C) ea s')(hx:X.ex=[])(hst:X.stack=X.env::X.outer)(hf:X.env.frame=some X.env.locals)
  (k:∀pins σ H F s'',Rel X.K H0 A0 hs ρ F σ H->Inv X pins σ H s''->Fly X pins H ea C s''->Qk s''):
  wpAny (model X.prog X.w) X.A (noteFrame (.ref ea) X.env) (λ_ s₂=>wpAny (model X.prog X.w) X.A (setFlight (.ref ea) none) (λ_ s₃=>Qk s₃) E s₂) E s':=by
 obtain⟨pins,σ,H,F,rel,⟨sg,args,I,hm,ho,hg⟩ | ⟨B,a0,I,fl,cov,old,pb⟩⟩:=T
 ·obtain⟨B,b1,b2,cov,old,pb⟩:=QlQ I hx
  have hfr:=I.ok.frames
  rw[hst]at hfr b2
  obtain⟨t,he,htn,ht⟩:=hm.there
  have fresh:B.get? ea=none:=by
   cases q:B.get? ea with
   | none=>rfl
   | some o=>have:=b1 _ _ q;rw[hm.new]at this;cases this
  have note:∀Q:Unit->Shared->Prop,(∀h',Heap.NotedW B (X.env::X.outer) ea (.ref C) (.ref t) (rawInt X.env.locals) s'.heap h'->Q () {s' with heap:=h'})->wpAny (model X.prog X.w) X.A (noteFrame (.ref ea) X.env) Q E s':=λQ hq=>by
   unfold noteFrame
   simp only[hf]
   refine wpAny_bind (wpAny_field (x:= .none) he rfl rfl ?_)
   rw[if_neg (by decide)]
   exact wpAny_entryW (a0:= .ref t) hfr (b2.of_keeps λb o hb _=>⟨o,hm.keeps b o hb,rfl⟩) hf he (λb o hb=>hm.keeps b o (b1 b o hb)) fresh rfl (by show 1<6;decide) rfl hq
  refine note _ λh1 hpt=>?_
  obtain⟨n1,n2,n3,n4⟩:=hpt
  refine wpAny_landsW (s:={s' with heap:=h1}) (L:=X.env.locals) ⟨n1,fresh,n2,n3⟩ λh2 fl up=>?_
  have up':sg.heap.UpToSlots h2:=((Heap.UpToSlots.of_keeps hm.keeps).trans n4).trans up
  refine k pins σ H F _ rel (Qi7 I ho (by show AllBare s'.gens;rw[hg];exact I.bare) hx b1 fl.1 up' cov old pb) ⟨B,_,by rw[hst];exact fl,cov,old,pb⟩
 ·have hfr:=I.ok.frames
  rw[hst]at hfr fl
  refine wpAny_looks_onW hfr hf fl λh1 hd up1=>?_
  refine wpAny_landsW (s:={s' with heap:=h1}) hd λh2 fl2 up2=>?_
  exact k pins σ H F _ rel (Qi7 I rfl I.bare hx fl.1 fl2.1 (up1.trans up2) cov old pb) ⟨B,a0,by rw[hst];exact fl2,cov,old,pb⟩
def QoX(K:PySem.W.Frag)(sub:Str->Str->Option Bool):Prop:=∀x y b,sub x y=some b->∃C c,ClsAt K x C/\PySem.W.KtsName K y c/\PySem.W.exmOne K (.ref C) c=some b
theorem QpL{E:Value->Shared->Prop}{y:Str}{c:Value}{np:Pos}{Q:Value->Shared->Prop}(I:Inv X pins σ H s)(hg:Gl X y)(hdb:(y == ("__debug__" :Str))=false)(k:PySem.W.KtsName X.K y c)(h:Q c s):wpAny (model X.prog X.w) X.A (eval (.Name y np) X.env) Q E s:=by
 rcases k with k | ⟨k1,k2,k3⟩
 ·exact Qdq I hg (Zal I.ok.mod.kin I.ok.mod.glob k) h hdb
 ·exact QeN I hg (PySem.W.mg_none_of I.ok.mod.kin I.ok.mod.glob k1) k2 h k3 hdb
theorem Qg6{K:PySem.W.Frag}{x:Str}{C C':Addr}(a:ClsAt K x C)(b:ClsAt K x C'):C=C':=by
 unfold ClsAt at a b
 rw[a]at b
 exact Value.ref.inj (Option.some.inj (Option.some.inj b))
theorem Rel.QjP{K:PySem.W.Frag}{H0:Hp}{A0:List Addr}{hs:List (V×D×List Addr)}{ρ:En}{F:Nat->List Addr}{i:Nat}(r:Rel K H0 A0 hs ρ F σ H):Rel K H0 A0 hs (ρ.set i none) F (σ.set i none) H:=by
 have w:=r.weak (Qkf (ρ:=ρ) i)
 refine⟨by simpa using r.len,λj d b e=>?_,w.own,w.src,w.held,w.same⟩
 obtain⟨v,h1,h2⟩:=w.val j d b e
 refine⟨v,?_,h2⟩
 by_cases hj:i=j
 ·subst hj
  exfalso
  by_cases hl:i<ρ.length
  ·rw[Zr hl]at e;cases e
  ·rw[Zw (by simp;omega)]at e;cases e
 ·rw[Zh hj];exact h1
noncomputable def Qzz(i:Nat):Out->Out
 | .nx ρ=> .nx (ρ.set i none)
 | .bk ρ=> .bk (ρ.set i none)
 | .ct ρ=> .ct (ρ.set i none)
 | .rt d fr=> .rt d fr
noncomputable abbrev Hd:=Str×Option Nat×DS
noncomputable def Qod(sub:Str->Str->Option Bool)(x:Str)(ρ:En):List Hd->Option Out
 | []=>none
 | h::r=>(sub x h.1).bind λb=>if b=true then(match h.2.1 with
  | none=>h.2.2 ρ
  | some i=>(h.2.2 (ρ.set i (some (.exc x,true)))).map (Qzz i))else Qod sub x ρ r
noncomputable def Qie(f:DS)(fx:DX)(sub:Str->Str->Option Bool)(hl:List Hd):DS:=λρ=>match f ρ with
 | some o=>some o
 | none=>(fx ρ).bind λq=>Qod sub q.1 q.2 hl
inductive Qfk (X:Cx):List ExceptHandler->List Hd->Prop
 | nil:Qfk X [] []
 | bare {y:Str}{np pos:Pos}{b₀:Stmt}{suite:List Stmt}{r:List ExceptHandler}{hr:List Hd}{f:DS}(hg:Gl X y) (hdb:(y == ("__debug__" :Str))=false) (hS:∀ea,SS (inH X ea) (b₀::suite) f) (t:Qfk X r hr):
   Qfk X (.ExceptHandler (some (.Name y np)) none (b₀::suite) pos::r) ((y,none,f)::hr)
 | as {y n:Str}{np pos:Pos}{b₀:Stmt}{suite:List Stmt}{r:List ExceptHandler}{hr:List Hd}{f:DS}{i:Nat}(hg:Gl X y) (hdb:(y == ("__debug__" :Str))=false) (hi:X.N[i]? =some n) (hl:X.env.scope.names.lookup n=some .local) (hS:∀ea,SS (inH X ea) (b₀::suite) f) (t:Qfk X r hr):
   Qfk X (.ExceptHandler (some (.Name y np)) (some n) (b₀::suite) pos::r) ((y,some i,f)::hr)
theorem _root_.L2.SP.Qfp{Dd:Ends}{f:Flow}(ok:X.Ok)(h:SP (HS.inH X ea) pins Dd f s):SP X pins Dd f s:=by
 cases f with
 | next=>obtain⟨σ',H',I,q⟩:=h;exact⟨σ',H',I.Qfp ok,q⟩
 | brk=>obtain⟨σ',H',I,q⟩:=h;exact⟨σ',H',I.Qfp ok,q⟩
 | cont=>obtain⟨σ',H',I,q⟩:=h;exact⟨σ',H',I.Qfp ok,q⟩
 | ret u=>obtain⟨v,σ',H',I,r,q⟩:=h;exact⟨v,σ',H',I.Qfp ok,r,q⟩
theorem Qq5{sub:Str->Str->Option Bool}{x:Str}{H0:Hp}{A0:List Addr}{hs:List (V×D×List Addr)}{ρ:En}{Dd:Ends}{o:Out}(hN:X.N.Nodup)(hx:X.ex=[])(hsub:QoX X.K sub)(hC:ClsAt X.K x C):
  ∀{hds:List ExceptHandler}{hl:List Hd},Qfk X hds hl->∀{F:Nat->List Addr}{σ:L2.St}{H:Hp}{s:Shared},Inv X pins σ H s->Rel X.K H0 A0 hs ρ F σ H->Fly X pins H ea C s->Qod sub x ρ hl=some o->Fits X.K H0 A0 hs Dd o→
   wpAny (model X.prog X.w) X.A (handleBy (.ref ea) X.env hds) (SP X pins Dd) X.xe s:=by
 intro hds hl h
 have test:∀{y:Str}{np pos:Pos}{nm:Option Str}{b₀:Stmt}{suite:List Stmt}{r:List ExceptHandler}{b:Bool}{σ:L2.St}{H:Hp}{s:Shared},Gl X y->(y == ("__debug__" :Str))=false->sub x y=some b->Inv X pins σ H s->Fly X pins H ea C s→
   (b=true->codeAny (model X.prog X.w) (X.A.mark (some (.ref ea))) (.handlers (.ref ea) [.ExceptHandler none nm (b₀::suite) pos] X.env) (λr s₂=>match r with
     | .ok f=>(match nm with
      | none=>SP X pins Dd f s₂
      | some n=>wpAny (model X.prog X.w) X.A (do bindName X.env n .none;unbindBehindTheSuite X.env n pos) (λ_ s₃=>SP X pins Dd f s₃) X.xe s₂)
     | .error x=>cameBackBy (model X.prog X.w) X.A X.env X.xe x s₂) s)→
   (b=false->wpAny (model X.prog X.w) X.A (handleBy (.ref ea) X.env r) (SP X pins Dd) X.xe s)->wpAny (model X.prog X.w) X.A (handleBy (.ref ea) X.env (.ExceptHandler (some (.Name y np)) nm (b₀::suite) pos::r)) (SP X pins Dd) X.xe s:=by
  intro y np pos nm b₀ suite r b σ H s hg hdb e1 I fly ht hf
  obtain⟨C',c,k1,k2,k3⟩:=hsub x y b e1
  cases Qg6 hC k1
  obtain⟨B,a0,fl,_⟩:=fly
  obtain⟨ob,hob,hc⟩:=fl.there
  have LT:PySem.W.Looks (model X.prog X.w) s.heap (typeOf (.ref ea)) (.ref C):=hc▸(PySem.W.Looks.ld hob).andThen .now
  refine wpAny_handleBy_cons (codeAny_handlers_test (QpL (X:=HS.inH X ea) (I.inH (ea:=ea)) hg hdb k2 ((PySem.W.exm_one I.kIn LT k3).here ?_))) (by intro q;cases q)
  cases b with
  | true=>exact ht rfl
  | false=>exact hf rfl
 induction h with
 | nil=>intro F σ H s I rel fly e q;cases e
 | @bare y np pos b₀ suite r hr f hg hdb hS t ih=>
  intro F σ H s I rel fly e q
  refine Qf e λb e1 e=>?_
  refine test hg hdb e1 I fly (λhb=>?_) λhb=>?_
  ·subst hb
   rw[if_pos rfl]at e
   obtain⟨B,a0,fl,cov,old,pb⟩:=fly
   refine codeAny_handlers_suite (lands_againW fl λh' fl' up=>?_)
   have I1:=Qi7 (s':={s with heap:=h'}) I rfl I.bare hx fl.1 fl'.1 up cov old pb
   exact wpAny_mono (hS ea H0 A0 pins _ σ H Dd (I1.inH (ea:=ea)) ⟨ρ,hs,F,o,rel,e,q⟩) (λf s2 hq=>SP.Qfp I.ok hq) λ_ _ z=>z.elim
  ·subst hb
   rw[if_neg ZJ]at e
   exact ih I rel fly e q
 | @as y n np pos b₀ suite r hr f i hg hdb hi hl hS t ih=>
  intro F σ H s I rel fly e q
  refine Qf e λb e1 e=>?_
  refine test hg hdb e1 I fly (λhb=>?_) λhb=>?_
  ·subst hb
   rw[if_pos rfl]at e
   obtain⟨o1,e2,e3⟩:=Zc.mp e
   subst e3
   obtain⟨B,a0,fl,cov,old,pb⟩:=fly
   refine codeAny_handlers_suite_as (lands_againW fl λh' fl' up=>?_)
   have I1:=Qi7 (s':={s with heap:=h'}) I rfl I.bare hx fl.1 fl'.1 up cov old pb
   obtain⟨hn,I2⟩:=Qun I1 hx fl' cov old pb
   have sm:QD H (upd H ea (.ext (Qdd ea C))):=λb u eb=>by rw[QF (λz=>by rw[z,hn]at eb;cases eb)];exact eb
   refine Qgh (X:=HS.inH X ea) (v:= .ref ea) (I2.inH (ea:=ea)) hN hi (.inl hl) rfl (λs3 I3=>?_) (.inr hl)
   obtain⟨F',rel'⟩:=(rel.ext sm).Qzp (i:=i) (d:= .exc x) (v:= .ref ea) (by rw[Rp];exact⟨⟨ea,rfl,C,hC,Qao⟩,rfl⟩) rfl
   refine wpAny_mono (hS ea H0 A0 pins _ _ _ ⟨λσ' H'=>Dd.nx (σ'.set i none) H',Dd.rt,λσ' H'=>Dd.bk (σ'.set i none) H',λσ' H'=>Dd.ct (σ'.set i none) H'⟩ I3 ⟨_,hs,F',o1,rel',e2,?_⟩) (λf s4 hq=>?_) λ_ _ z=>z.elim
   ·cases o1 with
    | nx ρ1=>exact λσ' H' F' rel'=>q _ _ _ rel'.QjP
    | bk ρ1=>exact λσ' H' F' rel'=>q _ _ _ rel'.QjP
    | ct ρ1=>exact λσ' H' F' rel'=>q _ _ _ rel'.QjP
    | rt d fr=>exact q
   ·cases f with
    | next=>obtain⟨σ',H',I4,q4⟩:=hq;exact Qi6 (I4.Qfp I.ok) hN hi hl λs5 I5=>⟨_,H',I5,q4⟩
    | brk=>obtain⟨σ',H',I4,q4⟩:=hq;exact Qi6 (I4.Qfp I.ok) hN hi hl λs5 I5=>⟨_,H',I5,q4⟩
    | cont=>obtain⟨σ',H',I4,q4⟩:=hq;exact Qi6 (I4.Qfp I.ok) hN hi hl λs5 I5=>⟨_,H',I5,q4⟩
    | ret u=>obtain⟨v,σ',H',I4,r4,q4⟩:=hq;exact Qi6 (I4.Qfp I.ok) hN hi hl λs5 I5=>⟨v,_,H',I5,r4,q4⟩
  ·subst hb
   rw[if_neg ZJ]at e
   exact ih I rel fly e q
noncomputable abbrev Cx.chg(X:Cx)(xe:Value->Shared->Prop)(pn:List (Addr×Obj)):Cx:={X with xe:=xe,pn:=pn}
theorem _root_.L2.Inv.chg{xe:Value->Shared->Prop}(I:Inv X pins σ H s):Inv (Cx.chg X xe (X.pn++pins)) [] σ H s:=
 ⟨⟨I.ok.mod,I.ok.kind,I.ok.glob,I.ok.blt,I.ok.above,I.ok.inj,I.ok.has,I.ok.cab,I.ok.hd,I.ok.frames,I.ok.stk,I.ok.exf,I.ok.bs,I.ok.bsz,I.ok.noex,I.ok.exfs,I.ok.QcW,I.ok.frf⟩,I.os,I.bare,I.base,I.loc,I.cell,I.free,I.freeC,λp hp=>I.pin p (by simpa using hp),I.hok,I.len⟩
theorem _root_.L2.Inv.Qi0{xe:Value->Shared->Prop}{pins':List (Addr×Obj)}(ok:X.Ok)(I:Inv (Cx.chg X xe (X.pn++pins)) pins' σ H s):Inv X pins σ H s:=
 ⟨ok,I.os,I.bare,I.base,I.loc,I.cell,I.free,I.freeC,λp hp=>I.pin p (Zd _ hp),I.hok,I.len⟩
theorem Qxb{sub:Str->Str->Option Bool}{body:List Stmt}{h₀:ExceptHandler}{hds:List ExceptHandler}{hl:List Hd}{f:DS}{fx:DX}{pos:Pos}(hN:X.N.Nodup)(hx:X.ex=[])(hst:X.stack=X.env::X.outer)(hf:X.env.frame=some X.env.locals)(hsub:QoX X.K sub)
  (hb:∀xe pn,PassesOwn (model X.prog X.w) X.A X.env xe->SS (Cx.chg X xe pn) body f/\RzS (Cx.chg X xe pn) body fx) (hh:Qfk X (h₀::hds) hl):S1 X (.Try body (h₀::hds) [] [] pos) (Qie f fx sub hl):=λH0 A0 pins s σ H Dd I=>exK λρ hs F o rel e q=>by
 refine wpAny_Try_except ?_
 have pass:PassesOwn (model X.prog X.w) X.A X.env (λe s₁=>wpAny (model X.prog X.w) X.A (noteFrame e X.env) (λ_ s₂=>wpAny (model X.prog X.w) X.A (setFlight e none) (λ_ s₃=>wpAny (model X.prog X.w) X.A (handleBy e X.env (h₀::hds)) (SP X pins Dd) X.xe s₃) X.xe s₂) X.xe s₁):=PassesOwn.looking
 obtain⟨b1,b2⟩:=hb _ (X.pn++pins) pass
 unfold Qie at e
 split at e
 ·rename_i o' eo
  cases e
  refine thn (b1 H0 A0 [] s σ H Dd I.chg ⟨ρ,hs,F,o,rel,eo,q⟩) λfl s1 hq=>?_
  cases fl with
  | next=>obtain⟨σ',H',I1,q1⟩:=hq;exact wpAny_execs_nil ⟨σ',H',I1.Qi0 I.ok,q1⟩
  | brk=>obtain⟨σ',H',I1,q1⟩:=hq;exact⟨σ',H',I1.Qi0 I.ok,q1⟩
  | cont=>obtain⟨σ',H',I1,q1⟩:=hq;exact⟨σ',H',I1.Qi0 I.ok,q1⟩
  | ret u=>obtain⟨v,σ',H',I1,r1,q1⟩:=hq;exact⟨v,σ',H',I1.Qi0 I.ok,r1,q1⟩
 ·obtain⟨⟨x,ρ'⟩,e1,e⟩:=bind1 e
  refine thn (b2 H0 A0 [] s σ H ⟨λ_ _=>False,λ_ _=>False,λ_ _=>False,λ_ _=>False⟩ I.chg ⟨ρ,hs,F,x,ρ',rel,e1,λC ea s' hC T=>?_⟩) λfl s1 hq=>?_
  ·refine Qnz (X:=Cx.chg X _ (X.pn++pins)) (E:=X.xe) (Qk:=λs₃=>wpAny (model X.prog X.w) X.A (handleBy (.ref ea) X.env (h₀::hds)) (SP X pins Dd) X.xe s₃) T hx hst hf λpins' σ' H' F' s'' rel' I' fly=>?_
   obtain⟨B,a0,fl,cov,old,pb⟩:=fly
   exact Qq5 hN hx hsub hC hh (I'.Qi0 I.ok) rel' ⟨B,a0,fl,cov,old,λp hp=>pb p (Zd _ hp)⟩ e q
  ·cases fl with
   | next=>obtain⟨σ',H',I1,q1⟩:=hq;exact q1.elim
   | brk=>obtain⟨σ',H',I1,q1⟩:=hq;exact q1.elim
   | cont=>obtain⟨σ',H',I1,q1⟩:=hq;exact q1.elim
   | ret u=>obtain⟨v,σ',H',I1,r1,q1⟩:=hq;exact q1.elim
end
end HS
namespace HS
open PySem PySem.Spec L2 PyProof.Rows PySem.W
structure Qf1 (K:Frag) (C:Addr):Prop where
 cl:(clsIn K C).isSome=true
 ga:findIn K (.ref C) "__getattribute__" =some (some (.builtin "BaseException.__getattribute__"))
 hk:findIn K (.ref C) "__getattr__" =some none
 ca:findIn K (.ref C) "__class__" =some (some (.builtin "object.__class__"))
 mo:mroIn K C (.type "object")=some true
 be:subIn K (.ref C) (.type "BaseException")=some true
section
variable {prog:Program}{w:World}{A:Around}{E:Value->Shared->Prop}{s:Shared}{K:Frag}{a C:Addr}
theorem QgV{M:Model}{h:Heap}(x:Qdd a C h):Looks M h (typeOf (.ref a)) (.ref C):=by
 obtain⟨o,vs,e,c,_⟩:=x
 exact c▸(Looks.ld e).andThen .now
theorem QuP{R:Result->Shared->Prop}{tp:Value}(z:Qf1 K C)(X:K.In s.heap)(x:Qdd a C s.heap)(h:R (.ok (.ret (.ref C))) s):
  codeAny (model prog w) A (.call (.builtin "getset_descriptor.__get__") ⟨[.builtin "object.__class__",.ref a,tp],[]⟩) R s:=by
 obtain⟨hh,g,dr,t,os⟩:=s
 have T0:=QgV (M:=model prog w) x
 have T1:=looks_mroIn (M:=model prog w) X z.mo
 refine codeAny_call_builtin KF.slot_gs.plain KF.entry_gs
  (KF.slot_gs.check _ _ _ _ _ _ _ _ KF.type_class (KF.args_gs _ _ _) ?_)
 unfold Builtin.«getset_descriptor.__get__» Builtin.Getset_descriptor.descrGet
 rw[dga_obj];refine wpAny_bind (wpAny_pure ?_)
 unfold Builtin.Getset_descriptor.descrGetter Builtin.Getset_descriptor.descrCheckInstance
  Builtin.Getset_descriptor.descrNameAndClass isInstance
 simp only[KF.owner_class]
 repeat lk
 refine⟨Code.quiet_builtin _ (by decide+kernel),
  codeAny_builtin KF.entry_class ?_⟩
 unfold Builtin.«object.__class__» shownTypeOf;repeat lk
 exact h
theorem QpP{tk:Tok}{Q:Fin->Shared->Prop}(z:Qf1 K C)(X:K.In s.heap)(x:Qdd a C s.heap)(h:Q (.done (.ret (.ref C))) s):
  wpAny (model prog w) A (Builtin.«object.__getattribute__» ⟨[.ref a,.str "__class__" tk],[]⟩) Q E s:=by
 obtain⟨hh,g,dr,t,os⟩:=s
 have T0:=QgV (M:=model prog w) x
 have T1:=looks_findIn (M:=model prog w) X z.ca
 have f5:=F.typeOf_object_class
 have f6:=F.slot_gs_get.lookup
 have f7:=F.slot_gs_set.lookup
 obtain⟨o,vs,hx,hc,hd⟩:=id x
 have hT5:(⟨hh,g,dr,t,os⟩:Shared).TypeIs (.builtin "object.__class__") "getset_descriptor" :=f5
 repeat (any_goals (first | assumption | (with_reducible refine wpAny_loadPart_at hx ?_;rw[hc]) | with_reducible refine T1.at ?_ | wp_step))
 refine QuP z X x ?_
 repeat (any_goals (first | assumption | wp_step))
theorem Qpt{M:Model}{nameV:Value}{Q:Unit->Shared->Prop}(z:Qf1 K C)(X:K.In s.heap)(x:Qdd a C s.heap)(h:Q () s):wpAny M A (checkBuiltinCall "BaseException.__getattribute__" ⟨[.ref a,nameV],[]⟩) Q E s:=by
 obtain⟨hh,g,dr,t,os⟩:=s
 have k1:builtinKind "BaseException.__getattribute__" =some .slot:=by decide+kernel
 have k2:splitId "BaseException.__getattribute__" =some ("BaseException","__getattribute__"):=by decide+kernel
 have T0:=QgV (M:=M) x
 have T1:=looks_subIn (M:=M) X z.be
 have T2:Looks M hh (isInstance (.ref a) (.type "BaseException")) true:=T0.andThen T1
 have k3:=F.args_bexc_ga (.ref a) nameV
 simp only[checkBuiltinCall,k1,k2]
 refine wpAny_bind (T2.at ?_)
 rw[if_neg (by decide)]
 have k4:Q () ⟨hh,g,dr,t,os⟩:=h
 repeat (any_goals (first | assumption | wp_step))
theorem QxF{tk:Tok}{Q:Value->Shared->Prop}(z:Qf1 K C)(X:K.In s.heap)(x:Qdd a C s.heap)(h:Q (.ref C) s):wpAny (model prog w) A (getAttrBy (.ref a) (.str "__class__" tk) false) Q E s:=by
 obtain⟨hh,g,dr,t,os⟩:=s
 have T0:=QgV (M:=model prog w) x
 have T1:=looks_findIn (M:=model prog w) X z.ga
 have T2:=looks_findIn (M:=model prog w) X z.hk
 have f3:=PySem.F.attr_ValueError.ga.bind (.ref a)
 have n2:(Value.builtin "BaseException.__getattribute__" == Value.builtin "object.__getattribute__")=false:=by decide+kernel
 have n1:(onTheHeap (Value.ref C) && Value.builtin "BaseException.__getattribute__" == Value.builtin "object.__getattribute__")=false:=by rw[n2];rfl
 obtain⟨o,vs,hx,hc,hd⟩:=id x
 repeat (any_goals (first | assumption | (with_reducible refine wpAny_loadPart_at hx ?_;rw[hc]) | with_reducible refine T1.at ?_ | with_reducible refine T2.at ?_ | wp_step))
 refine codeAny_call_builtin PySem.F.attr_ValueError.ga.plain F.entry_bexc_ga (Qpt z X x (QpP z X x ?_))
 have k4:Q (.ref C) ⟨hh,g,dr,t,os⟩:=h
 repeat (any_goals (first | assumption | wp_step))
theorem QsM{Q:Option Value->Shared->Prop}(z:Qf1 K C)(X:K.In s.heap)(x:Qdd a C s.heap)(h:Q (some (.ref C)) {s with toks:=s.toks+1}):wpAny (model prog w) A (getAttr? (.ref a) "__class__") Q E s:=by
 obtain⟨hh,g,dr,t,os⟩:=s
 have k4:Q (some (.ref C)) ⟨hh,g,dr,t+1,os⟩:=h
 have X':K.In (⟨hh,g,dr,t+1,os⟩:Shared).heap:=X
 have x':Qdd a C (⟨hh,g,dr,t+1,os⟩:Shared).heap:=x
 unfold getAttr? getAttrBy?
 repeat (any_goals (first | assumption | with_reducible apply QxF z X' x' | wp_step))
theorem Qm2(z:Qf1 K C):KitX K (.ref a) (.ref C) (Qdd a C) where
 ty:=λ_ _ _ x=>QgV x
 it:=λ_ _ X _=>by
  have h0:=z.cl
  unfold clsIn at h0
  split at h0
  ·rename_i ho
   intro A' Q' E' s' k q
   unfold isType loadHead
   refine wpAny_bind ?_
   exact wpAny_loadPart (k _ _ (X _ _ ho)) (wpAny_pure q)
  ·cases h0
 ne:=λh tp dd its n sl X htp=>by
  have h0:=z.cl
  refine Bool.eq_false_iff.mpr λq=>?_
  obtain rfl:C=tp:=Value.ref.inj (beq_iff_eq.mp q)
  unfold clsIn at h0
  split at h0
  ·rename_i ho
   have e:=X _ _ ho
   rw[htp]at e
   cases e
  ·cases h0
 ca:=λX x k=>QsM z X x k
end
end HS
namespace HS
open PySem PySem.Spec L2 PyProof.Rows
def QuE(K:PySem.W.Frag)(x y:Str)(b:Bool):Prop:=∃C c,ClsAt K x C/\PySem.W.KtsName K y c/\PySem.W.exmOne K (.ref C) c=some b/\PySem.W.kitOne K (.ref C) c=some b/\Qf1 K C
def QbU(K:PySem.W.Frag)(sub:Str->Str->Option Bool):Prop:=∀x y b,sub x y=some b->QuE K x y b
theorem QbU.ok{K:PySem.W.Frag}{sub:Str->Str->Option Bool}(h:QbU K sub):QoX K sub:=λx y b e=>by
 obtain⟨C,c,h1,h2,h3,_⟩:=h x y b e
 exact⟨C,c,h1,h2,h3⟩
noncomputable def vC:Value->V
 | .ref a=> .ref a
 | .type n=> .ty n
 | _=> .non
theorem Qqu{K:PySem.W.Frag}{C:Addr}{c:Value}{b:Bool}(h:PySem.W.kitOne K (.ref C) c=some b):RelV (vC c) c:=by
 cases c with
 | ref a=>exact rfl
 | type n=>exact rfl
 | _=>
  unfold PySem.W.kitOne at h
  split at h
  ·rename_i q;have:=beq_iff_eq.mp q;cases this
  ·cases h
noncomputable def anyS(sub:Str->Str->Option Bool)(x:Str):List Str->Option Bool
 | []=>some false
 | y::r=>(sub x y).bind λb=>(anyS sub x r).map λd=>b || d
noncomputable def Qsb(sub:Str->Str->Option Bool)(ys:List Str)(fa:DE):DE:=λρ=>(fa ρ).bind λr=>match r.d with
 | .exc x=>(anyS sub x ys).map λb=>⟨.bl b,true,[]⟩
 | _=>none
section
variable {X:Cx}{a:Expr}{fa:DE}{p p2 pos:Pos}{sub:Str->Str->Option Bool}
noncomputable def Qzd(K:PySem.W.Frag):List V->Hp->VK->Prop:=λxs H Q=>∃C a y,xs=[.ref a,y]/\H a=some (.ext (Qdd a C))/\Qf1 K C∧
 ((∃c b,y=vC c/\PySem.W.kitOne K (.ref C) c=some b/\Q (.bl b) H)∨∃tp cs b,y= .ref tp/\H tp=some (.tup (cs.map vC))/\(∀c∈cs,RelV (vC c) c)/\PySem.W.kitAny K (.ref C) cs=some b/\Q (.bl b) H)
theorem QlS{v:V}{c c':Value}(hv:v=vC c)(h:RelV (vC c) c)(h':RelV v c'):c'=c:=by
 subst hv
 cases c with
 | ref a=>exact h'
 | type n=>exact h'
 | none=>cases h';rfl
 | _=>cases h
theorem Qmp:∀{cs:List Value}{us:List Value},(∀c∈cs,RelV (vC c) c)->Qw (cs.map vC) us->us=cs
 | [],_,_,.nil=>rfl
 | c::cs,_,h,.cons r t=>by
  rw[QlS rfl (h c Zf) r,Qmp (λc hc=>h c (Zb _ hc)) t]
theorem QrT:Qbf X (.builtin "isinstance") (Qzd X.K):=by
 intro pins s σ H xs us Q I r h
 obtain⟨C,a,y,rfl,hH,z,h⟩:=h
 obtain⟨u,w,rfl,ru,rw'⟩:=vals2 r
 cases(show u=Value.ref a from ru)
 have xo:Qdd a C s.heap:=(show QbB X.prog X.w H s.heap a (.ext (Qdd a C))from I.hok a _ hH).1
 rcases h with⟨c,b,rfl,k,q⟩ | ⟨tp,cs,b,rfl,ht,hr,k,q⟩
 ·cases QlS rfl (Qqu k) rw'
  exact ZaH (Qm2 z) I.kIn xo k (λz=>nomatch z) λtk=>⟨.bl b,H,I.tok _,rfl,q⟩
 ·cases(show w=Value.ref tp from rw')
  obtain⟨_,its,rv,o,e1,e2,n,e3⟩:=(show QbB X.prog X.w H s.heap tp (.tup (cs.map vC))from I.hok tp _ ht)
  have hits:=Qmp hr rv
  subst hits
  obtain⟨oc,od,odat,osl⟩:=o
  dsimp only at e2 e3
  subst e2 e3
  exact PySem.W.kia_tup (Qm2 z) I.kIn xo e1 k (λz=>nomatch z) λtk=>⟨.bl b,H,I.tok _,rfl,q⟩
theorem Qwx{y:Str}{c:Value}{np:Pos}(hg:Gl X y)(hdb:(y == ("__debug__" :Str))=false)(k:PySem.W.KtsName X.K y c)(hr:RelV (vC c) c):PE X (.Name y np) (tC (vC c)):=λpins s σ H Q I h=>QpL I hg hdb k ⟨vC c,H,I,hr,h⟩
theorem Qt9{y:Str}(hsub:QbU X.K sub)(hg:Gl X "isinstance")(hm:X.mg "isinstance" =none)(hy:Gl X y)(hdb:(y == ("__debug__" :Str))=false)(ha:SE X a fa)(he:starEach [a,.Name y p2] X.env=(false,eval a X.env)::starEach [.Name y p2] X.env):
  SE X (.Call (.Name "isinstance" p) [a,.Name y p2] [] pos) (Qsb sub [y] fa):=λH0 A0 pins s σ H Q I=>exK λρ hs F r' rel e q=>by
 refine Qf e λr e1 e=>?_
 split at e
 ·rename_i x hd
  obtain⟨b,eb,rfl⟩:=Zc.mp e
  have eb':sub x y=some b:=by
   unfold anyS at eb
   refine Qf eb λb' h1 h2=>?_
   cases b' with
   | true=>cases h2;exact h1
   | false=>cases h2;exact h1
  obtain⟨C,c,k1,k2,k3,k4,k5⟩:=hsub x y b eb'
  refine Qh8 QrT hg hm Zbj (Qbu (ha H0 A0) (Qbu (Qwx hy hdb k2 (Qqu k4)) Qea) he) (by decide) (by decide) he (by rfl) pins s σ H Q I ?_
  refine⟨ρ,hs,F,r,rel,e1,λv H1 G p=>?_⟩
  have rp:=p.rp
  rw[hd,Rp]at rp
  obtain⟨⟨ea,rfl,C',hC',hH⟩,rfl⟩:=rp
  cases Qg6 k1 hC'
  exact⟨C,ea,_,rfl,hH,k5,.inl ⟨c,b,rfl,k4,q _ H1 [] (.flat p.same .QcI)⟩⟩
 ·cases e
end
end HS
namespace HS
open PySem PySem.Spec L2 PyProof.Rows
def Qfg(X:Cx)(hΓ:List (Str×FnR)):Prop:=True
theorem Qfg.inH{X:Cx}{hΓ:List (Str×FnR)}{ea:Addr}(h:Qfg X hΓ):Qfg (HS.inH X ea) hΓ:=h
def Ql4(P:Program)(w:World)(K:PySem.W.Frag)(mg:Str->Option Value)(base:Heap)(k:Nat)(Γ:List (Str×FnR)):Prop:=True
theorem Ql4.nil{P:Program}{w:World}{K:PySem.W.Frag}{mg:Str->Option Value}{base:Heap}{k:Nat}:Ql4 P w K mg base k []:=trivial
theorem QyC{X:Cx}{hΓ:List (Str×FnR)}{k:Nat}(hr:Qag k X.A)(t:Ql4 X.prog X.w X.K X.mg X.base k hΓ):Qfg X hΓ:=trivial
noncomputable def Qww:Const->Option DE
 | .bool b=>some (dC (.bl b))
 | _=>none
noncomputable def Qzr:List Expr->Option (Expr×Expr)
 | [a,y]=>some (a,y)
 | _=>none
noncomputable def Qw1(Θ:Th):Expr->Option (List Str)
 | .Name y _=>if Θ.gl y=true then some [y]else none
 | _=>none
mutual
noncomputable def Qeo(n:Nat)(Θ:Th)(sub:Str->Str->Option Bool)(hΓ:List (Str×FnR))(e:Expr):Option DE:=match n with
 | 0=>none
 | n+1=>match e with
  | .Name x _=>(Θ.slot x).map Qa
  | .Constant v _ _=>Qww v
  | .UnaryOp o a _=>match o with
   | .Not=>(Qeo n Θ sub hΓ a).map Qr3
   | _=>none
  | .BoolOp o es p=>match es with
   | []=>none
   | a::r=>match r with
    | []=>Qeo n Θ sub hΓ a
    | b::r=>match o with
     | .And=>(Qeo n Θ sub hΓ a).bind λfa=>(Qeo n Θ sub hΓ (.BoolOp .And (b::r) p)).map λfb=>Qdg fa fb
     | .Or=>none
  | .Call f as kw _=>match kw with
   | _::_=>none
   | []=>(Qax f).bind λx=>if Θ.gl x=true then if x= "isinstance" then(Qzr as).bind λp=>(Qw1 Θ p.2).bind λys=>(Qeo n Θ sub hΓ p.1).map λfa=>Qsb sub ys fa
    else none
    else none
  | _=>none
end
theorem QyR{n:Nat}{Θ:Th}{sub:Str->Str->Option Bool}{hΓ:List (Str×FnR)}{e:Expr}{f:DE}(h:Qeo n Θ sub hΓ e=some f)(es:List Expr)(env:Env):starEach (e::es) env=(false,eval e env)::starEach es env:=by
 cases n with
 | zero=>exact nomatch (show(none:Option DE)=some _ from h)
 | succ n=>cases e<;>first | rfl | exact nomatch (show(none:Option DE)=some _ from h)
theorem Qy9{X:Cx}{Θ:Th}{sub:Str->Str->Option Bool}{a e:Expr}{fa:DE}{ys:List Str}{p pos:Pos}(ok:CtxB X Θ)(hs:QbU X.K sub)(g1:Θ.gl "isinstance" =true)(h:Qw1 Θ e=some ys)(ha:SE X a fa)(he:starEach [a,e] X.env=(false,eval a X.env)::starEach [e] X.env):SE X (.Call (.Name "isinstance" p) [a,e] [] pos) (Qsb sub ys fa):=by
 obtain⟨a1,a2,a3⟩:=QcO ok g1
 cases e with
 | Name y p2=>
  change(if Θ.gl y=true then some [y]else none)=some ys at h
  split at h
  ·rename_i g2
   cases h
   obtain⟨b1,b2,b3⟩:=QcO ok g2
   exact Qt9 hs a1 (ok.mg _ (by decide+kernel)) b1 b2 ha he
  ·cases h
 | _=>exact nomatch (show(none:Option (List Str))=some _ from h)
structure Qxs (n:Nat):Prop where
 E:∀X Θ sub hΓ e f,CtxB X Θ->QbU X.K sub->Qfg X hΓ->Qeo n Θ sub hΓ e=some f->SE X e f
theorem QxD{n:Nat}(ih:Qxs n)(X:Cx)(Θ:Th)(sub:Str->Str->Option Bool)(hΓ:List (Str×FnR))(e:Expr)(f:DE)(ok:CtxB X Θ)(hs:QbU X.K sub)(hu:Qfg X hΓ)(h:Qeo (n+1) Θ sub hΓ e=some f):SE X e f:=by
 have ihE:=λe f=>ih.E X Θ sub hΓ e f ok hs hu
 cases e with
 | Name x p=>exact mapR (show Option.map _ _=some _ from h) λi h1=>Qms (Qdo ok h1)
 | Constant v k p=>
  change Qww v=some f at h
  cases v with
  | bool b=>cases h;exact QjB QtE (λ_ _=> .QcI) rfl
  | _=>exact nomatch (show(none:Option DE)=some _ from h)
 | UnaryOp o a p=>
  cases o with
  | Not=>exact mapR (show Option.map _ _=some _ from h) λfa h1=>QpC (ihE _ fa h1)
  | _=>exact nomatch (show(none:Option DE)=some _ from h)
 | BoolOp o es p=>
  cases es with
  | nil=>exact nomatch (show(none:Option DE)=some _ from h)
  | cons a r=>
   cases r with
   | nil=>exact Ql7 (ihE _ f h)
   | cons b r=>
    cases o with
    | And=>exact bindR h λfa fb h1 h2=>Qre (ihE _ fa h1) (ihE _ fb h2)
    | Or=>exact nomatch (show(none:Option DE)=some _ from h)
 | Call fn as kw p=>
  cases kw with
  | cons _ _=>exact nomatch (show(none:Option DE)=some _ from h)
  | nil=>
   refine Qf (show(Qax fn).bind _=some _ from h) λx hx h=>Qk5 (G:=λt=>SE X (.Call t as [] p) f) hx λnp=>?_
   split at h
   ·rename_i hg
    split at h
    ·rename_i hi
     subst hi
     refine Qf h λq hq h=>?_
     rcases as with _ | ⟨a,_ | ⟨y,_ | ⟨z,as⟩⟩⟩
     ·cases hq
     ·cases hq
     ·cases hq
      exact bindR h λys fa h1 h2=>Qy9 ok hs hg h1 (ihE _ fa h2) (QyR h2 _ _)
     ·cases hq
    ·cases h
   ·cases h
 | _=>exact nomatch (show(none:Option DE)=some _ from h)
theorem Qtp:∀n,Qxs n
 | 0=>⟨λ_ _ _ _ _ _ _ _ _ h=>nomatch (show(none:Option DE)=some _ from h)⟩
 | n+1=>⟨QxD (Qtp n)⟩
noncomputable def Qq2(Θ:Th)(sub:Str->Str->Option Bool)(hΓ:List (Str×FnR))(st:Stmt):Option DS:=match st with
 | .Assign ts e _=>(Qsc ts).bind λx=>(Θ.Qbz x).bind λi=>if Qhu e=false/\Qew e=true then(Qeo 20 Θ sub hΓ e).map λfa=>Qr i fa else none
 | _=>none
theorem Qq6{X:Cx}{Θ:Th}{sub:Str->Str->Option Bool}{hΓ:List (Str×FnR)}{st:Stmt}{f:DS}(ok:CtxB X Θ)(hs:QbU X.K sub)(hu:Qfg X hΓ)(h:Qq2 Θ sub hΓ st=some f):S1 X st f:=by
 cases st with
 | Assign ts e p=>
  refine Qf (show(Qsc ts).bind _=some _ from h) λx hx h'=>?_
  clear h
  rcases ts with _ | ⟨t,_ | ⟨t2,ts⟩⟩
  ·cases hx
  ·refine Qk5 (G:=λt=>S1 X (.Assign [t] e p) f) hx λq=>?_
   refine Qf h' λi hi h=>?_
   split at h
   ·rename_i hc
    refine mapR h λfa h1=>?_
    obtain⟨a1,a2,a3⟩:=QbG ok hi
    exact QgL λH0 A0=>Qd3 (by rw[ok.N];exact ok.nd) a1 a2 ((Qtp 20).E X Θ sub hΓ _ fa ok hs hu h1 H0 A0) (QbZ hc.2) a3
   ·cases h
  ·cases hx
 | _=>exact nomatch (show(none:Option DS)=some _ from h)
noncomputable def Qmv(Θ:Th)(sub:Str->Str->Option Bool)(hΓ:List (Str×FnR)):List Stmt->Option DS
 | []=>some Ql
 | st::r=>(Qq2 Θ sub hΓ st).bind λf=>(Qmv Θ sub hΓ r).map λg=>Qd f g
theorem Qkw{X:Cx}{Θ:Th}{sub:Str->Str->Option Bool}{hΓ:List (Str×FnR)}(ok:CtxB X Θ)(hs:QbU X.K sub)(hu:Qfg X hΓ):∀(sts:List Stmt) (f:DS),Qmv Θ sub hΓ sts=some f->SS X sts f
 | [],f,h=>by cases(show some Ql=some f from h);exact QqP
 | st::r,f,h=>bindR h λf g h1 h2=>QjO (Qq6 ok hs hu h1) (Qkw ok hs hu r g h2)
noncomputable def hd1(Θ:Th)(y:Str)(f:DS):Option Str->Option Hd
 | none=>some (y,none,f)
 | some nm=>if look nm Θ.sc=some .local then(Θ.Qbz nm).map λi=>(y,some i,f)else none
noncomputable def Qmx(Θ:Th)(sub:Str->Str->Option Bool)(hΓ:List (Str×FnR)):List ExceptHandler->Option (List Hd)
 | []=>some []
 | .ExceptHandler t nm bs _::r=>match bs with
  | []=>none
  | b::bs=>t.bind λt=>(Qax t).bind λy=>if Θ.gl y=true then(Qmv Θ sub hΓ (b::bs)).bind λf=>(hd1 Θ y f nm).bind λq=>(Qmx Θ sub hΓ r).map λl=>q::l else none
theorem Qsd{X:Cx}{Θ:Th}{ea:Addr}(ok:CtxB X Θ):CtxB (inH X ea) Θ:=⟨ok.N,ok.nd,ok.lc,ok.ce,ok.fe,ok.gl,ok.units,ok.mg,ok.cs⟩
theorem Qkq{X:Cx}{Θ:Th}{sub:Str->Str->Option Bool}{hΓ:List (Str×FnR)}(ok:CtxB X Θ)(hs:QbU X.K sub)(hu:Qfg X hΓ):∀(hds:List ExceptHandler) (hl:List Hd),Qmx Θ sub hΓ hds=some hl->Qfk X hds hl
 | [],f,h=>by cases(show some []=some f from h);exact .nil
 | .ExceptHandler t nm bs p::r,l,h=>by
  cases bs with
  | nil=>exact nomatch (show(none:Option (List Hd))=some _ from h)
  | cons b bs=>
   refine Qf (show t.bind _=some _ from h) λt ht h=>?_
   cases ht
   refine Qf h λy hy h=>Qk5 (G:=λt=>Qfk X (.ExceptHandler (some t) nm (b::bs) p::r) l) hy λnp=>?_
   split at h
   ·rename_i hc
    obtain⟨g1,g2,_⟩:=QcO ok hc
    refine Qf h λf h1 h=>?_
    refine bindR h λq l hq h2=>?_
    have hS:=λea=>Qkw (Qsd (ea:=ea) ok) hs hu.inH _ f h1
    have tl:=Qkq ok hs hu r l h2
    cases nm with
    | none=>cases(show some (y,none,f)=some q from hq);exact .bare g1 g2 hS tl
    | some nm=>
     change(if look nm Θ.sc=some .local then(Θ.Qbz nm).map λi=>(y,some i,f)else none)=some q at hq
     split at hq
     ·rename_i hn
      refine mapR (M:=λq=>Qfk X (.ExceptHandler (some (.Name y np)) (some nm) (b::bs) p::r) (q::l)) hq λi hi=>?_
      obtain⟨a1,a2,a3⟩:=QbG ok hi
      exact .as g1 g2 a1 (ok.lc nm hn) hS tl
     ·cases hq
   ·cases h
noncomputable def Qsr(n:Nat)(Θ:Th)(ΘX:ThX)(sub:Str->Str->Option Bool)(hΓ:List (Str×FnR))(st:Stmt):Option DS:=match st with
 | .Try body (h::hs) [] [] _=>(Qac n Θ body).bind λf=>(Qc2 n Θ ΘX body).bind λfx=>(Qmx Θ sub hΓ (h::hs)).map λhl=>Qie f fx sub hl
 | _=>none
theorem QuW{X:Cx}{Θ:Th}{xe:Value->Shared->Prop}{pn:List (Addr×Obj)}(ok:QH X Θ)(ht:∀st f,Θ.tr st=some f->∀X,S1 X st f)(hte:∀e f,Θ.te e=some f->∀X,SE X e f)(hp:PassesOwn (model X.prog X.w) X.A X.env xe):QH (Cx.chg X xe pn) Θ:=
 ⟨⟨ok.N,ok.nd,ok.lc,ok.ce,ok.fe,ok.gl,ok.units,ok.mg,ok.cs⟩,ok.calm,hp,ok.fns,λst f h=>ht st f h _,λe f h=>hte e f h _⟩
theorem Qu2{X:Cx}{Θ:Th}{ΘX:ThX}{sub:Str->Str->Option Bool}{hΓ:List (Str×FnR)}{n:Nat}{st:Stmt}{f:DS}(ok:QH X Θ)(ht:∀st f,Θ.tr st=some f->∀X,S1 X st f)(hte:∀e f,Θ.te e=some f->∀X,SE X e f)(xk:XOk X ΘX)(hs:QbU X.K sub)(hu:Qfg X hΓ)(h:Qsr n Θ ΘX sub hΓ st=some f):S1 X st f:=by
 unfold Qsr at h
 split at h
 ·rename_i body h0 hds pos
  refine Qf h λfb h1 h=>?_
  obtain⟨fx,hl,h2,h3,rfl⟩:=Qb7 h
  have hN:X.N.Nodup:=by rw[ok.N];exact ok.nd
  refine Qxb hN xk.ex xk.stk xk.fr hs.ok (λxe pn hp=>?_) (Qkq ok.toCtxB hs hu _ hl h3)
  have ok':=QuW (pn:=pn) ok ht hte hp
  have xk':XOk (Cx.chg X xe pn) ΘX:=⟨xk.ex,xk.stk,xk.fr,xk.fx,xk.cl⟩
  exact⟨(Qe5 n).Ss _ _ _ fb ok' h1,(Qll n).Xs _ _ _ _ fx ok' xk' h2⟩
 ·cases h
noncomputable def thT(n:Nat)(st:Stmt)(Γ:List (Str×FnR))(cs:List (Str×Cn))(ΘX:ThX)(sub:Str->Str->Option Bool)(hΓ:List (Str×FnR)):Th:={QbL st Γ cs with tr:=Qsr n (QbL st Γ cs) ΘX sub hΓ}
section
variable {P:Program}{w:World}{K:PySem.W.Frag}{mg:Str->Option Value}{base:Heap}
theorem QtO{h:Heap}{x:Str}{st:Stmt}{ps:List Str}{k n m:Nat}{Γ:List (Str×FnR)}{Γx:List (Str×(Nat×(List D->Option Str)))}{cls:List Str}{cs:List (Str×Cn)}{sub:Str->Str->Option Bool}{hΓ:List (Str×FnR)}{g:DS}(X:K.In h)(G:h.Ns mainGlobals mg)(F:Fact K x st)(S:QaA (namesOf (Qg st)) ps (Qg st))(B:QN x st ps)(M:Qb8 mg cs)(tab:Qaz P w K mg base k Γ)(tabx:QdI P w K mg base k Γx)
  (hcl:∀x∈cls,Qf0 K x) (hs:QbU K sub) (tabh:Ql4 P w K mg base k hΓ) (hc:Qac n (thT m st Γ cs ⟨Γx,cls⟩ sub hΓ) (Q2 st)=some g):Known P w K mg base (k+1) x ⟨ps.length,[],QB (namesOf (Qg st)).length g⟩:=by
 obtain⟨f,fd,Fn,a⟩:=F.ex
 refine⟨f,fd,ps,?_,Zal X G a,Fn.kp,λm hm=>⟨[],[],Fn.binds (B ·),.nil,λH=>by simp[Rps]⟩⟩
 refine Fn.ok S (Qke rfl) λcdv A outer s H vs Q E hr h=>?_
 obtain⟨ds,L,d,fr,rps,hl,hd,q⟩:=h
 have ok:=Qiu (P:=P) (w:=w) (K:=K) (base:=base) (qual:=x) (f:=f) (outer:=outer) (H:=H) (E:=E) S M tab hr
 have xk:XOk (Qcr CX0 P w K mg base (namesOf (Qg st)) x (Qg st) f cdv A outer s H E).nox ⟨Γx,cls⟩:=⟨rfl,rfl,rfl,λz r e=>by
  obtain⟨f',fd',ps',h1,h2,h3,h4,h5⟩:=tabx z r e
  exact⟨k,f',fd',ps',h1,hr,h2,h3,h4,h5⟩,hcl⟩
 have ok2:QH (Qcr CX0 P w K mg base (namesOf (Qg st)) x (Qg st) f cdv A outer s H E).nox (thT m st Γ cs ⟨Γx,cls⟩ sub hΓ):=
  ⟨⟨ok.N,ok.nd,ok.lc,ok.ce,ok.fe,ok.gl,ok.units,ok.mg,ok.cs⟩,ok.calm,ok.pass,ok.fns,λst' f' h'=>Qu2 ok (λ_ _ h=>(nomatch h)) (λ_ _ h=>(nomatch h)) xk hs (QyC hr tabh) h',λ_ _ h=>(nomatch h)⟩
 refine⟨_,(Qe5 n).Ss _ _ _ g ok2 hc H L,?_⟩
 obtain⟨F0,rel⟩:=Qd2 (N:=namesOf (Qg st)) rps
 unfold QB at hd
 refine Qf hd λo ho hd=>?_
 refine⟨_,[],F0,o,rel,ho,?_⟩
 cases o with
 | nx ρ=>
  cases hd
  exact λσ H' F' rel'=>q .non H' [] ⟨rel'.same,.QgO,λa ha=>by simp at ha,λ_=>⟨Zap,rfl,λa ha=>by simp at ha⟩⟩
 | bk ρ=>cases hd
 | ct ρ=>cases hd
 | rt d' fr'=>
  cases hd
  exact λv H' G r=>q v H' G r
end
end HS
namespace HS
open PySem PySem.Spec L2 PyProof.Rows
section
variable {K:PySem.W.Frag}{x y:Str}{C C':Addr}{v:Bool}
theorem Quv(a:PySem.W.nsIn K mainGlobals x=some (some (.ref C)))(b:PySem.W.excIn K C [.type "ValueError",.type "Exception",.type "BaseException",.type "object"] "ValueError.__new__" =true):Qf0 K x:=⟨⟨C,a,b⟩⟩
def XK1(K:PySem.W.Frag)(x:Str):Prop:=∃C,ClsAt K x C/\Qf1 K C
theorem Qou(a:PySem.W.nsIn K mainGlobals x=some (some (.ref C)))(h1:PySem.W.isClsIn K C=true)(h2:PySem.W.findIn K (.ref C) "__getattribute__" =some (some (.builtin "BaseException.__getattribute__")))(h3:PySem.W.findIn K (.ref C) "__getattr__" =some none)
  (h4:PySem.W.findIn K (.ref C) "__class__" =some (some (.builtin "object.__class__"))) (h5:PySem.W.mroIn K C (.type "object")=some true) (h6:PySem.W.subIn K (.ref C) (.type "BaseException")=some true):XK1 K x:=⟨C,a,h1,h2,h3,h4,h5,h6⟩
def Qo3(K:PySem.W.Frag)(x y:Str)(b:Bool):Prop:=∃C c,ClsAt K x C/\PySem.W.KtsName K y c/\PySem.W.exmOne K (.ref C) c=some b/\PySem.W.kitOne K (.ref C) c=some b
theorem QdM(a:PySem.W.nsIn K mainGlobals x=some (some (.ref C)))(b:PySem.W.nsIn K mainGlobals y=some (some (.ref C')))(c:PySem.W.exmOne K (.ref C) (.ref C')=some v)(d:PySem.W.kitOne K (.ref C) (.ref C')=some v):Qo3 K x y v:=⟨C,_,a,.inl b,c,d⟩
noncomputable def Qj6(K:PySem.W.Frag)(x:Str):List (Str×Bool)->Prop
 | []=>True
 | q::r=>Qo3 K x q.1 q.2/\Qj6 K x r
noncomputable def SubL(K:PySem.W.Frag):List (Str×List (Str×Bool))->Prop
 | []=>True
 | q::r=>(XK1 K q.1/\Qj6 K q.1 q.2)/\SubL K r
noncomputable def Qtl(tab:List (Str×List (Str×Bool))):Str->Str->Option Bool:=λx y=>(look x tab).bind λr=>look y r
theorem QhZ{α:Type}:∀{x:Str}{l:List (Str×α)}{a:α},look x l=some a->(x,a)∈l
 | x,[],a,h=>by cases h
 | x,(y,b)::r,a,h=>by
  unfold look at h
  split at h
  ·rename_i e;cases h;subst e;exact Zf
  ·exact Zb _ (QhZ h)
theorem Qj6.mem:∀{r:List (Str×Bool)},Qj6 K x r->∀q∈r,Qo3 K x q.1 q.2
 | [],_,q,h=>by simp at h
 | p::r,h,q,hq=>by
  rcases Zl.mp hq with rfl | hq
  ·exact h.1
  ·exact Qj6.mem h.2 q hq
theorem SubL.mem:∀{t:List (Str×List (Str×Bool))},SubL K t->∀q∈t,XK1 K q.1/\Qj6 K q.1 q.2
 | [],_,q,h=>by simp at h
 | p::r,h,q,hq=>by
  rcases Zl.mp hq with rfl | hq
  ·exact h.1
  ·exact SubL.mem h.2 q hq
theorem Qt5{tab:List (Str×List (Str×Bool))}(h:SubL K tab):QbU K (Qtl tab):=λx y b e=>by
 refine Qf e λr h1 h2=>?_
 obtain⟨⟨C,k1,k2⟩,k3⟩:=h.mem _ (QhZ h1)
 obtain⟨C',c,m1,m2,m3,m4⟩:=k3.mem _ (QhZ h2)
 cases Qg6 k1 m1
 exact⟨C,c,k1,m2,m3,m4,k2⟩
noncomputable def QxQ(K:PySem.W.Frag):List Str->Prop
 | []=>True
 | x::r=>Qf0 K x/\QxQ K r
theorem Qn0:∀{l:List Str},QxQ K l->∀x∈l,Qf0 K x
 | [],_,x,h=>by simp at h
 | y::l,h,x,hx=>by
  rcases Zl.mp hx with rfl | hx
  ·exact h.1
  ·exact Qn0 h.2 x hx
end
end HS
namespace HS
open PySem PySem.Spec L2
def Ap(f:DS)(fx:DX):Prop:=∀ρ,fx ρ≠none->f ρ=none
def ApF(d:Den)(xd:List D->Option Str):Prop:=∀ds,xd ds≠none->d ds=none
theorem QdZ{f:DS}:Ap f xNo:=λρ h=>absurd rfl h
theorem QbJ{x:Str}{fs:DA}:Ap QK (Qd4 x fs):=λρ h=>rfl
theorem Qc1{f g:DS}{fx gx:DX}(a:Ap f fx)(b:Ap g gx):Ap (Qd f g) (QaZ f fx gx):=λρ h=>by
 unfold QaZ at h
 unfold Qd
 split at h
 ·rename_i ρ' e
  rw[e]
  exact b ρ' h
 ·exact absurd rfl h
 ·rename_i e
  rw[e];rfl
theorem Qfb{c:DT}{f g:DS}{fx gx:DX}(a:Ap f fx)(b:Ap g gx):Ap (sIf c f g) (xIf c fx gx):=λρ h=>by
 unfold xIf at h
 unfold sIf
 cases e:c ρ with
 | none=>rfl
 | some v=>
  rw[e,Za]at h
  rw[Za]
  cases v with
  | true=>rw[if_pos rfl]at h ⊢;exact a ρ h
  | false=>rw[if_neg ZJ]at h ⊢;exact b ρ h
theorem Qc8{fi:DI}{t:Tg}{fb:DS}{fx:DX}(a:Ap fb fx):Ap (Qbb fi t fb) (QgK fi t fb fx):=λρ h=>by
 unfold QgK at h
 unfold Qbb
 cases e:fi ρ with
 | none=>rfl
 | some ir=>
  rw[e,Za]at h
  rw[Za]
  clear e
  revert h
  generalize ir.items=ds
  generalize QbE ir.M ρ=ρ0
  induction ds generalizing ρ0 with
  | nil=>exact λh=>absurd rfl h
  | cons d ds ih=>
   intro h
   unfold QdY at h
   unfold QcR
   cases e1:Qbh t d ρ0 with
   | none=>rfl
   | some ρ1=>
    rw[e1,Za]at h
    rw[Za]
    split at h
    ·rename_i ρ2 e2;rw[e2,Za];exact ih ρ2 h
    ·rename_i ρ2 e2;rw[e2,Za];exact ih ρ2 h
    ·exact absurd rfl h
    ·rename_i e2;rw[e2];rfl
theorem Qjo{n:Nat}{d:Den}{xd:List D->Option Str}{fs:DA}(a:ApF d xd){ρ:En}(h:QbN n xd fs ρ≠none):Qx n d [] fs ρ=none:=by
 unfold QbN at h
 unfold Qx
 cases e:fs ρ with
 | none=>rfl
 | some r=>
  rw[e,Za]at h
  rw[Za]
  split at h
  ·rename_i hl
   rw[if_pos (by simpa using hl),ZC,a r.ds (λz=>h (by rw[z];rfl))];rfl
  ·exact absurd rfl h
theorem Qa5{n:Nat}{d:Den}{xd:List D->Option Str}{fs:DA}(a:ApF d xd):Ap (Qbd (Qx n d [] fs)) (QbN n xd fs):=λρ h=>by unfold Qbd;rw[Qjo a h];rfl
theorem Qed{n i:Nat}{d:Den}{xd:List D->Option Str}{fs:DA}(a:ApF d xd):Ap (Qr i (Qx n d [] fs)) (QbN n xd fs):=λρ h=>by unfold Qr;rw[Qjo a h];rfl
theorem Qee{n:Nat}{d:Den}{xd:List D->Option Str}{fs:DA}(a:ApF d xd):Ap (Q3 (Qx n d [] fs)) (QbN n xd fs):=λρ h=>by unfold Q3;rw[Qjo a h];rfl
theorem Qtu{k:Nat}{f:DS}{fx:DX}(a:Ap f fx):ApF (QB k f) (Qcq k fx):=λds h=>by
 unfold Qcq at h
 unfold QB
 rw[a _ λz=>h (by rw[z];rfl)];rfl
def QdG(f:DX)(ρ:En)(x:Str):Prop:=∃ρ',f ρ=some (x,ρ')
theorem QmT{x:Str}{fs:DA}{ρ:En}{r:RA}(h:fs ρ=some r)(hl:r.ds.length<=1):QdG (Qd4 x fs) ρ x:=⟨ρ,by unfold Qd4;rw[h,Za,if_pos hl]⟩
theorem Qjx{n:Nat}{xd:List D->Option Str}{fs:DA}{ρ:En}{r:RA}{x:Str}(h:fs ρ=some r)(hl:r.ds.length=n)(hx:xd r.ds=some x):QdG (QbN n xd fs) ρ x:=⟨ρ,by unfold QbN;rw[h,Za,if_pos hl,hx];rfl⟩
theorem Qtj{g:DT}{fa fb:DX}{b:Bool}{ρ:En}{x:Str}(h:g ρ=some b)(q1:b=true->QdG fa ρ x)(q2:b=false->QdG fb ρ x):QdG (xIf g fa fb) ρ x:=by
 cases b with
 | true=>obtain⟨o,h1⟩:=q1 rfl;exact⟨o,by simp[xIf,h,h1]⟩
 | false=>obtain⟨o,h1⟩:=q2 rfl;exact⟨o,by simp[xIf,h,h1]⟩
theorem QcT{f:DS}{fx fr:DX}{ρ:En}{x:Str}(a:Ap f fx)(q:QdG fx ρ x):QdG (QaZ f fx fr) ρ x:=by
 obtain⟨o,h⟩:=q
 exact⟨o,by unfold QaZ;rw[a ρ (by rw[h];exact λz=>by cases z)];exact h⟩
theorem Quy{f:DS}{fx fr:DX}{ρ:En}{x:Str}(h:Run f ρ (Nx λρ'=>QdG fr ρ' x)):QdG (QaZ f fx fr) ρ x:=by
 obtain⟨o,h1,h2⟩:=h
 cases o with
 | nx ρ'=>obtain⟨o,h3⟩:=h2;exact⟨o,by unfold QaZ;rw[h1];exact h3⟩
 | _=>exact h2.elim
theorem Qp1{α:Type}{fi:DI}{t:Tg}{fb:DS}{fx:DX}{toD:α->D}{ρ:En}{ir:IR}{c:Str}(a:Ap fb fx)(xs:List α)(I:Nat->En->Prop)(k:Nat)(hk:k<xs.length)(h:fi ρ=some ir)(hx:ir.items=xs.map toD)(h0:I 0 (QbE ir.M ρ))
  (turn:∀i x ρ,i<k->xs[i]? =some x->I i ρ->∃ρ1,Qbh t (toD x) ρ=some ρ1/\Run fb ρ1 (Nx λρ2=>I (i+1) ρ2))
  (here:∀x ρ,xs[k]? =some x->I k ρ->∃ρ1,Qbh t (toD x) ρ=some ρ1/\QdG fx ρ1 c):QdG (QgK fi t fb fx) ρ c:=by
 unfold QdG QgK
 rw[h,Za,hx]
 clear h hx
 have gen:∀(n:Nat) (i:Nat) (ρ:En),k-i=n->i<=k->I i ρ->∃ρ',QdY t fb fx ((xs.drop i).map toD) ρ=some (c,ρ'):=by
  intro n
  induction n with
  | zero=>
   intro i ρ e hi hI
   obtain rfl:i=k:=by omega
   rw[ZV hk,Zq]
   unfold QdY
   obtain⟨ρ1,e1,ρ2,e2⟩:=here xs[i] ρ (by simp[hk]) hI
   refine⟨ρ2,?_⟩
   rw[e1,Za,a ρ1 (by rw[e2];exact λz=>by cases z)]
   exact e2
  | succ n ih=>
   intro i ρ e hi hI
   have hlt:i<xs.length:=by omega
   rw[ZV hlt,Zq]
   unfold QdY
   obtain⟨ρ1,e1,o,e2,e3⟩:=turn i xs[i] ρ (by omega) (by simp[hlt]) hI
   cases o with
   | nx ρ2=>
    obtain⟨ρ',e4⟩:=ih (i+1) ρ2 (by omega) (by omega) e3
    exact⟨ρ',by rw[e1,Za,e2];exact e4⟩
   | _=>exact e3.elim
 have:=gen (k-0) 0 _ rfl (ZZ _) h0
 simpa using this
theorem Qi4{k:Nat}{f:DX}{ds:List D}{x:Str}(h:QdG f (Qat k ds) x):Qcq k f ds=some x:=by
 obtain⟨ρ,e⟩:=h
 unfold Qcq
 rw[e];rfl
theorem Ql3{f:DS}{fx:DX}{sub:Str->Str->Option Bool}{y:Str}{h:DS}{r:List Hd}{x:Str}{ρ ρ':En}{Q:Out->Prop}(a:Ap f fx)(e:fx ρ=some (x,ρ'))(hs:sub x y=some true)(q:Run h ρ' Q):Run (Qie f fx sub ((y,none,h)::r)) ρ Q:=by
 obtain⟨o,h1,h2⟩:=q
 refine⟨o,?_,h2⟩
 unfold Qie
 rw[a ρ (by rw[e];exact λz=>by cases z)]
 dsimp only
 rw[e,Za]
 unfold Qod
 rw[hs,Za,if_pos rfl]
 exact h1
noncomputable def QdV:DX:=(QaZ (Qbb (Qav (Qa 1)) (.nm 2) (Qd (sIf (QE (dOp gNe (dBf Qbo (Qb (Qa 2) Qe)) (Qm (Qa 0) (dC (.int 0))))) (Qd QK Ql) Ql) Ql)) (QgK (Qav (Qa 1)) (.nm 2) (Qd (sIf (QE (dOp gNe (dBf Qbo (Qb (Qa 2) Qe)) (Qm (Qa 0) (dC (.int 0))))) (Qd QK Ql) Ql) Ql) (QaZ (sIf (QE (dOp gNe (dBf Qbo (Qb (Qa 2) Qe)) (Qm (Qa 0) (dC (.int 0))))) (Qd QK Ql) Ql) (xIf (QE (dOp gNe (dBf Qbo (Qb (Qa 2) Qe)) (Qm (Qa 0) (dC (.int 0))))) (QaZ QK (Qd4 "NoRow" (Qb (dC (.str "a row has one number for each place of the net, a full row one more")) Qe)) xNo) xNo) xNo)) xNo)
theorem QtG:ApF (QB 3 Qc4) (Qcq 3 QdV):=Qtu (by unfold Qc4 QdV;repeat (first | exact QdZ | exact QbJ | assumption | apply Qc1 | apply Qfb | apply Qc8 | apply Qa5 | apply Qed | apply Qee))
def QoO(xd:List D->Option Str):Prop:=∀(m:Int) (R L:List (Int×Int)) (xs:List (List D)) (k:Nat),k<xs.length->(∀i x,i<k->xs[i]? =some x->(x.length:Int)=m)->(∀x,xs[k]? =some x->(x.length:Int)≠m)->xd [Qh m R L,.lst (xs.map .lst)]=some "NoRow"
theorem Qsn:QoO (Qcq 3 QdV):=λm R L xs k hk h1 h2=>by
 refine Qi4 (QcT (Qc8 (by repeat (first | exact QdZ | exact QbJ | assumption | apply Qc1 | apply Qfb | apply Qc8 | apply Qa5 | apply Qed | apply Qee))) (Qp1 (by repeat (first | exact QdZ | exact QbJ | assumption | apply Qc1 | apply Qfb | apply Qc8 | apply Qa5 | apply Qed | apply Qee)) (toD:=λx=> .lst x) xs (λ_ ρ=>∃j2,ρ=[some (Qh m R L,false),some (.lst (xs.map .lst),false),j2]) k hk (ir:=⟨xs.map .lst,[]⟩) rfl rfl ⟨none,rfl⟩ ?_ ?_))
 ·rintro i x ρ hi hx ⟨j2,rfl⟩
  refine⟨_,rfl,?_⟩
  refine run_seq (QQ (b:=false) (QL (Qhb (Qd9 (xs:=x) (r:=⟨.lst x,false,[]⟩) rfl rfl) rfl (Qa6 (m:=m) (R:=R) (L:=L) (r:=⟨Qh m R L,false,[]⟩) rfl rfl).1 rfl) (by simp[h1 i x hi hx])) (λh=>by cases h) (λ_=>Qn (Qn ⟨_,rfl⟩)))
 ·rintro x ρ hx ⟨j2,rfl⟩
  refine⟨_,rfl,?_⟩
  refine QcT (by repeat (first | exact QdZ | exact QbJ | assumption | apply Qc1 | apply Qfb | apply Qc8 | apply Qa5 | apply Qed | apply Qee)) (Qtj (b:=true) (QL (Qhb (Qd9 (xs:=x) (r:=⟨.lst x,false,[]⟩) rfl rfl) rfl (Qa6 (m:=m) (R:=R) (L:=L) (r:=⟨Qh m R L,false,[]⟩) rfl rfl).1 rfl) (by simp[h2 x hx])) (λ_=>?_) (λh=>by cases h))
  exact QcT QbJ (QmT rfl (Zn _))
end HS
namespace HS
open PySem L2
theorem Qp8{n:Nat}{d:Den}{xd:List D->Option Str}{fs:DA}{ρ:En}{r:RA}{x:Str}(a:ApF d xd)(h:fs ρ=some r)(hl:r.ds.length=n)(hx:xd r.ds=some x):QaZ (Qbd (Qx n d [] fs)) (QbN n xd fs) xNo ρ=some (x,ρ):=by
 have e:QbN n xd fs ρ=some (x,ρ):=by unfold QbN;rw[h,Za,if_pos hl,hx];rfl
 unfold QaZ
 rw[Qa5 a ρ (by rw[e];exact λz=>by cases z)]
 exact e
theorem any_cons{sub:Str->Str->Option Bool}{x y:Str}{ys:List Str}{b c:Bool}(h:sub x y=some b)(t:anyS sub x ys=some c):anyS sub x (y::ys)=some (b || c):=by
 unfold anyS
 rw[h,Za,t];rfl
theorem QgQ{t:Int}{v:Nat}:∀(S:List (Int×Int)) (F:Nat->Option Int),S.foldl (Qdc t) F v=if F v=none/\∃s∈S,s.1.toNat=v/\F s.2.toNat=some t then some (t+1)else F v
 | [],F=>by simp
 | s::S,F=>by
  rw[ZbU,QgQ S]
  have key:∀w,(Qdc t F s w=some t↔F w=some t):=λw=>by
   unfold Qdc
   split
   ·rename_i h
    unfold upO
    split
    ·rename_i e;subst e;rw[h.1];simp;omega
    ·exact Iff.rfl
   ·exact Iff.rfl
  by_cases c:F s.1.toNat=none/\F s.2.toNat=some t
  ·by_cases hv:v=s.1.toNat
   ·have e1:Qdc t F s v=some (t+1):=by unfold Qdc upO;rw[if_pos c,if_pos hv]
    rw[if_neg (by rw[e1];simp),e1,if_pos ⟨by rw[hv];exact c.1,s,Zf,hv.symm,c.2⟩]
   ·have e1:Qdc t F s v=F v:=by unfold Qdc upO;rw[if_pos c,if_neg hv]
    rw[e1]
    simp only[key]
    by_cases h:F v=none/\∃s'∈S,s'.1.toNat=v/\F s'.2.toNat=some t
    ·obtain⟨h1,s',h2,h3⟩:=h
     rw[if_pos ⟨h1,s',h2,h3⟩,if_pos ⟨h1,s',Zb _ h2,h3⟩]
    ·rw[if_neg h,if_neg]
     rintro⟨h1,s',h2,h3,h4⟩
     rcases Zl.mp h2 with rfl | h2
     ·exact hv h3.symm
     ·exact h ⟨h1,s',h2,h3,h4⟩
  ·have e1:Qdc t F s=F:=by unfold Qdc;rw[if_neg c]
   rw[e1]
   by_cases h:F v=none/\∃s'∈S,s'.1.toNat=v/\F s'.2.toNat=some t
   ·obtain⟨h1,s',h2,h3⟩:=h
    rw[if_pos ⟨h1,s',h2,h3⟩,if_pos ⟨h1,s',Zb _ h2,h3⟩]
   ·rw[if_neg h,if_neg]
    rintro⟨h1,s',h2,h3,h4⟩
    rcases Zl.mp h2 with rfl | h2
    ·exact c ⟨h3▸h1,h4⟩
    ·exact h ⟨h1,s',h2,h3,h4⟩
structure Qzb (m:Nat) (S:List (Int×Int)) (t:Nat) (F:Nat->Option Int):Prop where
 pit:F m=some 0
 val:∀v d,F v=some d->0<=d/\d<=t/\v<=m/\(v≠m->1<=d)
 pred:∀v d,v≠m->F v=some d->∃s∈S,s.1.toNat=v/\F s.2.toNat=some (d-1)
 low:∀v d,v≠m->F v=some d->∀s∈S,s.1.toNat=v->∀e,F s.2.toNat=some e->d-1<=e
 non:∀v,F v=none->∀s∈S,s.1.toNat=v->∀e,F s.2.toNat=some e->e=t
theorem Qxz{m:Nat}{S:List (Int×Int)}(hS:∀s∈S,Good m s):∀t,Qzb m S t (QbO S (Qb3 m) t)
 | 0=>by
  have z:∀v d,Qb3 m v=some d->v=m/\d=0:=λv d h=>by
   unfold Qb3 at h
   split at h
   ·cases h;exact⟨by assumption,rfl⟩
   ·cases h
  refine⟨by simp[QbO,Qb3],λv d h=>?_,λv d hv h=>?_,λv d hv h=>?_,λv h s hs e1 e h2=>?_⟩
  ·obtain⟨rfl,rfl⟩:=z v d h;exact⟨by omega,by omega,by omega,λh=>absurd rfl h⟩
  ·exact absurd (z v d h).1 hv
  ·exact absurd (z v d h).1 hv
  ·obtain⟨_,rfl⟩:=z _ _ h2;rfl
 | t+1=>by
  have I:=Qxz hS t
  generalize hF:QbO S (Qb3 m) t=F at I
  have nx:∀v,QbO S (Qb3 m) (t+1) v=if F v=none/\∃s∈S,s.1.toNat=v/\F s.2.toNat=some (t:Int)then some ((t:Int)+1)else F v:=λv=>by
   show S.foldl (Qdc t) (QbO S (Qb3 m) t) v=_
   rw[QgQ,hF]
  generalize QbO S (Qb3 m) (t+1)=F' at nx
  have old:∀v d,F v=some d->F' v=some d:=λv d h=>by rw[nx,if_neg (by rw[h];simp)];exact h
  have new:∀v d,F' v=some d->F v=some d∨(F v=none/\d=t+1/\∃s∈S,s.1.toNat=v/\F s.2.toNat=some (t:Int)):=λv d h=>by
   rw[nx]at h
   split at h
   ·rename_i c;cases h;exact .inr ⟨c.1,rfl,c.2⟩
   ·exact .inl h
  refine⟨old _ _ I.pit,λv d h=>?_,λv d hv h=>?_,λv d hv h s hs e1 e h2=>?_,λv h s hs e1 e h2=>?_⟩
  ·rcases new v d h with h | ⟨h,rfl,s,hs,e1,_⟩
   ·obtain⟨a,b,c,d⟩:=I.val v d h;exact⟨a,by omega,c,d⟩
   ·have g:=hS s hs
    exact⟨by omega,by omega,by have:=g.2.2.1;have:=g.1;omega,λ_=>by omega⟩
  ·rcases new v d h with h | ⟨h,rfl,s,hs,e1,e2⟩
   ·obtain⟨s,hs,e1,e2⟩:=I.pred v d hv h
    exact⟨s,hs,e1,old _ _ e2⟩
   ·exact⟨s,hs,e1,by rw[old _ _ e2];congr 1;omega⟩
  ·rcases new v d h with h | ⟨hq,rfl,_⟩
   ·rcases new _ e h2 with h2 | ⟨_,rfl,_⟩
    ·exact I.low v d hv h s hs e1 e h2
    ·have:=(I.val v d h).2.1;omega
   ·rcases new _ e h2 with h2 | ⟨_,rfl,_⟩
    ·have:=I.non v hq s hs e1 e h2;omega
    ·omega
  ·rw[nx]at h
   split at h
   ·cases h
   ·rename_i c
    rcases new _ e h2 with h2 | ⟨_,rfl,_⟩
    ·exact absurd ⟨h,s,hs,e1,by rw[h2,I.non v h s hs e1 e h2]⟩ c
    ·omega
theorem Qh5:∀(m:Nat) (l:List Nat),l.Nodup->(∀x∈l,x<m)->l.length<=m
 | 0,l,_,h=>by cases l with
  | nil=>simp
  | cons x l=>exact absurd (h x Zf) (by omega)
 | m+1,l,nd,h=>by
  by_cases hm:m∈l
  ·have:=Qh5 m (l.erase m) (nd.erase m) λx hx=>by
    have h1:=h x (List.mem_of_mem_erase hx)
    have h2:x≠m:=λz=>by subst z;exact(List.Nodup.not_mem_erase nd) hx
    omega
   rw[Zbz hm]at this
   omega
  ·have:=Qh5 m l nd λx hx=>by
    have h1:=h x hx
    have h2:x≠m:=λz=>hm (z▸hx)
    omega
   omega
theorem Qsj{m:Nat}{S:List (Int×Int)}(m0:0<m)(hS:∀s∈S,Good m s){v:Nat}(hv:v<m)(hn:QbO S (Qb3 m) m v=none):∀s∈S,s.1.toNat=v->QbO S (Qb3 m) m s.2.toNat=none:=λs hs e1=>by
 have I:=Qxz hS m
 generalize QbO S (Qb3 m) m=F at I hn
 cases h:F s.2.toNat with
 | none=>rfl
 | some e=>
  exfalso
  have he:=I.non v hn s hs e1 e h
  have chain:∀k:Nat,k<=m->∃w,F w=some ((m:Int)-k):=λk=>by
   induction k with
   | zero=>intro _;exact⟨_,by rw[h,he];simp⟩
   | succ k ih=>
    intro hk
    obtain⟨w,hw⟩:=ih (by omega)
    have hwm:w≠m:=λz=>by rw[z,I.pit]at hw;have:=Option.some.inj hw;omega
    obtain⟨s',_,_,h2⟩:=I.pred w _ hwm hw
    exact⟨_,by rw[h2];congr 1;omega⟩
  have pick:∀k:Nat,∃w,k<m->F w=some ((k:Int)+1):=λk=>by
   by_cases hk:k<m
   ·obtain⟨w,hw⟩:=chain (m-(k+1)) (by omega)
    exact⟨w,λ_=>by rw[hw];congr 1;omega⟩
   ·exact⟨0,λz=>absurd z hk⟩
  obtain⟨f,this⟩:=ZbK pick
  have hl:=Qh5 m (v::(List.range m).map f) ?_ ?_
  ·simp at hl;omega
  ·refine ZU.mpr ⟨λhm=>?_,?_⟩
   ·obtain⟨k,hk,ek⟩:=ZK.mp hm
    have:=this k (ZH.mp hk)
    rw[ek,hn]at this;cases this
   ·rw[List.nodup_iff_pairwise_ne,List.pairwise_map]
    refine ZbA ?_ List.nodup_range
    intro a b ha hb hab e
    have h1:=this a (ZH.mp ha)
    have h2:=this b (ZH.mp hb)
    rw[e,h2]at h1
    have:=Option.some.inj h1
    omega
  ·intro x hx
   rcases Zl.mp hx with rfl | hx
   ·exact hv
   ·obtain⟨k,hk,rfl⟩:=ZK.mp hx
    have h1:=this k (ZH.mp hk)
    have h2:=I.val _ _ h1
    have h3:f k≠m:=λz=>by rw[z,I.pit]at h1;have:=Option.some.inj h1;omega
    omega
structure Qz7 (m:Nat) (S:List (Int×Int)) (F:Nat->Option Int):Prop where
 pit:F m=some 0
 non:∀v,v<m->F v=none->∀s∈S,s.1.toNat=v->F s.2.toNat=none
 pred:∀v d,v<m->F v=some d->∃s∈S,s.1.toNat=v/\F s.2.toNat=some (d-1)
 low:∀v d,v<m->F v=some d->∀s∈S,s.1.toNat=v->∀e,F s.2.toNat=some e->d-1<=e
noncomputable def QiN(m:Int)(s:Int×Int):Bool:=decide (0<=s.1) && decide (0<=s.2) && decide (s.1<=m) && decide (s.2<=m) && !decide (s.1=s.2)
theorem QmX{m:Nat}{s:Int×Int}(h:QiN m s=true):Good m s:=by
 unfold QiN at h
 simp only[Zg,decide_eq_true_eq,ZY,decide_eq_false_iff_not]at h
 exact⟨h.1.1.1.1,h.1.1.1.2,h.1.1.2,h.1.2,h.2⟩
theorem QrK{m:Nat}{s:Int×Int}(h:Good m s):QiN m s=true:=by
 unfold QiN
 simp only[Zg,decide_eq_true_eq,ZY,decide_eq_false_iff_not]
 exact⟨⟨⟨⟨h.1,h.2.1⟩,h.2.2.1⟩,h.2.2.2.1⟩,h.2.2.2.2⟩
structure Qmq (m:Int) (R L:List (Int×Int)):Prop where
 lo:1<=m
 hi:m<=8
 Qrl:∀s∈R++L,QiN m s=true
 pit:∀s∈L,s.1≠m
theorem Qqk{m:Nat}{S:List (Int×Int)}(m0:0<m)(hS:∀s∈S,Good m s)(hE:Qic m S):∀p,p<m->QbO S (Qb3 m) m p≠none:=λp hp hn=>by
 have pit:QbO S (Qb3 m) m m≠none:=λh=>by
  have key:∀t,QbO S (Qb3 m) t m=some 0:=λt=>by
   induction t with
   | zero=>show Qb3 m m=some 0;unfold Qb3;rw[if_pos rfl]
   | succ t ih=>
    show S.foldl (Qdc t) (QbO S (Qb3 m) t) m=some 0
    rw[QgQ,if_neg (λ⟨h1,_⟩=>by rw[ih]at h1;cases h1),ih]
  rw[key m]at h;cases h
 obtain⟨s,hs,h1,h2,h3⟩:=hE (λv=>QbO S (Qb3 m) m v=none) ⟨p,hp,hn⟩
 have g:=hS s hs
 have e:=Qsj m0 hS (v:=s.1.toNat) (by have:=g.1;omega) h2 s hs rfl
 rcases h3 with z | z
 ·rw[z,ZP]at e
  exact pit e
 ·exact z e
structure Qwg (m:Nat) (R L:List (Int×Int)):Prop where
 few:R.length+L.length<=40
 lead:∀p,p<m->QbO (Qj R L) (Qb3 m) m p≠none
noncomputable def spr(f:Nat->Int):Nat->Int
 | 0=>1
 | k+1=>spr f k*f k
def QrR(m:Nat)(R L:List (Int×Int)):Prop:=L=[]∨spr (Qv R L) m<=300
structure Qy0 (m:Int) (R L:List (Int×Int)):Prop where
 num:Qmq m R L
 way:Qwg m.toNat R L
 sml:QrR m.toNat R L
theorem Qmq.nat{m:Int}{R L:List (Int×Int)}(h:Qmq m R L):∃k:Nat,m=k/\0<k/\k<=8/\(∀s∈R,Good k s)/\∀s∈L,Good k s:=by
 have h1:=h.lo
 have h2:=h.hi
 obtain⟨k,rfl⟩:∃k:Nat,m=k:=⟨m.toNat,by omega⟩
 exact⟨k,rfl,by omega,by omega,λs hs=>QmX (h.Qrl s (Zd _ hs)),λs hs=>QmX (h.Qrl s (Ze _ hs))⟩
noncomputable def Qde(i:Nat)(w:Int×Int×Bool):Int:=isI i w.1+if w.2.2=true then 0 else isI i w.2.1
noncomputable def Qam(W:List (Int×Int×Bool))(i:Nat):Int:=(W.map (Qde i)).sum
theorem Qf9(W:List (Int×Int×Bool))(w:Int×Int×Bool)(i:Nat):Qam (W++[w]) i=Qam W i+Qde i w:=by
 unfold Qam
 rw[ZF,Zaj]
 simp
theorem QfT(W:List (Int×Int×Bool))(w:Int×Int×Bool)(i:Nat):Qam (w::W) i=Qde i w+Qam W i:=by
 unfold Qam
 rw[Zq,ZS]
theorem Qfa(i:Nat):∀W:List (Int×Int×Bool),Qv (Qal W) (QY W) i=Qam W i
 | []=>rfl
 | w::W=>by
  have ih:=Qfa i W
  rw[QfT,← ih]
  unfold Qv Qal QY Qde
  obtain⟨a,b,l⟩:=w
  cases l with
  | true=>
   simp only[Zav,Bool.not_true,Bool.false_eq_true,if_false,if_true,Zq,ZS,QiT]
   omega
  | false=>
   simp only[Zav,Bool.not_false,Bool.false_eq_true,if_false,if_true,Zq,ZS,Qcb]
   have e:isI i (if b<a then b else a)+isI i (if b>a then b else a)=isI i a+isI i b:=by
    by_cases h1:b<a
    ·rw[if_pos h1,if_neg (by omega)];omega
    ·rw[if_neg h1]
     by_cases h2:b>a
     ·rw[if_pos h2]
     ·have:a=b:=by omega
      rw[if_neg h2,this]
   omega
theorem QqC(i:Nat)(a:Int):0<=isI i a/\isI i a<=1:=by unfold isI;split<;>omega
theorem QrX(i:Nat)(w:Int×Int×Bool):0<=Qde i w/\Qde i w<=2:=by
 have h1:=QqC i w.1
 have h2:=QqC i w.2.1
 unfold Qde
 split<;>omega
theorem QkE(i:Nat):∀W:List (Int×Int×Bool),0<=Qam W i/\Qam W i<=2*(W.length:Int)
 | []=>by unfold Qam;simp
 | w::W=>by
  have ih:=QkE i W
  have h:=QrX i w
  rw[QfT,Zk]
  omega
theorem Qlq{f:Nat->Int}{a:Int}(h:0<=a)(k:Nat):up f a.toNat (f a.toNat+1) k=f k+isI k a:=by
 unfold up isI
 by_cases e:k=a.toNat
 ·rw[if_pos e,if_pos (by omega),e]
 ·rw[if_neg e,if_neg (by omega)];omega
theorem Qd5{f g:Nat->Int}:∀{n:Nat},(∀i,i<n->f i=g i)->spr f n=spr g n
 | 0,_=>rfl
 | n+1,h=>by
  unfold spr
  rw[Qd5 λi hi=>h i (by omega),h n (by omega)]
theorem Qe7(i:Nat):∀W:List (Int×Int×Bool),Qam W.reverse i=Qam W i
 | []=>rfl
 | w::W=>by rw[ZaV,Qf9,Qe7 i W,QfT,Int.add_comm]
structure Qhm (m:Nat) (W:List (Int×Int×Bool)):Prop where
 good:∀w∈W,GoodW m w
 few:W.length<=40
 esc:Esc m W
 small:QY W=[]∨spr (Qam W) m<=300
theorem QlD{W:List (Int×Int×Bool)}(h:∀w∈W,w.2.2=false):QY W=[]:=by
 unfold QY
 rw[ZbR.mpr λw hw=>by rw[h w hw];exact ZJ];rfl
theorem Qhm.rev{m:Nat}{W:List (Int×Int×Bool)}(h:Qhm m W):Qhm m W.reverse where
 good:=λw hw=>h.good w (ZaP.mp hw)
 few:=by rw[ZaY];exact h.few
 esc:=h.esc.mono λw hw=>ZaP.mpr hw
 small:=by
  rcases h.small with z | z
  ·left
   refine QlD λw hw=>?_
   cases e:w.2.2 with
   | false=>rfl
   | true=>
    have:QiT w∈QY W:=ZK.mpr ⟨w,Zau.mpr ⟨ZaP.mp hw,e⟩,rfl⟩
    rw[z]at this
    simp at this
  ·right
   rw[Qd5 λi _=>Qe7 i W]
   exact z
theorem Qhm.ok{m:Nat}{W:List (Int×Int×Bool)}(m0:0<m)(m8:m<=8)(h:Qhm m W):Qy0 m (Qal W) (QY W) where
 num:=⟨by omega,by omega,λs hs=>QrK (by
  rcases Zo.mp hs with z | z
  ·exact(Qdu h.good s z).1
  ·exact(QcM h.good s z).1),λs hs=>by have:=(QcM h.good s hs).2;omega⟩
 way:=by
  rw[ZP]
  refine⟨?_,Qqk m0 (QaP (λs hs=>(Qdu h.good s hs).1) λs hs=>(QcM h.good s hs).1) ?_⟩
  ·unfold Qal QY
   rw[Zm,Zm]
   have:=h.few
   have e:∀W:List (Int×Int×Bool),(W.filter λw=> !w.2.2).length+(W.filter λw=>w.2.2).length=W.length:=λW=>by
    induction W with
    | nil=>rfl
    | cons w W ih=>
     rw[Zav,Zav]
     cases w.2.2<;>simp<;>omega
   rw[e W];exact this
  ·exact Qe8 h.esc
 sml:=by
  rw[ZP]
  rcases h.small with z | z
  ·exact .inl z
  ·exact .inr (by rw[Qd5 λi _=>Qfa i W];exact z)
end HS
namespace HS
open PySem PySem.Spec L2 PyProof.Rows PySem.NumText
theorem QtQ{c:Nat}{l:List Nat}(h:c∉l):Txt.partition (tx l) (tx [c])=(tx l,tx [],tx []):=by
 have f:=StrLaws.found_one (tx l) c
 have hm:¬c∈(tx l).cps.toList:=h
 rw[decide_eq_false hm]at f
 unfold Txt.partition
 have e:Builtin.Str.occurrences (tx l) (tx [c]) 0 (tx l).length 1=[]:=by
  have:Builtin.Str.occurrences (tx l) ⟨#[c]⟩ 0 (tx l).length 1=[]:=by
   simpa using f
  exact this
 rw[e];rfl
theorem QuY{c:Nat}{a b:List Nat}(h:c∉a):Txt.partition (tx (a++c::b)) (tx [c])=(tx a,tx [c],tx b):=by
 have hat:∀i,StrLaws.At (tx (a++c::b)) (tx [c]) (tx (a++c::b)).length i↔(a++c::b)[i]? =some c:=λi=>StrLaws.subAt_one (tx (a++c::b)) c i
 unfold Txt.partition
 rcases StrLaws.occ_head (tx (a++c::b)) (tx [c]) 1 (Zn _)with⟨_,hn⟩ | ⟨i,r,e,hi,hk⟩
 ·exact absurd ((hat a.length).mpr (by simp)) (hn _)
 ·have h1:i=a.length:=by
   rcases Nat.lt_trichotomy i a.length with hl | hl | hl
   ·have:=(hat i).mp hi
    rw[Zab hl]at this
    exact absurd (Zac this) h
   ·exact hl
   ·exact absurd ((hat a.length).mpr (by simp)) (hk _ hl)
  rw[e,h1]
  show(Builtin.Str.strSub _ _ _,_,Builtin.Str.strSub _ _ _)=_
  have hl:(tx (a++c::b)).length=a.length+(b.length+1):=by rw[Qqv,Qx4];simp
  refine Prod.ext (QqT ?_) (Prod.ext rfl (QqT ?_))
  ·show(Builtin.Str.strSub _ _ _).cps.toList=_
   rw[StrLaws.strSub_toList]
   show((a++c::b).drop 0).take (a.length-0)=a
   simp
  ·show(Builtin.Str.strSub _ _ _).cps.toList=_
   rw[StrLaws.strSub_toList,hl]
   show((a++c::b).drop (a.length+1)).take _=b
   have:(a++c::b).drop (a.length+1)=b:=by rw[List.drop_append];simp
   rw[this,ZaA]
   have e1:(tx [c]).length=1:=rfl
   omega
structure Wd where
 a:Nat
 b:Nat
 lane:Bool
 k:Nat
 star:Bool
noncomputable def Wd.sign(x:Wd):Nat:=if x.lane=true then 62 else 45
noncomputable def Wd.l(x:Wd):List Nat:=[48+x.a,x.sign,48+x.b]++if x.star=true then 42::dig x.k else []
noncomputable def Wd.t(x:Wd):Str:=tx x.l
structure Wd.Ok (x:Wd):Prop where
 a:x.a<10
 b:x.b<10
 k:if x.star=true then 2<=x.k/\x.k<=40 else x.k=1
noncomputable def Wd.p(x:Wd):Int×Int:=(x.a,x.b)
theorem Wd.low{x:Wd}(h:x.Ok):∀c∈x.l,c<200/\c≠32:=λc hc=>by
 have ha:=h.a
 have hb:=h.b
 unfold Wd.l at hc
 rcases Zo.mp hc with hc | hc
 ·simp only[Zl,ZbE,or_false]at hc
  unfold Wd.sign at hc
  split at hc<;>omega
 ·split at hc
  ·rcases Zl.mp hc with hc | hc
   ·omega
   ·have:=QvA _ _ hc;omega
  ·simp at hc
theorem Wd.len{x:Wd}(h:x.Ok):x.t.length<=100:=by
 have hk:=h.k
 rw[Qqv]
 show x.l.length<=100
 unfold Wd.l
 rw[Zp]
 split
 ·rename_i hs
  rw[if_pos hs]at hk
  have:=Qu7 (n:=x.k) (k:=2) (by decide) (by omega)
  simp;omega
 ·simp
theorem Wd.part{x:Wd}(h:x.Ok):Txt.partition x.t (tx [42])=(tx [48+x.a,x.sign,48+x.b],if x.star=true then(tx [42],tx (dig x.k))else(tx [],tx [])):=by
 have ha:=h.a
 have hb:=h.b
 have h0:42∉[48+x.a,x.sign,48+x.b]:=λhc=>by
  simp only[Zl,ZbE,or_false]at hc
  unfold Wd.sign at hc
  split at hc<;>omega
 unfold Wd.t Wd.l
 split
 ·exact QuY h0
 ·rw[ZC];exact QtQ h0
noncomputable def runs:List (Int×Int)->List ((Int×Int)×Nat)
 | []=>[]
 | p::r=>match runs r with
  | (q,k)::t=>if q=p then(q,k+1)::t else(p,1)::(q,k)::t
  | []=>[(p,1)]
noncomputable def rd(lane:Bool)(q:(Int×Int)×Nat):Wd:=⟨q.1.1.toNat,q.1.2.toNat,lane,q.2,decide (1<q.2)⟩
def QsQ(ps:List (Int×Int)):Prop:=∀p∈ps,(0<=p.1/\p.1<10)/\0<=p.2/\p.2<10
section
variable {fa fb fc:DE}{ρ:En}{ra rb r:R}
end
end HS
namespace HS
open PySem PySem.Spec L2 PyProof.Rows PySem.NumText
theorem QsQ.one{ps:List (Int×Int)}{p:Int×Int}(h:QsQ ps)(hp:p∈ps):QsQ [p]:=λq hq=>by rw[Zj]at hq;rw[hq];exact h p hp
structure Qz5 (ps:List (Int×Int)) (l:List ((Int×Int)×Nat)):Prop where
 mem:∀q∈l,q.1∈ps/\1<=q.2/\q.2<=ps.length
 len:l.length<=ps.length
 flat:(l.flatMap λq=>List.replicate q.2 q.1)=ps
noncomputable def Qmn(ws:List ((Int×Int×Bool)×Nat)):List (Int×Int×Bool):=ws.flatMap λx=>List.replicate x.2 x.1
def QjQ(d:Den):Prop:=∀(m:Nat) (W:List (Int×Int×Bool)) (room:Int),m<=1000->W.length<=100000->(∀w∈W,GoodW m w)->d [.int m,Qar W,.int room]=some (.bl (decide (spr (Qam W) m<=room)),true)
theorem Qs5:QjQ (QB 9 Qgy):=λm W room hm hl hg=>by
 refine QaF ?_
 refine run_seq (Qi (Qd0 (n:=m+1) (Qah (a:=(m:Int)) (b:=1) rfl rfl rfl rfl) rfl (by omega)) ?_)
 rw[Qz]
 refine Qa9 (P:=λρ=>∃f j3 j4 j5,(∀k,f k=Qam W k)/\ρ=[some (.int m,true),some (Qar W,false),some (.int room,true),some (Qc (m+1) f,true),j3,j4,j5,none,none]) ?_ ?_
 ·refine QaT (toD:=Qcp) W (λi ρ=>∃f j3 j4 j5,(∀k,f k=Qam (W.take i) k)/\ρ=[some (.int m,true),some (Qar W,false),some (.int room,true),some (Qc (m+1) f,true),j3,j4,j5,none,none]) (ir:=⟨W.map Qcp,[]⟩) rfl rfl ⟨λ_=>0,none,none,none,λk=>rfl,rfl⟩ ?_ ?_
  ·rintro i w ρ hi ⟨f,j3,j4,j5,hf,rfl⟩
   obtain⟨⟨h1,h2,h3,h4,h5⟩,h6⟩:=hg w (Zac hi)
   have h1:0<=w.1:=h1
   have h2:0<=w.2.1:=h2
   have et:W.take (i+1)=W.take i++[w]:=by rw[Zbr,hi];rfl
   refine⟨_,rfl,?_⟩
   refine run_seq (QfI (i:=w.1) rfl rfl h1 (by omega) ?_)
   refine run_seq (QQ (b:= !w.2.2) (Qcw (QL (b:=w.2.2) rfl rfl)) (λhb=>run_seq (QfI (i:=w.2.1) rfl rfl h2 (by omega) (Qn (Qn ⟨_,_,_,_,λk=>?_,rfl⟩)))) (λhb=>Qn (Qn ⟨_,_,_,_,λk=>?_,rfl⟩)))
   ·have hb:w.2.2=false:=by simpa using hb
    rw[et,Qf9,Qlq h2,Qlq h1,hf k]
    unfold Qde
    rw[hb,if_neg ZJ];omega
   ·have hb:w.2.2=true:=by simpa using hb
    rw[et,Qf9,Qlq h1,hf k]
    unfold Qde
    rw[hb,if_pos rfl];omega
  ·rintro ρ ⟨f,j3,j4,j5,hf,rfl⟩
   rw[Zaf]at hf
   exact⟨f,j3,j4,j5,hf,rfl⟩
 rintro ρ ⟨f,j3,j4,j5,hf,rfl⟩
 refine run_seq (Qi (r:=⟨.int 1,true,[]⟩) rfl ?_)
 rw[Qz]
 refine Qa9 (P:=λρ=>∃j7,ρ=[some (.int m,true),some (Qar W,false),some (.int room,true),some (Qc (m+1) f,true),j3,j4,j5,some (.int (spr f m),true),j7]) ?_ ?_
 ·refine QaT (toD:=λ(k:Nat)=> .int (f k)) (List.range m) (λi ρ=>∃j7,ρ=[some (.int m,true),some (Qar W,false),some (.int room,true),some (Qc (m+1) f,true),j3,j4,j5,some (.int (spr f i),true),j7]) (Qcl (Qhq (m:=m+1) (n:=m) (f:=f) rfl rfl rfl rfl (by omega)) rfl) rfl ⟨none,rfl⟩ ?_ ?_
  ·rintro i i' ρ hi ⟨j7,rfl⟩
   have hi':i<m/\i=i':=by
    obtain⟨h1,h2⟩:=Zi.mp hi
    simp at h1 h2;exact⟨h1,h2⟩
   obtain⟨him,rfl⟩:=hi'
   have b:=QkE i W
   refine⟨_,rfl,?_⟩
   refine run_seq (Qi (QbQ (a:=spr f i) (b:=f i) (ra:=⟨.int (spr f i),true,[]⟩) rfl rfl (rb:=⟨.int (f i),true,[]⟩) rfl rfl (QdJ (by rw[hf i];omega))) (Qn ?_))
   rw[Qz]
   exact⟨_,rfl⟩
  ·rintro ρ ⟨j7,rfl⟩
   rw[ZM]
   exact⟨_,rfl⟩
 rintro ρ ⟨j7,rfl⟩
 refine Qaa (Q8 (d:= .bl (decide (spr f m<=room))) (ra:=⟨.int (spr f m),true,[]⟩) (rb:=⟨.int room,true,[]⟩) rfl rfl rfl) ⟨?_,rfl⟩
 rw[Qd5 λi _=>hf i]
structure Wds (m:Nat) (t kind:Int) (ws:List ((Int×Int×Bool)×Nat)):Prop where
 each:∀x∈ws,GoodW m x.1/\1<=x.2/\x.2<=40
 few:(Qmn ws).length<=40
 base:∀w∈QaX m t kind,w∈Qmn ws
 fits:kind=2∨kind=3->spr (Qam (Qmn ws)) m<=300
 roads:¬(kind=2∨kind=3)->∀x∈ws,x.1.2.2=false
theorem Qmk{ws:List ((Int×Int×Bool)×Nat)}{w:Int×Int×Bool}(h:w∈Qmn ws):∃x∈ws,x.1=w:=by
 obtain⟨x,hx,hw⟩:=List.mem_flatMap.mp h
 exact⟨x,hx,(List.eq_of_mem_replicate hw).symm⟩
theorem Wds.Qrl{m:Nat}{t kind:Int}{ws:List ((Int×Int×Bool)×Nat)}(h:Wds m t kind ws):Qhm m (Qmn ws) where
 good:=λw hw=>by obtain⟨x,hx,rfl⟩:=Qmk hw;exact(h.each x hx).1
 few:=h.few
 esc:=QhW.mono h.base
 small:=by
  by_cases hk:kind=2∨kind=3
  ·exact .inr (h.fits hk)
  ·exact .inl (QlD λw hw=>by obtain⟨x,hx,rfl⟩:=Qmk hw;exact h.roads hk x hx)
end HS
namespace HS
open PySem L2
section
variable {m:Nat}{R L:List (Int×Int)}{f c:Nat->Int}
theorem Qra(hw:Qau m R L){p q:Nat}(hp:p<m)(hq:q<m){s:Int×Int}(hs:s∈Qj R L)(e1:s.1=p)(e2:s.2=q)(hpq:p≠q):1<=Qq m (Qj R L) p q:=by
 obtain⟨g1,g2,_⟩:=hw.good
 have gs:=QaP g1 g2
 rw[Qb1 hp hq λs z=>⟨(gs s z).1,(gs s z).2.1⟩]
 have nn:∀t∈Qj R L,0<=hit p q t:=λt _=>by
  unfold hit
  rw[if_neg (λz:t.1=p/\p=q=>hpq z.2)]
  split<;>omega
 obtain⟨A,B,e⟩:=List.append_of_mem hs
 have h1:=Qb5 A λt ht=>nn t (by rw[e];exact Zd _ ht)
 have h2:=Qb5 B λt ht=>nn t (by rw[e];exact Ze _ (Zb _ ht))
 have h3:hit p q s=1:=by
  unfold hit
  rw[if_pos ⟨e1,e2⟩,if_neg (λz:s.1=p/\p=q=>hpq z.2)];omega
 rw[e,ZF,Zaj,Zq,ZS,h3]
 omega
theorem Qso(hw:Qau m R L)(f0:∀j,j<m->0<=f j)(td:Told m (Qq m (Qj R L)) f c){p:Nat}(hp:p<m){s:Int×Int}(hs:s∈Qj R L)(e1:s.1=p)(e2:s.2=m):c p<=Qo m f:=by
 obtain⟨g1,g2,_⟩:=hw.good
 have gs:=QaP g1 g2
 have c0:=td.leg.nonneg
 have row:∀i,i<m->Qo m (λj=>Qq m (Qj R L) i j)=((Qj R L).map λt:Int×Int=> -(if t.1=i/\t.2=m then(1:Int)else 0)).sum:=λi hi=>by
  rw[QU (g:=λj=>((Qj R L).map (hit i j)).sum) λj hj=>Qb1 hi hj λs z=>⟨(gs s z).1,(gs s z).2.1⟩,Qdp]
  congr 1
  exact ZR λt ht=>Qrj hi (gs t ht)
 have neg:∀i,i<m->Qo m (λj=>Qq m (Qj R L) i j)<=0:=λi hi=>by
  rw[row i hi]
  have:=Qgm (g:=λt:Int×Int=> -(if t.1=i/\t.2=m then(1:Int)else 0)) (X:=0) (Qj R L) λt _=>by split<;>omega
  omega
 have one:Qo m (λj=>Qq m (Qj R L) p j)<= -1:=by
  rw[row p hp]
  have:=Qen (g:=λt:Int×Int=> -(if t.1=p/\t.2=m then(1:Int)else 0)) (X:=0) (Y:= -1) (Qj R L) (λt _=>by split<;>omega) ⟨s,hs,by rw[if_pos ⟨e1,e2⟩];omega⟩
  omega
 have tot:Qo m (λj=>Qt m (Qq m (Qj R L)) f c j)=Qo m f+Qo m (λi=>c i*Qo m (λj=>Qq m (Qj R L) i j)):=by
  unfold Qt
  rw[Qaf]
  congr 1
  rw[Qp3]
  exact QU λi _=>by rw[← Qf2]
 have pos:0<=Qo m (λj=>Qt m (Qq m (Qj R L)) f c j):=by
  have:=QaI (m:=m) (f:=λ_=>(0:Int)) λj hj=>td.pos j hj
  rw[QO]at this
  exact this
 have up:Qo m (λi=>c i*Qo m (λj=>Qq m (Qj R L) i j))<=Qo m (λi=>(if i=p then-(c p)else 0)*1):=QaI λi hi=>by
  by_cases e:i=p
  ·subst e
   rw[if_pos rfl]
   have:=ZO one (c0 i)
   omega
  ·rw[if_neg e]
   have:=ZO (neg i hi) (c0 i)
   omega
 rw[Qaj hp]at up
 omega
theorem Qu4(hw:Qau m R L)(f0:∀j,j<m->0<=f j)(td:Told m (Qq m (Qj R L)) f c){p q:Nat}(hp:p<m)(hq:q<m)(hpq:p≠q)(h1:1<=Qq m (Qj R L) p q):c p+1<=Qv R L q*(c q+1):=by
 have c0:=td.leg.nonneg
 have st:=td.stb q hq
 have sq:=hw.neg hq
 have low:f q+c q*Qq m (Qj R L) q q+c p<=Qt m (Qq m (Qj R L)) f c q:=by
  unfold Qt
  have e:c q*Qq m (Qj R L) q q+c p=Qo m (λi=>(if i=q then c q*Qq m (Qj R L) q q else 0)*1+(if i=p then c p else 0)*1):=by
   rw[Qaf,Qaj hq,Qaj hp];omega
  have le:=QaI (m:=m) (f:=λi=>(if i=q then c q*Qq m (Qj R L) q q else 0)*1+(if i=p then c p else 0)*1) (g:=λi=>c i*Qq m (Qj R L) i q) λi hi=>by
   by_cases e1:i=q
   ·subst e1
    rw[if_pos rfl,if_neg (Ne.symm hpq)];omega
   ·rw[if_neg e1]
    by_cases e2:i=p
    ·subst e2
     rw[if_pos rfl]
     have:=ZO h1 (c0 i)
     omega
    ·rw[if_neg e2]
     have:=Zaq (c0 i) (hw.tp.pos i q hi hq e1)
     omega
  omega
 have fq:=f0 q hq
 rw[ZaL,Zbq]
 have e:Qv R L q*c q= -(c q*Qq m (Qj R L) q q):=by
  rw[← sq,Int.sub_mul,Zar,Zaw (c q)];omega
 omega
noncomputable def QcU(s:Nat->Int):List Nat->Int
 | []=>1
 | p::l=>s p*QcU s l
theorem Qfd{s:Nat->Int}:∀{l:List Nat},(∀p∈l,1<=s p)->1<=QcU s l
 | [],_=>Zak _
 | p::l,h=>by
  have h1:=h p Zf
  have h2:=Qfd (l:=l) λq hq=>h q (Zb _ hq)
  have:=ZaO h1 h2 (by omega) (by omega)
  show 1<=s p*QcU s l
  omega
theorem QfS{s:Nat->Int}:∀(n:Nat) (l:List Nat),l.Nodup->(∀p∈l,p<n)->(∀p,p<n->1<=s p)->QcU s l<=spr s n
 | 0,l,_,h,_=>by
  cases l with
  | nil=>exact Zak _
  | cons p l=>exact absurd (h p Zf) (by omega)
 | n+1,l,nd,h,hs=>by
  show QcU s l<=spr s n*s n
  have s1:=hs n (by omega)
  by_cases hn:n∈l
  ·obtain⟨A,B,e⟩:=List.append_of_mem hn
   have sw:QcU s l=s n*QcU s (A++B):=by
    rw[e]
    clear e h nd hn
    induction A with
    | nil=>rfl
    | cons a A ih=>
     show s a*QcU s (A++n::B)=s n*(s a*QcU s (A++B))
     rw[ih,← ZaM,← ZaM,Zaw (s a)]
   have nd2:(A++B).Nodup/\n∉A++B:=by
    rw[e]at nd
    obtain⟨x,y,z⟩:=ZT.mp nd
    obtain⟨y1,y2⟩:=ZU.mp y
    refine⟨ZT.mpr ⟨x,y2,λa ha b hb=>z a ha b (Zb _ hb)⟩,λq=>?_⟩
    rcases Zo.mp q with q | q
    ·exact z n q n Zf rfl
    ·exact y1 q
   have ih:=QfS n (A++B) nd2.1 (λp hp=>by
    have h1:=h p (by rw[e];rcases Zo.mp hp with q | q;exact Zd _ q;exact Ze _ (Zb _ q))
    have:p≠n:=λz=>nd2.2 (z▸hp)
    omega) λp hp=>hs p (by omega)
   rw[sw,Zaw]
   exact Zan ih (by omega)
  ·have ih:=QfS n l nd (λp hp=>by
    have h1:=h p hp
    have:p≠n:=λz=>hn (z▸hp)
    omega) λp hp=>hs p (by omega)
   have p1:1<=QcU s l:=Qfd λp hp=>hs p (h p hp)
   have:=ZO s1 (show 0<=spr s n by omega)
   omega
theorem Qo4(hw:Qau m R L)(f0:∀j,j<m->0<=f j)(td:Told m (Qq m (Qj R L)) f c):∃r:Nat->Nat,(∀p,p<m->∃A:List Nat,A.Nodup/\(∀q∈A,q<m/\r q<r p)/\c p+1<=(Qo m f+1)*QcU (Qv R L) A):=by
 obtain⟨g1,g2,_⟩:=hw.good
 have gs:=QaP g1 g2
 have esc:Qic m (Qj R L):=by
  obtain⟨W,h1,_,_,rfl,rfl⟩:=hw.ex
  exact Qe8 h1
 obtain⟨r,r0,hr⟩:=QjC gs esc
 have nn:0<=Qo m f:=by
  have:=QaI (m:=m) (f:=λ_=>(0:Int)) λj hj=>f0 j hj
  rw[QO]at this
  exact this
 refine⟨r,λp=>?_⟩
 obtain⟨n,hn⟩:∃n,n=r p:=⟨_,rfl⟩
 induction n using Nat.strongRecOn generalizing p with
 | _ n ih=>
  intro hp
  obtain⟨s,hs,e1,e2⟩:=hr p hp
  obtain⟨b1,b2,b3,b4,b5⟩:=gs s hs
  by_cases hm:s.2=m
  ·have:=Qso hw f0 td hp hs e1 hm
   exact⟨[],Zap,λq hq=>by simp at hq,by show _<=_*1;omega⟩
  ·have hq:s.2.toNat<m:=by omega
   have hpq:p≠s.2.toNat:=λz=>by rw[← z]at e2;omega
   have h1:=Qu4 hw f0 td hp hq hpq (Qra hw hp hq hs e1 (by omega) hpq)
   obtain⟨A,a1,a2,a3⟩:=ih (r s.2.toNat) (by omega) s.2.toNat rfl hq
   refine⟨s.2.toNat::A,ZU.mpr ⟨λz=>?_,a1⟩,λq hq'=>?_,?_⟩
   ·have:=(a2 _ z).2
    omega
   ·rcases Zl.mp hq' with rfl | z
    ·exact⟨hq,e2⟩
    ·have:=a2 q z
     exact⟨this.1,by omega⟩
   ·show c p+1<=(Qo m f+1)*(Qv R L s.2.toNat *QcU (Qv R L) A)
    have sp:=hw.Qga hq
    have h2:=ZO a3 (show 0<=Qv R L s.2.toNat by omega)
    rw[Zbu]
    omega
theorem Qmt(hw:Qau m R L)(m0:0<m)(f0:∀j,j<m->0<=f j)(td:Told m (Qq m (Qj R L)) f c){P N:Int}(hP:spr (Qv R L) m<=P)(hN:Qo m f<=N)(N0:0<=N):Qo m c+m<=(N+1)*(1+(m-1)*P):=by
 obtain⟨r,hr⟩:=Qo4 hw f0 td
 have nn:0<=Qo m f:=by
  have:=QaI (m:=m) (f:=λ_=>(0:Int)) λj hj=>f0 j hj
  rw[QO]at this
  exact this
 have sp:∀p,p<m->1<=Qv R L p:=λp hp=>by have:=hw.Qga hp;omega
 obtain⟨n,⟨p0,hp0,hn⟩,least⟩:=Qig (P:=λn=>∃p,p<m/\r p=n) ⟨r 0,0,m0,rfl⟩
 obtain⟨A0,a1,a2,a3⟩:=hr p0 hp0
 have eA:A0=[]:=by
  cases A0 with
  | nil=>rfl
  | cons q A=>exact absurd ⟨q,(a2 q Zf).1,rfl⟩ (least (r q) (by rw[← hn];exact(a2 q Zf).2))
 subst eA
 have P1:1<=P:=ZbS (Qfd (s:=Qv R L) (l:=[]) (λp hp=>by simp at hp)) (ZbS (QfS m [] Zap (λp hp=>by simp at hp) sp) hP)
 have e0:c p0+1<=N+1:=by
  have:QcU (Qv R L) []=1:=rfl
  rw[this]at a3
  omega
 have each:∀p,p<m->c p+1<=(N+1)*P:=λp hp=>by
  obtain⟨A,b1,b2,b3⟩:=hr p hp
  have q1:=QfS m A b1 (λq hq=>(b2 q hq).1) sp
  have q2:=Qfd (s:=Qv R L) (l:=A) λq hq=>sp q (b2 q hq).1
  have:=ZaO (show Qo m f+1<=N+1 by omega) (ZbS q1 hP) (by omega) (by omega)
  omega
 have le:=QaI (m:=m) (f:=λp=>c p+1) (g:=λp=>(N+1)*P+(if p=p0 then N+1-(N+1)*P else 0)*1) λp hp=>by
  by_cases e:p=p0
  ·subst e;rw[if_pos rfl];omega
  ·rw[if_neg e];have:=each p hp;omega
 have cst:∀(k:Nat) (v:Int),Qo k (λ_=>v)=k*v:=λk v=>by
  induction k with
  | zero=>simp[Qo]
  | succ k ih=>rw[QW,ih,Int.natCast_succ,Zax];omega
 rw[Qaf,Qaf,Qaj hp0,cst,cst]at le
 have ex:(N+1)*(1+((m:Int)-1)*P)=(m:Int)*((N+1)*P)+(N+1-(N+1)*P):=by
  rw[ZaL,Zbq,Int.sub_mul,Zbt,Zba,← ZaM,← ZaM,Zaw (N+1) (m:Int)]
  omega
 rw[ex]
 omega
end
end HS
namespace HS
open PySem L2
noncomputable def sqd(e:Nat->Int)(s:Int×Int):Int:=(e s.1.toNat-e s.2.toNat)*(e s.1.toNat-e s.2.toNat)
theorem Qtz(x:Int):0<=x*x:=by
 rcases Int.le_total 0 x with h | h
 ·exact Zaq h h
 ·have:=Zaq (show 0<= -x by omega) (show 0<= -x by omega)
  rwa[ZbX]at this
theorem QlC(e:Nat->Int)(s:Int×Int):0<=sqd e s:=Qtz _
theorem Qr8(e:Nat->Int)(s:Int×Int):sqd e s.swap=sqd e s:=by
 unfold sqd
 show(e s.2.toNat-e s.1.toNat)*(e s.2.toNat-e s.1.toNat)=_
 rw[show e s.2.toNat-e s.1.toNat= -(e s.1.toNat-e s.2.toNat) by omega,ZbX]
theorem Qhg{m:Nat}{x:Int}{v:Int}{c:Nat->Int}(h0:0<=x):Qo m (λj=>c j*(if x=j then v else 0))=QM m c x.toNat *v:=by
 have:(λj:Nat=>c j*(if x=j then v else 0))=λj=>(if j=x.toNat then v else 0)*c j:=by
  funext j
  by_cases e:x=j
  ·rw[if_pos e,if_pos (by omega),Zaw]
  ·rw[if_neg e,if_neg (by omega)];simp
 rw[this]
 unfold QM
 by_cases h:x.toNat<m
 ·rw[Qaj h,if_pos h,Zaw]
 ·rw[if_neg h,Zar]
  rw[QU (g:=λ_=>0) λj hj=>by rw[if_neg (by omega),Zar],QO]
theorem Qwh{m:Nat}{s:Int×Int}(g:Good m s)(c:Nat->Int):Qo m (λj=>c j*(Q9 (QM m c) s j+Q9 (QM m c) s.swap j))= -sqd (QM m c) s:=by
 obtain⟨g1,g2,g3,g4,g5⟩:=g
 have e:(λj=>c j*(Q9 (QM m c) s j+Q9 (QM m c) s.swap j))=λj=>(c j*(if s.2=j then QM m c s.1.toNat else 0)+c j*(if s.1=j then-QM m c s.1.toNat else 0))+(c j*(if s.1=j then QM m c s.2.toNat else 0)+c j*(if s.2=j then-QM m c s.2.toNat else 0)):=by
  funext j
  show c j*(((if s.2=j then QM m c s.1.toNat else 0)-(if s.1=j then QM m c s.1.toNat else 0))+((if s.1=j then QM m c s.2.toNat else 0)-(if s.2=j then QM m c s.2.toNat else 0)))=_
  by_cases a:s.1=j<;>by_cases b:s.2=j<;>simp only[a,b,if_true,if_false,ZaL,Zbt,Int.mul_neg,ZbQ]<;>omega
 rw[e,Qaf,Qaf,Qaf,Qhg g2,Qhg g1,Qhg g1,Qhg g2]
 unfold sqd
 generalize QM m c s.1.toNat=x
 generalize QM m c s.2.toNat=y
 simp only[Int.sub_mul,Zbt,Int.mul_neg]
 have:x*y=y*x:=Zaw x y
 omega
theorem Qm9{α:Type}{w:α->Int}:∀R:List α,(R.map λs=> -w s).sum= -(R.map w).sum
 | []=>rfl
 | s::R=>by rw[Zq,ZS,Zq,ZS,Qm9 R];omega
theorem Qkm:∀(m:Nat) (A:List Nat),A.Nodup->(∀a∈A,a<m)->A.length<=m
 | 0,A,_,h=>by
  cases A with
  | nil=>exact Zn _
  | cons a A=>exact absurd (h a Zf) (by omega)
 | m+1,A,nd,h=>by
  have ih:=Qkm m (A.erase m) (nd.erase m) λa ha=>by
   have h1:=(nd.mem_erase_iff.mp ha)
   have:=h a h1.2
   omega
  have:=List.length_erase_le (a:=m) (l:=A)
  by_cases hm:m∈A
  ·rw[Zbz hm]at ih;omega
  ·rw[List.erase_of_not_mem hm]at ih;omega
section
variable {m:Nat}{R:List (Int×Int)}{f c:Nat->Int}
theorem QwM(hw:Qau m R [])(td:Told m (Qq m (Qj R [])) f c):(R.map (sqd (QM m c))).sum<=Qo m (λj=>c j*f j):=by
 obtain⟨g1,g2,_⟩:=hw.good
 have c0:=td.leg.nonneg
 have pos:0<=Qo m (λj=>c j*Qt m (Qq m (Qj R [])) f c j):=by
  have:=QaI (m:=m) (f:=λ_=>(0:Int)) λj hj=>Zaq (c0 j) (td.pos j hj)
  rw[QO]at this
  exact this
 have e:Qo m (λj=>c j*Qt m (Qq m (Qj R [])) f c j)=Qo m (λj=>c j*f j)+(R.map λs=> -sqd (QM m c) s).sum:=by
  rw[QU (g:=λj=>c j*f j+c j*(R.map λs=>Q9 (QM m c) s j+Q9 (QM m c) s.swap j).sum) λj hj=>by
   rw[QnI g1 g2 f c hj,show QM m f j=f j by unfold QM;rw[if_pos hj],Zbn,List.sum_nil,Zbo,ZaL]]
  rw[Qaf]
  congr 1
  rw[QU (g:=λj=>(R.map λs=>c j*(Q9 (QM m c) s j+Q9 (QM m c) s.swap j)).sum) λj hj=>by rw[Qhv]]
  rw[Qdp m (λj s=>c j*(Q9 (QM m c) s j+Q9 (QM m c) s.swap j)) R]
  congr 1
  exact ZR λs hs=>Qwh (g1 s hs) c
 have n:(R.map λs=> -sqd (QM m c) s).sum= -(R.map (sqd (QM m c))).sum:=by
  exact Qm9 R
 rw[e,n]at pos
 omega
theorem QiX{w:Int×Int->Int}(hw:∀s,0<=w s):∀(l R:List (Int×Int)),l.Nodup->(∀s∈l,s∈R)->(l.map w).sum<=(R.map w).sum
 | [],R,_,_=>Qb5 R λs _=>hw s
 | s::l,R,nd,h=>by
  obtain⟨h1,h2⟩:=ZU.mp nd
  obtain⟨A,B,e⟩:=List.append_of_mem (h s Zf)
  have ih:=QiX hw l (A++B) h2 λt ht=>by
   have:=h t (Zb _ ht)
   rw[e]at this
   rcases Zo.mp this with z | z
   ·exact Zd _ z
   ·rcases Zl.mp z with z | z
    ·exact absurd (z▸ht) h1
    ·exact Ze _ z
  rw[e]
  rw[ZF,Zaj]at ih
  rw[Zq,ZS,ZF,Zaj,Zq,ZS]
  omega
theorem QvX{d x S:Int}{n:Nat}(hS:0<=S)(h:x*x<=n*S):(d+x)*(d+x)<=(n+1:Nat)*(d*d+S):=by
 cases n with
 | zero=>
  have h0:x*x<=0:=by simpa using h
  have hx:x=0:=by
   rcases Int.lt_trichotomy x 0 with z | z | z
   ·have:=Int.mul_pos (show 0< -x by omega) (show 0< -x by omega)
    rw[ZbX]at this;omega
   ·exact z
   ·have:=Int.mul_pos z z;omega
  subst hx
  have:((0+1:Nat):Int)*(d*d+S)=d*d+S:=by simp
  rw[this,Zbo];omega
 | succ k=>
  have n1:(0:Int)<((k+1:Nat):Int):=by omega
  have sq:=Qtz (((k+1:Nat):Int)*d-x)
  have e1:(((k+1:Nat):Int)*d-x)*(((k+1:Nat):Int)*d-x)=((k+1:Nat):Int)*(((k+1:Nat):Int)*(d*d))-2*(((k+1:Nat):Int)*(d*x))+x*x:=by
   generalize ((k+1:Nat):Int)=n
   grind
  have le:((k+1:Nat):Int)*(2*(d*x))<=((k+1:Nat):Int)*(((k+1:Nat):Int)*(d*d)+S):=by
   rw[ZaL]
   have:((k+1:Nat):Int)*(2*(d*x))=2*(((k+1:Nat):Int)*(d*x)):=by rw[Zbu]
   omega
  have le2:=Int.le_of_mul_le_mul_left le n1
  have e2:(d+x)*(d+x)=d*d+2*(d*x)+x*x:=by grind
  have e3:((k+1+1:Nat):Int)*(d*d+S)=((k+1:Nat):Int)*(d*d)+((k+1:Nat):Int)*S+d*d+S:=by
   have:((k+1+1:Nat):Int)=((k+1:Nat):Int)+1:=by omega
   rw[this,Zax,ZaL];omega
  rw[e2,e3]
  omega
theorem QrB(hw:Qau m R []):∃r:Nat->Nat,∃par:Nat->Nat,∃rdv:Nat->Int×Int,(∀p,p<m->rdv p∈R/\r (par p)<r p/\par p<=m/\(rdv p=((p:Int),(par p:Int))∨rdv p=((par p:Int),(p:Int)))):=by
 obtain⟨g1,g2,_⟩:=hw.good
 have gs:=QaP g1 g2
 have esc:Qic m (Qj R []):=by
  obtain⟨W,h1,_,_,e1,e2⟩:=hw.ex
  rw[e1,e2]
  exact Qe8 h1
 obtain⟨r,r0,hr⟩:=QjC gs esc
 have key:∀p,∃q:Nat×(Int×Int),p<m->q.2∈R/\r q.1<r p/\q.1<=m/\(q.2=((p:Int),(q.1:Int))∨q.2=((q.1:Int),(p:Int))):=λp=>by
  by_cases hp:p<m
  ·obtain⟨s,hs,e1,e2⟩:=hr p hp
   obtain⟨b1,b2,b3,b4,b5⟩:=gs s hs
   unfold Qj at hs
   rw[ZC]at hs
   rcases Zo.mp hs with z | z
   ·exact⟨(s.2.toNat,s),λ_=>⟨z,e2,by dsimp only;omega,.inl (Prod.ext (by dsimp only;omega) (by dsimp only;omega))⟩⟩
   ·obtain⟨t,ht,rfl⟩:=ZK.mp z
    exact⟨(t.1.toNat,t),λ_=>⟨ht,e2,by dsimp only at b4 ⊢;have:t.1<=m:=b4;omega,.inr (Prod.ext (by dsimp only;have:0<=t.1:=b2;omega) (by dsimp only;have:t.2=p:=e1;omega))⟩⟩
  ·exact⟨(0,(0,0)),λz=>absurd z hp⟩
 exact⟨r,λp=>(key p).choose.1,λp=>(key p).choose.2,λp hp=>(key p).choose_spec hp⟩
theorem Qo8(hw:Qau m R [])(td:Told m (Qq m (Qj R [])) f c){p:Nat}(hp:p<m):c p*c p<=m*Qo m (λj=>c j*f j):=by
 obtain⟨r,par,rdv,h⟩:=QrB hw
 have en:=QwM hw td
 have ext:∀q,q<m->QM m c q=c q:=λq hq=>by unfold QM;rw[if_pos hq]
 have extm:QM m c m=0:=by unfold QM;rw[if_neg (by omega)]
 have sqr:∀q,q<m->sqd (QM m c) (rdv q)=(c q-QM m c (par q))*(c q-QM m c (par q)):=λq hq=>by
  rcases(h q hq).2.2.2 with e | e
  ·rw[e];unfold sqd;simp only[ZP];rw[ext q hq]
  ·rw[← Qr8,e];unfold sqd;simp only[Prod.swap,ZP];rw[ext q hq]
 have inj:∀q q',q<m->q'<m->rdv q=rdv q'->q=q':=λq q' hq hq' e=>by
  obtain⟨_,h2,_,h4⟩:=h q hq
  obtain⟨_,k2,_,k4⟩:=h q' hq'
  rcases h4 with a | a<;>rcases k4 with b | b<;>rw[a,b]at e<;>have e1:=congrArg Prod.fst e<;>have e2:=congrArg Prod.snd e<;>dsimp only at e1 e2
  ·omega
  ·have z1:q=par q':=by omega
   have z2:par q=q':=by omega
   rw[z2]at h2;rw[← z1]at k2;omega
  ·have z1:par q=q':=by omega
   have z2:q=par q':=by omega
   rw[z1]at h2;rw[← z2]at k2;omega
  ·omega
 have chain:∀(n q:Nat),r q=n->q<m->∃A:List Nat,A.Nodup/\(∀a∈A,a<m/\r a<=n)/\c q*c q<=A.length*(A.map λa=>sqd (QM m c) (rdv a)).sum:=λn=>by
  induction n using Nat.strongRecOn with
  | _ n ih=>
   intro q hn hq
   obtain⟨_,h2,h3,_⟩:=h q hq
   by_cases hm:par q=m
   ·refine⟨[q],by simp,λa ha=>by rw[Zj.mp ha];exact⟨hq,by omega⟩,?_⟩
    have:=sqr q hq
    rw[hm,extm,Int.sub_zero]at this
    simp only[Zq,Zbn,ZS,List.sum_nil,ZaT,this]
    omega
   ·obtain⟨A,a1,a2,a3⟩:=ih (r (par q)) (by omega) (par q) rfl (by omega)
    have nq:q∉A:=λz=>by have:=(a2 q z).2;omega
    refine⟨q::A,ZU.mpr ⟨nq,a1⟩,λa ha=>?_,?_⟩
    ·rcases Zl.mp ha with z | z
     ·rw[z];exact⟨hq,by omega⟩
     ·have:=a2 a z;exact⟨this.1,by omega⟩
    ·have s0:0<=(A.map λa=>sqd (QM m c) (rdv a)).sum:=Qb5 A λa _=>QlC _ _
     have:=QvX (d:=c q-c (par q)) s0 a3
     rw[Zq,ZS,Zk,sqr q hq,ext (par q) (by omega)]
     rw[show c q-c (par q)+c (par q)=c q by omega]at this
     exact this
 obtain⟨A,a1,a2,a3⟩:=chain (r p) p rfl hp
 have l1:A.length<=m:=Qkm m A a1 λa ha=>(a2 a ha).1
 have l2:(A.map λa=>sqd (QM m c) (rdv a)).sum<=(R.map (sqd (QM m c))).sum:=by
  have:=QiX (w:=sqd (QM m c)) (QlC _) (A.map rdv) R (by
   unfold List.Nodup
   rw[List.pairwise_map]
   exact ZbA (λ{a b} x y ne e=>ne (inj a b (a2 a x).1 (a2 b y).1 e)) a1) λs hs=>by
    obtain⟨a,ha,rfl⟩:=ZK.mp hs
    exact(h a (a2 a ha).1).1
  rw[Zam]at this
  exact this
 have s0:0<=(A.map λa=>sqd (QM m c) (rdv a)).sum:=Qb5 A λa _=>QlC _ _
 have:=ZaO (show(A.length:Int)<=(m:Int) by omega) (ZbS l2 en) s0 (by omega)
 omega
theorem QiD(hw:Qau m R [])(f0:∀j,j<m->0<=f j)(td:Told m (Qq m (Qj R [])) f c){N:Int}(hN:Qo m f<=N):Qo m c<=m*(m*N):=by
 have c0:=td.leg.nonneg
 have nn:0<=Qo m f:=by
  have:=QaI (m:=m) (f:=λ_=>(0:Int)) λj hj=>f0 j hj
  rw[QO]at this
  exact this
 have mn:0<=(m:Int)*N:=Zaq (by omega) (by omega)
 have big:∀k:Nat,k<=m->∀p,p<k->c p<=m*N∨∃q,q<m/\c q>m*N/\∀j,j<k->c j<=c q:=λk=>by
  induction k with
  | zero=>intro _ p hp;omega
  | succ k ih=>
   intro hk p hp
   by_cases h1:c p<=m*N
   ·exact .inl h1
   ·refine .inr ?_
    have ex:∀n:Nat,n<=m->(∃q,q<n/\c q>m*N)->∃q,q<m/\c q>m*N/\∀j,j<n->c j<=c q:=λn=>by
     induction n with
     | zero=>intro _ ⟨q,hq,_⟩;omega
     | succ n ihn=>
      intro hn ⟨q,hq,hc⟩
      by_cases hx:∃q,q<n/\c q>m*N
      ·obtain⟨q1,w1,w2,w3⟩:=ihn (by omega) hx
       by_cases z:c n<=c q1
       ·exact⟨q1,w1,w2,λj hj=>by
         by_cases e:j=n
         ·rw[e];exact z
         ·exact w3 j (by omega)⟩
       ·exact⟨n,by omega,by omega,λj hj=>by
         by_cases e:j=n
         ·rw[e];exact Zak _
         ·have:=w3 j (by omega);omega⟩
      ·have e:q=n:=by
        by_cases z:q<n
        ·exact absurd ⟨q,z,hc⟩ hx
        ·omega
       subst e
       exact⟨q,by omega,hc,λj hj=>by
        by_cases e:j=q
        ·rw[e];exact Zak _
        ·by_cases z:c j>m*N
         ·exact absurd ⟨j,by omega,z⟩ hx
         ·omega⟩
    exact ex (k+1) hk ⟨p,hp,by omega⟩
 have each:∀p,p<m->c p<=m*N:=λp hp=>by
  rcases big m (Zn _) p hp with h | ⟨q,hq,hc,hmax⟩
  ·exact h
  ·exfalso
   have h1:=Qo8 hw td hq
   have h2:Qo m (λj=>c j*f j)<=c q*N:=by
    have le:=QaI (m:=m) (f:=λj=>c j*f j) (g:=λj=>c q*f j) λj hj=>Zan (hmax j hj) (f0 j hj)
    rw[Qf2]at le
    have:=ZO hN (c0 q)
    omega
   have h3:=ZO h2 (show(0:Int)<=m by omega)
   have h4:c q*c q<=c q*(m*N):=by
    rw[Zbu]at h3
    omega
   have:=Int.le_of_mul_le_mul_left h4 (by omega)
   omega
 have le:=QaI (m:=m) (f:=c) (g:=λ_=>(m:Int)*N) each
 have cst:∀(k:Nat) (v:Int),Qo k (λ_=>v)=k*v:=λk v=>by
  induction k with
  | zero=>simp[Qo]
  | succ k ih=>rw[QW,ih,Int.natCast_succ,Zax];omega
 rw[cst]at le
 exact le
end
end HS
namespace HS
open PySem L2
theorem QoM{a b c d:Int}(ha:1<=a)(hb:1<=b)(hc:1<=c)(hd:1<=d)(h:a+b+c+d<=7):a*b*c*d<=36:=by
 rcases(by omega:a=1∨a=2∨a=3∨a=4)with rfl | rfl | rfl | rfl<;>rcases(by omega:b=1∨b=2∨b=3∨b=4)with rfl | rfl | rfl | rfl<;>rcases(by omega:c=1∨c=2∨c=3∨c=4)with rfl | rfl | rfl | rfl<;>omega
theorem QmC{m:Nat}(x:Int):Qo m (λi=>isI i x)<=1/\(x=m->Qo m (λi=>isI i x)=0):=by
 have key:∀k:Nat,Qo k (λi=>isI i x)=if 0<=x/\x<k then 1 else 0:=λk=>by
  induction k with
  | zero=>rw[if_neg (by omega)];rfl
  | succ k ih=>
   rw[QW,ih]
   unfold isI
   by_cases e:x=k
   ·subst e;rw[if_neg (by omega),if_pos rfl,if_pos (by omega)];rfl
   ·rw[if_neg e]
    by_cases z:0<=x/\x<k
    ·rw[if_pos z,if_pos (by omega)];rfl
    ·rw[if_neg z,if_neg (by omega)];rfl
 refine⟨by rw[key];split<;>omega,λe=>by rw[key,if_neg (by omega)]⟩
theorem Qoz{m:Nat}{W:List (Int×Int×Bool)}(m0:0<m)(m4:m<=4)(hl:W.length=m)(hg:∀w∈W,GoodW m w)(esc:Esc m W)(pos:∀i,i<m->1<=Qam W i):spr (Qam W) m<=36:=by
 have each:∀w:Int×Int×Bool,Qo m (λi=>Qde i w)<=2/\(w.2.1=m->Qo m (λi=>Qde i w)<=1):=λw=>by
  unfold Qde
  rw[Qaf]
  have h1:=QmC (m:=m) w.1
  have h2:=QmC (m:=m) w.2.1
  by_cases e:w.2.2=true
  ·have z:(λi=>if w.2.2=true then(0:Int)else isI i w.2.1)=λ_=>0:=by funext i;rw[if_pos e]
   rw[z,QO]
   exact⟨by omega,λ_=>by omega⟩
  ·have z:(λi=>if w.2.2=true then(0:Int)else isI i w.2.1)=λi=>isI i w.2.1:=by funext i;rw[if_neg e]
   rw[z]
   exact⟨by omega,λq=>by have:=h2.2 q;omega⟩
 obtain⟨w0,hw0,_,_,hp⟩:=esc (λ_=>True) ⟨0,m0,trivial⟩
 have hp:w0.2.1=m:=hp.elim id λz=>absurd trivial z
 have tot:Qo m (Qam W)<=2*m-1:=by
  have e:Qo m (Qam W)=(W.map λw=>Qo m λi=>Qde i w).sum:=by
   unfold Qam
   exact Qdp m (λi w=>Qde i w) W
  rw[e]
  have:=Qen (g:=λw=>Qo m λi=>Qde i w) (X:=2) (Y:=1) W (λw _=>(each w).1) ⟨w0,hw0,(each w0).2 hp⟩
  rw[hl]at this
  omega
 obtain⟨s,es⟩:∃s,s=Qam W:=⟨_,rfl⟩
 rw[← es]at tot pos ⊢
 rcases(by omega:m=1∨m=2∨m=3∨m=4)with rfl | rfl | rfl | rfl
 ·have:=pos 0 (by decide)
  simp only[QW,show Qo 0 s=0 from rfl]at tot
  show 1*s 0<=36
  omega
 ·have h0:=pos 0 (by decide);have h1:=pos 1 (by decide)
  simp only[QW,show Qo 0 s=0 from rfl]at tot
  have:=QoM h0 h1 (Zak 1) (Zak 1) (by omega)
  show 1*s 0*s 1<=36
  rw[Zba];omega
 ·have h0:=pos 0 (by decide);have h1:=pos 1 (by decide);have h2:=pos 2 (by decide)
  simp only[QW,show Qo 0 s=0 from rfl]at tot
  have:=QoM h0 h1 h2 (Zak 1) (by omega)
  show 1*s 0*s 1*s 2<=36
  rw[Zba];omega
 ·have h0:=pos 0 (by decide);have h1:=pos 1 (by decide);have h2:=pos 2 (by decide);have h3:=pos 3 (by decide)
  simp only[QW,show Qo 0 s=0 from rfl]at tot
  have:=QoM h0 h1 h2 h3 (by omega)
  show 1*s 0*s 1*s 2*s 3<=36
  rw[Zba];omega
theorem Qkt(W:List (Int×Int×Bool)):(Qal W).length+(QY W).length=W.length:=by
 unfold Qal QY
 rw[Zm,Zm]
 induction W with
 | nil=>rfl
 | cons w W ih=>
  rw[Zav,Zav]
  cases w.2.2<;>simp<;>omega
def Qh7(d:Den):Prop:=∀(m:Nat) (W:List (Int×Int×Bool)) (cs:List Int) (kind room:Int),0<m->m<=1000->W.length+cs.length<=10000->(∀w∈W,GoodW m w)→
 ∃W' fr,d [Qar W,.lst (cs.map .int),.int m,.int kind,.int room]=some (Qar (W++W'),fr)/\W'.length<=cs.length/\(∀w∈W',GoodW m w)/\(W'=[]∨spr (Qam (W++W')) m<=room)/\(kind=0->∀w∈W',w.2.2=false)
theorem Qpn{QaL:Den}(hf:QjQ QaL):Qh7 (QB 10 (Qei QaL)):=λm W cs kind room h0 hm hl hg=>by
 have key:Run (Qei QaL) (Qat 10 [Qar W,.lst (cs.map .int),.int m,.int kind,.int room]) (Rt λd fr=>∃W',d=Qar (W++W')/\W'.length<=cs.length/\(∀w∈W',GoodW m w)/\(W'=[]∨spr (Qam (W++W')) m<=room)/\(kind=0->∀w∈W',w.2.2=false)):=by
  refine run_seq (QaT (toD:=D.int) cs (λi ρ=>∃W' b j4 j5 j6 j7 j8,W'.length<=i/\(∀w∈W',GoodW m w)/\(W'=[]∨spr (Qam (W++W')) m<=room)/\(kind=0->∀w∈W',w.2.2=false)/\ρ=[some (Qar (W++W'),b),some (.lst (cs.map .int),false),some (.int m,true),some (.int kind,true),some (.int room,true),j4,j5,j6,j7,j8]) (ir:=⟨cs.map .int,[]⟩) rfl rfl ⟨[],false,none,none,none,none,none,ZZ _,λw hw=>absurd hw (by simp),.inl rfl,λ_ w hw=>absurd hw (by simp),by rw[ZC];rfl⟩ ?_ ?_)
  ·rintro i c ρ hi ⟨W',b,j4,j5,j6,j7,j8,hw1,hw2,hw3,hw4,rfl⟩
   have hil:i<cs.length:=(Zi.mp hi).1
   have gw:=QpX h0 kind c
   refine⟨_,rfl,QqU h0 ?_⟩
   have eadd:QC (Qa 0) (QT (Qb (Qa 9) Qe)) [some (Qar (W++W'),b),some (.lst (cs.map .int),false),some (.int m,true),some (.int kind,true),some (.int room,true),some (.int c,true),some (.int (Qbr c),true),some (.int (mStart m c),true),some (.int (Qg2 m c),true),some (Qcp (Qdf m kind c),true)]=some ⟨Qar (W++W'++[Qdf m kind c]),true,[]⟩:=
    QtM (A:=W++W') (B:=[Qdf m kind c]) (Qa4 rfl) (by cases b<;>rfl) rfl rfl (by simp;omega)
   have gg:∀w∈W++W'++[Qdf m kind c],GoodW m w:=λw hw=>by
    rcases Zo.mp hw with h | h
    ·rcases Zo.mp h with h | h
     ·exact hg w h
     ·exact hw2 w h
    ·have:w=Qdf m kind c:=by simpa using h
     rw[this];exact gw
   have hbf:=hf m (W++W'++[Qdf m kind c]) room hm (by simp;omega) gg
   refine run_seq (QQ (QL (QP (Qu (r:=⟨.int m,true,[]⟩) rfl (Qu eadd (Qu (r:=⟨.int room,true,[]⟩) rfl (QZ _)))) hbf rfl) rfl) (λhfit=>run_seq (Qi eadd (Qn ?_))) (λ_=>Qn (Qn ⟨W',b,_,_,_,_,_,by omega,hw2,hw3,hw4,rfl⟩)))
   rw[Qz]
   refine Qn ⟨W'++[Qdf m kind c],true,_,_,_,_,_,by simp;omega,λw hw=>?_,.inr ?_,λhk w hw=>?_,by rw[ZaJ];rfl⟩
   ·rcases Zo.mp hw with h | h
    ·exact hw2 w h
    ·have:w=Qdf m kind c:=by simpa using h
     rw[this];exact gw
   ·rw[← ZaJ]
    exact of_decide_eq_true hfit
   ·rcases Zo.mp hw with h | h
    ·exact hw4 hk w h
    ·have:w=Qdf m kind c:=by simpa using h
     rw[this,hk]
     unfold Qdf
     simp
  ·rintro ρ ⟨W',b,j4,j5,j6,j7,j8,hw1,hw2,hw3,hw4,rfl⟩
   exact Qaa (Qa4 rfl) ⟨W',by cases b<;>rfl,hw1,hw2,hw3,hw4⟩
 obtain⟨o,h1,h2⟩:=key
 cases o with
 | rt d fr=>
  obtain⟨W',rfl,h3,h4,h5,h6⟩:=h2
  exact⟨W',fr,by unfold QB;rw[h1];rfl,h3,h4,h5,h6⟩
 | _=>exact h2.elim
noncomputable def QdF(QG:Den)(Qco:Den)(Qcn:Den):DS:=(Qd (Qr 3 (QC (dC (.int 1)) (dOp Q4 (Qx 2 QG [] (Qb (Qa 0) (Qb (dC (.int 0)) Qe))) (Qa 1)))) (Qd (Qr 4 (dOp Q4 (dOp Qdh (Qx 2 QG [] (Qb (Qa 0) (Qb (dC (.int 1)) Qe))) (dC (.int 6))) (dC (.int 1000003)))) (Qd (Qr 5 (dOp Q4 (Qx 2 QG [] (Qb (Qa 0) (Qb (dC (.int 1)) Qe))) (dC (.int 6)))) (Qd (Qr 6 (QaO (Qa 0) (Qae (dC (.int 2))) (Qae (dC (.int 12))))) (Qd (sIf (QE (dOp gEq (dOp Q4 (dOp Qdh (Qx 2 QG [] (Qb (Qa 0) (Qb (dC (.int 0)) Qe))) (Qa 1)) (dC (.int 8))) (dC (.int 3)))) (Qd (Qr 3 (QC (dC (.int 6)) (dOp Q4 (dOp Qdh (Qx 2 QG [] (Qb (Qa 0) (Qb (dC (.int 0)) Qe))) (QaD (dC (.int 8)) (Qa 1))) (dC (.int 3))))) (Qd (Qr 5 (dC (.int 0))) (Qd (Qr 6 (QaO (Qa 0) (Qae (dC (.int 2))) (Qae (dC (.int 4))))) (Qd (Qr 2 (dC (.int 300))) Ql)))) Ql) (Qd (Qr 7 (Qx 5 Qcn [] (Qb (Qx 3 Qco [] (Qb (Qa 3) (Qb (Qa 4) (Qb (Qa 5) Qe)))) (Qb (Qa 6) (Qb (Qa 3) (Qb (Qa 5) (Qb (Qa 2) Qe))))))) (Qd (sIf (QE (dOp gEq (dOp Q4 (Qa 4) (dC (.int 2))) (dC (.int 1)))) (Qd (Qr 7 (QlZ (Qa 7) (QdA (dC (.int 1))))) Ql) Ql) (Qd (Qr 8 (Q7 (Qav (Qa 7)) (.tp [1,2,3]) [none,none,none,none] (QcB (QE (Qa 3))) (QaH (Qb (dBf QiO (Qb (Qa 1) (Qb (Qa 2) Qe))) (Qb (dBf Qje (Qb (Qa 1) (Qb (Qa 2) Qe))) Qe))))) (Qd (Qr 9 (Q7 (Qav (Qa 7)) (.tp [1,2,3]) [none,none,none,none] (QE (Qa 3)) (QaH (Qb (Qa 1) (Qb (Qa 2) Qe))))) (Qd (Q3 (QaH (Qb (Qa 3) (Qb (Qa 8) (Qb (Qa 9) Qe))))) Ql))))))))))
def Qg8(m:Nat)(R L:List (Int×Int)):Prop:=(m<=4/\spr (Qv R L) m<=36)∨(5<m/\L=[])
def Qji(d:Den):Prop:=∀ns:List Int,ns.length<=63->∃(m:Nat) (R L:List (Int×Int)),d [.lst (ns.map .int),.int 4,.int 36]=some (Qh m R L,true)/\0<m/\m<=8/\Qau m R L/\R.length+L.length<=180/\Qg8 m R L
theorem Qrk{m:Nat}{t kind room:Int}{W' W:List (Int×Int×Bool)}(hk:(m<=4/\room=36)∨(5<m/\kind=0))(m0:0<m)(eW:W=QaX m t kind++W'∨W=(QaX m t kind++W').reverse)(h3:W'=[]∨spr (Qam (QaX m t kind++W')) m<=room)(h4:kind=0->∀w∈W',w.2.2=false)(nw:Qau m (Qal W) (QY W)):Qg8 m (Qal W) (QY W):=by
 have es:spr (Qv (Qal W) (QY W)) m=spr (Qam (QaX m t kind++W')) m:=Qd5 λi _=>by
  rw[Qfa]
  rcases eW with e | e
  ·rw[e]
  ·rw[e,Qe7]
 have el:kind=0->QY W=[]:=λhk=>by
  have nl:∀w∈W,w.2.2=false:=λw hw=>by
   have hw':w∈QaX m t kind++W':=by
    rcases eW with e | e
    ·rw[e]at hw;exact hw
    ·rw[e]at hw;exact ZaP.mp hw
   rcases Zo.mp hw' with z | z
   ·unfold QaX at z
    obtain⟨j,_,rfl⟩:=ZK.mp z
    unfold QdK
    rw[hk]
    simp
   ·exact h4 hk w z
  unfold QY
  rw[ZbR.mpr λw hw=>by rw[nl w hw];exact ZJ]
  rfl
 rcases hk with⟨m4,rfl⟩ | ⟨m5,k0⟩
 ·refine .inl ⟨m4,?_⟩
  rw[es]
  rcases h3 with e | h
  ·rw[e,ZC]
   refine Qoz m0 m4 (Qf5 ..) Qii QhW λi hi=>?_
   have:=nw.Qga hi
   rw[Qfa]at this
   have e2:Qam W i=Qam (QaX m t kind++W') i:=by
    rcases eW with z | z
    ·rw[z]
    ·rw[z,Qe7]
   rw[e2,e,ZC]at this
   omega
  ·exact h
 ·exact .inr ⟨m5,el k0⟩
theorem Qsf{dc db dm:Den}(hc:Qi5 dc)(hb:Ql9 db)(hm:Qh7 dm):Qji (QB 10 (QdF dc db dm)):=λns hl=>by
 have b1:=ZI (ns.getD 0 0) (by decide:(4:Int)≠0)
 have b2:=ZE (ns.getD 0 0) (by decide:(0:Int)<4)
 obtain⟨m1,em1⟩:∃m:Nat,(m:Int)=1+ns.getD 0 0 % 4:=⟨(1+ns.getD 0 0 % 4).toNat,by omega⟩
 have b3:=ZI (ns.getD 0 0 / (8*4)) (by decide:(3:Int)≠0)
 have b4:=ZE (ns.getD 0 0 / (8*4)) (by decide:(0:Int)<3)
 obtain⟨m2,em2⟩:∃m:Nat,(m:Int)=6+ns.getD 0 0 / (8*4) % 3:=⟨(6+ns.getD 0 0 / (8*4) % 3).toNat,by omega⟩
 have t1:=ZI (ns.getD 1 0 / 6) (by decide:(1000003:Int)≠0)
 have t2:=ZE (ns.getD 1 0 / 6) (by decide:(0:Int)<1000003)
 generalize et:ns.getD 1 0 / 6 % 1000003=t at t1 t2
 generalize ek:ns.getD 1 0 % 6=kind
 have key:Run (QdF dc db dm) (Qat 10 [.lst (ns.map .int),.int 4,.int 36]) (Rt λd fr=>∃(m:Nat) (R L:List (Int×Int)),d=Qh m R L/\fr=true/\0<m/\m<=8/\Qau m R L/\R.length+L.length<=180/\Qg8 m R L):=by
  have cell:∀(ρ:En) (k:Nat),ρ[0]? =some (some (.lst (ns.map .int),false))->Qx 2 dc [] (Qb (Qa 0) (Qb (dC (.int k)) Qe)) ρ=some ⟨.int (ns.getD k 0),true,[]⟩:=λρ k h0=>by
   refine QP (Qu (Qa4 h0) (Qu (QfW _ _) (QZ _))) ?_ rfl
   exact hc ns k
  refine run_seq (Qi (Qah (a:=1) rfl rfl (Qai (b:=4) (cell _ 0 rfl) rfl rfl rfl (by decide)) rfl) ?_)
  rw[Qz,← em1]
  refine run_seq (Qi (Qai (b:=1000003) (QeV (b:=6) (cell _ 1 rfl) rfl rfl rfl (by decide) (by decide)) rfl rfl rfl (by decide)) ?_)
  rw[Qz,et]
  refine run_seq (Qi (Qai (b:=6) (cell _ 1 rfl) rfl rfl rfl (by decide)) ?_)
  rw[Qz,ek]
  obtain⟨cs,hcs,esl⟩:=Qim (a:=2) (b:=12) (fa:=Qa 0) (ns:=ns) (ρ:=[some (.lst (ns.map .int),false),some (.int 4,true),some (.int 36,true),some (.int m1,true),some (.int t,true),some (.int kind,true),none,none,none,none]) rfl rfl
  refine run_seq (Qi esl ?_)
  rw[Qz]
  refine Qa9 (P:=λρ=>∃(m:Nat) (cs':List Int) (kind' room':Int),0<m/\m<=8/\cs'.length<=63/\((m<=4/\room'=36)∨(5<m/\kind'=0))/\ρ=[some (.lst (ns.map .int),false),some (.int 4,true),some (.int room',true),some (.int m,true),some (.int t,true),some (.int kind',true),some (.lst (cs'.map .int),true),none,none,none]) ?_ ?_
  ·refine QQ (QL (Qda (b:=3) (Qai (b:=8) (QeV (b:=4) (cell _ 0 rfl) rfl rfl rfl (by decide) (by decide)) rfl rfl rfl (by decide)) rfl rfl rfl) rfl) (λ_=>?_) (λ_=>Qn ⟨m1,cs,kind,36,by omega,by omega,by omega,.inl ⟨by omega,rfl⟩,rfl⟩)
   refine run_seq (Qi (Qah (a:=6) rfl rfl (Qai (b:=3) (QeV (b:=8*4) (cell _ 0 rfl) rfl (QbQ (a:=8) (b:=4) rfl rfl rfl rfl (Qey (by decide))) rfl (by decide) (by decide)) rfl rfl rfl (by decide)) rfl) ?_)
   rw[Qz,← em2]
   refine run_seq (Qi (r:=⟨.int 0,true,[]⟩) rfl ?_)
   rw[Qz]
   obtain⟨cs2,hcs2,esl2⟩:=Qim (a:=2) (b:=4) (fa:=Qa 0) (ns:=ns) (ρ:=[some (.lst (ns.map .int),false),some (.int 4,true),some (.int 36,true),some (.int m2,true),some (.int t,true),some (.int 0,true),some (.lst (cs.map .int),true),none,none,none]) rfl rfl
   refine run_seq (Qi esl2 ?_)
   rw[Qz]
   refine run_seq (Qi (r:=⟨.int 300,true,[]⟩) rfl (Qn ?_))
   rw[Qz]
   exact⟨m2,cs2,0,300,by omega,by omega,by omega,.inr ⟨by omega,rfl⟩,rfl⟩
  rintro ρ ⟨m,cs',kind',room'',m0,m8,hcs',hkk,rfl⟩
  have hbase:=hb m t kind' (by omega) (by omega) t1 (by omega)
  obtain⟨W',fr,hmore,hw1,hw2,hw3,hw4⟩:=hm m (QaX m t kind') cs' kind' room'' (by omega) (by omega) (by rw[Qf5];omega) Qii
  have gW:∀w∈QaX m t kind'++W',GoodW m w:=λw hw=>(Zo.mp hw).elim (Qii w) (hw2 w)
  refine run_seq (Qi (QlB (Qu (QP (r:=⟨[.int m,.int t,.int kind'],true,[]⟩) rfl hbase rfl) (rs:=⟨[.lst (cs'.map .int),.int m,.int kind',.int room''],true,[6]⟩) rfl) hmore rfl) ?_)
  have easg:=QpO (i:=7) (d:=Qar (QaX m t kind'++W')) (fr:=fr) (M:=[]++[6]) (ρ:=[some (.lst (ns.map .int),false),some (.int 4,true),some (.int room'',true),some (.int m,true),some (.int t,true),some (.int kind',true),some (.lst (cs'.map .int),true),none,none,none]) rfl
  refine(congrArg (λρ=>Run _ ρ _) easg).mpr ?_
  refine Qa9 (P:=λρ=>∃W b b7,(W=QaX m t kind'++W'∨W=(QaX m t kind'++W').reverse)/\ρ=[some (.lst (ns.map .int),false),some (.int 4,true),some (.int room'',true),some (.int m,true),some (.int t,true),some (.int kind',true),some (.lst (cs'.map .int),b7),some (Qar W,b),none,none]) ?_ ?_
  ·cases fr with
   | true=>
    refine QQ (QL (Qda (b:=1) (Qai (a:=t) (b:=2) rfl rfl rfl rfl (by decide)) rfl rfl rfl) rfl) (λ_=>?_) (λ_=>?_)
    ·refine run_seq (Qi (Qkh (x:=7) (W:=QaX m t kind'++W') rfl) (Qn ?_))
     rw[Qz]
     exact⟨_,true,true,.inr rfl,rfl⟩
    ·exact Qn ⟨_,true,true,.inl rfl,rfl⟩
   | false=>
    refine QQ (QL (Qda (b:=1) (Qai (a:=t) (b:=2) rfl rfl rfl rfl (by decide)) rfl rfl rfl) rfl) (λ_=>?_) (λ_=>?_)
    ·refine run_seq (Qi (Qkh (x:=7) (W:=QaX m t kind'++W') rfl) (Qn ?_))
     rw[Qz]
     exact⟨_,true,false,.inr rfl,rfl⟩
    ·exact Qn ⟨_,false,false,.inl rfl,rfl⟩
  ·rintro ρ ⟨W,b,b7,eW,rfl⟩
   have hlen:W.length<=180:=by
    rcases eW with e | e
    ·rw[e,Zp,Qf5];omega
    ·rw[e,ZaY,Zp,Qf5];omega
   have w1:∀w∈QaX m t kind',w∈W:=λw hw=>by
    rcases eW with e | e
    ·rw[e];exact Zd _ hw
    ·rw[e];exact ZaP.mpr (Zd _ hw)
   have w2:∀w∈W,GoodW m w:=λw hw=>by
    rcases eW with e | e
    ·rw[e]at hw;exact gW w hw
    ·rw[e]at hw;exact gW w (ZaP.mp hw)
   have nw:Qau m (Qal W) (QY W):=⟨W,QhW.mono w1,w2,by omega,rfl,rfl⟩
   have hsm:=Qrk hkk m0 eW hw3 hw4 nw
   refine run_seq (Qi (Qsy (W:=W) (Qa4 rfl) (by cases b<;>rfl)) ?_)
   rw[Qz]
   refine run_seq (Qi (QrG (W:=W) (Qa4 rfl) (by cases b<;>rfl)) ?_)
   rw[Qz]
   exact Qaa (r:=⟨Qh m (Qal W) (QY W),true,[8,9]⟩) rfl ⟨m,Qal W,QY W,rfl,rfl,m0,m8,nw,by rw[Qkt];omega,hsm⟩
 obtain⟨o,h1,h2⟩:=key
 cases o with
 | rt d fr=>
  obtain⟨m,R,L,rfl,rfl,h3,h4,h5,h6,h7⟩:=h2
  exact⟨m,R,L,by unfold QB;rw[h1];rfl,h3,h4,h5,h6,h7⟩
 | _=>exact h2.elim
theorem QmW{m:Nat}{h s:Nat->Int}{ρ:En}{R L:List (Int×Int)}{x y:Nat}(h0:∃b,ρ[0]? =some (some (Qh m R L,b)))(hc:Qdb [none,none,some x,some y] ρ=[none,none,some (Qc m h,false),some (Qc m s,false)])(hm:m<=1000):
  Q7 (QaY (Qm (Qa 0) (dC (.int 0)))) (.nm 1) [none,none,some x,some y] (QE (dOp gGe (Qm (Qa 2) (Qa 1)) (Qm (Qa 3) (Qa 1)))) (Qa 1) ρ=some ⟨Qp (QS m s h),true,[]⟩:=by
 obtain⟨b,h0⟩:=h0
 have hi:Qm (Qa 0) (dC (.int 0)) ρ=some ⟨.int m,true,[]⟩:=(Qa6 (m:=m) (R:=R) (L:=L) (Qa4 h0) (by cases b<;>rfl)).1
 refine(QfL (toD:=λ(p:Nat)=>D.int p) (keep:=λp=>decide (s p<=h p)) (out:=λ(p:Nat)=>D.int p) (List.range m) (QdE (n:=m) hi rfl (by omega)) rfl λp hp=>?_).trans rfl
 rw[hc]
 have hp:=ZH.mp hp
 refine⟨[none,some (.int p,true),some (Qc m h,false),some (Qc m s,false)],rfl,?_,λ_=>⟨_,rfl,rfl,rfl⟩⟩
 exact QL (Q8 (d:= .bl (decide (s p<=h p))) (QeR (m:=m) (f:=h) (i:=p) (ra:=⟨Qc m h,false,[]⟩) (rb:=⟨.int p,true,[]⟩) rfl rfl rfl rfl hp) (QeR (m:=m) (f:=s) (i:=p) (ra:=⟨Qc m s,false,[]⟩) (rb:=⟨.int p,true,[]⟩) rfl rfl rfl rfl hp) rfl) rfl
theorem QpU{fa:DE}{ρ:En}{ra:HS.R}{l:List Nat}(ha:fa ρ=some ra)(ea:ra.d=Qp l):dOp gEq fa (QT Qe) ρ=some ⟨.bl l.isEmpty,true,[]⟩:=by
 refine Q8 (rb:=⟨.lst [],true,[]⟩) ha rfl ?_
 rw[ea]
 show gEq (Qp l) (.lst [])=_
 have hs:(Qp l).sim 8=true:=by
  show((l.map λ(p:Nat)=>D.int (p:Int)).all (D.sim 7))=true
  rw[ZW]
  intro d hd
  obtain⟨p,_,rfl⟩:=ZK.mp hd
  rfl
 unfold gEq
 rw[hs]
 show some (D.bl (deq (Qp l) (.lst [])))=_
 cases l<;>rfl
theorem QsP{m i:Nat}{f:Nat->Int}{v:Int}(hi:i<m):Qo m (up f i (f i+v))=Qo m f+v:=by
 have:(up f i (f i+v))=λj=>f j+(if j=i then v else 0)*1:=by
  funext j
  unfold up
  by_cases e:j=i
  ·subst e;rw[if_pos rfl,if_pos rfl];omega
  ·rw[if_neg e,if_neg e];omega
 rw[this,Qaf,Qaj hi];omega
def Qq8(e:QbI):Prop:=∀ps:List Int,e [.obj (.ins "Picked" []) [],Qy ps]=some (.non,wkD (.pick ps) 0)
end HS
namespace HS
open PySem PySem.Spec L2 PyProof.Rows
theorem Qvd{X:Cx}{st:Stmt}:S1 X st (λ_=>none):=λH0 A0 pins s σ H E I ⟨ρ,hs,F,o,rel,e,q⟩=>by cases e
noncomputable def QrZ(T:MeT)(st:Stmt):Option DS:=match st with
 | .Assign ts e _=>match ts with
  | []=>none
  | t::ts=>match ts with
   | _::_=>none
   | []=>match e with
    | .Call fn _ _ _=>match fn with
     | .Attribute _ m _=>if QsZ T m=true then some (λ_=>none)else none
     | _=>none
    | _=>none
 | _=>none
theorem QuH{T:MeT}{st:Stmt}{f:DS}(h:QrZ T st=some f):f=λ_=>none:=by
 unfold QrZ at h
 split at h
 ·split at h
  ·cases h
  ·split at h
   ·cases h
   ·split at h
    ·split at h
     ·split at h
      ·cases h;rfl
      ·cases h
     ·cases h
    ·cases h
 ·cases h
noncomputable def QrI(Θ:Th)(T:MeT):Th:={Θ with tr:=QrZ T}
section
variable {P:Program}{w:World}{K:PySem.W.Frag}{mg:Str->Option Value}{base:Heap}
theorem Qr5{h:Heap}{x:Str}{st:Stmt}{ps:List Str}{k n:Nat}{Γ:List (Str×FnR)}{Γx:List (Str×(Nat×(List D->Option Str)))}{cls:List Str}{cs:List (Str×Cn)}{T:MeT}{g:DX}(X:K.In h)(G:h.Ns mainGlobals mg)(F:Fact K x st)(S:QaA (namesOf (Qg st)) ps (Qg st))(B:QN x st ps)(M:Qb8 mg cs)(tab:Qaz P w K mg base k Γ)(tabx:QdI P w K mg base k Γx)
  (hcl:∀x∈cls,Qf0 K x) (hc:Qc2 n (QrI (QbL st Γ cs) T) ⟨Γx,cls⟩ (Q2 st)=some g):QeU P w K mg base (k+1) x (ps.length,Qcq (namesOf (Qg st)).length g):=by
 obtain⟨f,fd,Fn,a⟩:=F.ex
 refine⟨f,fd,ps,?_,Zal X G a,Fn.kp,Fn.binds (B ·),rfl⟩
 obtain⟨oc,od,kV,doc,pm,an,cdv,ct,osl,rfl,lk,hcd⟩:=Fn.ex
 refine QoU lk hcd S (QnP rfl) λA outer s H vs Q E hr hsp=>?_
 obtain⟨ds,L,y,rps,hl,hd,hE⟩:=hsp
 have ok0:QH (Qcr (CXR P w) P w K mg base (namesOf (Qg st)) x (Qg st) f cdv A outer s H E) (QbL st Γ cs):=QjI (CX:=CXR P w) (E:=E) S M tab hr PassesOwn.leaving
 have ok:QH (Qcr (CXR P w) P w K mg base (namesOf (Qg st)) x (Qg st) f cdv A outer s H E) (QrI (QbL st Γ cs) T):=ok0.QqY λst' f' h'=>by rw[QuH h'];exact Qvd
 have xk:XOk (Qcr (CXR P w) P w K mg base (namesOf (Qg st)) x (Qg st) f cdv A outer s H E) ⟨Γx,cls⟩:=⟨rfl,rfl,rfl,λz r e=>by
  obtain⟨f',fd',ps',h1,h2,h3,h4,h5⟩:=tabx z r e
  exact⟨k,f',fd',ps',h1,hr,h2,h3,h4,h5⟩,hcl⟩
 refine⟨_,(Qll n).Xs _ _ _ _ g ok xk hc H L,?_⟩
 obtain⟨F0,rel⟩:=Qd2 (N:=namesOf (Qg st)) rps
 obtain⟨⟨y',ρ'⟩,e1,e2⟩:=Zc.mp hd
 cases e2
 exact⟨_,[],F0,y',ρ',rel,e1,λC ea s' hC T=>Qha rfl rfl rfl rfl rfl rfl rfl T λH' sm=>hE C H' hC sm⟩
end
end HS
namespace HS
open PySem L2
noncomputable def Qdt(Qan:Den)(x_need_rows:List D->Option Str):DX:=(QaZ (Qbd (Qx 2 Qan [] (Qb (Qa 0) (Qb (Qa 1) Qe)))) (QbN 2 x_need_rows (Qb (Qa 0) (Qb (Qa 1) Qe))) (QaZ (Qbb (Qav (Qa 1)) (.nm 2) (Qd (sIf (QE (dOp gLt (dBf QdX (Qb (Qa 2) Qe)) (dC (.int 0)))) (Qd QK Ql) Ql) Ql)) (QgK (Qav (Qa 1)) (.nm 2) (Qd (sIf (QE (dOp gLt (dBf QdX (Qb (Qa 2) Qe)) (dC (.int 0)))) (Qd QK Ql) Ql) Ql) (QaZ (sIf (QE (dOp gLt (dBf QdX (Qb (Qa 2) Qe)) (dC (.int 0)))) (Qd QK Ql) Ql) (xIf (QE (dOp gLt (dBf QdX (Qb (Qa 2) Qe)) (dC (.int 0)))) (QaZ QK (Qd4 "NoHeap" (Qb (dC (.str "a heap has no number below 0")) Qe)) xNo) xNo) xNo)) xNo))
theorem QrQ{dn:Den}{xn:List D->Option Str}(h:ApF dn xn):ApF (QB 3 (Qcy dn)) (Qcq 3 (Qdt dn xn)):=Qtu (by unfold Qcy Qdt;repeat (first | exact QdZ | exact QbJ | assumption | apply Qc1 | apply Qfb | apply Qc8 | apply Qa5 | apply Qed | apply Qee))
structure QlT (xd:List D->Option Str):Prop where
 row:∀(m:Int) (R L:List (Int×Int)) (xs:List D),(xs.length:Int)≠m->xd [Qh m R L,.lst [.lst xs]]=some "NoRow"
 heap:∀(m:Nat) (R L:List (Int×Int)) (f:Nat->Int) (j:Nat),j<m->f j<0->xd [Qh m R L,.lst [Qc m f]]=some "NoHeap"
theorem Qqs{dn:Den}{xn:List D->Option Str}(h:ApF dn xn)(hn:QgW dn)(hx:QoO xn):QlT (Qcq 3 (Qdt dn xn)) where
 row:=λm R L xs hm=>by
  refine Qi4 (QcT (Qa5 h) (Qjx (r:=⟨[Qh m R L,.lst [.lst xs]],_,_⟩) rfl rfl ?_))
  exact hx m R L [xs] 0 (by simp) (λi x hi e=>by omega) (λx e=>by cases e;exact hm)
 heap:=λm R L f j hj hf=>by
  obtain⟨v,_,hle,hv⟩:=Qn2 (by omega:0<m) f
  have h0:=hle j hj
  refine Qi4 (Quy (QdQ (QP (r:=⟨[Qh m R L,.lst [Qc m f]],false,[]⟩) rfl (hn m R L [f]) rfl) ?_))
  refine QcT (Qc8 (by repeat (first | exact QdZ | exact QbJ | assumption | apply Qc1 | apply Qfb | apply Qc8 | apply Qa5 | apply Qed | apply Qee))) (Qp1 (by repeat (first | exact QdZ | exact QbJ | assumption | apply Qc1 | apply Qfb | apply Qc8 | apply Qa5 | apply Qed | apply Qee)) (toD:=λf=>Qc m f) [f] (λ_ ρ=>ρ=[some (Qh m R L,false),some (.lst [Qc m f],false),none]) 0 (by simp) (ir:=⟨[Qc m f],[]⟩) rfl rfl rfl (λi x ρ hi=>absurd hi (by omega)) ?_)
  rintro x ρ hx rfl
  cases hx
  refine⟨_,rfl,?_⟩
  refine QcT (by repeat (first | exact QdZ | exact QbJ | assumption | apply Qc1 | apply Qfb | apply Qc8 | apply Qa5 | apply Qed | apply Qee)) (Qtj (b:=true) (QL (Q8 (rb:=⟨.int 0,true,[]⟩) (d:= .bl (decide (v<0))) (hv (r:=⟨Qc m f,false,[]⟩) rfl rfl) rfl rfl) ?_) (λ_=>QcT QbJ (QmT rfl (Zn _))) (λh=>by cases h))
  show D.bl _=_
  rw[decide_eq_true (by omega)]
structure Qz6 (xd:List D->Option Str):Prop where
 plain:∀(m:Int) (R L:List (Int×Int)) (xs:List D),L≠[]->xd [Qh m R L,.lst xs]=some "NotPlain"
 row:∀(m:Nat) (R:List (Int×Int)) (xs:List D),xs.length≠m->xd [Qh m R [],.lst xs]=some "NoRow"
 heap:∀(m:Nat) (R:List (Int×Int)) (f:Nat->Int) (j:Nat),j<m->f j<0->xd [Qh m R [],Qc m f]=some "NoHeap"
structure Qz9 (sub:Str->Str->Option Bool) (x:Str) (w:Nat):Prop where
 he:sub x "HeapError" =some true
 ve:sub x "ValueError" =some true
 np:sub x "NotPlain" =some (decide (w=1))
 nr:sub x "NoRow" =some (decide (w=2))
 nh:sub x "NoHeap" =some (decide (w=3))
noncomputable def Q1(k:Wk):Int:=match k with
 | .plain=>0
 | .both=>1
 | .pick _=>2
def QiV(k:Wk)(ps:List Int):Prop:=match k with
 | .pick qs=>qs=ps
 | _=>True
noncomputable def QhQ:DS:=(Qd (sIf (QE (dOp gEq (Qa 1) (dC (.int 0)))) (Qd (Q3 (QaO (Qa 0) QaJ (Qae (dC (.int 1))))) Ql) Ql) (Qd (sIf (QE (dOp gEq (Qa 1) (dC (.int 1)))) (Qd (Q3 (Qa 0)) Ql) Ql) (Qd (Qr 4 (dC (.int 0))) (Qd (sIf (QE (dOp gLt (Qa 3) (dBf Qbo (Qb (Qa 2) Qe)))) (Qd (Qr 4 (Qcc (Qm (Qa 2) (Qa 3)))) Ql) Ql) (Qd (Q3 (QT (Qb (Qm (Qa 0) (dOp Q4 (Qa 4) (dBf Qbo (Qb (Qa 0) Qe)))) Qe))) Ql)))))
def TurnOk(d:Den):Prop:=∀(k:Wk) (ps:List Int) (u:Nat) (l:List Nat),QiV k ps->l≠[]->∃fr,d [Qp l,.int (Q1 k),Qy ps,.int u]=some (Qp (sel k u l),fr)
theorem Qt6:TurnOk (QB 5 QhQ):=λk ps u l hk hne=>by
 have lpos:0<l.length:=ZaN.mpr hne
 cases k with
 | plain=>
  refine⟨true,QaF ?_⟩
  refine QA (QQ (b:=true) rfl (λ_=>?_) (λz=>by cases z))
  exact QA (Qez (Qnc (l:=l) (ra:=⟨Qp l,false,[]⟩) rfl rfl) ⟨rfl,rfl⟩)
 | both=>
  refine⟨false,QaF ?_⟩
  refine QA (QQ (b:=false) rfl (λz=>by cases z) (λ_=>Qn ?_))
  refine QA (QQ (b:=true) rfl (λ_=>?_) (λz=>by cases z))
  exact QA (Qez (r:=⟨Qp l,false,[]⟩) rfl ⟨rfl,rfl⟩)
 | pick qs=>
  have e:qs=ps:=hk
  subst e
  refine⟨true,QaF ?_⟩
  refine QA (QQ (b:=false) rfl (λz=>by cases z) (λ_=>Qn ?_))
  refine QA (QQ (b:=false) rfl (λz=>by cases z) (λ_=>Qn ?_))
  refine run_seq (Qi (r:=⟨.int 0,true,[]⟩) rfl ?_)
  change Nx _ (.nx [some (Qp l,false),some (.int 2,true),some (Qy qs,false),some (.int u,true),some (.int 0,true)])
  refine Qa9 (P:=λρ=>ρ=[some (Qp l,false),some (.int 2,true),some (Qy qs,false),some (.int u,true),some (.int (qs.getD u 0),true)]) ?_ ?_
  ·have fl:=Qd9 (fa:=Qa 2) (xs:=qs.map D.int) (r:=⟨Qy qs,false,[]⟩) (ρ:=[some (Qp l,false),some (.int 2,true),some (Qy qs,false),some (.int u,true),some (.int 0,true)]) rfl rfl
   refine QQ (b:=decide (u<qs.length)) (QL (Q8 (d:= .bl (decide (u<qs.length))) (ra:=⟨.int u,true,[]⟩) rfl fl ?_) rfl) (λh=>?_) (λh=>Qn ?_)
   ·show some (D.bl (decide ((u:Int)<((qs.map D.int).length:Nat))))=_
    rw[Zm]
    congr 3
    exact propext (by omega)
   ·have hlt:u<qs.length:=of_decide_eq_true h
    refine run_seq (Qi (Qgl (Qev (ns:=qs) (i:=u) (v:=qs.getD u 0) (ra:=⟨Qy qs,false,[]⟩) rfl rfl rfl rfl (by omega) (by rw[ZP,Zz,ZA hlt];rfl))) (Qn ?_))
    rw[Qmo rfl];rfl
   ·have hge:¬u<qs.length:=of_decide_eq_false h
    rw[Zz,Zw (by omega)];rfl
  ·rintro ρ rfl
   have hm0:0<=qs.getD u 0 % (l.length:Int):=ZI _ (by omega)
   have hm1:qs.getD u 0 % (l.length:Int)<l.length:=ZE _ (by omega)
   have hlt:(qs.getD u 0 % (l.length:Int)).toNat<l.length:=by omega
   have es:sel (.pick qs) u l=[l.getD (qs.getD u 0 % (l.length:Int)).toNat 0]:=by unfold sel;dsimp only;rw[if_neg hne]
   rw[es]
   refine Qaa (r:=⟨.lst [.int (l.getD (qs.getD u 0 % (l.length:Int)).toNat 0:Nat)],true,[]⟩) ?_ ⟨rfl,rfl⟩
   refine(Qg0 (rs:=⟨[.int (l.getD (qs.getD u 0 % (l.length:Int)).toNat 0:Nat)],true,[]⟩) ?_ (show 1<=64 by decide)).trans rfl
   refine(Qu (r:=⟨.int (l.getD (qs.getD u 0 % (l.length:Int)).toNat 0:Nat),true,[]⟩) ?_ (QZ _)).trans rfl
   exact QnB (l:=l) (ra:=⟨Qp l,false,[]⟩) rfl rfl (Qai (b:=l.length) (ra:=⟨.int (qs.getD u 0),true,[]⟩) rfl rfl (Qj3 (l:=l) (r:=⟨Qp l,false,[]⟩) rfl rfl) rfl (by omega)) rfl hm0 (by rw[ZA hlt,Zz (l:=l),ZA hlt];rfl)
noncomputable def Qg7:DS:=(Qd (sIf (bOr (QcB (QE (Qff "tuple" (Qa 0)))) (QE (dOp gNe (dBf Qbo (Qb (Qa 0) Qe)) (dC (.int 3))))) (Qd (Q3 (dC (.bl false))) Ql) Ql) (Qd (Q3 (Qdg (Qff "list" (Qm (Qa 0) (dC (.int 0)))) (Qdg (Qff "list" (Qm (Qa 0) (dC (.int 1)))) (Qff "list" (Qm (Qa 0) (dC (.int 2))))))) Ql))
def QjK(d:Den):Prop:=∀(m:Nat) (h c:Nat->Int) (ts:List (List Nat)),d [.tup [Qc m h,Qc m c,QcA ts]]=some (.bl true,true)
theorem QoZ:QjK (QB 1 Qg7):=λm h c ts=>QaF (by
 refine QA (QQ (b:=false) (Qdv (a:=false) (b:=false) (Qcw (b:=true) (QL (b:=true) rfl rfl)) rfl) (λz=>by cases z) (λ_=>Qn ?_))
 exact Qaa (r:=⟨.bl true,true,[]⟩) rfl ⟨rfl,rfl⟩)
theorem Qq4{fa:DE}{ρ:En}{ra:HS.R}{l:List Nat}(ha:fa ρ=some ra)(ea:ra.d=Qp l):dOp gNe fa (QT Qe) ρ=some ⟨.bl (!l.isEmpty),true,[]⟩:=by
 refine Q8 (rb:=⟨.lst [],true,[]⟩) ha rfl ?_
 rw[ea]
 show gNe (Qp l) (.lst [])=_
 have hs:(Qp l).sim 8=true:=by
  show((l.map λ(p:Nat)=>D.int (p:Int)).all (D.sim 7))=true
  rw[ZW]
  intro d hd
  obtain⟨p,_,rfl⟩:=ZK.mp hd
  rfl
 unfold gNe
 rw[hs]
 show some (D.bl (!deq (Qp l) (.lst [])))=_
 cases l<;>rfl
theorem Qvq{m:Nat}{t:List Nat}{ρ:En}{R L:List (Int×Int)}{x:Nat}(h0:∃b,ρ[0]? =some (some (Qh m R L,b)))(h6:Qdb [none,none,some x] ρ=[none,none,some (Qp t,false)])(hm:m<=1000):
  Q7 (QaY (Qm (Qa 0) (dC (.int 0)))) (.nm 1) [none,none,some x] QaN (dBf QgX (Qb (dOp (gIn false) (Qa 1) (Qa 2)) Qe)) ρ=some ⟨Qc m (QX t),true,[]⟩:=by
 obtain⟨b,h0⟩:=h0
 have hi:Qm (Qa 0) (dC (.int 0)) ρ=some ⟨.int m,true,[]⟩:=(Qa6 (m:=m) (R:=R) (L:=L) (Qa4 h0) (by cases b<;>rfl)).1
 refine(QaG (toD:=λ(p:Nat)=>D.int p) (out:=λ(p:Nat)=>D.int (QX t p)) (List.range m) (QdE (n:=m) hi rfl (by omega)) rfl λp hp=>?_).trans rfl
 rw[h6]
 refine⟨[none,some (.int p,true),some (Qp t,false)],rfl,⟨.int (QX t p),true,[]⟩,?_,rfl,rfl⟩
 unfold dBf
 rw[Qu (Qps (neg:=false) (o:=p) (l:=t) (ra:=⟨.int p,true,[]⟩) (rb:=⟨Qp t,false,[]⟩) rfl rfl rfl rfl) (QZ _),Za]
 unfold QX
 by_cases e:p∈t
 ·rw[if_neg ZJ,ZG.mpr e,if_pos e];rfl
 ·have:t.contains p=false:=by
   cases q:t.contains p with
   | false=>rfl
   | true=>exact absurd (ZG.mp q) e
  rw[if_neg ZJ,this,if_neg e];rfl
noncomputable def Qgz(QbV:Den)(QbP:Den)(Qcd:Den)(Qb0:Den)(Qbt:Den):DS:=(Qd (sIf (QcB (QE (Qx 1 QbV [] (Qb (Qa 2) Qe)))) (Qd (Q3 (QdA (dC (.int 1)))) Ql) Ql) (Qd (Qr 6 (Qx 1 QbP [] (Qb (Qa 0) Qe))) (Qd (Qr 7 (dList (Qb (Qa 1) Qe))) (Qd (Qr 8 (QaD (QT (Qb (dC (.int 0)) Qe)) (Qm (Qa 0) (dC (.int 0))))) (Qd (Qbb (Qav (Qm (Qa 2) (dC (.int 2)))) (.nm 9) (Qd (Qr 10 (Q7 (QaY (Qm (Qa 0) (dC (.int 0)))) (.nm 1) [none,none,some 7,some 6] (QE (dOp gGe (Qm (Qa 2) (Qa 1)) (Qm (Qa 3) (Qa 1)))) (Qa 1))) (Qd (sIf (bOr (QE (dOp gEq (Qa 10) (QT Qe))) (QcB (QE (Qx 2 Qb0 [] (Qb (Qa 9) (Qb (Qx 4 Qcd [] (Qb (Qa 10) (Qb (Qa 3) (Qb (Qa 4) (Qb (Qa 5) Qe))))) Qe)))))) (Qd (Q3 (QdA (dC (.int 1)))) Ql) Ql) (Qd (Qr 11 (Q7 (QaY (Qm (Qa 0) (dC (.int 0)))) (.nm 1) [none,none,some 9] QaN (dBf QgX (Qb (dOp (gIn false) (Qa 1) (Qa 2)) Qe)))) (Qd (Qr 7 (Qx 3 Qbt [] (Qb (Qa 0) (Qb (Qa 7) (Qb (Qa 11) Qe))))) (Qd (Qr 8 (Q7 (Qb2 (Qa 8) (Qa 11)) (.tp [1,2]) [none,none,none] QaN (QC (Qa 1) (Qa 2)))) (Qd (Qr 5 (QC (Qa 5) (dC (.int 1)))) Ql))))))) (Qd (Qr 10 (Q7 (QaY (Qm (Qa 0) (dC (.int 0)))) (.nm 1) [none,none,some 7,some 6] (QE (dOp gGe (Qm (Qa 2) (Qa 1)) (Qm (Qa 3) (Qa 1)))) (Qa 1))) (Qd (sIf (bOr (QE (dOp gNe (Qa 10) (QT Qe))) (bOr (QcB (QE (Qx 2 Qb0 [] (Qb (Qm (Qa 2) (dC (.int 0))) (Qb (Qa 7) Qe))))) (QcB (QE (Qx 2 Qb0 [] (Qb (Qm (Qa 2) (dC (.int 1))) (Qb (Qa 8) Qe))))))) (Qd (Q3 (QdA (dC (.int 1)))) Ql) Ql) (Qd (Q3 (Qa 5)) Ql))))))))
def Qgt(d:Den):Prop:=∀(k:Wk) (ps:List Int) (u m:Nat) (R L:List (Int×Int)) (f:Nat->Int) (ts:List (List Nat)),QiV k ps->0<m->m<=8->Qau m R L->Qby k u m (Qq m (Qj R L)) (Qv R L) f ts->QS m (Qv R L) (hpA m (Qq m (Qj R L)) f ts)=[]->ts.length<=2000→
 d [Qh m R L,Qc m f,QJ m (Qq m (Qj R L)) f ts,.int (Q1 k),Qy ps,.int u]=some (.int (u+ts.length:Nat),true)
theorem Qqy{dl ds dt di db:Den}(hl:QjK dl)(hs:Qkd ds)(ht:TurnOk dt)(hi:QlI di)(hb:QoD db):Qgt (QB 12 (Qgz dl ds dt di db)):=λk ps u m R L f ts hk m0 hm hw w fin tl=>by
 obtain⟨g1,g2,_⟩:=hw.good
 have eb:=λh o=>hb m R L h o (by omega) g1 g2
 have esp:=hs m R L (by omega) g1 g2
 have row:∀f:Nat->Int,di [Qc m f,Qc m f]=some (.bl true,true):=λf=>by rw[Qg4];exact hi _
 have nat:∀l:List Nat,di [Qp l,Qp l]=some (.bl true,true):=λl=>by rw[Qkn];exact hi _
 obtain⟨T0,rT⟩:∃T0,T0=Qq m (Qj R L):=⟨_,rfl⟩
 rw[← rT]at w fin eb ⊢
 refine QaF ?_
 refine QA (QQ (b:=false) (Qcw (b:=true) (QL (b:=true) (QP (r:=⟨[QJ m T0 f ts],false,[]⟩) rfl (hl m _ _ ts) rfl) rfl)) (λz=>by cases z) (λ_=>Qn ?_))
 refine run_seq (Qi (QP (r:=⟨[Qh m R L],false,[]⟩) rfl esp rfl) ?_)
 refine run_seq (Qi (QbK (m:=m) (f:=f) (rs:=⟨[Qc m f],false,[]⟩) rfl rfl) ?_)
 refine run_seq (Qi (Qd0 (z:=0) (n:=m) (r:=⟨.int m,true,[]⟩) rfl rfl (by omega)) ?_)
 let E:Nat->Option (D×Bool)->Option (D×Bool)->Option (D×Bool)->En:=λi j9 j10 j11=>[some (Qh m R L,false),some (Qc m f,false),some (QJ m T0 f ts,false),some (.int (Q1 k),true),some (Qy ps,false),some (.int (u+i:Nat),true),some (Qc m (Qv R L),true),some (Qc m (hpA m T0 f (ts.take i)),true),some (Qc m (QI (ts.take i)),true),j9,j10,j11]
 change Nx _ (.nx [some (Qh m R L,false),some (Qc m f,false),some (QJ m T0 f ts,false),some (.int (Q1 k),true),some (Qy ps,false),some (.int u,true),some (Qc m (Qv R L),true),some (Qc m f,true),some (Qc m (λ_=>0),true),none,none,none])
 have h0:hpA m T0 f (ts.take 0)=f:=by
  funext j
  unfold hpA
  rw[ZbZ]
  have:(QI []:Nat->Int)=λ_=>0:=by funext p;simp[QI]
  rw[this]
  unfold Qt
  have z:(λi=>(0:Int)*T0 i j)=λ_=>0:=by funext i;rw[Zar]
  rw[z,QO];omega
 have c0:QI (ts.take 0)=λ_=>0:=by funext p;simp[QI]
 refine QA (QaT (toD:=Qp) ts (λi ρ=>∃j9 j10 j11,ρ=E i j9 j10 j11) (ir:=⟨ts.map Qp,[]⟩) rfl rfl ⟨none,none,none,?_⟩ ?_ ?_)
 ·show _=[some (Qh m R L,false),some (Qc m f,false),some (QJ m T0 f ts,false),some (.int (Q1 k),true),some (Qy ps,false),some (.int (u+0:Nat),true),some (Qc m (Qv R L),true),some (Qc m (hpA m T0 f (ts.take 0)),true),some (Qc m (QI (ts.take 0)),true),none,none,none]
  rw[h0,c0];rfl
 ·rintro i t ρ et ⟨j9,j10,j11,rfl⟩
  obtain⟨l,rl⟩:∃l,l=QS m (Qv R L) (hpA m T0 f (ts.take i)):=⟨_,rfl⟩
  obtain⟨w1,w2⟩:=w.st i t et
  rw[← rl]at w1 w2
  refine⟨_,rfl,?_⟩
  change Run _ [some (Qh m R L,false),some (Qc m f,false),some (QJ m T0 f ts,false),some (.int (Q1 k),true),some (Qy ps,false),some (.int (u+i:Nat),true),some (Qc m (Qv R L),true),some (Qc m (hpA m T0 f (ts.take i)),true),some (Qc m (QI (ts.take i)),true),some (Qp t,false),j10,j11] _
  refine run_seq (Qi (QmW (m:=m) (h:=hpA m T0 f (ts.take i)) (s:=Qv R L) (R:=R) (L:=L) ⟨false,rfl⟩ rfl (by omega)) ?_)
  rw[← rl]
  change Nx _ (.nx [some (Qh m R L,false),some (Qc m f,false),some (QJ m T0 f ts,false),some (.int (Q1 k),true),some (Qy ps,false),some (.int (u+i:Nat),true),some (Qc m (Qv R L),true),some (Qc m (hpA m T0 f (ts.take i)),true),some (Qc m (QI (ts.take i)),true),some (Qp t,false),some (Qp l,true),j11])
  obtain⟨fr,etn⟩:=ht k ps (u+i) l hk w1
  rw[← w2]at etn
  have hle:l.isEmpty=false:=by cases l with | nil=>exact absurd rfl w1 | cons a l=>rfl
  have earg:∃r1:HS.RA,Qb (Qa 9) (Qb (Qx 4 dt [] (Qb (Qa 10) (Qb (Qa 3) (Qb (Qa 4) (Qb (Qa 5) Qe))))) Qe) [some (Qh m R L,false),some (Qc m f,false),some (QJ m T0 f ts,false),some (.int (Q1 k),true),some (Qy ps,false),some (.int (u+i:Nat),true),some (Qc m (Qv R L),true),some (Qc m (hpA m T0 f (ts.take i)),true),some (Qc m (QI (ts.take i)),true),some (Qp t,false),some (Qp l,true),j11]=some r1/\r1.ds=[Qp t,Qp t]:=by
   cases fr<;>exact⟨_,Qu (r:=⟨Qp t,false,[]⟩) rfl (Qu (QlB (r:=⟨[Qp l,.int (Q1 k),Qy ps,.int (u+i:Nat)],false,[10]⟩) rfl etn rfl) (QZ _)),rfl⟩
  obtain⟨⟨ds1,fr1,M1⟩,earg,ed⟩:=earg
  dsimp only at ed
  subst ed
  refine QA (QQ (b:=false) (Qdv (a:=false) (b:=false) (QL (b:=false) ((QpU (l:=l) (ra:=⟨Qp l,true,[10]⟩) rfl rfl).trans (by rw[hle])) rfl) (Qcw (b:=true) (QL (b:=true) (QP earg (nat t) rfl) rfl))) (λz=>by cases z) (λ_=>Qn ?_))
  refine run_seq (Qi (Qvq (m:=m) (t:=t) (R:=R) (L:=L) ⟨false,rfl⟩ rfl (by omega)) ?_)
  change Nx _ (.nx [some (Qh m R L,false),some (Qc m f,false),some (QJ m T0 f ts,false),some (.int (Q1 k),true),some (Qy ps,false),some (.int (u+i:Nat),true),some (Qc m (Qv R L),true),some (Qc m (hpA m T0 f (ts.take i)),true),some (Qc m (QI (ts.take i)),true),some (Qp t,false),some (Qp l,true),some (Qc m (QX t),true)])
  have hp1:Qc m (Qt m T0 (hpA m T0 f (ts.take i)) (QX t))=Qc m (hpA m T0 f (ts.take (i+1))):=Qeu λj _=>by
   show Qt m T0 (Qt m T0 f (QI (ts.take i))) (QX t) j=_
   rw[QnZ]
   exact QcD j rfl λp _=>(QdP et p).symm
  have e1:=eb (hpA m T0 f (ts.take i)) (QX t)
  rw[hp1]at e1
  refine run_seq (Qi (QP (r:=⟨[Qh m R L,Qc m (hpA m T0 f (ts.take i)),Qc m (QX t)],false,[7,11]⟩) rfl e1 rfl) ?_)
  change Nx _ (.nx [some (Qh m R L,false),some (Qc m f,false),some (QJ m T0 f ts,false),some (.int (Q1 k),true),some (Qy ps,false),some (.int (u+i:Nat),true),some (Qc m (Qv R L),true),some (Qc m (hpA m T0 f (ts.take (i+1))),true),some (Qc m (QI (ts.take i)),true),some (Qp t,false),some (Qp l,true),some (Qc m (QX t),true)])
  refine run_seq (Qi (r:=⟨Qc m (QI (ts.take (i+1))),true,[]⟩) ?_ ?_)
  ·refine(QaG (toD:=λ(p:Nat)=>D.tup [.int (QI (ts.take i) p),.int (QX t p)]) (out:=λ(p:Nat)=>D.int (QI (ts.take (i+1)) p)) (List.range m) (QeA (m:=m) (f:=λp=>D.int (QI (ts.take i) p)) (g:=λp=>D.int (QX t p)) rfl rfl rfl rfl) rfl λp hp=>⟨[none,some (.int (QI (ts.take i) p),true),some (.int (QX t p),true)],rfl,⟨.int (QI (ts.take (i+1)) p),true,[]⟩,?_,rfl,rfl⟩).trans rfl
   rw[QdP et]
   exact Qah rfl rfl rfl rfl
  change Nx _ (.nx [some (Qh m R L,false),some (Qc m f,false),some (QJ m T0 f ts,false),some (.int (Q1 k),true),some (Qy ps,false),some (.int (u+i:Nat),true),some (Qc m (Qv R L),true),some (Qc m (hpA m T0 f (ts.take (i+1))),true),some (Qc m (QI (ts.take (i+1))),true),some (Qp t,false),some (Qp l,true),some (Qc m (QX t),true)])
  refine QA (Qi (Qah (a:=(u+i:Nat)) (b:=1) rfl rfl rfl rfl) (Qn ⟨some (Qp t,false),some (Qp l,true),some (Qc m (QX t),true),?_⟩))
  rw[Qz,show((u+i:Nat):Int)+1=((u+(i+1):Nat):Int) by omega];rfl
 ·rintro ρ ⟨j9,j10,j11,rfl⟩
  have hE:E ts.length j9 j10 j11=[some (Qh m R L,false),some (Qc m f,false),some (QJ m T0 f ts,false),some (.int (Q1 k),true),some (Qy ps,false),some (.int (u+ts.length:Nat),true),some (Qc m (Qv R L),true),some (Qc m (hpA m T0 f ts),true),some (Qc m (QI ts),true),j9,j10,j11]:=by
   show [some (Qh m R L,false),some (Qc m f,false),some (QJ m T0 f ts,false),some (.int (Q1 k),true),some (Qy ps,false),some (.int (u+ts.length:Nat),true),some (Qc m (Qv R L),true),some (Qc m (hpA m T0 f (ts.take ts.length)),true),some (Qc m (QI (ts.take ts.length)),true),j9,j10,j11]=_
   rw[Zaf]
  rw[hE]
  refine run_seq (Qi (QmW (m:=m) (h:=hpA m T0 f ts) (s:=Qv R L) (R:=R) (L:=L) ⟨false,rfl⟩ rfl (by omega)) ?_)
  rw[fin]
  change Nx _ (.nx [some (Qh m R L,false),some (Qc m f,false),some (QJ m T0 f ts,false),some (.int (Q1 k),true),some (Qy ps,false),some (.int (u+ts.length:Nat),true),some (Qc m (Qv R L),true),some (Qc m (hpA m T0 f ts),true),some (Qc m (QI ts),true),j9,some (Qp [],true),j11])
  refine QA (QQ (b:=false) (Qdv (a:=false) (b:=false) (QL (b:=false) (Qq4 (l:=[]) (ra:=⟨Qp [],true,[10]⟩) rfl rfl) rfl) (Qdv (a:=false) (b:=false) (Qcw (b:=true) (QL (b:=true) (QP (r:=⟨[Qc m (hpA m T0 f ts),Qc m (hpA m T0 f ts)],false,[7]⟩) rfl (row _) rfl) rfl)) (Qcw (b:=true) (QL (b:=true) (QP (r:=⟨[Qc m (QI ts),Qc m (QI ts)],false,[8]⟩) rfl (row _) rfl) rfl)))) (λz=>by cases z) (λ_=>Qn ?_))
  exact Qaa (r:=⟨.int (u+ts.length:Nat),true,[]⟩) rfl ⟨rfl,rfl⟩
theorem QqS(ha:fa ρ=some ra)(ea:ra.d=Qc m f)(hb:fb ρ=some ⟨.int x,true,[]⟩)(hm:m<=1000):QC fa (QT (Qb fb Qe)) ρ=some ⟨Qc (m+1) (up f m x),true,[]⟩:=by
 have hb:QT (Qb fb Qe) ρ=some ⟨.lst [.int x],true,[]⟩:=(Qg0 (Qu hb (QZ _)) (by simp)).trans rfl
 unfold QC
 rw[ha,Za,hb,Za,ea]
 simp only[Qc,Zm,ZM,Qem]
 rw[if_pos (by simp;omega)]
 unfold QaE
 rw[if_pos (by rw[Qcz,Zg];exact⟨Qbj (λ_=>rfl) _,rfl⟩)]
 congr 3
 rw[Zbk,ZF]
 congr 1
 ·refine ZR λi hi=>?_
  rw[Qfu,if_neg (by have:=ZH.mp hi;omega)]
 ·show _=[D.int (up f m x m)]
  rw[Qfu,if_pos rfl]
theorem Qjc(ha:fa ρ=some ra)(ea:ra.d=Qc m f)(hb:fb ρ=some rb)(eb:rb.d=Qc k g)(hl:m+k<=1000):QC fa fb ρ=some ⟨Qc (m+k) (λi=>if i<m then f i else g (i-m)),true,[]⟩:=by
 have e:Qc (m+k) (λi=>if i<m then f i else g (i-m))= .lst (((List.range m).map λi=>D.int (f i))++((List.range k).map λi=>D.int (g i))):=by
  unfold Qc
  rw[List.range_add,ZF,Zam]
  congr 2
  ·refine ZR λi hi=>?_
   show D.int (if i<m then f i else g (i-m))=_
   rw[if_pos (ZH.mp hi)]
  ·refine ZR λi hi=>?_
   show D.int (if m+i<m then f (m+i)else g (m+i-m))=_
   rw[if_neg (by omega),Nat.add_sub_cancel_left]
 rw[e]
 unfold QC
 rw[ha,Za,hb,Za,ea,eb]
 simp only[Qc,Zm,ZM,Qem]
 rw[if_pos (by omega)]
 unfold QaE
 rw[if_pos]
 rw[Qcz,Zg]
 exact⟨Qbj (λ_=>rfl) _,Qbj (λ_=>rfl) _⟩
theorem Qoy{n:Nat}(ha:fa ρ=some ra)(ea:ra.d=Qc m f)(hb:fb ρ=some rb)(eb:rb.d= .int n)(h:n<=m):QaO fa (Qae fb) QaJ ρ=some ⟨Qc (m-n) λi=>f (n+i),true,[]⟩:=by
 have cut:cutD ((List.range m).map λi=>D.int (f i)) (some (n:Int)) none=(List.range (m-n)).map λi=>D.int (f (n+i)):=by
  unfold cutD
  simp only[Zm,ZM,HT.Qgo,HT.Qhs]
  rw[ZbV h,← List.map_drop,← Zbe]
  have e:((List.range m).drop n).take (m-n)=(List.range (m-n)).map λi=>n+i:=by
   rw[ZaA (by simp)]
   refine Zbb λi=>?_
   rw[List.getElem?_drop,Zy]
   by_cases hi:i<m-n
   ·rw[Zai (by omega),Zai hi];rfl
   ·rw[Zw (by simp;omega),Zw (by simp;omega)];rfl
  rw[e,Zam]
  rfl
 unfold QaO QaJ Qae
 simp only[ha,hb,Za,ea,eb,Qc,cut,QaE]
 have:Qab ((List.range (m-n)).map λi=>D.int (f (n+i)))=true:=by
  have:=QfZ ((List.range (m-n)).map λi=>f (n+i))
  rw[Zam]at this
  exact this
 rw[if_pos this]
theorem Qau.Qyh{m:Nat}{R L:List (Int×Int)}(hw:Qau m R L){q:Nat}(ha:q<m)(hl:R.length+L.length<=180):Qau m (R++[((q:Int),(m:Int))]) L:=by
 obtain⟨W,h1,h2,h3,rfl,rfl⟩:=hw.ex
 rw[Qkt]at hl
 refine⟨W++[((q:Int),(m:Int),false)],h1.mono λw hw=>Zd _ hw,λw hw=>?_,by rw[Zp];simp;omega,?_,?_⟩
 ·rcases Zo.mp hw with h | h
  ·exact h2 w h
  ·rw[Zj.mp h]
   exact⟨⟨by show(0:Int)<=q;omega,by show(0:Int)<=m;omega,by show(q:Int)<=m;omega,by show(m:Int)<=m;omega,by show(q:Int)≠m;omega⟩,λz=>by cases z⟩
 ·have:Qcb ((q:Int),(m:Int),false)=((q:Int),(m:Int)):=by
   unfold Qcb
   dsimp only
   rw[if_neg (by omega),if_pos (by omega)]
  unfold Qal
  rw[List.filter_append,ZF]
  show _=_++[Qcb ((q:Int),(m:Int),false)]
  rw[this]
 ·unfold QY
  rw[List.filter_append,ZF]
  show _=_++[]
  rw[ZC]
theorem Qp0{s s':Nat->Int}{q:Nat}:∀n:Nat,(∀i,i<n->s' i=s i+if i=q then 1 else 0)->(∀i,i<n->1<=s i)->(n<=q->spr s' n=spr s n)/\spr s' n<=2*spr s n/\1<=spr s n
 | 0,_,_=>⟨λ_=>rfl,by show(1:Int)<=2*1;decide,Zak _⟩
 | n+1,e,h=>by
  obtain⟨h1,h2,h3⟩:=Qp0 (s:=s) (s':=s') (q:=q) n (λi hi=>e i (by omega)) λi hi=>h i (by omega)
  have en:=e n (by omega)
  have sn:=h n (by omega)
  show(n+1<=q->spr s' n*s' n=spr s n*s n)/\spr s' n*s' n<=2*(spr s n*s n)/\1<=spr s n*s n
  have p1:1*1<=spr s n*s n:=ZaO h3 sn (by decide) (by omega)
  refine⟨λhq=>?_,?_,by omega⟩
  ·rw[h1 (by omega),en,if_neg (by omega),Zbo]
  ·by_cases hq:n=q
   ·rw[h1 (by omega),en,if_pos hq,ZaL]
    have:spr s n*1<=spr s n*s n:=ZO sn (by omega)
    omega
   ·rw[en,if_neg hq,Zbo,← ZaM]
    exact Zan h2 (by omega)
theorem Qo9{R L:List (Int×Int)}{q m i:Nat}(hi:i<m):Qv (R++[((q:Int),(m:Int))]) L i=Qv R L i+if i=q then 1 else 0:=by
 unfold Qv
 rw[ZF,Zaj]
 have:((([((q:Int),(m:Int))]:List (Int×Int)).map λr=>isI i r.1+isI i r.2).sum)=if i=q then 1 else 0:=by
  show isI i (q:Int)+isI i (m:Int)+0=_
  unfold isI
  rw[if_neg (show ¬((m:Int)=i) by omega)]
  by_cases e:i=q
  ·rw[if_pos e,if_pos (by omega)];rfl
  ·rw[if_neg e,if_neg (by omega)];rfl
 omega
theorem QnW{m:Nat}{R L:List (Int×Int)}{f:Nat->Int}(m0:0<m)(hm:m<=1000)(hw:Qau m R L)(hf:∀j,j<m->0<=f j/\f j<2^200):∃c,Told m (Qq m (Qj R L)) f c:=
 let ⟨c,_,td⟩:=Qsu (Qmc QnX) Qn1 Qpg m R L f m0 hm hw hf
 ⟨c,td⟩
theorem QkD(b:Int):∀k:Nat,Qo k (λ_=>b)=b*k
 | 0=>by show(0:Int)=b*0;rw[ZbQ]
 | k+1=>by rw[QW,QkD b k];show b*(k:Int)+b=b*((k+1:Nat):Int);rw[show((k+1:Nat):Int)=(k:Int)+1 by omega,ZaL,Zbq]
theorem Qrb{m:Nat}{R L:List (Int×Int)}{f c:Nat->Int}{b:Int}(m0:0<m)(m8:m<=8)(hw:Qau m R L)(sm:Qg8 m R L)(f0:∀j,j<m->0<=f j/\f j<=b)(hb:b<=3)(hb5:5<m->b<=1)(td:Told m (Qq m (Qj R L)) f c):Qo m c<=2000:=by
 have hN:Qo m f<=b*m:=by
  have:=QaI (m:=m) (f:=f) (g:=λ_=>b) λj hj=>(f0 j hj).2
  rw[QkD]at this
  exact this
 have b0:0<=b:=by have:=f0 0 m0;omega
 rcases sm with⟨m4,hP⟩ | ⟨m5,rfl⟩
 ·have h12:Qo m f<=12:=by
   have:b*(m:Int)<=3*4:=ZaO hb (by omega) (by omega) (by decide)
   omega
  have:=Qmt hw m0 (λj hj=>(f0 j hj).1) td hP h12 (by decide)
  rcases(by omega:m=1∨m=2∨m=3∨m=4)with rfl | rfl | rfl | rfl<;>omega
 ·have h8:Qo m f<=8:=by
   have:b*(m:Int)<=1*8:=ZaO (hb5 m5) (by omega) (by omega) (by decide)
   omega
  have:=QiD hw (λj hj=>(f0 j hj).1) td h8
  rcases(by omega:m=6∨m=7∨m=8)with rfl | rfl | rfl<;>omega
theorem Qqj{m q:Nat}{R L:List (Int×Int)}{c:Nat->Int}{v:Int}(m0:0<m)(m8:m<=8)(hq:q<m)(hw0:Qau m R L)(hw:Qau m (R++[((q:Int),(m:Int))]) L)(sm:Qg8 m R L)(v0:0<=v)(v7:v<=7)(td:Told m (Qq m (Qj (R++[((q:Int),(m:Int))]) L)) (up (λ_=>0) q v) c):Qo m c<=2000:=by
 have f0:∀j,j<m->0<=up (λ_=>0) q v j:=λj _=>by
  unfold up
  by_cases e:j=q
  ·rw[if_pos e];exact v0
  ·rw[if_neg e];exact Zak _
 have hN:Qo m (up (λ_=>0) q v)<=7:=by
  have:=QsP (f:=λ_=>(0:Int)) (v:=v) hq
  rw[Int.zero_add,QO,Int.zero_add]at this
  omega
 rcases sm with⟨m4,hP⟩ | ⟨m5,rfl⟩
 ·have h72:spr (Qv (R++[((q:Int),(m:Int))]) L) m<=72:=by
   have:=(Qp0 (q:=q) (s:=Qv R L) (s':=Qv (R++[((q:Int),(m:Int))]) L) m (λi hi=>Qo9 hi) λi hi=>by have:=hw0.Qga hi;omega).2.1
   omega
  have:=Qmt hw m0 f0 td h72 hN (by decide)
  rcases(by omega:m=1∨m=2∨m=3∨m=4)with rfl | rfl | rfl | rfl<;>omega
 ·have:=QiD hw f0 td hN
  rcases(by omega:m=6∨m=7∨m=8)with rfl | rfl | rfl<;>omega
def QzV(er:QbI)(dw:Den)(k:Wk)(ps:List Int)(m:Nat)(R L:List (Int×Int))(f:Nat->Int)(T:Nat->Nat->Int):Prop:=∀u:Nat,∃ts,ts.length<=2000/\er [Qh m R L,Qc m f,wkD k u]=some (QJ m T f ts,wkD k (u+ts.length))/\dw [Qh m R L,Qc m f,QJ m T f ts,.int (Q1 k),Qy ps,.int u]=some (.int (u+ts.length:Nat),true)
theorem QxM{er:QbI}{dw:Den}(hr:Qlj er)(hd:Qgt dw){k:Wk}{ps:List Int}{m:Nat}{R L:List (Int×Int)}{f c:Nat->Int}(hk:Qob k)(hp:QiV k ps)(m0:0<m)(m8:m<=8)(nw:Qau m R L)(f0:∀j,j<m->0<=f j)(td:Told m (Qq m (Qj R L)) f c)(s:Qo m c<=2000):QzV er dw k ps m R L f (Qq m (Qj R L)):=λu=>by
 obtain⟨ts,w,fin,_,tl,e⟩:=hr k u m R L f c hk m0 (by omega) nw f0 td s
 exact⟨ts,tl,e,hd k ps u m R L f ts hp m0 m8 nw w fin tl⟩
noncomputable def QfF(Qay:QbI):DS:=(Qd (sIf (QE (dOp gEq (Qa 0) (dC (.int 0)))) (Qd (Q3 (Qjd "Way")) Ql) Ql) (Qd (sIf (QE (dOp gEq (Qa 0) (dC (.int 1)))) (Qd (Q3 (Qjd "Together")) Ql) Ql) (Qd (Q3 (Qle "Picked" ⟨2,0,Qay⟩ (Qb (Qa 1) Qe))) Ql)))
def Qjn(d:Den):Prop:=∀(n:Int) (ps:List Int),0<=n->n<3->ps.length<=1000->∃k,Qob k/\QiV k ps/\Q1 k=n/\d [.int n,Qy ps]=some (wkD k 0,true)
theorem QsU{ei:QbI}(hi:Qq8 ei):Qjn (QB 2 (QfF ei)):=λn ps h0 h3 hl=>by
 rcases(by omega:n=0∨n=1∨n=2)with rfl | rfl | rfl
 ·refine⟨.plain,trivial,trivial,rfl,QaF ?_⟩
  refine QA (QQ (b:=true) rfl (λ_=>?_) (λz=>by cases z))
  exact QA (Qez (r:=⟨wkD .plain 0,true,[]⟩) rfl ⟨rfl,rfl⟩)
 ·refine⟨.both,trivial,trivial,rfl,QaF ?_⟩
  refine QA (QQ (b:=false) rfl (λz=>by cases z) (λ_=>Qn ?_))
  refine QA (QQ (b:=true) rfl (λ_=>?_) (λz=>by cases z))
  exact QA (Qez (r:=⟨wkD .both 0,true,[]⟩) rfl ⟨rfl,rfl⟩)
 ·refine⟨.pick ps,hl,rfl,rfl,QaF ?_⟩
  refine QA (QQ (b:=false) rfl (λz=>by cases z) (λ_=>Qn ?_))
  refine QA (QQ (b:=false) rfl (λz=>by cases z) (λ_=>Qn ?_))
  refine Qaa (r:=⟨wkD (.pick ps) 0,true,[]⟩) ?_ ⟨rfl,rfl⟩
  unfold Qle
  rw[Qu (show Qa 1 (Qat 2 [.int 2,Qy ps])=some ⟨Qy ps,false,[]⟩from rfl) (QZ _),Za]
  show(if 2=1+1 then(ei [.obj (.ins "Picked" []) [],Qy ps]).bind _ else none)=_
  rw[if_pos rfl,hi ps];rfl
noncomputable def Qkr(QcN:Den)(Q0:Den)(x_need_heaps:List D->Option Str):DX:=(QaZ (Qbd (Qx 2 Q0 [] (Qb (Qa 0) (Qb (QT (Qb (Qa 1) Qe)) Qe)))) (QbN 2 x_need_heaps (Qb (Qa 0) (Qb (QT (Qb (Qa 1) Qe)) Qe))) (QaZ (Qr 3 (dList (Qb (Qa 1) Qe))) xNo (QaZ (Qr 4 (QaD (QT (Qb (dC (.int 0)) Qe)) (Qm (Qa 0) (dC (.int 0))))) xNo (QaZ (Qr 5 (QT Qe)) xNo (QaZ (λ_=>none) xNo (QaZ (Qb9 (QE (Qa 6)) (Qd (sIf (QE (dOp gGt (QC (dBf Qgk (Qb (Qa 4) Qe)) (dBf Qbo (Qb (Qa 6) Qe))) (dC (.int 2000)))) (Qd QK Ql) Ql) (Qd (Qr 7 (Q7 (QaY (Qm (Qa 0) (dC (.int 0)))) (.nm 1) [none,none,some 6] QaN (dIf (QE (dOp (gIn false) (Qa 1) (Qa 2))) (dC (.int 1)) (dC (.int 0))))) (Qd (Qr 3 (Qx 3 QcN [] (Qb (Qa 0) (Qb (Qa 3) (Qb (Qa 7) Qe))))) (Qd (Qr 4 (Q7 (Qb2 (Qa 4) (Qa 7)) (.tp [1,2]) [none,none,none] QaN (QC (Qa 1) (Qa 2)))) (Qd (Qdr 5 QaK (dList (Qb (Qa 6) Qe))) (Qd (λ_=>none) Ql))))))) xNo (QaZ (Q3 (QaH (Qb (Qa 3) (Qb (Qa 4) (Qb (Qa 5) Qe))))) xNo xNo)))))))
structure QlY (xd:List D->Option Str):Prop where
 row:∀(m:Int) (R L:List (Int×Int)) (xs:List D) (o:D),(xs.length:Int)≠m->xd [Qh m R L,.lst xs,o]=some "NoRow"
 heap:∀(m:Nat) (R L:List (Int×Int)) (f:Nat->Int) (j:Nat) (o:D),j<m->f j<0->xd [Qh m R L,Qc m f,o]=some "NoHeap"
theorem QqZ{da dh:Den}{xh:List D->Option Str}(h1:ApF dh xh)(hx:QlT xh):QlY (Qcq 8 (Qkr da dh xh)) where
 row:=λm R L xs o hl=>Qi4 (QcT (Qa5 h1) (Qjx (r:=⟨[Qh m R L,.lst [.lst xs]],_,_⟩) rfl rfl (hx.row m R L xs hl)))
 heap:=λm R L f j o hj hf=>Qi4 (QcT (Qa5 h1) (Qjx (r:=⟨[Qh m R L,.lst [Qc m f]],_,_⟩) rfl rfl (hx.heap m R L f j hj hf)))
noncomputable def Qeb(x_run:List D->Option Str)(sub:Str->Str->Option Bool):DS:=(Qd (Qr 4 (dC (.bl false))) (Qd (Qr 5 (dC (.bl false))) (Qd (Qie (Qd (Qbd (Qx 3 (λ_=>none) [] (Qb (Qa 0) (Qb (QC (Qa 1) (QT (Qb (dC (.int 5)) Qe))) (Qb (Qa 3) Qe))))) Ql) (QaZ (Qbd (Qx 3 (λ_=>none) [] (Qb (Qa 0) (Qb (QC (Qa 1) (QT (Qb (dC (.int 5)) Qe))) (Qb (Qa 3) Qe))))) (QbN 3 x_run (Qb (Qa 0) (Qb (QC (Qa 1) (QT (Qb (dC (.int 5)) Qe))) (Qb (Qa 3) Qe)))) xNo) sub [("NoRow",none,(Qd (Qr 4 (dC (.bl true))) Ql))]) (Qd (Qie (Qd (Qbd (Qx 3 (λ_=>none) [] (Qb (Qa 0) (Qb (QC (QC (QaO (Qa 1) QaJ (Qae (Qa 2))) (QT (Qb (QdA (dC (.int 1))) Qe))) (QaO (Qa 1) (Qae (QC (Qa 2) (dC (.int 1)))) QaJ)) (Qb (Qa 3) Qe))))) Ql) (QaZ (Qbd (Qx 3 (λ_=>none) [] (Qb (Qa 0) (Qb (QC (QC (QaO (Qa 1) QaJ (Qae (Qa 2))) (QT (Qb (QdA (dC (.int 1))) Qe))) (QaO (Qa 1) (Qae (QC (Qa 2) (dC (.int 1)))) QaJ)) (Qb (Qa 3) Qe))))) (QbN 3 x_run (Qb (Qa 0) (Qb (QC (QC (QaO (Qa 1) QaJ (Qae (Qa 2))) (QT (Qb (QdA (dC (.int 1))) Qe))) (QaO (Qa 1) (Qae (QC (Qa 2) (dC (.int 1)))) QaJ)) (Qb (Qa 3) Qe)))) xNo) sub [("NoHeap",none,(Qd (Qr 5 (dC (.bl true))) Ql))]) (Qd (Q3 (Qdg (Qa 4) (Qa 5))) Ql)))))
def Qjv(d:Den):Prop:=∀(m:Nat) (R L:List (Int×Int)) (f:Nat->Int) (q:Nat) (k:Wk) (u:Nat),q<m->m<=8->d [Qh m R L,Qc m f,.int q,wkD k u]=some (.bl true,true)
theorem Qhp(x:List D->Option Str):ApF (λ_=>none) x:=λ_ _=>rfl
theorem QsD{xr:List D->Option Str}{sub:Str->Str->Option Bool}(hx:QlY xr)(s1:sub "NoRow" "NoRow" =some true)(s2:sub "NoHeap" "NoHeap" =some true):Qjv (QB 6 (Qeb xr sub)):=λm R L f q k u hq m8=>by
 refine QaF ?_
 rw[show Qat 6 [Qh m R L,Qc m f,.int q,wkD k u]=[some (Qh m R L,false),some (Qc m f,false),some (.int q,true),some (wkD k u,false),none,none] by cases k<;>rfl]
 refine run_seq (Qi (r:=⟨.bl false,true,[]⟩) rfl ?_)
 refine run_seq (Qi (r:=⟨.bl false,true,[]⟩) rfl ?_)
 change Nx _ (.nx [some (Qh m R L,false),some (Qc m f,false),some (.int q,true),some (wkD k u,false),some (.bl false,true),some (.bl false,true)])
 have v3:∀x,Qa 3 [some (Qh m R L,false),some (Qc m f,false),some (.int q,true),some (wkD k u,false),some (.bl x,true),some (.bl false,true)]=some ⟨wkD k u,false,[]⟩:=λx=>by cases k<;>rfl
 have a1:QC (Qa 1) (QT (Qb (dC (.int 5)) Qe)) [some (Qh m R L,false),some (Qc m f,false),some (.int q,true),some (wkD k u,false),some (.bl false,true),some (.bl false,true)]=some ⟨Qc (m+1) (up f m 5),true,[]⟩:=QqS (ra:=⟨Qc m f,false,[]⟩) rfl rfl rfl (by omega)
 refine QA (Ql3 (x:= "NoRow") (Qc1 (Qa5 (Qhp xr)) QdZ) (Qp8 (Qhp xr) (Qu (r:=⟨Qh m R L,false,[]⟩) rfl (Qu a1 (Qu (v3 _) (QZ _)))) rfl (hx.row m R L _ _ (by rw[Zm,ZM];omega))) s1 ?_)
 refine QA (Qi (r:=⟨.bl true,true,[]⟩) rfl (Qn ?_))
 change Run _ [some (Qh m R L,false),some (Qc m f,false),some (.int q,true),some (wkD k u,false),some (.bl true,true),some (.bl false,true)] _
 have hE:∃g:Nat->Int,g q= -1/\QC (QC (QaO (Qa 1) QaJ (Qae (Qa 2))) (QT (Qb (QdA (dC (.int 1))) Qe))) (QaO (Qa 1) (Qae (QC (Qa 2) (dC (.int 1)))) QaJ) [some (Qh m R L,false),some (Qc m f,false),some (.int q,true),some (wkD k u,false),some (.bl true,true),some (.bl false,true)]=some ⟨Qc m g,true,[]⟩:=by
  have b1:=Qhq (fa:=Qa 1) (fb:=Qa 2) (ρ:=[some (Qh m R L,false),some (Qc m f,false),some (.int q,true),some (wkD k u,false),some (.bl true,true),some (.bl false,true)]) (m:=m) (n:=q) (f:=f) (ra:=⟨Qc m f,false,[]⟩) (rb:=⟨.int q,true,[]⟩) rfl rfl rfl rfl (by omega)
  have b2:=Qjc (k:=1) (g:=λ_=> -1) b1 rfl (fb:=QT (Qb (QdA (dC (.int 1))) Qe)) (rb:=⟨Qc 1 (λ_=> -1),true,[]⟩) rfl rfl (by omega)
  have b3:=Qoy (fa:=Qa 1) (fb:=QC (Qa 2) (dC (.int 1))) (ρ:=[some (Qh m R L,false),some (Qc m f,false),some (.int q,true),some (wkD k u,false),some (.bl true,true),some (.bl false,true)]) (m:=m) (n:=q+1) (f:=f) (ra:=⟨Qc m f,false,[]⟩) (rb:=⟨.int ((q:Int)+1),true,[]⟩) rfl rfl (Qah (a:=q) (b:=1) rfl rfl rfl rfl) rfl (by omega)
  have b4:=Qjc b2 rfl b3 rfl (by omega)
  rw[show q+1+(m-(q+1))=m by omega]at b4
  refine⟨_,?_,b4⟩
  rw[if_pos (by omega),if_neg (by omega)]
 obtain⟨g,gq,hE⟩:=hE
 refine QA (Ql3 (x:= "NoHeap") (Qc1 (Qa5 (Qhp xr)) QdZ) (Qp8 (Qhp xr) (Qu (r:=⟨Qh m R L,false,[]⟩) rfl (Qu hE (Qu (v3 _) (QZ _)))) rfl (hx.heap m R L g q _ hq (by omega))) s2 ?_)
 refine QA (Qi (r:=⟨.bl true,true,[]⟩) rfl (Qn ?_))
 exact Qaa (r:=⟨.bl true,true,[]⟩) rfl ⟨rfl,rfl⟩
theorem QjY{r:IoR}{x i:Nat}{fs:List (Option DE)}{ρ:En}{rs:List (Option HS.R)}{d:D}{q:D×D}{Q:Out->Prop}(h:evs fs ρ=some rs)(hp:ρ[i]? =some (some (d,true)))(c:(decide (x≠i) && !(rsM rs).contains i && oneAt fs r.p && decide (fs.length=r.n))=true)(e:QeE (λe=>if isRef e=true then r.den (rsD rs e)else none) d=some q)(k:Q (.nx ((ρ.set i (some (q.2,true))).set x (some (q.1,true))))):Run (QhX r x i fs) ρ Q:=by
 refine⟨_,?_,k⟩
 unfold QhX
 rw[h,Za,hp]
 show(if _ then _ else _)=_
 rw[if_pos c,e];rfl
theorem Ql1{fs:DA}{ρ:En}{r:RA}(h:fs ρ=some r)(hl:r.ds.length<=64):QaH fs ρ=some ⟨.tup r.ds,r.fr,r.M⟩:=by
 unfold QaH
 rw[h,Za,if_pos hl]
theorem QlU{k:Wk}{u:Nat}{g:D->Option (D×D)}:QeE (λe=>if isRef e=true then g e else none) (wkD k u)=g (wkD k u):=by cases k<;>rfl
theorem QsF{fa fb:DE}{ρ:En}{ra rb:HS.R}{cs:List Int}{n:Nat}(ha:fa ρ=some ra)(ea:ra.d=Qy cs)(hb:fb ρ=some rb)(eb:rb.d= .int n):QaO fa QaJ (Qae fb) ρ=some ⟨Qy (cs.take (min n cs.length)),true,[]⟩:=by
 unfold QaO QaJ Qae
 simp only[ha,hb,Za,ea,eb,Qy,cutD,Zm,HT.Qgo,HT.Qhs,ZbO,ZbY,← Zbe,QaE,QfZ,if_true]
theorem Qt1{m:Nat}{T:Nat->Nat->Int}{f:Nat->Int}{ts:List (List Nat)}:(QJ m T f ts).sim 8=true:=by
 unfold QJ
 simp only[D.sim,Zbx,ZbP,Zby,Zg]
 refine⟨QrY 6 _ _,QrY 6 _ _,?_⟩
 show((ts.map Qp).all (D.sim 6))=true
 rw[ZW]
 intro d hd
 obtain⟨t,_,rfl⟩:=ZK.mp hd
 show((t.map λ(p:Nat)=>D.int (p:Int)).all (D.sim 5))=true
 rw[ZW]
 intro d hd
 obtain⟨p,_,rfl⟩:=ZK.mp hd
 rfl
theorem Qwv{m:Nat}{R L:List (Int×Int)}{f:Nat->Int}:(D.lst [Qh m R L,Qc m f]).sim 8=true:=by
 simp only[D.sim,Zbx,ZbP,Zby,Zg]
 refine⟨?_,QrY 6 _ _⟩
 unfold Qh
 simp only[D.sim,Zbx,ZbP,Zby,Zca,Zg]
 exact⟨Qe3 4 R,Qe3 4 L⟩
noncomputable def Qks(QcP:Den)(QG:Den)(QcJ:Den)(QaU:Den)(Qbk:Den)(Qe6:QbI):DS:=(Qd (Qr 1 (Qx 3 QcP [] (Qb (Qa 0) (Qb (dC (.int 4)) (Qb (dC (.int 36)) Qe))))) (Qd (Qr 2 (Qcc (Qm (QT (Qb (dC (.int 4)) (Qb (dC (.int 2)) Qe))) (dBf QgX (Qb (dOp gGt (Qm (Qa 1) (dC (.int 0))) (dC (.int 5))) Qe))))) (Qd (Qr 3 (Q7 (QaY (Qm (Qa 1) (dC (.int 0)))) (.nm 1) [none,none,some 2,some 0] QaN (dOp Q4 (dOp Q4 (QaD (Qx 2 QG [] (Qb (Qa 3) (Qb (QC (dC (.int 12)) (Qa 1)) Qe))) (dC (.int 69621))) (dC (.int 65537))) (Qa 2)))) (Qd (Qr 4 (QaD (QT (Qb (dC (.int 0)) Qe)) (Qm (Qa 1) (dC (.int 0))))) (Qd (QcX 4 QaK (dOp Q4 (Qx 2 QG [] (Qb (Qa 0) (Qb (dC (.int 16)) Qe))) (Qm (Qa 1) (dC (.int 0)))) (dOp Q4 (Qx 2 QG [] (Qb (Qa 0) (Qb (dC (.int 17)) Qe))) (dC (.int 8)))) (Qd (Qr 5 (dOp Q4 (Qx 2 QG [] (Qb (Qa 0) (Qb (dC (.int 18)) Qe))) (dC (.int 3)))) (Qd (Qr 6 (Q7 (Qav (QaO (Qa 0) (Qae (dC (.int 19))) (Qae (dC (.int 59))))) (.nm 1) [none,none] QaN (dOp Q4 (QaD (Qa 1) (dC (.int 48271))) (dOp Qol (dC (.int 10)) (dC (.int 18)))))) (Qd (sIf (QE (dOp gEq (dOp Q4 (dOp Qdh (Qx 2 QG [] (Qb (Qa 0) (Qb (dC (.int 18)) Qe))) (dC (.int 3))) (dC (.int 2))) (dC (.int 1)))) (Qd (Qr 6 (QaO (Qa 6) QaJ (Qae (dC (.int 3))))) Ql) Ql) (Qd (Qr 7 (Qx 2 QcJ [] (Qb (Qa 5) (Qb (dList (Qb (Qa 6) Qe)) Qe)))) (Qd (Qr 8 (QT (Qb (QaH (Qb (Qm (Qa 1) (dC (.int 0))) (Qb (dList (Qb (Qm (Qa 1) (dC (.int 1))) Qe)) (Qb (dList (Qb (Qm (Qa 1) (dC (.int 2))) Qe)) Qe)))) (Qb (dList (Qb (Qa 3) Qe)) Qe)))) (Qd (QhX ⟨3,2,Qe6⟩ 9 7 [some (Qm (Qa 8) (dC (.int 0))),some (Qm (Qa 8) (dC (.int 1))),none]) (Qd (Qr 10 (Qx 6 QaU [] (Qb (Qa 1) (Qb (Qa 3) (Qb (Qa 9) (Qb (Qa 5) (Qb (Qa 6) (Qb (dC (.int 0)) Qe)))))))) (Qd (sIf (bOr (QE (dOp gLt (Qa 10) (dC (.int 0)))) (QE (dOp gNe (Qa 8) (QT (Qb (Qa 1) (Qb (Qa 3) Qe)))))) (Qd (Q3 (dC (.bl false))) Ql) Ql) (Qd (Qr 11 (QaH (Qb (dList (Qb (Qm (Qa 9) (dC (.int 0))) Qe)) (Qb (dList (Qb (Qm (Qa 9) (dC (.int 1))) Qe)) (Qb (Q7 (Qav (Qm (Qa 9) (dC (.int 2)))) (.nm 1) [none,none] QaN (dList (Qb (Qa 1) Qe))) Qe))))) (Qd (Qdr 8 (Qgn QaK (dC (.int 1))) (dC (.int 1))) (Qd (sIf (QcB (QE (Qx 4 Qbk [] (Qb (Qa 1) (Qb (Qa 3) (Qb (dOp Q4 (Qx 2 QG [] (Qb (Qa 0) (Qb (dC (.int 16)) Qe))) (Qm (Qa 1) (dC (.int 0)))) (Qb (Qa 7) Qe))))))) (Qd (Q3 (dC (.bl false))) Ql) Ql) (Qd (Qr 12 (Qcc (QaH (Qb (Qm (Qa 1) (dC (.int 0))) (Qb (QC (Qm (Qa 1) (dC (.int 1))) (QT (Qb (QaH (Qb (dOp Q4 (Qx 2 QG [] (Qb (Qa 0) (Qb (dC (.int 16)) Qe))) (Qm (Qa 1) (dC (.int 0)))) (Qb (Qm (Qa 1) (dC (.int 0))) Qe))) Qe))) (Qb (Qm (Qa 1) (dC (.int 2))) Qe)))))) (Qd (QhX ⟨3,2,Qe6⟩ 13 7 [some (Qa 12),some (dList (Qb (Qa 4) Qe)),none]) (Qd (Qr 10 (Qx 6 QaU [] (Qb (Qa 12) (Qb (Qa 4) (Qb (Qa 13) (Qb (Qa 5) (Qb (Qa 6) (Qb (Qa 10) Qe)))))))) (Qd (sIf (QE (dOp gLt (Qa 10) (dC (.int 0)))) (Qd (Q3 (dC (.bl false))) Ql) Ql) (Qd (QhX ⟨3,2,Qe6⟩ 14 7 [some (Qm (Qa 8) (dC (.int 0))),some (dList (Qb (Qa 3) Qe)),none]) (Qd (sIf (bOr (QE (dOp gLt (Qx 6 QaU [] (Qb (Qa 1) (Qb (Qa 3) (Qb (Qa 14) (Qb (Qa 5) (Qb (Qa 6) (Qb (Qa 10) Qe))))))) (dC (.int 0)))) (QE (dOp gNe (Qm (Qa 8) (dC (.int 0))) (Qa 1)))) (Qd (Q3 (dC (.bl false))) Ql) Ql) (Qd (Q3 (dOp gEq (Qa 9) (Qa 11))) Ql)))))))))))))))))))))))
theorem Qwu{dn dc dw dk dr:Den}{er:QbI}(hn:Qji dn)(hc:Qi5 dc)(hw:Qjn dw)(hk:Qgt dk)(hr:Qjv dr)(her:Qlj er)(ns:List Int)(hl:ns.length<=63):QB 15 (Qks dn dc dw dk dr er) [.lst (ns.map .int)]=some (.bl true,true):=by
 obtain⟨m,R,L,en,m0,m8,nw,rl,sm⟩:=hn ns hl
 have g:=nw.good
 have cell:∀(ρ:En) (k:Nat),ρ[0]? =some (some (.lst (ns.map .int),false))->Qx 2 dc [] (Qb (Qa 0) (Qb (dC (.int k)) Qe)) ρ=some ⟨.int (ns.getD k 0),true,[]⟩:=λρ k h0=>by
  refine QP (Qu (Qa4 h0) (Qu (QfW _ _) (QZ _))) ?_ rfl
  exact hc ns k
 obtain⟨b,hb,hb3,hb5,eb⟩:∃b:Int,0<b/\b-1<=3/\(5<m->b-1<=1)/\b=if 5<m then 2 else 4:=by
  by_cases h:5<m
  ·exact⟨2,by decide,by decide,λ_=>by decide,by rw[if_pos h]⟩
  ·exact⟨4,by decide,by decide,λz=>absurd z h,by rw[if_neg h]⟩
 obtain⟨f,rf⟩:∃f:Nat->Int,f=λk=>ns.getD (12+k) 0*69621 % 65537 % b:=⟨_,rfl⟩
 have fb:∀j,0<=f j/\f j<=b-1:=λj=>by
  rw[rf]
  have:=ZI (ns.getD (12+j) 0*69621 % 65537) (by omega:b≠0)
  have:=ZE (ns.getD (12+j) 0*69621 % 65537) hb
  dsimp only
  omega
 have q1:=ZI (ns.getD 16 0) (by omega:(m:Int)≠0)
 have q2:=ZE (ns.getD 16 0) (by omega:(0:Int)<m)
 obtain⟨q,eq⟩:∃q:Nat,(q:Int)=ns.getD 16 0 % m:=⟨(ns.getD 16 0 % m).toNat,by omega⟩
 have hq:q<m:=by omega
 have v1:=ZI (ns.getD 17 0) (by decide:(8:Int)≠0)
 have v2:=ZE (ns.getD 17 0) (by decide:(0:Int)<8)
 obtain⟨v,ev⟩:∃v:Int,v=ns.getD 17 0 % 8:=⟨_,rfl⟩
 rw[← ev]at v1 v2
 obtain⟨n,ekn⟩:∃n:Int,n=ns.getD 18 0 % 3:=⟨_,rfl⟩
 have n1:=ZI (ns.getD 18 0) (by decide:(3:Int)≠0)
 have n2:=ZE (ns.getD 18 0) (by decide:(0:Int)<3)
 rw[← ekn]at n1 n2
 have nw2:=nw.Qyh hq rl
 have up0:∀j,0<=up (λ_=>0) q v j/\up (λ_=>0) q v j<=7:=λj=>by
  unfold up
  by_cases e:j=q
  ·rw[if_pos e];omega
  ·rw[if_neg e];exact⟨Zak _,by show(0:Int)<=7;decide⟩
 obtain⟨c1,td1⟩:=QnW m0 (by omega) nw (f:=f) λj _=>by have:=fb j;omega
 obtain⟨c2,td2⟩:=QnW m0 (by omega) nw2 (f:=up (λ_=>0) q v) λj _=>by have:=up0 j;omega
 have s1:=Qrb m0 m8 nw sm (λj _=>fb j) hb3 hb5 td1
 have s2:=Qqj m0 m8 hq nw nw2 sm v1 (by omega) td2
 have cellq:∀(ρ:En) (b1:Bool),ρ[0]? =some (some (.lst (ns.map .int),false))->ρ[1]? =some (some (Qh m R L,b1))->dOp Q4 (Qx 2 dc [] (Qb (Qa 0) (Qb (dC (.int 16)) Qe))) (Qm (Qa 1) (dC (.int 0))) ρ=some ⟨.int q,true,[]⟩:=λρ b1 h0 h1=>by
  rw[eq]
  exact Qai (a:=ns.getD 16 0) (b:=m) (cell ρ 16 h0) rfl (Qa6 (m:=m) (R:=R) (L:=L) (Qa4 h1) (by cases b1<;>rfl)).1 rfl (by omega)
 have cell17:∀ρ:En,ρ[0]? =some (some (.lst (ns.map .int),false))->dOp Q4 (Qx 2 dc [] (Qb (Qa 0) (Qb (dC (.int 17)) Qe))) (dC (.int 8)) ρ=some ⟨.int v,true,[]⟩:=λρ h0=>by
  rw[ev]
  exact Qai (b:=8) (cell ρ 17 h0) rfl rfl rfl (by decide)
 refine QaF ?_
 refine run_seq (Qi (QP (r:=⟨[.lst (ns.map .int),.int 4,.int 36],false,[]⟩) rfl en rfl) ?_)
 rw[Qz]
 refine run_seq (Qi (r:=⟨.int b,false,[]⟩) ?_ ?_)
 ·by_cases h:5<m
  ·have e1:dBf QgX (Qb (dOp gGt (Qm (Qa 1) (dC (.int 0))) (dC (.int 5))) Qe) [some (.lst (ns.map .int),false),some (Qh m R L,true),none,none,none,none,none,none,none,none,none,none,none,none,none]=some ⟨.int 1,true,[]⟩:=by
    unfold dBf
    rw[Qu (Q8 (d:= .bl true) (ra:=⟨.int m,true,[]⟩) (rb:=⟨.int 5,true,[]⟩) rfl rfl (by show some (D.bl (decide ((5:Int)<m)))=_;rw[decide_eq_true (by omega)])) (QZ _)]
    rfl
   rw[eb,if_pos h]
   exact Qgl (Qev (ns:=[4,2]) (i:=1) (v:=2) (ra:=⟨Qy [4,2],true,[]⟩) rfl rfl e1 rfl (by decide) rfl)
  ·have e1:dBf QgX (Qb (dOp gGt (Qm (Qa 1) (dC (.int 0))) (dC (.int 5))) Qe) [some (.lst (ns.map .int),false),some (Qh m R L,true),none,none,none,none,none,none,none,none,none,none,none,none,none]=some ⟨.int 0,true,[]⟩:=by
    unfold dBf
    rw[Qu (Q8 (d:= .bl false) (ra:=⟨.int m,true,[]⟩) (rb:=⟨.int 5,true,[]⟩) rfl rfl (by show some (D.bl (decide ((5:Int)<m)))=_;rw[decide_eq_false (by omega)])) (QZ _)]
    rfl
   rw[eb,if_neg h]
   exact Qgl (Qev (ns:=[4,2]) (i:=0) (v:=4) (ra:=⟨Qy [4,2],true,[]⟩) rfl rfl e1 rfl (by decide) rfl)
 change Nx _ (.nx [some (.lst (ns.map .int),false),some (Qh m R L,true),some (.int b,true),none,none,none,none,none,none,none,none,none,none,none,none])
 refine run_seq (Qi (r:=⟨Qc m f,true,[]⟩) ?_ ?_)
 ·refine(QaG (toD:=λ(k:Nat)=>D.int (k:Int)) (out:=λ(k:Nat)=>D.int (f k)) (List.range m) (QdE (n:=m) (r:=⟨.int m,true,[]⟩) rfl rfl (by omega)) rfl λk hk=>?_).trans rfl
  refine⟨[none,some (.int k,true),some (.int b,true),some (.lst (ns.map .int),false)],rfl,⟨.int (f k),true,[]⟩,?_,rfl,rfl⟩
  rw[rf]
  have e12:=hc ns (12+k)
  rw[show((12+k:Nat):Int)=12+(k:Int) by omega]at e12
  exact Qai (b:=b) (Qai (b:=65537) (QbQ (a:=ns.getD (12+k) 0) (b:=69621) (QP (Qu (r:=⟨.lst (ns.map .int),false,[]⟩) rfl (Qu (Qah (a:=12) (b:=k) rfl rfl rfl rfl) (QZ _))) e12 rfl) rfl rfl rfl (QdJ (by decide))) rfl rfl rfl (by decide)) rfl rfl rfl hb
 rw[Qz]
 refine run_seq (Qi (Qd0 (z:=0) (n:=m) (r:=⟨.int m,true,[]⟩) rfl rfl (by omega)) ?_)
 rw[Qz]
 refine run_seq (QdO (m:=m) (f:=λ_=>0) (i:=q) (v:=v) rfl (cellq _ true rfl rfl) rfl (cell17 _ rfl) rfl (by omega) (by omega) ?_)
 rw[ZP]
 change Nx _ (.nx [some (.lst (ns.map .int),false),some (Qh m R L,true),some (.int b,true),some (Qc m f,true),some (Qc m (up (λ_=>0) q v),true),none,none,none,none,none,none,none,none,none,none])
 refine run_seq (Qi (r:=⟨.int n,true,[]⟩) (by rw[ekn];exact Qai (b:=3) (cell _ 18 rfl) rfl rfl rfl (by decide)) ?_)
 rw[Qz]
 obtain⟨cs,hcs,esl⟩:=Qim (a:=19) (b:=59) (fa:=Qa 0) (ns:=ns) (ρ:=[some (.lst (ns.map .int),false),some (Qh m R L,true),some (.int b,true),some (Qc m f,true),some (Qc m (up (λ_=>0) q v),true),some (.int n,true),none,none,none,none,none,none,none,none,none]) rfl rfl
 obtain⟨ps0,rps⟩:∃ps:List Int,ps=cs.map λv=>v*48271 % 10^18:=⟨_,rfl⟩
 have lps0:ps0.length<=63:=by rw[rps,Zm];omega
 refine run_seq (Qi (r:=⟨Qy ps0,true,[]⟩) ?_ ?_)
 ·refine(QaG (toD:=D.int) (out:=λv=>D.int (v*48271 % 10^18)) cs (Qcl esl rfl) rfl λv hv=>⟨[none,some (.int v,true)],rfl,⟨.int (v*48271 % 10^18),true,[]⟩,Qai (a:=v*48271) (b:=10^18) (QbQ (a:=v) (b:=48271) rfl rfl rfl rfl (QdJ (by decide))) rfl (QtY (a:=10) (k:=18) (by decide) (by decide)) rfl (by decide),rfl,rfl⟩).trans ?_
  rw[rps]
  unfold Qy
  rw[Zam];rfl
 change Nx _ (.nx [some (.lst (ns.map .int),false),some (Qh m R L,true),some (.int b,true),some (Qc m f,true),some (Qc m (up (λ_=>0) q v),true),some (.int n,true),some (Qy ps0,true),none,none,none,none,none,none,none,none])
 refine Qa9 (P:=λρ=>∃ps:List Int,ps.length<=1000/\ρ=[some (.lst (ns.map .int),false),some (Qh m R L,true),some (.int b,true),some (Qc m f,true),some (Qc m (up (λ_=>0) q v),true),some (.int n,true),some (Qy ps,true),none,none,none,none,none,none,none,none]) ?_ ?_
 ·refine QQ (QL (Qda (b:=1) (Qai (b:=2) (QeV (b:=3) (cell _ 18 rfl) rfl rfl rfl (by decide) (by decide)) rfl rfl rfl (by decide)) rfl rfl rfl) rfl) (λ_=>?_) (λ_=>Qn ⟨ps0,by omega,rfl⟩)
  refine run_seq (Qi (QsF (n:=3) (cs:=ps0) (ra:=⟨Qy ps0,true,[6]⟩) rfl rfl rfl rfl) (Qn ⟨ps0.take (min 3 ps0.length),by rw[ZaC];omega,?_⟩))
  rw[Qz];rfl
 rintro ρ ⟨ps,lps,rfl⟩
 obtain⟨k,wk,pk,nk,ew⟩:=hw n ps n1 n2 lps
 have wf:∀u,(wkD k u).flat=false:=λu=>by cases k<;>rfl
 refine run_seq (Qi (QP (Qu (r:=⟨.int n,true,[]⟩) rfl (Qu (QkM (cs:=ps) (r:=⟨Qy ps,true,[6]⟩) rfl rfl) (QZ _))) ew rfl) ?_)
 rw[← nk,Qz]
 change Nx _ (.nx [some (.lst (ns.map .int),false),some (Qh m R L,true),some (.int b,true),some (Qc m f,true),some (Qc m (up (λ_=>0) q v),true),some (.int (Q1 k),true),some (Qy ps,true),some (wkD k 0,true),none,none,none,none,none,none,none])
 have go1:=QxM her hk wk pk m0 m8 nw (λj _=>(fb j).1) td1 s1
 have go2:=QxM her hk wk pk m0 m8 nw2 (λj _=>(up0 j).1) td2 s2
 obtain⟨T1,rT1⟩:∃T,T=Qq m (Qj R L):=⟨_,rfl⟩
 obtain⟨T2,rT2⟩:∃T,T=Qq m (Qj (R++[((q:Int),(m:Int))]) L):=⟨_,rfl⟩
 rw[← rT1]at go1
 rw[← rT2]at go2
 refine run_seq (Qi (r:=⟨.lst [Qh m R L,Qc m f],true,[]⟩) ?_ ?_)
 ·refine(Qg0 (rs:=⟨[Qh m R L,Qc m f],true,[]⟩) ?_ (by simp)).trans rfl
  exact Qu (QpF (r:=⟨Qh m R L,true,[1]⟩) rfl rfl) (Qu (QbK (m:=m) (f:=f) (rs:=⟨[Qc m f],true,[3]⟩) rfl rfl) (QZ _))
 rw[Qz]
 obtain⟨t1,tl1,er1,ek1⟩:=go1 0
 rw[Nat.zero_add]at er1 ek1
 refine run_seq (QjY (rs:=[some ⟨Qh m R L,true,[8]⟩,some ⟨Qc m f,true,[8]⟩,none]) rfl rfl rfl (QlU.trans er1) ?_)
 change Nx _ (.nx [some (.lst (ns.map .int),false),some (Qh m R L,true),some (.int b,true),some (Qc m f,true),some (Qc m (up (λ_=>0) q v),true),some (.int (Q1 k),true),some (Qy ps,true),some (wkD k t1.length,true),some (.lst [Qh m R L,Qc m f],true),some (QJ m T1 f t1,true),none,none,none,none,none])
 refine run_seq (Qi (QP (r:=⟨[Qh m R L,Qc m f,QJ m T1 f t1,.int (Q1 k),Qy ps,.int 0],true,[1,3,9,6]⟩) rfl ek1 rfl) ?_)
 rw[Qz]
 refine QA (QQ (b:=false) (Qdv (a:=false) (b:=false) (QL (Q8 (d:= .bl false) (ra:=⟨.int t1.length,true,[]⟩) (rb:=⟨.int 0,true,[]⟩) rfl rfl (by show some (D.bl (decide ((t1.length:Int)<0)))=_;rw[decide_eq_false (by omega)])) rfl) (QL (b:=false) (Qpq (d:= .lst [Qh m R L,Qc m f]) (ra:=⟨.lst [Qh m R L,Qc m f],true,[8]⟩) (rb:=⟨.lst [Qh m R L,Qc m f],true,[1,3]⟩) rfl rfl rfl rfl Qwv) rfl)) (λz=>by cases z) (λ_=>Qn ?_))
 refine run_seq (Qi (r:=⟨QJ m T1 f t1,true,[]⟩) ?_ ?_)
 ·have e:=Qu (QbK (ρ:=[some (.lst (ns.map .int),false),some (Qh m R L,true),some (.int b,true),some (Qc m f,true),some (Qc m (up (λ_=>0) q v),true),some (.int (Q1 k),true),some (Qy ps,true),some (wkD k t1.length,true),some (.lst [Qh m R L,Qc m f],true),some (QJ m T1 f t1,true),some (.int t1.length,true),none,none,none,none]) (m:=m) (f:=hpA m T1 f t1) (fs:=Qb (Qm (Qa 9) (dC (.int 0))) Qe) (rs:=⟨[Qc m (hpA m T1 f t1)],true,[9]⟩) rfl rfl) (Qu (QbK (m:=m) (f:=QI t1) (fs:=Qb (Qm (Qa 9) (dC (.int 1))) Qe) (rs:=⟨[Qc m (QI t1)],true,[9]⟩) rfl rfl) (Qu ((QaG (fi:=Qav (Qm (Qa 9) (dC (.int 2)))) (t:= .nm 1) (cap:=[none,none]) (fe:=dList (Qb (Qa 1) Qe)) (toD:=Qp) (out:=Qp) (ir:=⟨t1.map Qp,[9]⟩) t1 rfl rfl λt ht=>⟨[none,some (Qp t,false)],rfl,⟨Qp t,true,[]⟩,QkB (A:=t) (rs:=⟨[Qp t],false,[]⟩) rfl rfl,rfl,rfl⟩).trans rfl) (QZ _)))
  unfold QaH
  refine(congrArg (λz=>Option.bind z _) e).trans ?_
  rfl
 change Nx _ (.nx [some (.lst (ns.map .int),false),some (Qh m R L,true),some (.int b,true),some (Qc m f,true),some (Qc m (up (λ_=>0) q v),true),some (.int (Q1 k),true),some (Qy ps,true),some (wkD k t1.length,true),some (.lst [Qh m R L,Qc m f],true),some (QJ m T1 f t1,true),some (.int t1.length,true),some (QJ m T1 f t1,true),none,none,none])
 refine run_seq (QrS (is:=[1]) (d0:= .lst [Qh m R L,Qc m f]) (xs:=(List.range m).map λi=>D.int (f i)) (d:= .int 1) rfl rfl rfl rfl (by rw[Zm,ZM];omega) ?_)
 obtain⟨X8,r8⟩:∃X8:D,X8= .lst ((List.range m).map (λi=>D.int (f i))++[.int 1]):=⟨_,rfl⟩
 rw[← r8]
 change Nx _ (.nx [some (.lst (ns.map .int),false),some (Qh m R L,true),some (.int b,true),some (Qc m f,true),some (Qc m (up (λ_=>0) q v),true),some (.int (Q1 k),true),some (Qy ps,true),some (wkD k t1.length,true),some (.lst [Qh m R L,X8],true),some (QJ m T1 f t1,true),some (.int t1.length,true),some (QJ m T1 f t1,true),none,none,none])
 have v7:∀(ρ:En) (u:Nat),ρ[7]? =some (some (wkD k u,true))->Qa 7 ρ=some ⟨wkD k u,true,[7]⟩:=λρ u h=>(Qa4 h).trans (by cases k<;>rfl)
 refine QA (QQ (b:=false) (Qcw (b:=true) (QL (b:=true) (QP (Qu (r:=⟨Qh m R L,true,[1]⟩) rfl (Qu (r:=⟨Qc m f,true,[3]⟩) rfl (Qu (cellq _ true rfl rfl) (Qu (v7 _ t1.length rfl) (QZ _))))) (hr m R L f q k t1.length hq m8) rfl) rfl)) (λz=>by cases z) (λ_=>Qn ?_))
 have eW:∃M,M=[1]/\QaH (Qb (Qm (Qa 1) (dC (.int 0))) (Qb (QC (Qm (Qa 1) (dC (.int 1))) (QT (Qb (QaH (Qb (dOp Q4 (Qx 2 dc [] (Qb (Qa 0) (Qb (dC (.int 16)) Qe))) (Qm (Qa 1) (dC (.int 0)))) (Qb (Qm (Qa 1) (dC (.int 0))) Qe))) Qe))) (Qb (Qm (Qa 1) (dC (.int 2))) Qe))) [some (.lst (ns.map .int),false),some (Qh m R L,true),some (.int b,true),some (Qc m f,true),some (Qc m (up (λ_=>0) q v),true),some (.int (Q1 k),true),some (Qy ps,true),some (wkD k t1.length,true),some (.lst [Qh m R L,X8],true),some (QJ m T1 f t1,true),some (.int t1.length,true),some (QJ m T1 f t1,true),none,none,none]=some ⟨Qh m (R++[((q:Int),(m:Int))]) L,true,M⟩:=by
  have a1:=Ql1 (Qu (cellq [some (.lst (ns.map .int),false),some (Qh m R L,true),some (.int b,true),some (Qc m f,true),some (Qc m (up (λ_=>0) q v),true),some (.int (Q1 k),true),some (Qy ps,true),some (wkD k t1.length,true),some (.lst [Qh m R L,X8],true),some (QJ m T1 f t1,true),some (.int t1.length,true),some (QJ m T1 f t1,true),none,none,none] true rfl rfl) (Qu (fa:=Qm (Qa 1) (dC (.int 0))) (r:=⟨.int m,true,[]⟩) rfl (QZ _))) (show 2<=64 by decide)
  have a2:=Qka (fa:=Qm (Qa 1) (dC (.int 1))) (A:=R) (B:=[((q:Int),(m:Int))]) (ra:=⟨Qad R,true,[1]⟩) rfl rfl (fb:=QT (Qb (QaH (Qb (dOp Q4 (Qx 2 dc [] (Qb (Qa 0) (Qb (dC (.int 16)) Qe))) (Qm (Qa 1) (dC (.int 0)))) (Qb (Qm (Qa 1) (dC (.int 0))) Qe))) Qe)) (Qg0 (Qu a1 (QZ _)) (show 1<=64 by decide)) rfl (by have:=g.2.2.1;show _+1<=_;omega)
  exact⟨_,rfl,(Ql1 (Qu (fa:=Qm (Qa 1) (dC (.int 0))) (r:=⟨.int m,true,[]⟩) rfl (Qu a2 (Qu (fa:=Qm (Qa 1) (dC (.int 2))) (r:=⟨Qad L,true,[1]⟩) rfl (QZ _)))) (show 3<=64 by decide)).trans rfl⟩
 obtain⟨M,eM,eW⟩:=eW
 refine run_seq (Qi (Qgl eW) ?_)
 have eD:asg 12 ⟨Qh m (R++[((q:Int),(m:Int))]) L,false,M⟩ [some (.lst (ns.map .int),false),some (Qh m R L,true),some (.int b,true),some (Qc m f,true),some (Qc m (up (λ_=>0) q v),true),some (.int (Q1 k),true),some (Qy ps,true),some (wkD k t1.length,true),some (.lst [Qh m R L,X8],true),some (QJ m T1 f t1,true),some (.int t1.length,true),some (QJ m T1 f t1,true),none,none,none]=[some (.lst (ns.map .int),false),some (Qh m R L,false),some (.int b,true),some (Qc m f,true),some (Qc m (up (λ_=>0) q v),true),some (.int (Q1 k),true),some (Qy ps,true),some (wkD k t1.length,true),some (.lst [Qh m R L,X8],true),some (QJ m T1 f t1,true),some (.int t1.length,true),some (QJ m T1 f t1,true),some (Qh m (R++[((q:Int),(m:Int))]) L,false),none,none]:=by
  obtain rfl:M=[1]:=eM
  rfl
 refine(congrArg (λρ=>Nx _ (.nx ρ)) eD).mpr ?_
 obtain⟨t2,tl2,er2,ek2⟩:=go2 t1.length
 refine run_seq (QjY (rs:=[some ⟨Qh m (R++[((q:Int),(m:Int))]) L,false,[]⟩,some ⟨Qc m (up (λ_=>0) q v),true,[]⟩,none]) ?_ rfl rfl (QlU.trans er2) ?_)
 ·have e12:Qa 12 [some (.lst (ns.map .int),false),some (Qh m R L,false),some (.int b,true),some (Qc m f,true),some (Qc m (up (λ_=>0) q v),true),some (.int (Q1 k),true),some (Qy ps,true),some (wkD k t1.length,true),some (.lst [Qh m R L,X8],true),some (QJ m T1 f t1,true),some (.int t1.length,true),some (QJ m T1 f t1,true),some (Qh m (R++[((q:Int),(m:Int))]) L,false),none,none]=some ⟨Qh m (R++[((q:Int),(m:Int))]) L,false,[]⟩:=rfl
  have e4:=QbK (ρ:=[some (.lst (ns.map .int),false),some (Qh m R L,false),some (.int b,true),some (Qc m f,true),some (Qc m (up (λ_=>0) q v),true),some (.int (Q1 k),true),some (Qy ps,true),some (wkD k t1.length,true),some (.lst [Qh m R L,X8],true),some (QJ m T1 f t1,true),some (.int t1.length,true),some (QJ m T1 f t1,true),some (Qh m (R++[((q:Int),(m:Int))]) L,false),none,none]) (m:=m) (f:=up (λ_=>0) q v) (fs:=Qb (Qa 4) Qe) (rs:=⟨[Qc m (up (λ_=>0) q v)],true,[4]⟩) rfl rfl
  simp only[evs,e12,e4,Za,ZX]
 change Nx _ (.nx [some (.lst (ns.map .int),false),some (Qh m R L,false),some (.int b,true),some (Qc m f,true),some (Qc m (up (λ_=>0) q v),true),some (.int (Q1 k),true),some (Qy ps,true),some (wkD k (t1.length+t2.length),true),some (.lst [Qh m R L,X8],true),some (QJ m T1 f t1,true),some (.int t1.length,true),some (QJ m T1 f t1,true),some (Qh m (R++[((q:Int),(m:Int))]) L,false),some (QJ m T2 (up (λ_=>0) q v) t2,true),none])
 refine run_seq (Qi (QP (r:=⟨[Qh m (R++[((q:Int),(m:Int))]) L,Qc m (up (λ_=>0) q v),QJ m T2 (up (λ_=>0) q v) t2,.int (Q1 k),Qy ps,.int t1.length],false,[4,13,6]⟩) rfl ek2 rfl) ?_)
 change Nx _ (.nx [some (.lst (ns.map .int),false),some (Qh m R L,false),some (.int b,true),some (Qc m f,true),some (Qc m (up (λ_=>0) q v),true),some (.int (Q1 k),true),some (Qy ps,true),some (wkD k (t1.length+t2.length),true),some (.lst [Qh m R L,X8],true),some (QJ m T1 f t1,true),some (.int (t1.length+t2.length:Nat),true),some (QJ m T1 f t1,true),some (Qh m (R++[((q:Int),(m:Int))]) L,false),some (QJ m T2 (up (λ_=>0) q v) t2,true),none])
 obtain⟨u,ru⟩:∃u:Nat,u=t1.length+t2.length:=⟨_,rfl⟩
 rw[← ru]
 change Nx _ (.nx [some (.lst (ns.map .int),false),some (Qh m R L,false),some (.int b,true),some (Qc m f,true),some (Qc m (up (λ_=>0) q v),true),some (.int (Q1 k),true),some (Qy ps,true),some (wkD k u,true),some (.lst [Qh m R L,X8],true),some (QJ m T1 f t1,true),some (.int u,true),some (QJ m T1 f t1,true),some (Qh m (R++[((q:Int),(m:Int))]) L,false),some (QJ m T2 (up (λ_=>0) q v) t2,true),none])
 refine QA (QQ (b:=false) (QL (Q8 (d:= .bl false) (ra:=⟨.int u,true,[]⟩) (rb:=⟨.int 0,true,[]⟩) rfl rfl (by show some (D.bl (decide ((u:Int)<0)))=_;rw[decide_eq_false (by omega)])) rfl) (λz=>by cases z) (λ_=>Qn ?_))
 obtain⟨t3,tl3,er3,ek3⟩:=go1 u
 refine run_seq (QjY (rs:=[some ⟨Qh m R L,true,[8]⟩,some ⟨Qc m f,true,[]⟩,none]) ?_ rfl rfl (QlU.trans er3) ?_)
 ·have e8:Qm (Qa 8) (dC (.int 0)) [some (.lst (ns.map .int),false),some (Qh m R L,false),some (.int b,true),some (Qc m f,true),some (Qc m (up (λ_=>0) q v),true),some (.int (Q1 k),true),some (Qy ps,true),some (wkD k u,true),some (.lst [Qh m R L,X8],true),some (QJ m T1 f t1,true),some (.int u,true),some (QJ m T1 f t1,true),some (Qh m (R++[((q:Int),(m:Int))]) L,false),some (QJ m T2 (up (λ_=>0) q v) t2,true),none]=some ⟨Qh m R L,true,[8]⟩:=rfl
  have e3:=QbK (ρ:=[some (.lst (ns.map .int),false),some (Qh m R L,false),some (.int b,true),some (Qc m f,true),some (Qc m (up (λ_=>0) q v),true),some (.int (Q1 k),true),some (Qy ps,true),some (wkD k u,true),some (.lst [Qh m R L,X8],true),some (QJ m T1 f t1,true),some (.int u,true),some (QJ m T1 f t1,true),some (Qh m (R++[((q:Int),(m:Int))]) L,false),some (QJ m T2 (up (λ_=>0) q v) t2,true),none]) (m:=m) (f:=f) (fs:=Qb (Qa 3) Qe) (rs:=⟨[Qc m f],true,[3]⟩) rfl rfl
  simp only[evs,e8,e3,Za,ZX]
 change Nx _ (.nx [some (.lst (ns.map .int),false),some (Qh m R L,false),some (.int b,true),some (Qc m f,true),some (Qc m (up (λ_=>0) q v),true),some (.int (Q1 k),true),some (Qy ps,true),some (wkD k (u+t3.length),true),some (.lst [Qh m R L,X8],true),some (QJ m T1 f t1,true),some (.int u,true),some (QJ m T1 f t1,true),some (Qh m (R++[((q:Int),(m:Int))]) L,false),some (QJ m T2 (up (λ_=>0) q v) t2,true),some (QJ m T1 f t3,true)])
 refine QA (QQ (b:=false) (Qdv (a:=false) (b:=false) (QL (Q8 (d:= .bl false) (rb:=⟨.int 0,true,[]⟩) (QP (r:=⟨[Qh m R L,Qc m f,QJ m T1 f t3,.int (Q1 k),Qy ps,.int u],false,[3,14,6]⟩) rfl ek3 rfl) rfl (by show some (D.bl (decide (((u+t3.length:Nat):Int)<0)))=_;rw[decide_eq_false (by omega)])) rfl) (QL (b:=false) (Qpq (d:=Qh m R L) (ra:=⟨Qh m R L,true,[8]⟩) (rb:=⟨Qh m R L,false,[]⟩) rfl rfl rfl rfl (Qu9 m R L)) rfl)) (λz=>by cases z) (λ_=>Qn ?_))
 exact Qaa (Qub (d:=QJ m T1 f t1) (ra:=⟨QJ m T1 f t1,true,[9]⟩) (rb:=⟨QJ m T1 f t1,true,[11]⟩) rfl rfl rfl rfl Qt1) ⟨rfl,rfl⟩
end HS
theorem HS.some_of{α:Type}{x:Option α}{d:α}(h:x.isSome=true):x=some (x.getD d):=by cases x with | none=>cases h | some a=>rfl
namespace Law
open PySem L2 HS
noncomputable section
def top(i:Nat):Stmt:=PySem.Challenge.pw_heapstill_k12_run_walked.main.body.getD i (.Pass ⟨0,0,0,0⟩)
abbrev cst:List (Str×Cn):=[("MOST_TOPPLINGS",2000)]
abbrev Sc(s:Stmt)(P:List Str):Prop:=QaA (namesOf (Qg s)) P (Qg s)
theorem scM{s:Stmt}{P:List Str}(h1:(Qg s).kind= .function)(h2:(Qg s).isCoroutine=false)(h3:(Qg s).isGenerator=false)(h4:(namesOf (Qg s)).Nodup/\(namesOf (Qg s)).take P.length=P/\(∀x∈P,(Qg s).names.lookup x=some .local ∨(Qg s).names.lookup x=some .cell)/\∀y∈(Qg s).names,y.2≠ .free):Sc s P:=⟨h1,h2,h3,h4.1,h4.2.1,h4.2.2.1,h4.2.2.2⟩
noncomputable abbrev Cp(s:Stmt)(Γ:List (Str×FnR)):Option DS:=Qac 60 (QbL s Γ cst) (Q2 s)
noncomputable abbrev CpO(s:Stmt)(Γ:List (Str×FnR))(T:ObT)(p:Option Nat):Option DS:=Qac 60 (thO 60 (QbL s Γ cst) T p) (Q2 s)
noncomputable abbrev Dn(s:Stmt)(g:DS):Den:=QB (namesOf (Qg s)).length g
noncomputable abbrev Eu(s:Stmt)(p:Nat)(g:DS):QbI:=QeP (namesOf (Qg s)).length p g
noncomputable abbrev Gc(x:Str)(n:Nat)(d:Den)(Γ:List (Str×FnR)):List (Str×FnR):=(x,⟨n,[],d⟩)::Γ
noncomputable abbrev cls:List Str:=["NoRow","NoHeap","TooMany"]
noncomputable abbrev QzF:List (Str×List (Str×Bool)):=[("NoRow",[("NoRow",true),("NoHeap",false)]),("NoHeap",[("NoRow",false),("NoHeap",true)]),("TooMany",[("NoRow",false),("NoHeap",false)])]
noncomputable abbrev sub:=Qtl QzF
noncomputable abbrev CpT(s:Stmt)(Γ:List (Str×FnR))(Γx:List (Str×(Nat×(List D->Option Str))))(hΓ:List (Str×FnR)):Option DS:=Qac 60 (thT 60 s Γ cst ⟨Γx,cls⟩ sub hΓ) (Q2 s)
noncomputable abbrev CpX(s:Stmt)(Γ:List (Str×FnR))(Γx:List (Str×(Nat×(List D->Option Str)))):Option DX:=Qc2 60 (QbL s Γ cst) ⟨Γx,cls⟩ (Q2 s)
noncomputable abbrev QwG(s:Stmt)(Γ:List (Str×FnR))(Γx:List (Str×(Nat×(List D->Option Str))))(m:MeT):Option DX:=Qc2 60 (QrI (QbL s Γ cst) m) ⟨Γx,cls⟩ (Q2 s)
noncomputable abbrev T0:ObT:=⟨HS.wCl,[],[],[],["Way","Together"]⟩
abbrev Qa2:=top 6
theorem QgP:Sc Qa2 ["net","rows"]:=scM rfl rfl rfl (by decide+kernel)
theorem QhK:QN "need_rows" Qa2 ["net","rows"]:=λ_ _ _ _ _ _=>lc λ_=>lc λ_=>l0 rfl
noncomputable def QgE:=(CpX Qa2 [] []).getD xNo
theorem QmZ:CpX Qa2 [] []=some QgE:=some_of (by decide+kernel)
noncomputable abbrev Qcx:=Qcq (namesOf (Qg Qa2)).length QgE
noncomputable abbrev QeH:List (Str×(Nat×(List D->Option Str))):=("need_rows",(2,Qcx))::[]
def QhI:=(Cp Qa2 []).getD QK
theorem Qne:Cp Qa2 []=some QhI:=some_of (by decide+kernel)
abbrev Qan:=Dn Qa2 QhI
abbrev Qc7:=Gc "need_rows" 2 Qan []
abbrev QaM:=top 7
theorem Qgx:Sc QaM ["net","heaps"]:=scM rfl rfl rfl (by decide+kernel)
theorem QgM:QN "need_heaps" QaM ["net","heaps"]:=λ_ _ _ _ _ _=>lc λ_=>lc λ_=>l0 rfl
noncomputable def QgA:=(CpX QaM Qc7 QeH).getD xNo
theorem Qk1:CpX QaM Qc7 QeH=some QgA:=some_of (by decide+kernel)
noncomputable abbrev Qca:=Qcq (namesOf (Qg QaM)).length QgA
noncomputable abbrev Qej:List (Str×(Nat×(List D->Option Str))):=("need_heaps",(2,Qca))::QeH
def QgD:=(Cp QaM Qc7).getD QK
theorem Qmm:Cp QaM Qc7=some QgD:=some_of (by decide+kernel)
abbrev Q0:=Dn QaM QgD
abbrev QeS:=Gc "need_heaps" 2 Q0 Qc7
abbrev Qex:=top 9
theorem Qrp:Sc Qex ["roads","lanes"]:=scM rfl rfl rfl (by decide+kernel)
theorem QvH:QN "steps" Qex ["roads","lanes"]:=λ_ _ _ _ _ _=>lc λ_=>lc λ_=>l0 rfl
def QnF:=(Cp Qex QeS).getD QK
theorem Qvh:Cp Qex QeS=some QnF:=some_of (by decide+kernel)
abbrev Qdl:=Dn Qex QnF
abbrev Qjm:=Gc "steps" 2 Qdl QeS
abbrev QbW:=top 10
theorem QkY:Sc QbW ["net"]:=scM rfl rfl rfl (by decide+kernel)
theorem Qlw:QN "toll_table" QbW ["net"]:=λ_ _ _ _ _ _=>lc λ_=>l0 rfl
def QgG:=(Cp QbW Qjm).getD QK
theorem Qm8:Cp QbW Qjm=some QgG:=some_of (by decide+kernel)
abbrev Qaw:=Dn QbW QgG
abbrev QeM:=Gc "toll_table" 1 Qaw Qjm
abbrev Qcg:=top 11
theorem Qmh:Sc Qcg ["net"]:=scM rfl rfl rfl (by decide+kernel)
theorem Qnf:QN "span_list" Qcg ["net"]:=λ_ _ _ _ _ _=>lc λ_=>l0 rfl
def QhS:=(Cp Qcg QeM).getD QK
theorem Qno:Cp Qcg QeM=some QhS:=some_of (by decide+kernel)
abbrev Qch:=Dn Qcg QhS
abbrev Qc9:=Gc "span_list" 1 Qch QeM
abbrev QcG:=top 12
theorem QmU:Sc QcG ["net","row","counts"]:=scM rfl rfl rfl (by decide+kernel)
theorem QnL:QN "after" QcG ["net","row","counts"]:=λ_ _ _ _ _ _=>lc λ_=>lc λ_=>lc λ_=>l0 rfl
noncomputable def Qls:=(CpX QcG Qc9 Qej).getD xNo
theorem Qsv:CpX QcG Qc9 Qej=some Qls:=some_of (by decide+kernel)
noncomputable abbrev QrE:=Qcq (namesOf (Qg QcG)).length Qls
noncomputable abbrev Qia:List (Str×(Nat×(List D->Option Str))):=("after",(3,QrE))::Qej
def QnG:=(Cp QcG Qc9).getD QK
theorem QvG:Cp QcG Qc9=some QnG:=some_of (by decide+kernel)
abbrev QcN:=Dn QcG QnG
abbrev Qjy:=Gc "after" 3 QcN Qc9
abbrev Qbm:=top 15
theorem Qi9:Sc Qbm ["net","heap"]:=scM rfl rfl rfl (by decide+kernel)
theorem Qjk:QN "ready_places" Qbm ["net","heap"]:=λ_ _ _ _ _ _=>lc λ_=>lc λ_=>l0 rfl
def QfK:=(Cp Qbm Qjy).getD QK
theorem QjD:Cp Qbm Qjy=some QfK:=some_of (by decide+kernel)
abbrev Q5:=Dn Qbm QfK
abbrev QR:=Gc "ready_places" 2 Q5 Qjy
abbrev QbT:=inClass (top 16) 0
theorem Qk4:Sc QbT ["self","net","heap"]:=scM rfl rfl rfl (by decide+kernel)
theorem Qm0:Qg3 "chosen" "Way.chosen" QbT ["self","net","heap"]:=λ_ _ _ _ _ _=>lc λ_=>lc λ_=>lc λ_=>l0 rfl
def QeX:=(CpO QbT QR T0 (some 0)).getD QK
theorem QlJ:CpO QbT QR T0 (some 0)=some QeX:=some_of (by decide+kernel)
noncomputable abbrev Qdx:=Eu QbT 0 QeX
abbrev QaR:=inClass (top 17) 0
theorem Qg5:Sc QaR ["self","net","heap"]:=scM rfl rfl rfl (by decide+kernel)
theorem QhB:Qg3 "chosen" "Together.chosen" QaR ["self","net","heap"]:=λ_ _ _ _ _ _=>lc λ_=>lc λ_=>lc λ_=>l0 rfl
def QcY:=(CpO QaR QR T0 (some 0)).getD QK
theorem QhG:CpO QaR QR T0 (some 0)=some QcY:=some_of (by decide+kernel)
noncomputable abbrev QbM:=Eu QaR 0 QcY
abbrev QaQ:=inClass (top 18) 0
theorem QgZ:Sc QaQ ["self","picks"]:=scM rfl rfl rfl (by decide+kernel)
theorem QhD:Qg3 "__init__" "Picked.__init__" QaQ ["self","picks"]:=λ_ _ _ _ _ _=>lc λ_=>lc λ_=>l0 rfl
def QcZ:=(CpO QaQ QR T0 (some 0)).getD QK
theorem QhF:CpO QaQ QR T0 (some 0)=some QcZ:=some_of (by decide+kernel)
noncomputable abbrev Qay:=Eu QaQ 0 QcZ
abbrev Qa8:=inClass (top 18) 1
theorem Qil:Sc Qa8 ["self","net","heap"]:=scM rfl rfl rfl (by decide+kernel)
theorem Qir:Qg3 "chosen" "Picked.chosen" Qa8 ["self","net","heap"]:=λ_ _ _ _ _ _=>lc λ_=>lc λ_=>lc λ_=>l0 rfl
def Qds:=(CpO Qa8 QR T0 (some 0)).getD QK
theorem QiE:CpO Qa8 QR T0 (some 0)=some Qds:=some_of (by decide+kernel)
noncomputable abbrev Qcv:=Eu Qa8 0 Qds
noncomputable abbrev T1:ObT:=⟨HS.wCl,(HS.wMe Qdx QbM Qcv),[],[("Picked",⟨2,0,Qay⟩)],["Way","Together"]⟩
abbrev Qer:=top 19
theorem Qqf:Sc Qer ["net","heap","way"]:=scM rfl rfl rfl (by decide+kernel)
theorem Qo6:QN "run" Qer ["net","heap","way"]:=λ_ _ _ _ _ _=>lc λ_=>lc λ_=>lc λ_=>l0 rfl
noncomputable def Qqa:=(QwG Qer QR Qia T1.me).getD xNo
theorem QwX:QwG Qer QR Qia T1.me=some Qqa:=some_of (by decide+kernel)
noncomputable abbrev QiH:=Qcq (namesOf (Qg Qer)).length Qqa
noncomputable abbrev Qq9:List (Str×(Nat×(List D->Option Str))):=("run",(3,QiH))::Qia
def QoC:=(CpO Qer QR T1 (some 2)).getD QK
theorem Qyr:CpO Qer QR T1 (some 2)=some QoC:=some_of (by decide+kernel)
noncomputable abbrev Qe6:=Eu Qer 2 QoC
noncomputable abbrev T2:ObT:=⟨HS.wCl,(HS.wMe Qdx QbM Qcv),[("run",⟨3,2,Qe6⟩)],[("Picked",⟨2,0,Qay⟩)],["Way","Together"]⟩
abbrev Qbn:=top 21
theorem QiZ:Sc Qbn ["_law_script","_law_k"]:=scM rfl rfl rfl (by decide+kernel)
theorem Qj2:QN "_law_cell_at" Qbn ["_law_script","_law_k"]:=λ_ _ _ _ _ _=>lc λ_=>lc λ_=>l0 rfl
def Qfw:=(Cp Qbn QR).getD QK
theorem Qju:Cp Qbn QR=some Qfw:=some_of (by decide+kernel)
abbrev QG:=Dn Qbn Qfw
abbrev QdR:=Gc "_law_cell_at" 2 QG QR
abbrev Qce:=top 22
theorem QlK:Sc Qce ["_law_many","_law_turn_here","_law_kind"]:=scM rfl rfl rfl (by decide+kernel)
theorem Qnk:QN "_law_base" Qce ["_law_many","_law_turn_here","_law_kind"]:=λ_ _ _ _ _ _=>lc λ_=>lc λ_=>lc λ_=>l0 rfl
def QhR:=(Cp Qce QdR).getD QK
theorem Qnr:Cp Qce QdR=some QhR:=some_of (by decide+kernel)
abbrev Qco:=Dn Qce QhR
abbrev Qfm:=Gc "_law_base" 3 Qco QdR
abbrev Qcf:=top 23
theorem Qmg:Sc Qcf ["_law_many","_law_ways","_law_room"]:=scM rfl rfl rfl (by decide+kernel)
theorem Qni:QN "_law_fits" Qcf ["_law_many","_law_ways","_law_room"]:=λ_ _ _ _ _ _=>lc λ_=>lc λ_=>lc λ_=>l0 rfl
def QhU:=(Cp Qcf Qfm).getD QK
theorem Qnq:Cp Qcf Qfm=some QhU:=some_of (by decide+kernel)
abbrev QaL:=Dn Qcf QhU
abbrev Qfj:=Gc "_law_fits" 3 QaL Qfm
abbrev Qci:=top 24
theorem Qlx:Sc Qci ["_law_ways","_law_cells","_law_many","_law_kind","_law_room"]:=scM rfl rfl rfl (by decide+kernel)
theorem Qnv:QN "_law_more" Qci ["_law_ways","_law_cells","_law_many","_law_kind","_law_room"]:=λ_ _ _ _ _ _=>lc λ_=>lc λ_=>lc λ_=>lc λ_=>lc λ_=>l0 rfl
def QhM:=(Cp Qci Qfj).getD QK
theorem Qnh:Cp Qci Qfj=some QhM:=some_of (by decide+kernel)
abbrev Qcn:=Dn Qci QhM
abbrev Qfl:=Gc "_law_more" 5 Qcn Qfj
abbrev QcS:=top 25
theorem Qnl:Sc QcS ["_law_script","_law_most","_law_room"]:=scM rfl rfl rfl (by decide+kernel)
theorem Qok:QN "_law_net" QcS ["_law_script","_law_most","_law_room"]:=λ_ _ _ _ _ _=>lc λ_=>lc λ_=>lc λ_=>l0 rfl
def QiL:=(Cp QcS Qfl).getD QK
theorem Qoj:Cp QcS Qfl=some QiL:=some_of (by decide+kernel)
abbrev QcP:=Dn QcS QiL
abbrev QfU:=Gc "_law_net" 3 QcP Qfl
abbrev QbS:=top 26
theorem QkU:Sc QbS ["_law_net_here"]:=scM rfl rfl rfl (by decide+kernel)
theorem Qmr:QN "_law_spans" QbS ["_law_net_here"]:=λ_ _ _ _ _ _=>lc λ_=>l0 rfl
def QgT:=(Cp QbS QfU).getD QK
theorem QmN:Cp QbS QfU=some QgT:=some_of (by decide+kernel)
abbrev QbP:=Dn QbS QgT
abbrev QeJ:=Gc "_law_spans" 1 QbP QfU
abbrev Qdn:=top 27
theorem QoE:Sc Qdn ["_law_found","_law_due"]:=scM rfl rfl rfl (by decide+kernel)
theorem QpR:QN "_law_is" Qdn ["_law_found","_law_due"]:=λ_ _ _ _ _ _=>lc λ_=>lc λ_=>l0 rfl
def QkC:=(Cp Qdn QeJ).getD QK
theorem Qqp:Cp Qdn QeJ=some QkC:=some_of (by decide+kernel)
abbrev Qb0:=Dn Qdn QkC
abbrev QgR:=Gc "_law_is" 2 Qb0 QeJ
abbrev Qbv:=top 28
theorem Qj0:Sc Qbv ["_law_net_here","_law_heap","_law_counts"]:=scM rfl rfl rfl (by decide+kernel)
theorem QkV:QN "_law_behind" Qbv ["_law_net_here","_law_heap","_law_counts"]:=λ_ _ _ _ _ _=>lc λ_=>lc λ_=>lc λ_=>l0 rfl
def Qgu:=(Cp Qbv QgR).getD QK
theorem QkT:Cp Qbv QgR=some Qgu:=some_of (by decide+kernel)
abbrev Qbt:=Dn Qbv Qgu
abbrev Qef:=Gc "_law_behind" 3 Qbt QgR
abbrev Qcm:=top 29
theorem Qly:Sc Qcm ["_law_may","_law_kind","_law_picks","_law_used"]:=scM rfl rfl rfl (by decide+kernel)
theorem Qnd:QN "_law_turn" Qcm ["_law_may","_law_kind","_law_picks","_law_used"]:=λ_ _ _ _ _ _=>lc λ_=>lc λ_=>lc λ_=>lc λ_=>l0 rfl
def QhL:=(Cp Qcm Qef).getD QK
theorem Qnu:Cp Qcm Qef=some QhL:=some_of (by decide+kernel)
abbrev Qcd:=Dn Qcm QhL
abbrev Qfi:=Gc "_law_turn" 4 Qcd Qef
abbrev QbY:=top 30
theorem QkX:Sc QbY ["_law_found"]:=scM rfl rfl rfl (by decide+kernel)
theorem Qm4:QN "_law_lists" QbY ["_law_found"]:=λ_ _ _ _ _ _=>lc λ_=>l0 rfl
def QgH:=(Cp QbY Qfi).getD QK
theorem Qlv:Cp QbY Qfi=some QgH:=some_of (by decide+kernel)
abbrev QbV:=Dn QbY QgH
abbrev QeY:=Gc "_law_lists" 1 QbV Qfi
abbrev Qbx:=top 31
theorem Qjs:Sc Qbx ["_law_net_here","_law_heap","_law_found","_law_kind","_law_picks","_law_used"]:=scM rfl rfl rfl (by decide+kernel)
theorem Qk2:QN "_law_walked" Qbx ["_law_net_here","_law_heap","_law_found","_law_kind","_law_picks","_law_used"]:=λ_ _ _ _ _ _=>lc λ_=>lc λ_=>lc λ_=>lc λ_=>lc λ_=>lc λ_=>l0 rfl
def Qgw:=(Cp Qbx QeY).getD QK
theorem QkW:Cp Qbx QeY=some Qgw:=some_of (by decide+kernel)
abbrev QaU:=Dn Qbx Qgw
abbrev Qeg:=Gc "_law_walked" 6 QaU QeY
abbrev QcQ:=top 32
theorem Qnp:Sc QcQ ["_law_kind","_law_picks"]:=scM rfl rfl rfl (by decide+kernel)
theorem QoN:QN "_law_way" QcQ ["_law_kind","_law_picks"]:=λ_ _ _ _ _ _=>lc λ_=>lc λ_=>l0 rfl
def Qiy:=(CpO QcQ Qeg T2 none).getD QK
theorem Qpa:CpO QcQ Qeg T2 none=some Qiy:=some_of (by decide+kernel)
abbrev QcJ:=Dn QcQ Qiy
abbrev Qgd:=Gc "_law_way" 2 QcJ Qeg
abbrev Qbl:=top 33
theorem QiS:Sc Qbl ["_law_net_here","_law_heap","_law_at","_law_way_here"]:=scM rfl rfl rfl (by decide+kernel)
theorem Qj4:QN "_law_refused" Qbl ["_law_net_here","_law_heap","_law_at","_law_way_here"]:=λ_ _ _ _ _ _=>lc λ_=>lc λ_=>lc λ_=>lc λ_=>l0 rfl
def QfC:=(CpT Qbl (Gc "run" 3 (λ_=>none) Qgd) Qq9 []).getD QK
theorem Qjl:CpT Qbl (Gc "run" 3 (λ_=>none) Qgd) Qq9 []=some QfC:=some_of (by decide+kernel)
abbrev Qbk:=Dn Qbl QfC
abbrev Qfz:=Gc "_law_refused" 4 Qbk Qgd
abbrev QhA:=top 34
theorem QwQ:Sc QhA ["_law_script"]:=scM rfl rfl rfl (by decide+kernel)
theorem Qyt:QN "law" QhA ["_law_script"]:=λ_ _ _ _ _ _=>lc λ_=>l0 rfl
def Qtc:=(CpO QhA Qfz T2 none).getD QK
theorem Qyv:CpO QhA Qfz T2 none=some Qtc:=some_of (by decide+kernel)
abbrev Qph:=Dn QhA Qtc
theorem QhH:Qan=QB 3 (HS.Qc4):=by kernel_rfl
theorem QgC:Q0=QB 3 (HS.Qcy Qan):=by kernel_rfl
theorem Qva:Qdl=QB 4 (HS.QjA):=by kernel_rfl
theorem Qm5:Qaw=QB 5 (HS.QeG Qdl):=by kernel_rfl
theorem Qnw:Qch=QB 1 (HS.Qfq Qaw):=by kernel_rfl
theorem Quw:QcN=QB 6 (HS.QnK Qan Qaw):=by kernel_rfl
theorem QjH:Q5=QB 2 (HS.QfH Q0 Qch):=by kernel_rfl
theorem QmA:QeX=HS.QgI Q5:=by kernel_rfl
theorem QhC:QcY=HS.Qek Q5:=by kernel_rfl
theorem QhE:QcZ=HS.Qel:=by kernel_rfl
theorem Qi2:Qds=HS.Qe4 Q5:=by kernel_rfl
theorem Qx5:QoC=HS.Qtm Q0 QcN T1.me:=by kernel_rfl
theorem Qj7:QG=QB 2 (HS.QfM):=by kernel_rfl
theorem Qng:Qco=QB 7 (HS.QhN):=by kernel_rfl
theorem Qns:QaL=QB 9 (HS.Qgy):=by kernel_rfl
theorem Qnj:Qcn=QB 10 (HS.Qei QaL):=by kernel_rfl
theorem QoR:QcP=QB 10 (HS.QdF QG Qco Qcn):=by kernel_rfl
theorem QmY:QbP=QB 4 (HS.Qja):=by kernel_rfl
theorem Qqi:Qb0=QB 4 (HS.QhO):=by kernel_rfl
theorem Qk3:Qbt=QB 7 (HS.Qe2):=by kernel_rfl
theorem Qnm:Qcd=QB 5 (HS.QhQ):=by kernel_rfl
theorem QlP:QbV=QB 1 (HS.Qg7):=by kernel_rfl
theorem Qk0:QaU=QB 12 (HS.Qgz QbV QbP Qcd Qb0 Qbt):=by kernel_rfl
theorem QoJ:QcJ=QB 2 (HS.QfF Qay):=by kernel_rfl
theorem Qjq:Qbk=QB 6 (HS.Qeb QiH sub):=by kernel_rfl
theorem QyB:Qph=QB 15 (HS.Qks QcP QG QcJ QaU Qbk Qe6):=by kernel_rfl
theorem QgN:Qcx=Qcq 3 (HS.QdV):=by kernel_rfl
theorem Qgv:Qca=Qcq 3 (HS.Qdt Qan Qcx):=by kernel_rfl
theorem QvO:QiH=Qcq 8 (HS.Qkr QcN Q0 Qca):=by kernel_rfl
end
end Law
namespace HS
open PySem PySem.Spec L2
noncomputable def Qrh(mg:Str->Option Value):List Str->Prop
 | []=>True
 | x::r=>mg x=none/\Qrh mg r
theorem Ql6{mg:Str->Option Value}:∀{l:List Str},Qrh mg l->∀x∈l,mg x=none
 | [],_,x,h=>by simp at h
 | y::r,h,x,hx=>by
  rcases Zl.mp hx with rfl | hx
  ·exact h.1
  ·exact Ql6 h.2 x hx
noncomputable def QrL(mg:Str->Option Value):List (Str×Cn)->Prop
 | []=>True
 | (x,i)::r=>(∃t,mg x=some (cnV i t))/\QrL mg r
theorem QmH{mg:Str->Option Value}:∀{l:List (Str×Cn)},QrL mg l->∀x i,look x l=some i->∃t,mg x=some (cnV i t)
 | [],_,x,i,h=>by cases h
 | (y,j)::r,h,x,i,hx=>by
  unfold look at hx
  split at hx
  ·rename_i e;cases hx;subst e;exact h.1
  ·exact QmH h.2 x i hx
theorem QvR{mg:Str->Option Value}{cs:List (Str×Cn)}(b:Qrh mg QlE)(c:QrL mg cs):Qb8 mg cs:=⟨Ql6 b,QmH c⟩
end HS
theorem HS.Qyf{K:PySem.W.Frag}{mg:PySem.Str->Option PySem.Value}{h:PySem.Heap}{x:PySem.Str}{i:Int}{t:PySem.Tok}(X:K.In h)(G:h.Ns PySem.mainGlobals mg)(a:PySem.W.nsIn K PySem.mainGlobals x=some (some (.int i t))):∃t,mg x=some (.int i t):=⟨t,Zal X G a⟩
namespace Law
open HS
theorem Qtf:Qi5 QG:=by rw[Qj7];exact Qug
theorem QyG:Ql9 Qco:=by rw[Qng];exact QtX
theorem Qx0:QjQ QaL:=by rw[Qns];exact Qs5
theorem QyU:Qh7 Qcn:=by rw[Qnj];exact Qpn Qx0
theorem QzS:Qji QcP:=by rw[QoR];exact Qsf Qtf QyG QyU
theorem Qv9:Qkd QbP:=by rw[QmY];exact Qw7
theorem hIs:QlI Qb0:=by rw[Qqi];exact QyP
theorem QzO:QoD Qbt:=by rw[Qk3];exact Qv7
theorem QyS:TurnOk Qcd:=by rw[Qnm];exact Qt6
theorem Qxx:QjK QbV:=by rw[QlP];exact QoZ
theorem QtR:Qgt QaU:=by rw[Qk0];exact Qqy Qxx Qv9 QyS hIs QzO
theorem Qtt:Qfs Qaw:=by rw[Qm5,Qva];exact Qn1
theorem Qyz:QlM Qch:=by rw[Qnw];exact QvE Qtt
theorem QoT:QgW Qan:=by rw[QhH];exact QnX
theorem QqJ:QfO Q0:=by rw[QgC];exact Qmc QoT
theorem QwC:QjU QcN:=by rw[Quw];exact Qr1 QoT Qtt
theorem Qm6:Qfv Q5:=by rw[QjH];exact QsV QqJ Qyz
theorem QzG:Qf3 .plain Qdx:=by unfold Qdx;rw[QmA];exact QxT Qm6
theorem QzX:Qf3 .both QbM:=by unfold QbM;rw[QhC];exact Qnt Qm6
theorem QyZ(ps:List Int)(h:ps.length<=1000):Qf3 (.pick ps) Qcv:=by unfold Qcv;rw[Qi2];exact Qpm Qm6 h
theorem QyM:Qq8 Qay:=λps=>by unfold Qay;rw[QhE];exact Quf ps
theorem hMe:Qsi T1.me:=QyL QzG QzX QyZ
theorem QzR:Qlj Qe6:=by unfold Qe6;rw[Qx5];exact Qw4 QqJ QwC hMe
theorem hW:Qjn QcJ:=by rw[QoJ];exact QsU QyM
theorem QqX:ApF Qan Qcx:=by rw[QhH,QgN];exact QtG
theorem Qyo:QoO Qcx:=by rw[QgN];exact Qsn
theorem QtP:ApF Q0 Qca:=by rw[QgC,Qgv];exact QrQ QqX
theorem QwV:QlT Qca:=by rw[Qgv];exact Qqs QqX QoT Qyo
theorem Qza:QlY QiH:=by rw[QvO];exact QqZ QtP QwV
theorem Qze:Qjv Qbk:=by rw[Qjq];exact QsD Qza (by decide+kernel) (by decide+kernel)
theorem Qw5(ns:List Int)(h:ns.length<=63):∃fr,Qph [.lst (ns.map .int)]=some (.bl true,fr):=by
 rw[QyB]
 exact⟨true,Qwu QzS Qtf hW QtR Qze QzR ns h⟩
end Law
namespace PySem.W.Fast
def tw12089979995754817538:=0
def tw2388491544640863850:=0
def tw4418440581695732929:=0
def tw11348866579926612647:=0
def tw2529776530477341878:=0
def tw3969767623486103581:=0
def tw6699002671249820439:=0
def tw10012471205628438884:=0
def tw13847151498605381018:=0
def tw2222325741053279704:=0
def tw4475232013708892982:=0
def tw11348539640963389836:=0
def tw14643320228016852019:=0
def tw78241421420505424:=0
def tw2090338104169732413:=0
def tw16736384555067998950:=0
def tw13503629591335264171:=0
def tw16404619491274520638:=0
def tw13551900487149543799:=0
def tw7451439903617507062:=0
def tw4834325995950852560:=0
def tw13768449923622403289:=0
def tw431840080800268305:=0
def tw716380417112562497:=0
def tw3266053972190780506:=0
def tw18208491465842396858:=0
def tw11729570396054941504:=0
def tw12318873310618931133:=0
def tw9057345138811233679:=0
def tw2862970007318212433:=0
def tw9832647527342477354:=0
def tw9152526817042356247:=0
def tw5118312660939344427:=0
def tw3852564130206342643:=0
def tw2108519960315566002:=0
def tw1923808694163126414:=0
def tw18430925416533255791:=0
def tw6484419425790041640:=0
def tw4321676188721010505:=0
def tw1337116262849368119:=0
def tw8108016885690048814:=0
def tw9657221807316800590:=0
def tw2672397714349091200:=0
def tw12175233248937983000:=0
def tw1453518553557452463:=0
def tw11966054599221527114:=0
def tw9544532872106403553:=0
def tw7440516741741573794:=0
def tw12284068068384048362:=0
def tw16736813627232862186:=0
def tw8343207718851353608:=0
def tw5510968614653625515:=0
def tw8142407628641706409:=0
def tw14362164953932814059:=0
def tw17947910345862648881:=0
def tw13902653413901878591:=0
def tw15889329623679619564:=0
def tw205142518983514770:=0
def tw5723396509358476356:=0
def tw4875304109026452401:=0
def tw2584370250410228663:=0
def tw10685882906074045166:=0
def tw2257854663758255890:=0
def tw1378344045196799622:=0
def tw1749121290126035119:=0
def tw11307563381679099990:=0
def tw10228437279163949084:=0
def tw10226252613842410634:=0
def tw2008035817438299526:=0
def tw8896397945823587243:=0
def tw5641199567299694941:=0
def tw4549095813631921956:=0
def tw16262645983307054388:=0
def tw18038671790239178222:=0
def tw13932828230980369932:=0
def tw862936263416980397:=0
def tw5947964404486159080:=0
def tw7382933882143228862:=0
def tw12948451575181507273:=0
def tw12735854266338364446:=0
def tw14313412298543951436:=0
def tw15950989081649230427:=0
def tw15720865742714048999:=0
def tw15186094692271799370:=0
def tw16471458731921618735:=0
def tw8994472699182495905:=0
def tw6964529934348360146:=0
def tw11561497693734704598:=0
def tw13650366621102751476:=0
def tw3090017306785211290:=0
def tw8675398067005950252:=0
def tw10605092755115061645:=0
def tw6951368078681052718:=0
def tw13131696120912123185:=0
def tw10416020123833545457:=0
end PySem.W.Fast
open PySem PySem.W PyProof.Rows HS
set_option maxRecDepth 100000 in
set_option maxHeartbeats 0 in
theorem PySem.Challenge.cw_heapstill_k12_run_walked_holds : PySem.Challenge.rw_heapstill_k12_run_walked.Holds := by
 w_on;o_law;k_head;(case hw=>w_witness2)
 k_fill
 refine HS.Qsx (l:=PySem.Challenge.rw_heapstill_k12_run_walked) (k:=22) (x:= "_law_script") (den:=Law.Qph) rfl rfl ⟨rfl,by decide,by decide⟩ (λw h Y=>PySem.W.kIn_of Y) Law.Qw5 ?F
 case F=>
  intro w mg fa h KX G hmg
  obtain⟨f_need_rows,f_need_heaps,f_steps,f_toll_table,f_span_list,f_after,f_ready_places,f_run,f__law_cell_at,f__law_base,f__law_fits,f__law_more,f__law_net,f__law_spans,f__law_is,f__law_behind,f__law_turn,f__law_lists,f__law_walked,f__law_way,f__law_refused,f_law⟩:HS.Fact (L2.KOf KX) "need_rows" Law.Qa2/\HS.Fact (L2.KOf KX) "need_heaps" Law.QaM/\HS.Fact (L2.KOf KX) "steps" Law.Qex/\HS.Fact (L2.KOf KX) "toll_table" Law.QbW/\HS.Fact (L2.KOf KX) "span_list" Law.Qcg/\HS.Fact (L2.KOf KX) "after" Law.QcG/\HS.Fact (L2.KOf KX) "ready_places" Law.Qbm/\HS.Fact (L2.KOf KX) "run" Law.Qer/\HS.Fact (L2.KOf KX) "_law_cell_at" Law.Qbn/\HS.Fact (L2.KOf KX) "_law_base" Law.Qce/\HS.Fact (L2.KOf KX) "_law_fits" Law.Qcf/\HS.Fact (L2.KOf KX) "_law_more" Law.Qci/\HS.Fact (L2.KOf KX) "_law_net" Law.QcS/\HS.Fact (L2.KOf KX) "_law_spans" Law.QbS/\HS.Fact (L2.KOf KX) "_law_is" Law.Qdn/\HS.Fact (L2.KOf KX) "_law_behind" Law.Qbv/\HS.Fact (L2.KOf KX) "_law_turn" Law.Qcm/\HS.Fact (L2.KOf KX) "_law_lists" Law.QbY/\HS.Fact (L2.KOf KX) "_law_walked" Law.Qbx/\HS.Fact (L2.KOf KX) "_law_way" Law.QcQ/\HS.Fact (L2.KOf KX) "_law_refused" Law.Qbl/\HS.Fact (L2.KOf KX) "law" Law.QhA:=by
   refine⟨?_,?_,?_,?_,?_,?_,?_,?_,?_,?_,?_,?_,?_,?_,?_,?_,?_,?_,?_,?_,?_,?_⟩<;>(dsimp only[L2.KOf];refine' HS.fact_mk ?a ?l ?c ?k;(case a=>k_is);(case l=>k_is);(case c=>k_is);(case k=>k_is))
  have fm_Way_chosen:HS.Qhh (L2.KOf KX) "Way" "chosen" "Way.chosen" Law.QbT:=by dsimp only[L2.KOf];refine' HS.QfR ?a ?c1 ?c2 ?c3 ?c4 ?m1 ?m2 ?k ?l ?cd;(case a=>k_is);(case c1=>k_is);(case c2=>k_is);(case c3=>k_is);(case c4=>k_is);(case m1=>k_is);(case m2=>k_is);(case k=>k_is);(case l=>k_is);(case cd=>k_is)
  have fm_Together_chosen:HS.Qhh (L2.KOf KX) "Together" "chosen" "Together.chosen" Law.QaR:=by dsimp only[L2.KOf];refine' HS.QfR ?a ?c1 ?c2 ?c3 ?c4 ?m1 ?m2 ?k ?l ?cd;(case a=>k_is);(case c1=>k_is);(case c2=>k_is);(case c3=>k_is);(case c4=>k_is);(case m1=>k_is);(case m2=>k_is);(case k=>k_is);(case l=>k_is);(case cd=>k_is)
  have fm_Picked___init__:HS.Qhh (L2.KOf KX) "Picked" "__init__" "Picked.__init__" Law.QaQ:=by dsimp only[L2.KOf];refine' HS.QfR ?a ?c1 ?c2 ?c3 ?c4 ?m1 ?m2 ?k ?l ?cd;(case a=>k_is);(case c1=>k_is);(case c2=>k_is);(case c3=>k_is);(case c4=>k_is);(case m1=>k_is);(case m2=>k_is);(case k=>k_is);(case l=>k_is);(case cd=>k_is)
  have fm_Picked_chosen:HS.Qhh (L2.KOf KX) "Picked" "chosen" "Picked.chosen" Law.Qa8:=by dsimp only[L2.KOf];refine' HS.QfR ?a ?c1 ?c2 ?c3 ?c4 ?m1 ?m2 ?k ?l ?cd;(case a=>k_is);(case c1=>k_is);(case c2=>k_is);(case c3=>k_is);(case c4=>k_is);(case m1=>k_is);(case m2=>k_is);(case k=>k_is);(case l=>k_is);(case cd=>k_is)
  have fc_Way:HS.Qjf (L2.KOf KX) "Way" []:=by dsimp only[L2.KOf];refine' HS.Qh0 ?a ?b ?c ?d ?e ?f;(case a=>k_is);(case b=>k_is);(case c=>k_is);(case d=>k_is);(case e=>k_is);(case f=>exact trivial)
  have fc_Together:HS.Qjf (L2.KOf KX) "Together" []:=by dsimp only[L2.KOf];refine' HS.Qh0 ?a ?b ?c ?d ?e ?f;(case a=>k_is);(case b=>k_is);(case c=>k_is);(case d=>k_is);(case e=>k_is);(case f=>exact trivial)
  have fc_Picked:HS.Qjf (L2.KOf KX) "Picked" ["picks","used"]:=by dsimp only[L2.KOf];refine' HS.Qh0 ?a ?b ?c ?d ?e ?f;(case a=>k_is);(case b=>k_is);(case c=>k_is);(case d=>k_is);(case e=>k_is);(case f=>exact⟨(by show PySem.W.findIn _ _ _=some none;k_is),(by show PySem.W.findIn _ _ _=some none;k_is),trivial⟩)
  have fk_Way:HS.Qld (L2.KOf KX) "Way" :=by dsimp only[L2.KOf];refine' HS.QmE ?a ?b ?c ?d;(case a=>k_is);(case b=>k_is);(case c=>k_is);(case d=>k_is)
  have fk_Together:HS.Qld (L2.KOf KX) "Together" :=by dsimp only[L2.KOf];refine' HS.QmE ?a ?b ?c ?d;(case a=>k_is);(case b=>k_is);(case c=>k_is);(case d=>k_is)
  have fi_Picked:HS.Qlh (L2.KOf KX) "Picked" :=by dsimp only[L2.KOf];refine' HS.Qrw ?a ?b ?c;(case a=>k_is);(case b=>k_is);(case c=>k_is)
  have M:HS.Qb8 mg Law.cst:=by
   obtain⟨n_range,n_enumerate,n_zip,n_len,n_list,n_min,n_max,n_sum,n_abs,n_isinstance,n_int,n_bool,n_tuple,n_str,n_divmod,n_sorted,n_any,n_all,n_set⟩:PySem.W.nsIn (L2.KOf KX) mainGlobals "range" =some none/\PySem.W.nsIn (L2.KOf KX) mainGlobals "enumerate" =some none/\PySem.W.nsIn (L2.KOf KX) mainGlobals "zip" =some none/\PySem.W.nsIn (L2.KOf KX) mainGlobals "len" =some none/\PySem.W.nsIn (L2.KOf KX) mainGlobals "list" =some none/\PySem.W.nsIn (L2.KOf KX) mainGlobals "min" =some none/\PySem.W.nsIn (L2.KOf KX) mainGlobals "max" =some none/\PySem.W.nsIn (L2.KOf KX) mainGlobals "sum" =some none/\PySem.W.nsIn (L2.KOf KX) mainGlobals "abs" =some none/\PySem.W.nsIn (L2.KOf KX) mainGlobals "isinstance" =some none/\PySem.W.nsIn (L2.KOf KX) mainGlobals "int" =some none/\PySem.W.nsIn (L2.KOf KX) mainGlobals "bool" =some none/\PySem.W.nsIn (L2.KOf KX) mainGlobals "tuple" =some none/\PySem.W.nsIn (L2.KOf KX) mainGlobals "str" =some none/\PySem.W.nsIn (L2.KOf KX) mainGlobals "divmod" =some none/\PySem.W.nsIn (L2.KOf KX) mainGlobals "sorted" =some none/\PySem.W.nsIn (L2.KOf KX) mainGlobals "any" =some none/\PySem.W.nsIn (L2.KOf KX) mainGlobals "all" =some none/\PySem.W.nsIn (L2.KOf KX) mainGlobals "set" =some none:=by refine⟨?_,?_,?_,?_,?_,?_,?_,?_,?_,?_,?_,?_,?_,?_,?_,?_,?_,?_,?_⟩<;>(dsimp only[L2.KOf];k_is)
   have n_MOST_TOPPLINGS:∃t,mg "MOST_TOPPLINGS" =some (.int 2000 t):=by refine' HS.Qyf KX G ?a;(case a=>first | k_is | exact rfl | (dsimp only[L2.KOf];k_is))
   exact HS.QvR ⟨PySem.W.mg_none_of KX G n_range,PySem.W.mg_none_of KX G n_enumerate,PySem.W.mg_none_of KX G n_zip,PySem.W.mg_none_of KX G n_len,PySem.W.mg_none_of KX G n_list,PySem.W.mg_none_of KX G n_min,PySem.W.mg_none_of KX G n_max,PySem.W.mg_none_of KX G n_sum,PySem.W.mg_none_of KX G n_abs,PySem.W.mg_none_of KX G n_isinstance,PySem.W.mg_none_of KX G n_int,PySem.W.mg_none_of KX G n_bool,PySem.W.mg_none_of KX G n_tuple,PySem.W.mg_none_of KX G n_str,PySem.W.mg_none_of KX G n_divmod,PySem.W.mg_none_of KX G n_sorted,PySem.W.mg_none_of KX G n_any,PySem.W.mg_none_of KX G n_all,PySem.W.mg_none_of KX G n_set,True.intro⟩ ⟨n_MOST_TOPPLINGS,True.intro⟩
  have t0:∀base:Heap,HS.Qaz (PySem.Challenge.rw_heapstill_k12_run_walked).prog w (L2.KOf KX) mg base 0 []:=λ_=>HS.Qaz.nil
  have o0:∀base:Heap,HS.QcC (PySem.Challenge.rw_heapstill_k12_run_walked).prog w (L2.KOf KX) mg base 0 Law.T0:=λb=>HS.Qjw KX G ⟨fc_Way,fc_Together,fc_Picked,trivial⟩ trivial trivial trivial ⟨fk_Way,fk_Together,trivial⟩
  have hcl:∀x∈Law.cls,HS.Qf0 (L2.KOf KX) x:=HS.Qn0 (by refine⟨?_,?_,?_,trivial⟩<;>(dsimp only[L2.KOf];refine' HS.Quv ?a ?b;(case a=>k_is);(case b=>k_exc)))
  have hsub:HS.QbU (L2.KOf KX) Law.sub:=by
   refine HS.Qt5 ⟨⟨?x0,?y0_0,?y0_1,trivial⟩,⟨?x1,?y1_0,?y1_1,trivial⟩,⟨?x2,?y2_0,?y2_1,trivial⟩,trivial⟩
   case x0=>(dsimp only[L2.KOf];refine' HS.Qou ?a ?b ?c ?d ?e ?f ?g;(case a=>k_is);(case b=>k_is);(case c=>k_is);(case d=>k_is);(case e=>k_is);(case f=>k_is);(case g=>k_is))
   case y0_0=>(dsimp only[L2.KOf];refine' HS.QdM ?a ?b ?c ?d;(case a=>k_is);(case b=>k_is);(case c=>kts_exm);(case d=>kit_is))
   case y0_1=>(dsimp only[L2.KOf];refine' HS.QdM ?a ?b ?c ?d;(case a=>k_is);(case b=>k_is);(case c=>kts_exm);(case d=>kit_is))
   case x1=>(dsimp only[L2.KOf];refine' HS.Qou ?a ?b ?c ?d ?e ?f ?g;(case a=>k_is);(case b=>k_is);(case c=>k_is);(case d=>k_is);(case e=>k_is);(case f=>k_is);(case g=>k_is))
   case y1_0=>(dsimp only[L2.KOf];refine' HS.QdM ?a ?b ?c ?d;(case a=>k_is);(case b=>k_is);(case c=>kts_exm);(case d=>kit_is))
   case y1_1=>(dsimp only[L2.KOf];refine' HS.QdM ?a ?b ?c ?d;(case a=>k_is);(case b=>k_is);(case c=>kts_exm);(case d=>kit_is))
   case x2=>(dsimp only[L2.KOf];refine' HS.Qou ?a ?b ?c ?d ?e ?f ?g;(case a=>k_is);(case b=>k_is);(case c=>k_is);(case d=>k_is);(case e=>k_is);(case f=>k_is);(case g=>k_is))
   case y2_0=>(dsimp only[L2.KOf];refine' HS.QdM ?a ?b ?c ?d;(case a=>k_is);(case b=>k_is);(case c=>kts_exm);(case d=>kit_is))
   case y2_1=>(dsimp only[L2.KOf];refine' HS.QdM ?a ?b ?c ?d;(case a=>k_is);(case b=>k_is);(case c=>kts_exm);(case d=>kit_is))
  have x0:∀base:Heap,HS.QdI (PySem.Challenge.rw_heapstill_k12_run_walked).prog w (L2.KOf KX) mg base 0 []:=λ_=>HS.QdI.nil
  have x_need_rows:=λb=>((x0 b).mono (k:=0) (by decide)).cons (HS.Qjh KX G f_need_rows Law.QgP Law.QhK M ((t0 b).rise (k:=0) (by decide)) ((x0 b).mono (k:=0) (by decide)) hcl Law.QmZ)
  have t_need_rows:=λb=>(t0 b).cons (HS.Qap KX G f_need_rows Law.QgP Law.QhK M (t0 b) Law.Qne)
  have x_need_heaps:=λb=>((x_need_rows b).mono (k:=1) (by decide)).cons (HS.Qjh KX G f_need_heaps Law.Qgx Law.QgM M ((t_need_rows b).rise (k:=1) (by decide)) ((x_need_rows b).mono (k:=1) (by decide)) hcl Law.Qk1)
  have t_need_heaps:=λb=>(t_need_rows b).cons (HS.Qap KX G f_need_heaps Law.Qgx Law.QgM M (t_need_rows b) Law.Qmm)
  have t_steps:=λb=>(t_need_heaps b).cons (HS.Qap KX G f_steps Law.Qrp Law.QvH M (t_need_heaps b) Law.Qvh)
  have t_toll_table:=λb=>(t_steps b).cons (HS.Qap KX G f_toll_table Law.QkY Law.Qlw M (t_steps b) Law.Qm8)
  have t_span_list:=λb=>(t_toll_table b).cons (HS.Qap KX G f_span_list Law.Qmh Law.Qnf M (t_toll_table b) Law.Qno)
  have x_after:=λb=>((x_need_heaps b).mono (k:=5) (by decide)).cons (HS.Qjh KX G f_after Law.QmU Law.QnL M ((t_span_list b).rise (k:=5) (by decide)) ((x_need_heaps b).mono (k:=5) (by decide)) hcl Law.Qsv)
  have t_after:=λb=>(t_span_list b).cons (HS.Qap KX G f_after Law.QmU Law.QnL M (t_span_list b) Law.QvG)
  have t_ready_places:=λb=>(t_after b).cons (HS.Qap KX G f_ready_places Law.Qi9 Law.Qjk M (t_after b) Law.QjD)
  have m_Way_chosen:=λb=>HS.Qk6 fm_Way_chosen Law.Qk4 Law.Qm0 M ((t_ready_places b).rise (k:=7) (by decide)) ((o0 b).mono (k:=6) (by decide)) Law.QlJ HS.QeL
  have m_Together_chosen:=λb=>HS.Qk6 fm_Together_chosen Law.Qg5 Law.QhB M ((t_ready_places b).rise (k:=7) (by decide)) ((o0 b).mono (k:=6) (by decide)) Law.QhG HS.QeL
  have m_Picked___init__:=λb=>HS.Qk6 fm_Picked___init__ Law.QgZ Law.QhD M ((t_ready_places b).rise (k:=7) (by decide)) ((o0 b).mono (k:=6) (by decide)) Law.QhF HS.QeL
  have m_Picked_chosen:=λb=>HS.Qk6 fm_Picked_chosen Law.Qil Law.Qir M ((t_ready_places b).rise (k:=7) (by decide)) ((o0 b).mono (k:=6) (by decide)) Law.QiE HS.QeL
  have o1:∀b:Heap,HS.QcC (PySem.Challenge.rw_heapstill_k12_run_walked).prog w (L2.KOf KX) mg b 8 Law.T1:=λb=>HS.Qjw KX G ⟨fc_Way,fc_Together,fc_Picked,trivial⟩ ⟨⟨(m_Way_chosen b).mono (k:=8) (by decide),trivial⟩,⟨(m_Together_chosen b).mono (k:=8) (by decide),trivial⟩,⟨(m_Picked_chosen b).mono (k:=8) (by decide),trivial⟩,trivial⟩ trivial ⟨⟨fi_Picked,(m_Picked___init__ b).mono (k:=8) (by decide)⟩,trivial⟩ ⟨fk_Way,fk_Together,trivial⟩
  have x_run:=λb=>((x_after b).mono (k:=7) (by decide)).cons (HS.Qr5 KX G f_run Law.Qqf Law.Qo6 M ((t_ready_places b).rise (k:=7) (by decide)) ((x_after b).mono (k:=7) (by decide)) hcl Law.QwX)
  have i_run:=λb=>HS.QxW KX G f_run Law.Qqf Law.Qo6 M ((t_ready_places b).rise (k:=9) (by decide)) ((o1 b).mono (k:=8) (by decide)) Law.Qyr HS.QeL
  have o2:∀b:Heap,HS.QcC (PySem.Challenge.rw_heapstill_k12_run_walked).prog w (L2.KOf KX) mg b 10 Law.T2:=λb=>HS.Qjw KX G ⟨fc_Way,fc_Together,fc_Picked,trivial⟩ ⟨⟨(m_Way_chosen b).mono (k:=10) (by decide),trivial⟩,⟨(m_Together_chosen b).mono (k:=10) (by decide),trivial⟩,⟨(m_Picked_chosen b).mono (k:=10) (by decide),trivial⟩,trivial⟩ ⟨(i_run b).mono (k:=10) (by decide),trivial⟩ ⟨⟨fi_Picked,(m_Picked___init__ b).mono (k:=10) (by decide)⟩,trivial⟩ ⟨fk_Way,fk_Together,trivial⟩
  have t__law_cell_at:=λb=>(t_ready_places b).cons (HS.Qap KX G f__law_cell_at Law.QiZ Law.Qj2 M (t_ready_places b) Law.Qju)
  have t__law_base:=λb=>(t__law_cell_at b).cons (HS.Qap KX G f__law_base Law.QlK Law.Qnk M (t__law_cell_at b) Law.Qnr)
  have t__law_fits:=λb=>(t__law_base b).cons (HS.Qap KX G f__law_fits Law.Qmg Law.Qni M (t__law_base b) Law.Qnq)
  have t__law_more:=λb=>(t__law_fits b).cons (HS.Qap KX G f__law_more Law.Qlx Law.Qnv M (t__law_fits b) Law.Qnh)
  have t__law_net:=λb=>(t__law_more b).cons (HS.Qap KX G f__law_net Law.Qnl Law.Qok M (t__law_more b) Law.Qoj)
  have t__law_spans:=λb=>(t__law_net b).cons (HS.Qap KX G f__law_spans Law.QkU Law.Qmr M (t__law_net b) Law.QmN)
  have t__law_is:=λb=>(t__law_spans b).cons (HS.Qap KX G f__law_is Law.QoE Law.QpR M (t__law_spans b) Law.Qqp)
  have t__law_behind:=λb=>(t__law_is b).cons (HS.Qap KX G f__law_behind Law.Qj0 Law.QkV M (t__law_is b) Law.QkT)
  have t__law_turn:=λb=>(t__law_behind b).cons (HS.Qap KX G f__law_turn Law.Qly Law.Qnd M (t__law_behind b) Law.Qnu)
  have t__law_lists:=λb=>(t__law_turn b).cons (HS.Qap KX G f__law_lists Law.QkX Law.Qm4 M (t__law_turn b) Law.Qlv)
  have t__law_walked:=λb=>(t__law_lists b).cons (HS.Qap KX G f__law_walked Law.Qjs Law.Qk2 M (t__law_lists b) Law.QkW)
  have t__law_way:=λb=>((t__law_walked b).rise (k:=18) (by decide)).cons (HS.Qvx KX G f__law_way Law.Qnp Law.QoN M ((t__law_walked b).rise (k:=18) (by decide)) ((o2 b).mono (k:=17) (by decide)) Law.Qpa)
  have t__law_refused:=λb=>((t__law_way b).rise (k:=20) (by decide)).cons (HS.QtO KX G f__law_refused Law.QiS Law.Qj4 M (((t__law_way b).rise (k:=19) (by decide)).cons (HS.Qos KX G f_run Law.Qo6)) ((x_run b).mono (k:=20) (by decide)) hcl hsub HS.Ql4.nil Law.Qjl)
  exact HS.Qwl KX G hmg f_law Law.QwQ Law.Qyt M (λb=>((t__law_refused b).rise (k:=21) (by decide))) (λb=>((o2 b).mono (k:=20) (by decide))) Law.Qyv
