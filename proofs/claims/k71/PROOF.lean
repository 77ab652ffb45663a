import PyProof.Rows.All
import Wide.All
import OpenK.AllK
import Wide.FinOn
import Lean
import PyProof.EqAt
import PyProof.EqKinds
import PyProof.TupleCall
import PyProof.Rows.TupTab
import PyProof.DictRoadsH
import PyProof.StrWalks
import PyProof.SliceStr2
import PyProof.StrBlockI
import PyProof.StrBlockG
import PyProof.StrCalls2
import KE.KIntText
import PyProof.Rows.StrSplitMax
import PyProof.ZipIter
import PyProof.EnumMake
import PyProof.Rows.FactsT2
import PyProof.Rows.EnumRows
import PyProof.P3In
import PyProof.NeData
import KE.KUnpack
import PyProof.Rows.TupDisplay
import PyProof.Rows.SumAny
import PyProof.Rows.MinMaxN
import PyProof.Rows.ListRangeD
import PyProof.Rows.Range3
import PyProof.Rows.RuleM_int
import PyProof.Rows.SortShell
import PyProof.Rows.StrNews2
import PyProof.Rows.FStrParts
import PyProof.DictWalks
import PyProof.ListRange
import PyProof.Rows.SetFrom
import PyProof.CollectIter
import PyProof.SetRoads
import PyProof.Rows.ReprOcc
import PyProof.StrLawsIdx
import PyProof.StrLawsIn
import PyProof.StrLawsJoin
import PyProof.StrLawsTight
import PyProof.StrLawsChain
import KE.IntTextText
import KE.KTryOn
import PyProof.ExcBaseAll.ValueError
import PyProof.RulesAs
import PyProof.ExcAttrAll.ValueError
import PyProof.Rows.RegTopCatchBFacts
import KE.RegKTryMore
import KE.RegKIsAll
import KE.KPar
import PyProof.StrLawsFirst
import PySem.Challenge.RW_heapstill_k71_net_texts
set_option Elab.async false
set_option linter.all false
set_option maxRecDepth 100000
def Za:= @Option.bind_some
def Zb:= @List.mem_cons_of_mem
def Zc:= @List.length_map
def Zd:= @List.getElem?_eq_some_iff
def Ze:= @List.mem_append_right
def Zf:= @List.length_append
def Zg:= @Option.map_eq_some_iff
def Zh:= @Bool.and_eq_true
def Zi:= @List.mem_append_left
def Zj:= @Nat.le_refl
def Zk:= @List.mem_singleton
def Zl:= @List.getElem?_set_ne
def Zm:= @List.mem_cons_self
def Zn:= @List.mem_cons
def Zo:= @List.map_cons
def Zp:= @List.size_toArray
def Zq:= @List.lookup_cons
def Zr:= @List.length_cons
def Zs:= @Nat.lt_of_lt_of_le
def Zt:= @PySem.Heap.get?_push_of_some
def Zu:= @Nat.le_trans
def Zv:= @List.getElem?_set_self
def Zw:= @PySem.Heap.lt_size
def Zx:= @List.getElem?_map
def Zy:= @List.mem_append
def Zz:= @List.map_append
def ZA:= @List.mem_map
def ZC:= @PySem.Heap.get?_push_size
def ZD:= @List.getElem?_eq_none
def ZE:= @Int.toNat_natCast
def ZF:= @List.mem_of_getElem?
def ZG:= @List.length_range
def ZH:= @Bool.false_ne_true
def ZI:= @List.count_eq_zero
def ZJ:= @Nat.ne_of_lt
def ZK:= @List.replicate_succ
def ZL:= @List.drop_eq_getElem_cons
def ZM:= @List.length_replicate
def ZN:= @List.filter_append
def ZO:= @Nat.lt_irrefl
def ZP:= @List.sum_cons
def ZQ:= @List.getElem?_eq_getElem
def ZR:= @PySem.mem_of_lookup
def ZS:= @Int.toNat_of_nonneg
def ZT:= @List.append_assoc
def ZU:= @List.mem_range
def ZV:= @Option.map_some
def ZW:= @Int.emod_nonneg
def ZX:= @List.filter_cons
def ZY:= @List.getElem?_append_left
def ZZ:= @List.flatten_cons
def Zaa:= @List.count_append
def Zab:= @Int.emod_lt_of_pos
def Zac:= @Nat.zero_le
def Zad:= @List.all_eq_true
def Zae:= @Nat.pow_le_pow_right
def Zaf:= @List.map_map
def Zag:= @List.getD_eq_getElem?_getD
def Zah:= @Bool.not_eq_true'
def Zai:= @List.drop_of_length_le
def Zaj:= @List.count_pos_iff
def Zak:= @List.nodup_iff_count
def Zal:= @List.mem_filter
def Zam:= @List.append_nil
def Zan:= @List.nodup_cons
def Zao:= @Array.length_toList
def Zap:= @List.getElem?_range
def Zaq:= @PyProof.Rows.callWith_type1
def Zar:= @List.take_length
def Zas:= @List.nodup_nil
def Zat:= @List.take_append_drop
def Zau:= @List.set_eq_take_append_cons_drop
def Zav:= @List.count_cons
def Zaw:= @Nat.min_eq_left
def Zax:= @List.map_congr_left
def Zay:= @PySem.W.kia_one
def Zaz:= @List.reverse_cons
def ZaA:= @List.getElem?_zipIdx
def ZaB:= @List.length_take
def ZaC:= @List.cons_append
def ZaD:= @List.sum_append_int
def ZaE:= @List.length_set
def ZaF:= @List.mem_filterMap
def ZaG:= @Nat.le_succ
def ZaH:= @PySem.Heap.size_push
def ZaI:= @List.nodup_append
def ZaJ:= @List.length_singleton
def ZaK:= @List.not_mem_nil
def ZaL:= @List.mem_flatten
def ZaM:= @Nat.min_le_right
def ZaN:= @Int.mul_le_mul_of_nonneg_right
def ZaO:= @PySem.W.mg_of
def ZaP:= @List.map_take
def ZaQ:= @Nat.add_le_add_right
def ZaR:= @Int.add_mul
def ZaS:= @List.filterMap_cons
def ZaT:= @List.map_nil
def ZaU:= @List.getElem?_append_right
def ZaV:= @List.getElem?_eq_none_iff
def ZaW:= @Nat.lt_succ_of_lt
def ZaX:= @List.ext_getElem?
def ZaY:= @List.take_add_one
def ZaZ:= @Int.emod_eq_of_lt
def Zba:= @Option.isSome_iff_exists
def Zbb:= @Nat.lt_succ_self
def Zbc:= @List.getElem?_replicate
def Zbd:= @List.length_drop
def Zbe:= @List.foldlM_cons
def Zbf:= @PySem.F.plainAttrs_list
def Zbg:= @Classical.axiomOfChoice
def Zbh:= @List.mem_reverse
def Zbi:= @PySem.W.cellsFrom_some
def Zbj:= @PyProof.Rows.boot_list
def Zbk:= @List.append_eq_nil_iff
def Zbl:= @Int.zero_mul
def Zbm:= @List.filter_eq_nil_iff
def Zbn:= @List.take_of_length_le
def Zbo:= @List.of_mem_zip
def Zbp:= @List.foldl_cons
def Zbq:= @Bool.or_eq_true
def Zbr:= @List.nil_append
def Zbs:= @List.range_succ
def Zbt:= @Bool.false_and
def Zbu:= @Nat.log2_lt
def Zbv:= @Bool.and_false
def Zbw:= @Int.mul_nonneg
def Zbx:= @List.take_succ
def Zby:= @List.any_cons
def Zbz:= @Bool.true_and
def ZbA:= @List.map_drop
def ZbB:= @Bool.not_true
namespace L2
open PySem PySem.Spec PyProof.Rows
noncomputable abbrev Key:=Sum Int Str
noncomputable def Qqr:Key->Value->Bool
 | .inl k,v=>Value.isInt k v
 | .inr x,v=>Value.isStrOf x v
noncomputable def Qwc(w:World):Key->Int
 | .inl k=>hashInt k
 | .inr x=>hashStr w x
theorem QaD:∀{k:Key}{v:Value},Qqr k v=true->(∃i t,k=Sum.inl i/\v=Value.int i t)∨(∃x t,k=Sum.inr x/\v=Value.str x t)
 | .inl i,v,h=>by
  obtain⟨t,e⟩:=Value.isInt_shape (k:=i) (v:=v) h
  exact .inl ⟨i,t,rfl,e⟩
 | .inr x,v,h=>by
  obtain⟨t,e⟩:=Value.isStrOf_shape (x:=x) (v:=v) h
  exact .inr ⟨x,t,rfl,e⟩
theorem Qtn(a b:Int):decide ((Sum.inl a:Key)=Sum.inl b)=(a == b):=by
 by_cases e:a=b
 ·subst e;simp
 ·have h:¬(Sum.inl a:Key)=Sum.inl b:=λq=>e (Sum.inl.inj q)
  rw[decide_eq_false h]
  exact(beq_eq_false_iff_ne.mpr e).symm
theorem QtQ(a b:Str):decide ((Sum.inr a:Key)=Sum.inr b)=decide (a=b):=by
 by_cases e:a=b
 ·subst e;simp
 ·have h:¬(Sum.inr a:Key)=Sum.inr b:=λq=>e (Sum.inr.inj q)
  rw[decide_eq_false h,decide_eq_false e]
theorem QsZ(a:Int)(b:Str):decide ((Sum.inl a:Key)=Sum.inr b)=false:=decide_eq_false (λq=>nomatch q)
theorem QuM(a:Str)(b:Int):decide ((Sum.inr a:Key)=Sum.inl b)=false:=decide_eq_false (λq=>nomatch q)
noncomputable def Qik(prog:Program)(w:World):PySem.KeyKind prog w Key where
 is:=Qqr
 hash:=Qwc w
 inj:=λv a b ha hb=>by
  rcases QaD ha with⟨i,t,rfl,rfl⟩ | ⟨x,t,rfl,rfl⟩
  ·rcases QaD hb with⟨j,u,rfl,e⟩ | ⟨y,u,rfl,e⟩
   ·injection e with e1 _;rw[e1]
   ·exact nomatch e
  ·rcases QaD hb with⟨j,u,rfl,e⟩ | ⟨y,u,rfl,e⟩
   ·exact nomatch e
   ·injection e with e1 _;rw[e1]
 byValue:=λk v h=>by
  rcases QaD h with⟨i,t,rfl,rfl⟩ | ⟨x,t,rfl,rfl⟩<;>rfl
 pyHash:=λhv h=>by
  rcases QaD hv with⟨i,t,rfl,rfl⟩ | ⟨x,t,rfl,rfl⟩
  ·exact wpAny_pyHash_int h
  ·exact wpAny_pyHash_str h
 eqBool:=λhu hv h=>by
  rcases QaD hu with⟨i,t,rfl,rfl⟩ | ⟨x,t,rfl,rfl⟩
  ·rcases QaD hv with⟨j,u,rfl,rfl⟩ | ⟨y,u,rfl,rfl⟩
   ·rw[Qtn]at h;exact wpAny_eqBool_int h
   ·rw[QsZ]at h;exact SeqAt.EqAt.int_str i t y u _ _ _ _ h
  ·rcases QaD hv with⟨j,u,rfl,rfl⟩ | ⟨y,u,rfl,rfl⟩
   ·rw[QuM]at h;exact SeqAt.EqAt.str_int x t j u _ _ _ _ h
   ·rw[QtQ]at h;exact wpAny_eqBool_str h
 «strs» :=λk x t v h=>by
  rcases QaD h with⟨i,u,rfl,e⟩ | ⟨y,u,rfl,e⟩
  ·exact nomatch e
  ·injection e with e1 _
   subst e1
   cases v<;>rfl
end L2
namespace L2
open PySem PySem.Spec PyProof.Rows
inductive V where
 | non | bl (b:Bool) | int (i:Int) | str (x:Str) | byt (b:Array UInt8) | flt (b:UInt64) | ref (a:Addr) | ty (n:String)
 deriving DecidableEq
noncomputable def RelV:V->Value->Prop
 | .non,u=>u=Value.none
 | .bl b,u=>u=Value.bool b
 | .int i,u=>∃t,u=Value.int i t
 | .str x,u=>∃t,u=Value.str x t
 | .byt b,u=>∃t,u=Value.bytes b t
 | .flt b,u=>∃t,u=Value.float b t
 | .ref a,u=>u=Value.ref a
 | .ty n,u=>u=Value.type n
noncomputable abbrev Qq:List V->List Value->Prop:=Paired RelV
theorem Qq.length{xs:List V}{us:List Value}(r:Qq xs us):xs.length=us.length:=Paired.length r
theorem Qq.get:∀{xs:List V}{us:List Value}{i:Nat}{x:V},Qq xs us->xs[i]? =some x->∃u,us[i]? =some u/\RelV x u
 | _,_,_,_,.nil,e=>by simp at e
 | _,_,0,_,.cons r _,e=>by simp at e;subst e;exact⟨_,rfl,r⟩
 | _,_,i+1,x,.cons _ t,e=>by
  obtain⟨u,h1,h2⟩:=Qq.get (i:=i) (x:=x) t (by simpa using e)
  exact⟨u,by simpa using h1,h2⟩
theorem Qq.set{x:V}{u:Value}(r:RelV x u):∀{xs:List V}{us:List Value}(i:Nat),Qq xs us->Qq (xs.set i x) (us.set i u)
 | _,_,_,.nil=> .nil
 | _,_,0,.cons _ t=> .cons r t
 | _,_,i+1,.cons q t=> .cons q (Qq.set r i t)
theorem exK{α β γ δ:Type}{P Q R:α->β->γ->δ->Prop}{G:Prop}(k:∀a b c d,P a b c d->Q a b c d->R a b c d->G)(h:∃a b c d,P a b c d/\Q a b c d/\R a b c d):G:=let ⟨a,b,c,d,p,q,r⟩:=h;k a b c d p q r
theorem exJ{α β:Type}{P Q R:α->β->Prop}{G:Prop}(k:∀a b,P a b->Q a b->R a b->G)(h:∃a b,P a b/\Q a b/\R a b):G:=let ⟨a,b,p,q,r⟩:=h;k a b p q r
theorem Qq.append{xs ys:List V}{us ws:List Value}(h:Qq xs us)(s:Qq ys ws):Qq (xs++ys) (us++ws):=by
 induction h with
 | nil=>exact s
 | cons r t ih=>exact .cons r ih
theorem Qq.take:∀{xs:List V}{us:List Value}(n:Nat),Qq xs us->Qq (xs.take n) (us.take n)
 | _,_,0,_=> .nil
 | _,_,_+1,.nil=> .nil
 | _,_,n+1,.cons r t=> .cons r (Qq.take n t)
theorem Qq.drop:∀{xs:List V}{us:List Value}(n:Nat),Qq xs us->Qq (xs.drop n) (us.drop n)
 | _,_,0,r=>r
 | _,_,_+1,.nil=> .nil
 | _,_,n+1,.cons _ t=>Qq.drop n t
theorem Qq.none_of:∀{xs:List V}{us:List Value}{i:Nat},Qq xs us->xs[i]? =none->us[i]? =none:=λ{xs us i} r e=>by
 have h1:=r.length
 have h2:xs.length<=i:=ZaV.mp e
 exact ZaV.mpr (by omega)
noncomputable def Qdt:Option V->Option Value->Prop
 | some v,some u=>RelV v u
 | none,none=>True
 | _,_=>False
noncomputable def KV{κ:Type}:List (κ×V)->List (κ×Value)->Prop:=Paired λ(p:κ×V) (q:κ×Value)=>p.1=q.1/\RelV p.2 q.2
noncomputable def kV:Key->V
 | .inl i=> .int i
 | .inr x=> .str x
inductive HO where
 | lst (xs:List V)
 | tup (xs:List V)
 | dK (kvs:List (Key×V)) | dT (kvs:List (List Key×V))
 | set (S:Int->Bool) (n:Nat)
 | ins (C dx:Addr) (fs:List (Str×V))
 | own (x:Addr)
 | xd (fs:List (Str×V))
 | met (f x:Addr)
 | rng (lo hi:Int)
 | frz (o:Obj) (u:HO)
 | tbl (ps:Array Value)
 | ext (φ:Heap->Prop)
noncomputable abbrev Hp:=Addr->Option HO
noncomputable def upd(H:Hp)(a:Addr)(o:HO):Hp:=λb=>if b=a then some o else H b
theorem Qaz{H:Hp}{a:Addr}{o:HO}:upd H a o a=some o:=by unfold upd;rw[if_pos rfl]
theorem QE{H:Hp}{a b:Addr}{o:HO}(h:b≠a):upd H a o b=H b:=by unfold upd;rw[if_neg h]
theorem Qjy{H:Hp}{a b:Addr}{o u:HO}(h:H a=some o)(h':H b=some u)(d:o≠u):a≠b:=by
 intro e;subst e;rw[h]at h';exact d (Option.some.inj h')
theorem Qbh{H:Hp}{a b:Addr}{o:HO}(h:H a=some o)(h':H b=none):a≠b:=by
 intro e;subst e;rw[h]at h';cases h'
section
variable (P:Program) (w:World)
noncomputable def Qb4(H:Hp)(h:Heap)(a:Addr):HO->Prop
 | .lst xs=>xs.length<=sizeLine/\∃(its:List Value) (n:Nat),Qq xs its/\h.get? a=some {cls:= .type "list",data:= .seq its.toArray n}
 | .tup xs=>xs.length<=sizeLine/\∃its:List Value,Qq xs its/\IsTup h a its.toArray
 | .dK kvs=>kvs.length<=sizeLine/\(a == sysModules)=false/\∃vs,KV kvs vs/\h.DictOf (Qik P w) a vs
 | .dT kvs=>kvs.length<=sizeLine/\(a == sysModules)=false/\∃xs:List (List Key×Addr×Value),
   Paired (λ(p:List Key×V) (q:List Key×Addr×Value)=>p.1=q.1/\H q.2.1=some (.tup (p.1.map kV))/\RelV p.2 q.2.2) kvs xs∧
   ∃o es ep,h.get? a=some o/\o.ExactDict/\o.data= .dict es ep/\es.toList=xs.map (entryOfKey (tupleKind (Qik P w)))/\(xs.map (·.1)).Nodup
 | .set S n=>h.SetOf (intKind P w) a S n
 | .ins C dx fs=>H dx=some (.own a)/\fs.length<=1000/\dx≠a/\h.get? a=some (PySem.W.instObj C dx)∧
   ∃mA,h.Ns1 dx mA/\(∀f,Qdt (fs.lookup f) (mA f))/\PySem.Within mA (fs.map (·.1))
 | .own _=>∃o,h.get? a=some o
 | .xd fs=>∃mA,h.Ns1 a mA/\∀f,Qdt (fs.lookup f) (mA f)
 | .rng lo hi=>∃t u v,h.get? a=some {cls:= .type "range",data:= .fields #[.int lo t,.int hi u,.int 1 v]}
 | .frz o u=>h.get? a=some o/\Qb4 H h a u
 | .tbl ps=>h.get? a=some {cls:= .none,data:= .fields ps}
 | .met f x=>h.get? a=some (PySem.W.methodObj (.ref f) (.ref x))
 | .ext φ=>φ h/\(∃o,h.get? a=some o)/\∀h1 h2:Heap,φ h1->(∀o,h1.get? a=some o->h2.get? a=some o)->φ h2
def HOk(H:Hp)(h:Heap):Prop:=∀a o,H a=some o->Qb4 P w H h a o
end
section
variable {P:Program}{w:World}{H H':Hp}{h h':Heap}{a:Addr}{o:HO}
theorem Qb4.lt(x:Qb4 P w H h a o):a<h.objs.size:=by
 cases o with
 | lst xs=>obtain⟨_,_,_,_,e⟩:=x;exact Zw e
 | tup xs=>obtain⟨_,_,_,p⟩:=x;exact p.lt
 | dK kvs=>obtain⟨_,_,_,_,o,_,_,e,_⟩:=x;exact Zw e
 | dT kvs=>obtain⟨_,_,_,_,o,_,_,e,_⟩:=x;exact Zw e
 | set S n=>obtain⟨o,_,_,_,e,_⟩:=x;exact Zw e
 | ins C dx fs=>obtain⟨_,_,_,e,_⟩:=x;exact Zw e
 | own y=>obtain⟨_,e⟩:=x;exact Zw e
 | xd fs=>obtain⟨_,⟨_,_,_,e,_⟩,_⟩:=x;exact Zw e
 | rng lo hi=>obtain⟨_,_,_,e⟩:=x;exact Zw e
 | frz ob u=>obtain⟨e,_⟩:=x;exact Zw e
 | tbl ps=>exact Zw (show h.get? a=some _ from x)
 | met f y=>exact Zw (show h.get? a=some _ from x)
 | ext φ=>obtain⟨_,⟨_,e⟩,_⟩:=x;exact Zw e
theorem Paired.Qp8{α β:Type}{F G:α->β->Prop}:∀{l₁:List α}{l₂:List β},Paired F l₁ l₂->(∀a b,F a b->G a b)->Paired G l₁ l₂
 | _,_,.nil,_=> .nil
 | _,_,.cons r t,f=> .cons (f _ _ r) (Paired.Qp8 t f)
theorem Qb4.Qfq(x:Qb4 P w H h a o)(k:∀b u,(b=a∨H b=some (.own a))->h.get? b=some u->h'.get? b=some u)
  (ho:∀b,H b=some (.own a)->H' b=some (.own a)) (ht:∀b xs,H b=some (.tup xs)->H' b=some (.tup xs)):Qb4 P w H' h' a o:=by
 induction o with
 | lst xs=>obtain⟨z,its,n,r,e⟩:=x;exact⟨z,its,n,r,k _ _ (.inl rfl) e⟩
 | tup xs=>obtain⟨z,its,r,ob,e,c⟩:=x;exact⟨z,its,r,ob,k _ _ (.inl rfl) e,c⟩
 | dK kvs=>obtain⟨z,y,vs,r,ob,es,ep,e,c⟩:=x;exact⟨z,y,vs,r,ob,es,ep,k _ _ (.inl rfl) e,c⟩
 | dT kvs=>
  obtain⟨z,y,xs,r,ob,es,ep,e,c⟩:=x
  exact⟨z,y,xs,Paired.Qp8 r λp q z=>⟨z.1,ht _ _ z.2.1,z.2.2⟩,ob,es,ep,k _ _ (.inl rfl) e,c⟩
 | set S n=>obtain⟨ob,es,ep,t,e,c⟩:=x;exact⟨ob,es,ep,t,k _ _ (.inl rfl) e,c⟩
 | ins C dx fs=>
  obtain⟨d,z,ne,e,mA,⟨od,es,ep,e2,c⟩,r⟩:=x
  exact⟨ho _ d,z,ne,k _ _ (.inl rfl) e,mA,⟨od,es,ep,k _ _ (.inr d) e2,c⟩,r⟩
 | own y=>obtain⟨ob,e⟩:=x;exact⟨ob,k _ _ (.inl rfl) e⟩
 | xd fs=>obtain⟨mA,⟨od,es,ep,e,c⟩,r⟩:=x;exact⟨mA,⟨od,es,ep,k _ _ (.inl rfl) e,c⟩,r⟩
 | rng lo hi=>obtain⟨t,u,v,e⟩:=x;exact⟨t,u,v,k _ _ (.inl rfl) e⟩
 | frz ob u ih=>obtain⟨e,q⟩:=x;exact⟨k _ _ (.inl rfl) e,ih q⟩
 | tbl ps=>
  have e:h.get? a=some {cls:= .none,data:= .fields ps}:=x
  show h'.get? a=some {cls:= .none,data:= .fields ps}
  exact k a _ (.inl rfl) e
 | met f y=>
  have e:h.get? a=some (PySem.W.methodObj (.ref f) (.ref y)):=x
  show h'.get? a=some (PySem.W.methodObj (.ref f) (.ref y))
  exact k a _ (.inl rfl) e
 | ext φ=>obtain⟨p,⟨o,e⟩,st⟩:=x;exact⟨st _ _ p λo q=>k _ _ (.inl rfl) q,⟨o,k _ _ (.inl rfl) e⟩,st⟩
theorem HOk.lt(x:HOk P w H h)(e:H a=some o):a<h.objs.size:=(x a o e).lt
theorem HOk.fresh(x:HOk P w H h)(e:h.objs.size<=a):H a=none:=by
 cases q:H a with
 | none=>rfl
 | some u=>exact absurd (Zs (x.lt q) e) (ZO _)
theorem HOk.kept(x:HOk P w H h)(k:∀b u,h.get? b=some u->h'.get? b=some u):HOk P w H h':=λa o e=>
 (x a o e).Qfq (λb u _ q=>k b u q) (λ_ q=>q) λ_ _ q=>q
theorem HOk.laid(x:HOk P w H h)(k:∀b u,h.get? b=some u->h'.get? b=some u)(hp:h.objs.size<=a)(new:Qb4 P w (upd H a o) h' a o):HOk P w (upd H a o) h':=λb u e=>by
 have hn:=x.fresh hp
 by_cases hb:b=a
 ·subst hb;rw[Qaz]at e;cases e;exact new
 ·rw[QE hb]at e
  exact(x b u e).Qfq (λc v _ q=>k c v q) (λc q=>by rw[QE (Qbh q hn)];exact q) λc xs q=>by rw[QE (Qbh q hn)];exact q
end
def Rd(H:Hp)(a:Addr)(u:HO):Prop:=H a=some u∨∃o,H a=some (.frz o u)
theorem Rd.of{H:Hp}{a:Addr}{u:HO}(h:H a=some u):Rd H a u:= .inl h
theorem Rd.ok{P:Program}{w:World}{H:Hp}{h:Heap}{a:Addr}{u:HO}(r:Rd H a u)(x:HOk P w H h):Qb4 P w H h a u:=by
 rcases r with r | ⟨o,r⟩
 ·exact x a u r
 ·obtain⟨_,q⟩:=x a _ r
  exact q
noncomputable def Mut:Option HO->Prop
 | some (.lst _)=>True
 | some (.dK _)=>True
 | some (.dT _)=>True
 | some (.set _ _)=>True
 | some (.ins _ _ _)=>True
 | some (.ext _)=>True
 | _=>False
section
variable {P:Program}{w:World}{H:Hp}{h h':Heap}{x e:Addr}{o':HO}
theorem HOk.write(ok:HOk P w H h)(mu:Mut (H x))(he:e=x∨H e=some (.own x))(k:∀b u,b≠e->h.get? b=some u->h'.get? b=some u)(heo:∃u,h'.get? e=some u)
  (new:Qb4 P w (upd H x o') h' x o'):HOk P w (upd H x o') h':=λb u q=>by
 have nown:∀c y,H c=some (.own y)->c≠x:=λc y r z=>by subst z;rw[r]at mu;exact mu
 have ntup:∀c xs,H c=some (.tup xs)->c≠x:=λc xs r z=>by subst z;rw[r]at mu;exact mu
 by_cases hb:b=x
 ·subst hb;rw[Qaz]at q;cases q;exact new
 ·rw[QE hb]at q
  by_cases hbe:b=e
  ·have q':H b=some (.own x):=by
    rcases he with z | z
    ·exact absurd (hbe.trans z) hb
    ·rw[hbe];exact z
   rw[q]at q';cases q'
   obtain⟨v,hv⟩:=heo
   exact⟨v,by rw[hbe];exact hv⟩
  ·refine(ok b u q).Qfq (λc v hc r=>k c v ?_ r) (λc r=>by rw[QE (nown c b r)];exact r) λc xs r=>by rw[QE (ntup c xs r)];exact r
   rcases hc with rfl | hc
   ·exact hbe
   ·rintro rfl
    rcases he with z | z
    ·exact nown c b hc z
    ·rw[hc]at z;cases z;exact hb rfl
end
structure Un (fs ex:List Addr) (H H':Hp) (h h':Heap):Prop where
 keep:∀b o,h.get? b=some o->H b=none->b∉fs->b∉ex->h'.get? b=some o
 slot:∀b o,h.get? b=some o->H b=none->b∈fs->b∉ex->∃sl,h'.get? b=some {o with slots:=sl}
 free:∀b o,h.get? b=some o->H b=none->b∉ex->H' b=none
 there:∀b o,h.get? b=some o->b∉ex->∃o',h'.get? b=some o'
 tups:∀b xs,H b=some (.tup xs)->H' b=some (.tup xs)
 frzs:∀b o u,H b=some (.frz o u)->H' b=some (.frz o u)
 tbls:∀b ps,H b=some (.tbl ps)->∃more,H' b=some (.tbl (ps++more))
section
variable {fs fs' ex ex':List Addr}{H H1 H2:Hp}{h h1 h2 h':Heap}{a x e:Addr}{o:HO}
theorem Un.any(u:Un fs ex H H1 h h1){b:Addr}{ob:Obj}(q:h.get? b=some ob)(n:H b=none)(hx:b∉ex):∃sl,h1.get? b=some {ob with slots:=sl}:=by
 by_cases hb:b∈fs
 ·exact u.slot b ob q n hb hx
 ·exact⟨ob.slots,u.keep b ob q n hb hx⟩
theorem Un.trans(a:Un fs ex H H1 h h1)(b:Un fs ex H1 H2 h1 h2):Un fs ex H H2 h h2 where
 keep:=λc ob q n hc hx=>b.keep c ob (a.keep c ob q n hc hx) (a.free c ob q n hx) hc hx
 slot:=λc ob q n hc hx=>by
  obtain⟨sl,e1⟩:=a.slot c ob q n hc hx
  obtain⟨sl',e2⟩:=b.slot c _ e1 (a.free c ob q n hx) hc hx
  exact⟨sl',e2⟩
 free:=λc ob q n hx=>by
  obtain⟨o',e1⟩:=a.there c ob q hx
  exact b.free c o' e1 (a.free c ob q n hx) hx
 there:=λc ob q hx=>by
  obtain⟨o',e1⟩:=a.there c ob q hx
  exact b.there c o' e1 hx
 tups:=λc xs q=>b.tups c xs (a.tups c xs q)
 frzs:=λc ob xs q=>b.frzs c ob xs (a.frzs c ob xs q)
 tbls:=λc ps q=>by
  obtain⟨m1,e1⟩:=a.tbls c ps q
  obtain⟨m2,e2⟩:=b.tbls c _ e1
  exact⟨m1++m2,by rw[e2,Array.append_assoc]⟩
theorem Un.kept(k:∀b u,h.get? b=some u->h'.get? b=some u):Un fs ex H H h h':=
 ⟨λb ob q _ _ _=>k b ob q,λb ob q _ _ _=>⟨ob.slots,k b ob q⟩,λ_ _ _ n _=>n,λb ob q _=>⟨ob,k b ob q⟩,λ_ _ q=>q,λ_ _ _ q=>q,λ_ ps q=>⟨#[],by rw[q];simp⟩⟩
theorem Un.refl:Un fs ex H H h h:=Un.kept λ_ _ q=>q
theorem Un.laid(k:∀b u,h.get? b=some u->h'.get? b=some u)(hp:h.objs.size<=a)(hn:H a=none):Un fs ex H (upd H a o) h h' where
 keep:=λb u q _ _ _=>k b u q
 slot:=λb u q _ _ _=>⟨u.slots,k b u q⟩
 free:=λb u q n _=>by rw[QE (ZJ (Zs (Zw q) hp))];exact n
 there:=λb u q _=>⟨u,k b u q⟩
 tups:=λb xs q=>by rw[QE (Qbh q hn)];exact q
 frzs:=λb u xs q=>by rw[QE (Qbh q hn)];exact q
 tbls:=λb ps q=>⟨#[],by rw[QE (Qbh q hn),q];simp⟩
theorem Un.write(mu:Mut (H x))(he:e=x∨H e=some (.own x))(k:∀b u,b≠e->h.get? b=some u->h'.get? b=some u)(heo:∃u,h'.get? e=some u):Un fs ex H (upd H x o) h h':=by
 have hx:∀b,H b=none->b≠x:=λb n z=>by subst z;rw[n]at mu;exact mu
 have hb:∀b,H b=none->b≠e:=λb n z=>by
  subst z
  rcases he with r | r
  ·exact hx b n r
  ·rw[n]at r;cases r
 have hm:∀b u,H b=some u->¬Mut (some u)->b≠x:=λb u q nm z=>by subst z;rw[q]at mu;exact nm mu
 refine⟨λb u q n _ _=>k b u (hb b n) q,λb u q n _ _=>⟨u.slots,k b u (hb b n) q⟩,λb u q n _=>by rw[QE (hx b n)];exact n,λb u q _=>?_,
  λb xs q=>by rw[QE (hm b _ q λz=>z)];exact q,λb u xs q=>by rw[QE (hm b _ q λz=>z)];exact q,λb ps q=>⟨#[],by rw[QE (hm b _ q λz=>z),q];simp⟩⟩
 by_cases hbe:b=e
 ·subst hbe;exact heo
 ·exact⟨u,k b u hbe q⟩
theorem Un.mono(u:Un fs ex H H1 h h1)(hs:∀b∈fs,b∈fs')(hx:∀b∈ex,b∈ex'):Un fs' ex' H H1 h h1:=
 ⟨λb ob q n hb he=>u.keep b ob q n (λz=>hb (hs b z)) λz=>he (hx b z),λ_ _ q n _ he=>u.any q n λz=>he (hx _ z),λb ob q n he=>u.free b ob q n λz=>he (hx b z),λb ob q he=>u.there b ob q λz=>he (hx b z),u.tups,u.frzs,u.tbls⟩
end
noncomputable def trk(h:Heap)(H:Hp):List Addr:=(List.range h.objs.size).filter λa=>(H a).isSome
noncomputable def QeZ(h:Heap)(H:Hp):Heap:=PySem.W.hideAll h (trk h H)
theorem Qn0(h:Heap)(H:Hp):(QeZ h H).objs.size=h.objs.size:=PySem.W.hideAll_size _ _
theorem Qpx{h:Heap}{H:Hp}{b:Addr}{o:Obj}(e:h.get? b=some o)(n:H b=none):(QeZ h H).get? b=some o:=
 PySem.W.hideAll_get _ e λhm=>by
  have q:(H b).isSome=true:=(Zal.mp hm).2
  rw[n]at q;simp at q
theorem Qsf{h:Heap}{H:Hp}{b:Addr}{o:Obj}(e:(QeZ h H).get? b=some o):h.get? b=some o/\H b=none:=by
 have e':h.get? b=some o:=PySem.W.of_hideAll (trk h H) e
 refine⟨e',?_⟩
 cases q:H b with
 | none=>rfl
 | some x=>
  have hm:b∈trk h H:=Zal.mpr ⟨ZU.mpr (Zw e'),by simp[q]⟩
  have z:(QeZ h H).get? b=none:=PySem.W.hideAll_none (trk h H) hm
  rw[z]at e;cases e
noncomputable def Qq6(g h:Heap)(L:Addr):List (Addr×Obj):=(List.range h.objs.size).filterMap λa=>if a=L∨(g.get? a).isSome=true then none else(h.get? a).map λo=>(a,o)
noncomputable def rest(g h:Heap)(L d:Addr):List (Addr×Obj):=(Qq6 g h L).filter λp=>decide (p.1≠d)
end L2
namespace L2
open PySem PySem.Spec PyProof.Rows
structure Mod (K:PySem.W.Frag) (mg:Str->Option Value) (base:Heap):Prop where
 kin:K.In base
 glob:base.Ns mainGlobals mg
 blt:∃mb,base.Ns builtinsNs mb/\∀x:Str,x≠ "__name__" ->mb x=bootBuiltins x
 nolimit:base.NoLimit
structure Cx where
 prog:Program
 w:World
 K:PySem.W.Frag
 mg:Str->Option Value
 base:Heap
 A:Around
 N:List Str
 s₀:Shared
 H₀:Hp
 env:Env
 outer:List Env
 stack:List Env
 ex:List Addr
 fn:Str->Bool
 calm:Bool
 pn:List (Addr×Obj)
 xe:Value->Shared->Prop
noncomputable def frs(l:List Env):List Addr:=l.filterMap (·.frame)
noncomputable abbrev Cx.fs(X:Cx):List Addr:=frs X.outer
def Vis(sc:Scope)(x:Str):Prop:=sc.names.lookup x=some .local ∨sc.names.lookup x=some .cell∨sc.names.lookup x=some .free
def Loc(sc:Scope)(x:Str):Prop:=sc.names.lookup x=some .local ∨sc.names.lookup x=some .cell
def Look(env:Env)(h:Heap)(m:Str->Option Value)(x:Str)(u:Value):Prop:=
 (env.kindOf x=some .local /\m x=some u)∨((env.kindOf x=some .cell∨env.kindOf x=some .free)/\∃c,env.cells.lookup x=some c/\h.IsCell c (some u))
structure Cx.Ok (X:Cx):Prop where
 mod:Mod X.K X.mg X.base
 kind:X.env.scope.kind= .function
 glob:X.env.globals=mainGlobals
 blt:X.env.builtins=builtinsNs
 above:X.s₀.heap.objs.size<=X.env.locals
 inj:∀x y c,X.env.cells.lookup x=some c->X.env.cells.lookup y=some c->x=y
 has:∀x,(X.env.kindOf x=some .cell∨X.env.kindOf x=some .free)->∃c,X.env.cells.lookup x=some c
 cab:∀x c,X.fn x=true->X.env.cells.lookup x=some c->X.s₀.heap.objs.size<=c
 hd:X.calm=true->X.A.handled=none
 frames:X.A.frames=some X.stack
 stk:X.stack=X.outer∨(X.stack=X.env::X.outer/\X.env.frame=some X.env.locals)
 exf:∀b∈X.ex,b≠X.env.locals/\∀x c,X.env.cells.lookup x=some c->c≠b
 bs:∀b o,X.base.get? b=some o->X.s₀.heap.get? b=some o/\X.H₀ b=none
 bsz:X.base.objs.size<=X.s₀.heap.objs.size
 noex:∀b o,X.base.get? b=some o->b∉X.ex
 exfs:∀b∈X.ex,b∉X.fs
 QcI:X.s₀.heap.FunFrames X.base X.outer
 frf:∀b∈X.fs,X.H₀ b=none
structure Inv (X:Cx) (pins:List (Addr×Obj)) (σ:List (Option V)) (H:Hp) (s:Shared):Prop where
 ok:X.Ok
 os:s.os=X.s₀.os
 bare:AllBare s.gens
 base:Un X.fs X.ex X.H₀ H X.s₀.heap s.heap
 loc:∃m,s.heap.Ns X.env.locals m/\∀(i:Nat) (x:Str) (v:V),X.N[i]? =some x->σ[i]? =some (some v)->Vis X.env.scope x->∃u,RelV v u/\Look X.env s.heap m x u
 cell:∀x c,X.env.cells.lookup x=some c->∃v,s.heap.IsCell c v
 free:H X.env.locals=none
 freeC:∀x c,X.env.cells.lookup x=some c->H c=none
 pin:∀p∈X.pn++pins,s.heap.get? p.1=some p.2/\H p.1=none/\p.1≠X.env.locals/\p.1∉X.fs/\∀v,p.2.data≠ .cell v
 hok:HOk X.prog X.w H s.heap
 len:σ.length=X.N.length
section
variable {X:Cx}{pins:List (Addr×Obj)}{σ:List (Option V)}{H H':Hp}{s:Shared}{h':Heap}
theorem Cx.Ok.Qwj(ok:X.Ok){b:Addr}{o:Obj}(e:X.base.get? b=some o):b∉X.fs:=λhb=>by
 have:=(ok.QcI.mem hb).1
 rw[e]at this;cases this
theorem Inv.bs(I:Inv X pins σ H s):∀b o,X.base.get? b=some o->s.heap.get? b=some o/\H b=none:=λb o e=>
 ⟨I.base.keep b o (I.ok.bs b o e).1 (I.ok.bs b o e).2 (I.ok.Qwj e) (I.ok.noex b o e),I.base.free b o (I.ok.bs b o e).1 (I.ok.bs b o e).2 (I.ok.noex b o e)⟩
theorem Inv.bk(I:Inv X pins σ H s):∀b o,X.base.get? b=some o->s.heap.get? b=some o:=λb o e=>(I.bs b o e).1
theorem Inv.mod(I:Inv X pins σ H s):Mod X.K X.mg X.base:=I.ok.mod
theorem Inv.kIn(I:Inv X pins σ H s):X.K.In s.heap:=I.ok.mod.kin.keeps I.bk
theorem Inv.nolimit(I:Inv X pins σ H s):s.heap.NoLimit:=I.ok.mod.nolimit.keeps I.bk
theorem Inv.fr(I:Inv X pins σ H s):∃m,Fr X.base X.env.locals s.heap m:=
 let ⟨m,hn,_⟩:=I.loc
 ⟨m,hn,I.bk,Zu I.ok.bsz I.ok.above⟩
theorem Inv.lt(I:Inv X pins σ H s):X.env.locals<s.heap.objs.size:=let ⟨_,hn,_⟩:=I.loc;hn.lt
theorem Inv.sz(I:Inv X pins σ H s):X.s₀.heap.objs.size<=s.heap.objs.size:=Zu I.ok.above (Nat.le_of_lt I.lt)
theorem Inv.QwG(I:Inv X pins σ H s){a:Addr}(h:s.heap.objs.size<=a):a∉X.fs:=λhb=>by
 obtain⟨_,o,ho,_⟩:=I.ok.QcI.mem hb
 exact absurd (Zs (Zw ho) (Zu I.sz h)) (ZO _)
theorem Inv.cne(I:Inv X pins σ H s):∀x c,X.env.cells.lookup x=some c->c≠X.env.locals:=λx c e z=>by
 obtain⟨v,o,ho,hd⟩:=I.cell x c e
 obtain⟨m,⟨o',es,ep,ho',hd',_⟩,_⟩:=I.loc
 rw[z,ho']at ho;cases ho;rw[hd']at hd;cases hd
theorem Inv.QcI(I:Inv X pins σ H s):s.heap.FunFrames X.base X.outer:=by
 have all:∀(l:List Env),(∀b∈frs l,b∈X.fs)->X.s₀.heap.FunFrames X.base l->s.heap.FunFrames X.base l:=by
  intro l
  induction l with
  | nil=>intro _ _;trivial
  | cons env r ih=>
   intro hs hl
   obtain⟨hk,⟨L,o,hf,hn,ho,hd⟩,hr⟩:=hl
   have hL:L∈X.fs:=hs L (by unfold frs;rw[ZaS,hf];exact Zm)
   obtain⟨sl,e⟩:=I.base.slot L o ho (I.ok.frf L hL) hL λz=>I.ok.exfs L z hL
   exact⟨hk,⟨L,_,hf,hn,e,hd⟩,ih (λb hb=>hs b (by unfold frs;rw[ZaS,hf];exact Zb _ hb)) hr⟩
 exact all X.outer (λ_ hb=>hb) I.ok.QcI
theorem Inv.stack(I:Inv X pins σ H s):s.heap.FunFrames X.base X.stack:=by
 rcases I.ok.stk with e | ⟨e,hf⟩
 ·rw[e];exact I.QcI
 ·rw[e]
  obtain⟨m,hn,_⟩:=I.loc
  refine .cons (by rw[I.ok.kind];decide) hf hn ?_ I.QcI
  exact Heap.get?_none_of_le (Zu I.ok.bsz I.ok.above)
theorem Inv.QhC(I:Inv X pins σ H s):∀b∈frs X.stack,b∈X.env.locals::X.fs:=λb hb=>by
 rcases I.ok.stk with e | ⟨e,hf⟩
 ·rw[e]at hb;exact Zb _ hb
 ·rw[e]at hb
  unfold frs at hb
  rw[ZaS,hf]at hb
  exact hb
theorem Inv.Ql4(I:Inv X pins σ H s):∀b∈frs X.stack,H b=none:=λb hb=>by
 rcases Zn.mp (I.QhC b hb)with e | hb
 ·rw[e];exact I.free
 ·obtain⟨_,o,ho,_⟩:=I.ok.QcI.mem hb
  exact I.base.free b o ho (I.ok.frf b hb) λz=>I.ok.exfs b z hb
theorem Inv.step{g':Array GenState}{t':Nat}{d':Drawn}{ch:List Addr}(I:Inv X pins σ H s)
  (hch:∀b∈ch,(b∈X.ex∨X.s₀.heap.objs.size<=b)/\b≠X.env.locals/\(∀x c,X.env.cells.lookup x=some c->c≠b)/\∀p∈X.pn++pins,p.1≠b)
  (keep:∀b o,b≠X.env.locals->b∉X.fs->b∉ch->s.heap.get? b=some o->H b=none->h'.get? b=some o)
  (slot:∀b o,b≠X.env.locals->b∈X.fs->b∉ch->s.heap.get? b=some o->H b=none->∃sl,h'.get? b=some {o with slots:=sl}) (free:∀b o,b∉ch->s.heap.get? b=some o->H b=none->H' b=none)
  (there:∀b o,b∉ch->s.heap.get? b=some o->∃o',h'.get? b=some o')
  (tups:∀b xs,H b=some (.tup xs)->H' b=some (.tup xs)) (frzs:∀b o u,H b=some (.frz o u)->H' b=some (.frz o u)) (tbls:∀b ps,H b=some (.tbl ps)->∃more,H' b=some (.tbl (ps++more)))
  (ns:∀m,s.heap.Ns X.env.locals m->h'.Ns X.env.locals m) (hok:HOk X.prog X.w H' h') (hg:AllBare g'):
  Inv X pins σ H' {s with heap:=h',gens:=g',drawn:=d',toks:=t'}:=by
 have neL:∀b o,X.s₀.heap.get? b=some o->b≠X.env.locals:=λb o e=>ZJ (Zs (Zw e) I.ok.above)
 have neC:∀b o,X.s₀.heap.get? b=some o->b∉X.ex->b∉ch:=λb o e hx hb=>by
  rcases(hch b hb).1 with z | z
  ·exact hx z
  ·exact absurd (Zs (Zw e) z) (ZO _)
 have cellK:∀x c,X.env.cells.lookup x=some c->∀v,s.heap.IsCell c v->h'.IsCell c v:=λx c e v hpt=>by
  obtain⟨o,ho,hd⟩:=hpt
  have nch:c∉ch:=λz=>(hch c z).2.2.1 x c e rfl
  by_cases hc:c∈X.fs
  ·obtain⟨sl,q⟩:=slot c o (I.cne x c e) hc nch ho (I.freeC x c e)
   exact⟨_,q,hd⟩
  ·exact⟨o,keep c o (I.cne x c e) hc nch ho (I.freeC x c e),hd⟩
 refine⟨I.ok,I.os,hg,⟨λb o e n hb hx=>?_,λb o e n hb hx=>?_,λb o e n hx=>?_,λb o e hx=>?_,λb xs e=>tups b xs (I.base.tups b xs e),λb o xs e=>frzs b o xs (I.base.frzs b o xs e),λb ps e=>?_⟩,?_,λx c e=>?_,?_,λx c e=>?_,λp hp=>?_,hok,I.len⟩
 ·exact keep b o (neL b o e) hb (neC b o e hx) (I.base.keep b o e n hb hx) (I.base.free b o e n hx)
 ·obtain⟨sl,e1⟩:=I.base.slot b o e n hb hx
  obtain⟨sl',e2⟩:=slot b _ (neL b o e) hb (neC b o e hx) e1 (I.base.free b o e n hx)
  exact⟨sl',e2⟩
 ·obtain⟨o',e1⟩:=I.base.there b o e hx
  exact free b o' (neC b o e hx) e1 (I.base.free b o e n hx)
 ·obtain⟨o',e1⟩:=I.base.there b o e hx
  exact there b o' (neC b o e hx) e1
 ·obtain⟨m1,e1⟩:=I.base.tbls b ps e
  obtain⟨m2,e2⟩:=tbls b _ e1
  exact⟨m1++m2,by rw[e2,Array.append_assoc]⟩
 ·obtain⟨m,hn,hl⟩:=I.loc
  refine⟨m,ns m hn,λi x v e1 e2 e3=>?_⟩
  obtain⟨u,r,l⟩:=hl i x v e1 e2 e3
  refine⟨u,r,?_⟩
  rcases l with l | ⟨k,c,e,z⟩
  ·exact .inl l
  ·exact .inr ⟨k,c,e,cellK x c e _ z⟩
 ·obtain⟨v,z⟩:=I.cell x c e
  exact⟨v,cellK x c e v z⟩
 ·obtain⟨m,⟨o,_,_,ho,_⟩,_⟩:=I.loc
  exact free _ o (λz=>(hch _ z).2.1 rfl) ho I.free
 ·obtain⟨v,o,ho,hd⟩:=I.cell x c e
  exact free c o (λz=>(hch c z).2.2.1 x c e rfl) ho (I.freeC x c e)
 ·obtain⟨e,n,ne,nf,d⟩:=I.pin p hp
  have nch:p.1∉ch:=λz=>(hch p.1 z).2.2.2 p hp rfl
  exact⟨keep p.1 p.2 ne nf nch e n,free p.1 p.2 nch e n,ne,nf,d⟩
theorem Inv.un{t':Nat}(I:Inv X pins σ H s)(u:Un X.fs [] H H' s.heap h')(hok:HOk X.prog X.w H' h'):Inv X pins σ H' {s with heap:=h',toks:=t'}:=by
 obtain⟨m,⟨o,es,ep,ho,r⟩,_⟩:=id I.loc
 obtain⟨sl,hL⟩:=u.any ho I.free (by simp)
 exact I.step (g':=s.gens) (d':=s.drawn) (ch:=[]) (λ_ z=>nomatch z) (λb o _ hb _ e n=>u.keep b o e n hb (by simp)) (λb o _ hb _ e n=>u.slot b o e n hb (by simp)) (λb o _ e n=>u.free b o e n (by simp)) (λb o _ e=>u.there b o e (by simp)) u.tups u.frzs u.tbls (λm' hm=>by
  obtain⟨o',es',ep',ho',r'⟩:=hm
  rw[ho]at ho';cases ho'
  exact⟨_,es',ep',hL,r'⟩) hok I.bare
theorem Inv.call{g':Array GenState}{t':Nat}{d':Drawn}{ch:List Addr}(I:Inv X pins σ H s)(u:Un (frs X.stack) ch H H' s.heap h')(hok:HOk X.prog X.w H' h')(hg:AllBare g')
  (hch:∀b∈ch,(b∈X.ex∨X.s₀.heap.objs.size<=b)/\b≠X.env.locals/\(∀x c,X.env.cells.lookup x=some c->c≠b)/\∀p∈X.pn++pins,p.1≠b):
  Inv X pins σ H' {s with heap:=h',gens:=g',drawn:=d',toks:=t'}:=by
 obtain⟨m,⟨o,es,ep,ho,r⟩,_⟩:=id I.loc
 obtain⟨sl,hL⟩:=u.any ho I.free λz=>(hch _ z).2.1 rfl
 exact I.step (ch:=ch) hch (λb o hL hb hc e n=>u.keep b o e n (λz=>(Zn.mp (I.QhC b z)).elim hL hb) hc) (λb o _ _ hc e n=>u.any e n hc) (λb o hc e n=>u.free b o e n hc) (λb o hc e=>u.there b o e hc) u.tups u.frzs u.tbls (λm' hm=>by
  obtain⟨o',es',ep',ho',r'⟩:=hm
  rw[ho]at ho';cases ho'
  exact⟨_,es',ep',hL,r'⟩) hok hg
theorem Inv.turned{t':Nat}{it:Addr}(I:Inv X pins σ H s)(k:∀b o,b≠it->s.heap.get? b=some o->h'.get? b=some o)(hn:H it=none)(hL:it≠X.env.locals)
  (h1:it∈X.ex∨X.s₀.heap.objs.size<=it) (h2:∀x c,X.env.cells.lookup x=some c->c≠it) (h3:∀p∈X.pn++pins,p.1≠it):Inv X pins σ H {s with heap:=h',toks:=t'}:=by
 have nit:∀b u,H b=some u->b≠it:=λb u e z=>by rw[z,hn]at e;cases e
 refine I.step (g':=s.gens) (d':=s.drawn) (ch:=[it]) (λb hb=>?_) (λb o _ _ hc e _=>k b o (λz=>hc (by simp[z])) e) (λb o _ _ hc e _=>⟨o.slots,k b o (λz=>hc (by simp[z])) e⟩) (λ_ _ _ _ n=>n)
  (λb o hc e=>⟨o,k b o (λz=>hc (by simp[z])) e⟩) (λ_ _ e=>e) (λ_ _ _ e=>e) (λb ps e=>⟨#[],by rw[e];simp⟩) (λm hm=>?_) (λb u e=>?_) I.bare
 ·have e:b=it:=by simpa using hb
  subst e
  exact⟨h1,hL,h2,h3⟩
 ·obtain⟨o,es,ep,ho,r⟩:=hm
  exact⟨o,es,ep,k _ o (Ne.symm hL) ho,r⟩
 ·refine(I.hok b u e).Qfq (λc v hc q=>k c v ?_ q) (λ_ q=>q) λ_ _ q=>q
  rcases hc with z | z
  ·rw[z];exact nit b u e
  ·exact nit c _ z
theorem Inv.tok(I:Inv X pins σ H s)(t:Nat):Inv X pins σ H {s with toks:=t}:=I.un (h':=s.heap) (t':=t) Un.refl I.hok
theorem Inv.kept{t':Nat}(I:Inv X pins σ H s)(k:∀b u,s.heap.get? b=some u->h'.get? b=some u):Inv X pins σ H {s with heap:=h',toks:=t'}:=I.un (Un.kept k) (I.hok.kept k)
theorem Inv.laid{a:Addr}{o:HO}{t':Nat}(I:Inv X pins σ H s)(k:∀b u,s.heap.get? b=some u->h'.get? b=some u)(hp:s.heap.objs.size<=a)(new:Qb4 X.prog X.w (upd H a o) h' a o):
  Inv X pins σ (upd H a o) {s with heap:=h',toks:=t'}:=I.un (Un.laid k hp (I.hok.fresh hp)) (I.hok.laid k hp new)
theorem Inv.write{x e:Addr}{o:HO}{t':Nat}(I:Inv X pins σ H s)(mu:Mut (H x))(he:e=x∨H e=some (.own x))(k:∀b u,b≠e->s.heap.get? b=some u->h'.get? b=some u)(heo:∃u,h'.get? e=some u)
  (new:Qb4 X.prog X.w (upd H x o) h' x o):Inv X pins σ (upd H x o) {s with heap:=h',toks:=t'}:=I.un (Un.write mu he k heo) (I.hok.write mu he k heo new)
theorem Inv.weak{σ':List (Option V)}(I:Inv X pins σ H s)(hl:σ'.length=σ.length)(w:∀(i:Nat) v,σ'[i]? =some (some v)->σ[i]? =some (some v)):Inv X pins σ' H s:=
 ⟨I.ok,I.os,I.bare,I.base,let ⟨m,hn,hl'⟩:=I.loc;⟨m,hn,λi x v e1 e2 e3=>hl' i x v e1 (w i v e2) e3⟩,I.cell,I.free,I.freeC,I.pin,I.hok,hl.trans I.len⟩
theorem Inv.Ql3{pins':List (Addr×Obj)}(I:Inv X pins σ H s)(h:∀p∈pins',s.heap.get? p.1=some p.2/\H p.1=none/\p.1≠X.env.locals/\p.1∉X.fs/\∀v,p.2.data≠ .cell v):Inv X pins' σ H s:=
 ⟨I.ok,I.os,I.bare,I.base,I.loc,I.cell,I.free,I.freeC,λp hp=>(Zy.mp hp).elim (λz=>I.pin p (Zi _ z)) (h p),I.hok,I.len⟩
theorem QkA{N:List Str}(hN:N.Nodup){i j:Nat}{x:Str}(a:N[i]? =some x)(b:N[j]? =some x):i=j:=by
 obtain⟨h1,e1⟩:=Zd.mp a
 obtain⟨h2,e2⟩:=Zd.mp b
 exact(List.getElem_inj hN).mp (e1.trans e2.symm)
theorem Qjf{M:Model}{A:Around}{E:Value->Shared->Prop}{i:Nat}{x:Str}{v:V}{u:Value}{Q:Unit->Shared->Prop}(I:Inv X pins σ H s)(hN:X.N.Nodup)(hi:X.N[i]? =some x)(hx:Loc X.env.scope x)(r:RelV v u)
  (h:∀s',Inv X pins (σ.set i (some v)) H s'->(∃a,Heap.SameBut a s.heap s'.heap/\(a=X.env.locals∨X.env.cells.lookup x=some a))->Q () s') (hf:X.fn x=true∨X.env.scope.names.lookup x=some .local :=by first | exact .inl rfl | exact .inr rfl | assumption):wpAny M A (storeName X.env x u) Q E s:=by
 obtain⟨m,hn,hl⟩:=id I.loc
 have hcls:(X.env.scope.kind == .class || (X.env.scope.kind == .module && X.env.locals != X.env.globals))=false:=by rw[I.ok.kind];rfl
 have hiσ:i<σ.length:=by rw[I.len];exact(Zd.mp hi).1
 have cne:=I.cne
 have tracked:∀{a:Addr}{h':Heap},(∃o,s.heap.get? a=some o/\H a=none)->Heap.SameBut a s.heap h'->HOk X.prog X.w H h':=λ{a h'} ha hs b ob e=>by
  obtain⟨_,_,hfree⟩:=ha
  refine(I.hok b ob e).Qfq (λc w' hc q=>(hs.2 c ?_).trans q) (λ_ q=>q) λ_ _ q=>q
  rintro rfl
  rcases hc with rfl | hc
  ·rw[hfree]at e;cases e
  ·rw[hfree]at hc;cases hc
 rcases hx with hk | hk
 ·refine wpAny_storeName_local hk hn (λh' hn' hs=>?_) hcls
  obtain⟨oL,_,_,hoL,_⟩:=id hn
  refine h _ ⟨I.ok,I.os,I.bare,⟨λb o e n hb hx=>?_,λb o e n hb hx=>?_,I.base.free,λb o e hx=>?_,I.base.tups,I.base.frzs,I.base.tbls⟩,⟨_,hn',λj y v' e1 e2 e3=>?_⟩,λy c e=>?_,I.free,I.freeC,λp hp=>?_,tracked ⟨oL,hoL,I.free⟩ hs,by simpa using I.len⟩ ⟨_,hs,.inl rfl⟩
  ·exact(hs.2 b (ZJ (Zs (Zw e) I.ok.above))).trans (I.base.keep b o e n hb hx)
  ·obtain⟨sl,e1⟩:=I.base.slot b o e n hb hx
   exact⟨sl,(hs.2 b (ZJ (Zs (Zw e) I.ok.above))).trans e1⟩
  ·obtain⟨o',e1⟩:=I.base.there b o e hx
   exact⟨o',(hs.2 b (ZJ (Zs (Zw e) I.ok.above))).trans e1⟩
  ·by_cases hj:j=i
   ·subst hj
    rw[hi]at e1;cases e1
    rw[Zv hiσ]at e2
    cases e2
    exact⟨u,r,.inl ⟨hk,by simp⟩⟩
   ·rw[Zl (Ne.symm hj)]at e2
    obtain⟨u',r',q⟩:=hl j y v' e1 e2 e3
    refine⟨u',r',?_⟩
    rcases q with⟨k,e⟩ | ⟨k,c,e,z⟩
    ·refine .inl ⟨k,?_⟩
     have:y≠x:=λe=>hj (QkA hN e1 (e▸hi))
     simp[this,e]
    ·exact .inr ⟨k,c,e,z.sameBut hs (cne y c e)⟩
  ·obtain⟨w',z⟩:=I.cell y c e
   exact⟨w',z.sameBut hs (cne y c e)⟩
  ·obtain⟨e,n,ne,nf,d⟩:=I.pin p hp
   exact⟨(hs.2 p.1 ne).trans e,n,ne,nf,d⟩
 ·have hfn:X.fn x=true:=by
   rcases hf with z | z
   ·exact z
   ·rw[z]at hk;cases hk
  obtain⟨c,hc⟩:=I.ok.has x (.inl hk)
  obtain⟨w',z⟩:=I.cell x c hc
  refine wpAny_storeName_cell I.ok.kind hk hc z (λh' hc' hs=>?_)
  obtain⟨oc,hoc,hocd⟩:=id z
  refine h {s with heap:=h'} ⟨I.ok,I.os,I.bare,⟨λb o e n hb hx=>?_,λb o e n hb hx=>?_,I.base.free,λb o e hx=>?_,I.base.tups,I.base.frzs,I.base.tbls⟩,⟨m,hn.sameBut hs (Ne.symm (cne x c hc)),λj y v' e1 e2 e3=>?_⟩,λy c' e=>?_,I.free,I.freeC,λp hp=>?_,tracked ⟨oc,hoc,I.freeC x c hc⟩ hs,by simpa using I.len⟩ ⟨c,hs,.inr hc⟩
  ·exact(hs.2 b (ZJ (Zs (Zw e) (I.ok.cab x c hfn hc)))).trans (I.base.keep b o e n hb hx)
  ·obtain⟨sl,e1⟩:=I.base.slot b o e n hb hx
   exact⟨sl,(hs.2 b (ZJ (Zs (Zw e) (I.ok.cab x c hfn hc)))).trans e1⟩
  ·obtain⟨o',e1⟩:=I.base.there b o e hx
   exact⟨o',(hs.2 b (ZJ (Zs (Zw e) (I.ok.cab x c hfn hc)))).trans e1⟩
  ·by_cases hj:j=i
   ·subst hj
    rw[hi]at e1;cases e1
    rw[Zv hiσ]at e2
    cases e2
    exact⟨u,r,.inr ⟨.inl hk,c,hc,hc'⟩⟩
   ·rw[Zl (Ne.symm hj)]at e2
    obtain⟨u',r',q⟩:=hl j y v' e1 e2 e3
    refine⟨u',r',?_⟩
    rcases q with q | ⟨k,c',e,z'⟩
    ·exact .inl q
    ·refine .inr ⟨k,c',e,z'.sameBut hs ?_⟩
     rintro rfl
     exact hj (QkA hN e1 (I.ok.inj _ _ _ e hc▸hi))
  ·by_cases hcc:c'=c
   ·subst hcc;exact⟨_,hc'⟩
   ·obtain⟨w2,z2⟩:=I.cell y c' e
    exact⟨w2,z2.sameBut hs hcc⟩
  ·obtain⟨e,n,ne,nf,d⟩:=I.pin p hp
   refine⟨(hs.2 p.1 ?_).trans e,n,ne,nf,d⟩
   intro q
   rw[q,hoc]at e
   have q':oc=p.2:=Option.some.inj e
   exact d w' (by rw[← q'];exact hocd)
theorem QgD{M:Model}{A:Around}{E:Value->Shared->Prop}{i:Nat}{x:Str}{v:V}{u:Value}{Q:Unit->Shared->Prop}(I:Inv X pins σ H s)(hN:X.N.Nodup)(hi:X.N[i]? =some x)(hx:Loc X.env.scope x)(r:RelV v u)
  (h:∀s',Inv X pins (σ.set i (some v)) H s'->Q () s') (hf:X.fn x=true∨X.env.scope.names.lookup x=some .local :=by first | exact .inl rfl | exact .inr rfl | assumption):wpAny M A (storeName X.env x u) Q E s:=
 Qjf I hN hi hx r (λs' I' _=>h s' I') hf
theorem Inv.Qvu{s':Shared}{ch:List Addr}(I:Inv X pins σ H s)(ho:s'.os=s.os)(u:Un (frs X.stack) ch H H' s.heap s'.heap)(hok:HOk X.prog X.w H' s'.heap)(hg:AllBare s'.gens)
  (hch:∀b∈ch,(b∈X.ex∨X.s₀.heap.objs.size<=b)/\b≠X.env.locals/\(∀x c,X.env.cells.lookup x=some c->c≠b)/\∀p∈X.pn++pins,p.1≠b):Inv X pins σ H' s':=by
 obtain⟨h',g',d',t',o'⟩:=s'
 have e:o'=s.os:=ho
 subst e
 exact I.call (g':=g') (t':=t') (d':=d') u hok hg hch
end
noncomputable abbrev XK:=Value->Option Addr->Hp->Prop
noncomputable abbrev St:=List (Option V)
noncomputable abbrev VK:=V->Hp->Prop
noncomputable abbrev TE:=St->Hp->VK->Prop
noncomputable abbrev TT:=St->Hp->(Bool->Hp->Prop)->Prop
noncomputable abbrev TA:=St->Hp->(List V->Hp->Prop)->Prop
structure Ends where
 nx:St->Hp->Prop
 rt:VK
 bk:St->Hp->Prop:=λ_ _=>False
 ct:St->Hp->Prop:=λ_ _=>False
noncomputable abbrev TS:=Ends->St->Hp->Prop
def EP(X:Cx)(pins:List (Addr×Obj))(σ:St)(Q:VK)(u:Value)(s':Shared):Prop:=∃v H',Inv X pins σ H' s'/\RelV v u/\Q v H'
def TP(X:Cx)(pins:List (Addr×Obj))(σ:St)(Q:Bool->Hp->Prop)(b:Bool)(s':Shared):Prop:=∃H',Inv X pins σ H' s'/\Q b H'
def AP(X:Cx)(pins:List (Addr×Obj))(σ:St)(Q:List V->Hp->Prop)(us:List Value)(s':Shared):Prop:=∃vs H',Inv X pins σ H' s'/\Qq vs us/\Q vs H'
def SP(X:Cx)(pins:List (Addr×Obj))(D:Ends)(f:Flow)(s':Shared):Prop:=
 match f with
 | .next=>∃σ' H',Inv X pins σ' H' s'/\D.nx σ' H'
 | .brk=>∃σ' H',Inv X pins σ' H' s'/\D.bk σ' H'
 | .cont=>∃σ' H',Inv X pins σ' H' s'/\D.ct σ' H'
 | .ret u=>∃v σ' H',Inv X pins σ' H' s'/\RelV v u/\D.rt v H'
def PE(X:Cx)(e:Expr)(t:TE):Prop:=
 ∀(pins:List (Addr×Obj)) (s:Shared) (σ:St) (H:Hp) (Q:VK),Inv X pins σ H s->t σ H Q->wpAny (model X.prog X.w) X.A (eval e X.env) (EP X pins σ Q) X.xe s
def PT(X:Cx)(e:Expr)(t:TT):Prop:=
 ∀(pins:List (Addr×Obj)) (s:Shared) (σ:St) (H:Hp) (Q:Bool->Hp->Prop),Inv X pins σ H s->t σ H Q->wpAny (model X.prog X.w) X.A (isTrue e X.env (eval e X.env)) (TP X pins σ Q) X.xe s
def PW(X:Cx)(e:Expr)(t:TT):Prop:=
 ∀(whole:Sem Value) (pins:List (Addr×Obj)) (s:Shared) (σ:St) (H:Hp) (Q:Bool->Hp->Prop),Inv X pins σ H s->t σ H Q->wpAny (model X.prog X.w) X.A (isTrue e X.env whole) (TP X pins σ Q) X.xe s
theorem PW.pt{X:Cx}{e:Expr}{t:TT}(h:PW X e t):PT X e t:=h _
def PA(X:Cx)(es:List Expr)(t:TA):Prop:=
 ∀(pos:Pos) (pins:List (Addr×Obj)) (s:Shared) (σ:St) (H:Hp) (Q:List V->Hp->Prop),Inv X pins σ H s->t σ H Q->wpAny (model X.prog X.w) X.A (spliced (backTo pos (starEach es X.env))) (AP X pins σ Q) X.xe s
def PS(X:Cx)(st:Stmt)(t:TS):Prop:=
 ∀(pins:List (Addr×Obj)) (s:Shared) (σ:St) (H:Hp) (D:Ends),Inv X pins σ H s->t D σ H->wpAny (model X.prog X.w) X.A (exec st X.env) (SP X pins D) X.xe s
def PSs(X:Cx)(st:List Stmt)(t:TS):Prop:=
 ∀(pins:List (Addr×Obj)) (s:Shared) (σ:St) (H:Hp) (D:Ends),Inv X pins σ H s->t D σ H->wpAny (model X.prog X.w) X.A (execs st X.env) (SP X pins D) X.xe s
theorem thn{α:Type}{t:Sem α}{Q Q':α->Shared->Prop}{M:Model}{A:Around}{E:Value->Shared->Prop}{s:Shared}(h:wpAny M A t Q E s)(hQ:∀a s,Q a s->Q' a s):wpAny M A t Q' E s:=wpAny_mono h hQ λ_ _ x=>x
end L2
namespace L2
open PySem PySem.Spec PyProof.Rows
section
variable {X:Cx}
noncomputable def QeA(i:Nat):TE:=λσ H Q=>∃v,σ[i]? =some (some v)/\Q v H
noncomputable def tC(v:V):TE:=λ_ H Q=>Q v H
theorem Qtm{i:Nat}{x:Str}{pos:Pos}(hN:X.N[i]? =some x)(hv:Vis X.env.scope x)(hd:(x == ("__debug__" :Str))=false:=by decide)(hcd:(x == ("__classdict__" :Str))=false:=by decide):PE X (.Name x pos) (QeA i):=by
 intro pins s σ H Q I h
 obtain⟨v,e,h⟩:=h
 obtain⟨m,hn,hl⟩:=I.loc
 obtain⟨u,r,l⟩:=hl i x v hN e hv
 have fin:EP X pins σ Q u s:=⟨v,H,I,r,h⟩
 rcases l with⟨hk,hm⟩ | ⟨hk,c,hc,hcell⟩
 ·exact wpAny_Name (wpAny_loadName_local I.ok.kind hk hn hm fin) hd
 ·rcases hk with hk | hk
  ·exact wpAny_Name (wpAny_loadName_cell I.ok.kind hk hc hcell fin) hd
  ·exact wpAny_Name (wpAny_loadName_free I.ok.kind hk hc hcell fin hcd) hd
theorem QtA{i j pos}:PE X (.Constant (.int i) j pos) (tC (.int i)):=λ_ _ _ H _ I h=>wpAny_Constant_int ⟨.int i,H,I.tok _,⟨_,rfl⟩,h⟩
theorem Qvr{b j pos}:PE X (.Constant (.bool b) j pos) (tC (.bl b)):=λ_ _ _ H _ I h=>Constant_bool ⟨.bl b,H,I,rfl,h⟩
theorem QuI{j pos}:PE X (.Constant .none j pos) (tC .non):=λ_ _ _ H _ I h=>Constant_none ⟨.non,H,I,rfl,h⟩
theorem QtG{x j pos}:PE X (.Constant (.str x) j pos) (tC (.str x)):=λ_ _ _ H _ I h=>Calls.Constant_str ⟨.str x,H,I.tok _,⟨_,rfl⟩,h⟩
def Gl(X:Cx)(x:Str):Prop:=X.env.kindOf x=some .globalImplicit
theorem Qis{E:Value->Shared->Prop}{pins:List (Addr×Obj)}{s:Shared}{σ:St}{H:Hp}{x:Str}{u:Value}{pos:Pos}{Q:Value->Shared->Prop}(I:Inv X pins σ H s)(hg:Gl X x)(hm:X.mg x=some u)(h:Q u s)
  (hd:(x == ("__debug__" :Str))=false:=by decide):wpAny (model X.prog X.w) X.A (eval (.Name x pos) X.env) Q E s:=
 Calls.Name_function_global I.ok.kind hg (Calls.loadGlobal_global (by rw[I.ok.glob];exact I.mod.glob.keeps I.bk) hm h) hd
theorem QeR{E:Value->Shared->Prop}{pins:List (Addr×Obj)}{s:Shared}{σ:St}{H:Hp}{x:Str}{u:Value}{pos:Pos}{Q:Value->Shared->Prop}(I:Inv X pins σ H s)(hg:Gl X x)(hm:X.mg x=none)(hv:bootBuiltins x=some u)(h:Q u s)
  (hn:x≠ "__name__" :=by decide) (hd:(x == ("__debug__" :Str))=false:=by decide):wpAny (model X.prog X.w) X.A (eval (.Name x pos) X.env) Q E s:=by
 obtain⟨mb,h1,h2⟩:=I.mod.blt
 exact Calls.Name_function_global I.ok.kind hg (Calls.loadGlobal_builtin (by rw[I.ok.glob];exact I.mod.glob.keeps I.bk) hm (by rw[I.ok.blt];exact h1.keeps I.bk) ((h2 x hn).trans hv) h) hd
theorem QlQ{x:Str}{v:V}{u:Value}{pos:Pos}(hg:Gl X x)(hm:X.mg x=some u)(r:RelV v u)(hd:(x == ("__debug__" :Str))=false:=by decide):PE X (.Name x pos) (tC v):=
 λ_ _ _ H _ I h=>Qis I hg hm ⟨v,H,I,r,h⟩ hd
theorem QeD{x:Str}{v:V}{u:Value}{pos:Pos}(hg:Gl X x)(hm:X.mg x=none)(hv:bootBuiltins x=some u)(r:RelV v u)(hn:x≠ "__name__" :=by decide)(hd:(x == ("__debug__" :Str))=false:=by decide):PE X (.Name x pos) (tC v):=
 λ_ _ _ H _ I h=>QeR I hg hm hv ⟨v,H,I,r,h⟩ hn hd
variable {a b:Expr}{ta tb:TE}{pos:Pos}
variable {tA tB':TT}{rest:List Expr}
noncomputable def Qwk(t u:TT):TT:=λσ H Q=>t σ H λc H1=>if c=true then u σ H1 Q else Q false H1
noncomputable def tOr(t u:TT):TT:=λσ H Q=>t σ H λc H1=>if c=true then Q true H1 else u σ H1 Q
noncomputable def Qv3(t:TT):TT:=λσ H Q=>t σ H λc H1=>Q (!c) H1
theorem Qso(ha:PT X a tA):PW X (.BoolOp .And [a] pos) tA:=by
 intro wh pins s σ H Q I h
 refine isTrue_and (thn (ha pins s σ H Q I h) λc s1 e=>?_)
 cases c with
 | true=>exact isTrue_and_nil e
 | false=>exact e
theorem QtR(ha:PT X a tA):PW X (.BoolOp .Or [a] pos) tA:=by
 intro wh pins s σ H Q I h
 refine isTrue_or (thn (ha pins s σ H Q I h) λc s1 e=>?_)
 cases c with
 | false=>exact isTrue_or_nil e
 | true=>exact e
theorem Qua(ha:PT X a tA)(hb:PW X (.BoolOp .And (b::rest) pos) tB'):PW X (.BoolOp .And (a::b::rest) pos) (Qwk tA tB'):=by
 intro wh pins s σ H Q I h
 refine isTrue_and (thn (ha pins s σ H _ I h) λc s1 hpt=>?_)
 obtain⟨H1,I1,q1⟩:=hpt
 cases c with
 | true=>exact hb wh pins s1 σ H1 Q I1 q1
 | false=>exact⟨H1,I1,q1⟩
theorem Qvl(ha:PT X a tA)(hb:PW X (.BoolOp .Or (b::rest) pos) tB'):PW X (.BoolOp .Or (a::b::rest) pos) (tOr tA tB'):=by
 intro wh pins s σ H Q I h
 refine isTrue_or (thn (ha pins s σ H _ I h) λc s1 hpt=>?_)
 obtain⟨H1,I1,q1⟩:=hpt
 cases c with
 | true=>exact⟨H1,I1,q1⟩
 | false=>exact hb wh pins s1 σ H1 Q I1 q1
theorem Quk(ha:PT X a tA):PT X (.UnaryOp .Not a pos) (Qv3 tA):=by
 intro pins s σ H Q I h
 exact isTrue_not (ha pins s σ H (λc H1=>Q (!c) H1) I h)
theorem QtO{op}{t:TE}(h:PE X a t):PE X (.BoolOp op [a] pos) t:=λpins s σ H Q I hw=>BoolOp_one (h pins s σ H Q I hw)
noncomputable def tIf(t:TT)(ta tb:TE):TE:=λσ H Q=>t σ H λc H1=>if c=true then ta σ H1 Q else tb σ H1 Q
theorem QkM{c:Expr}(hc:PT X c tA)(ha:PE X a ta)(hb:PE X b tb):PE X (.IfExp c a b pos) (tIf tA ta tb):=by
 intro pins s σ H Q I h
 refine wpAny_IfExp (thn (hc pins s σ H _ I h) λd s1 hpt=>?_)
 obtain⟨H1,I1,q1⟩:=hpt
 cases d with
 | true=>exact ha pins s1 σ H1 Q I1 q1
 | false=>exact hb pins s1 σ H1 Q I1 q1
end
end L2
namespace L2
open PySem PySem.Spec PyProof.Rows
def SqL(K:PySem.W.Frag)(H:Hp)(a:Addr)(xs:List V):Prop:=
 Rd H a (.lst xs)∨
  ∃(o:Obj) (its:Array Value) (n:Nat),K.lookup a=some o/\o.cls= .type "list" /\o.dict=none/\o.data= .seq its n/\its.size<=sizeLine/\Qq xs its.toList
def SqT(K:PySem.W.Frag)(H:Hp)(a:Addr)(xs:List V):Prop:=
 Rd H a (.tup xs)∨
  ∃(o:Obj) (its:Array Value) (n:Nat),K.lookup a=some o/\o.cls= .type "tuple" /\o.data= .seq its n/\its.size<=sizeLine/\Qq xs its.toList
noncomputable def QwI:Value->Option V
 | .none=>some .non
 | .bool b=>some (.bl b)
 | .int i _=>some (.int i)
 | .str x _=>some (.str x)
 | .bytes b _=>some (.byt b)
 | .float b _=>some (.flt b)
 | .ref a=>some (.ref a)
 | .type n=>some (.ty n)
 | _=>none
theorem RelV.abs{x:V}{u:Value}(r:RelV x u):QwI u=some x:=by
 cases x with
 | non=>cases r;rfl
 | bl _=>cases r;rfl
 | int _=>obtain⟨t,rfl⟩:=r;rfl
 | str _=>obtain⟨t,rfl⟩:=r;rfl
 | byt _=>obtain⟨t,rfl⟩:=r;rfl
 | flt _=>obtain⟨t,rfl⟩:=r;rfl
 | ref _=>cases r;rfl
 | ty _=>cases r;rfl
theorem RelV.inj{x y:V}{u:Value}(r:RelV x u)(q:RelV y u):x=y:=Option.some.inj (r.abs.symm.trans q.abs)
theorem Qq.inj:∀{xs ys:List V}{us:List Value},Qq xs us->Qq ys us->xs=ys
 | _,_,_,.nil,.nil=>rfl
 | _,_,_,.cons r t,.cons r' t'=>by rw[r.inj r',Qq.inj t t']
section
variable {X:Cx}{pins:List (Addr×Obj)}{σ:St}{H:Hp}{s:Shared}{a:Addr}{xs ys:List V}
theorem SqL.of{K:PySem.W.Frag}(h:H a=some (.lst xs)):SqL K H a xs:= .inl (.inl h)
theorem SqT.of{K:PySem.W.Frag}(h:H a=some (.tup xs)):SqT K H a xs:= .inl (.inl h)
theorem Inv.list(I:Inv X pins σ H s)(h:SqL X.K H a xs):∃its:List Value,Qq xs its/\PlainL s.heap a its.toArray/\xs.length<=sizeLine:=by
 rcases h with h | ⟨o,its,n,hk,hc,hd,hs,hz,r⟩
 ·obtain⟨z,its,n,r,e⟩:=h.ok I.hok
  exact⟨its,r,⟨_,n,e,rfl,rfl,rfl⟩,z⟩
 ·refine⟨its.toList,r,⟨o,n,I.kIn a o hk,hc,hd,by simpa using hs⟩,?_⟩
  have e:=r.length
  simp only[Zao]at e
  omega
theorem Inv.tuple(I:Inv X pins σ H s)(h:SqT X.K H a xs):∃its:List Value,Qq xs its/\IsTup s.heap a its.toArray/\xs.length<=sizeLine:=by
 rcases h with h | ⟨o,its,n,hk,hc,hs,hz,r⟩
 ·obtain⟨z,its,r,p⟩:=h.ok I.hok
  exact⟨its,r,p,z⟩
 ·refine⟨its.toList,r,⟨o,I.kIn a o hk,hc,n,by simpa using hs⟩,?_⟩
  have e:=r.length
  simp only[Zao]at e
  omega
theorem Inv.Qfa(I:Inv X pins σ H s)(h:SqL X.K H a xs)(h':SqL X.K H a ys):xs=ys:=by
 obtain⟨its,r,⟨o,n,e,_,_,d⟩,_⟩:=I.list h
 obtain⟨its',r',⟨o',n',e',_,_,d'⟩,_⟩:=I.list h'
 rw[e]at e';cases e'
 rw[d]at d'
 injection d' with d1 _
 have:its=its':=by simpa using congrArg Array.toList d1
 subst this
 exact r.inj r'
theorem Inv.QnF(I:Inv X pins σ H s)(h:SqT X.K H a xs)(h':SqT X.K H a ys):xs=ys:=by
 obtain⟨its,r,⟨o,e,_,n,d⟩,_⟩:=I.tuple h
 obtain⟨its',r',⟨o',e',_,n',d'⟩,_⟩:=I.tuple h'
 rw[e]at e';cases e'
 rw[d]at d'
 injection d' with d1 _
 have:its=its':=by simpa using congrArg Array.toList d1
 subst this
 exact r.inj r'
end
noncomputable abbrev Cx.Qc5(X:Cx)(E:Value->Shared->Prop):Cx:={X with xe:=E}
noncomputable abbrev Cx.nox(X:Cx):Cx:=X.Qc5 λ_ _=>False
theorem Cx.Ok.Qc5{X:Cx}(ok:X.Ok)(E:Value->Shared->Prop):(X.Qc5 E).Ok:=
 ⟨ok.mod,ok.kind,ok.glob,ok.blt,ok.above,ok.inj,ok.has,ok.cab,ok.hd,ok.frames,ok.stk,ok.exf,ok.bs,ok.bsz,ok.noex,ok.exfs,ok.QcI,ok.frf⟩
theorem Cx.Ok.QcD{X:Cx}{E:Value->Shared->Prop}(ok:(X.Qc5 E).Ok):X.Ok:=
 ⟨ok.mod,ok.kind,ok.glob,ok.blt,ok.above,ok.inj,ok.has,ok.cab,ok.hd,ok.frames,ok.stk,ok.exf,ok.bs,ok.bsz,ok.noex,ok.exfs,ok.QcI,ok.frf⟩
section
variable {X:Cx}{pins:List (Addr×Obj)}{σ:St}{H:Hp}{s:Shared}{E:Value->Shared->Prop}
theorem Inv.Qc5(I:Inv X pins σ H s)(E:Value->Shared->Prop):Inv (X.Qc5 E) pins σ H s:=⟨I.ok.Qc5 E,I.os,I.bare,I.base,I.loc,I.cell,I.free,I.freeC,I.pin,I.hok,I.len⟩
theorem Inv.QcD(I:Inv (X.Qc5 E) pins σ H s):Inv X pins σ H s:=⟨I.ok.QcD,I.os,I.bare,I.base,I.loc,I.cell,I.free,I.freeC,I.pin,I.hok,I.len⟩
theorem SP.QcD{D:Ends}{f:Flow}{s':Shared}(h:SP (X.Qc5 E) pins D f s'):SP X pins D f s':=by
 cases f with
 | next=>obtain⟨σ',H',I,q⟩:=h;exact⟨σ',H',I.QcD,q⟩
 | brk=>obtain⟨σ',H',I,q⟩:=h;exact⟨σ',H',I.QcD,q⟩
 | cont=>obtain⟨σ',H',I,q⟩:=h;exact⟨σ',H',I.QcD,q⟩
 | ret u=>obtain⟨v,σ',H',I,r,q⟩:=h;exact⟨v,σ',H',I.QcD,r,q⟩
theorem PE.nox{e:Expr}{t:TE}(h:PE X.nox e t):PE X e t:=λpins s σ H Q I hw=>
 wpAny_mono (h pins s σ H Q (I.Qc5 _) hw) (λ_ _ ⟨v,H',I',r,q⟩=>⟨v,H',I'.QcD,r,q⟩) λ_ _ z=>False.elim z
theorem PT.nox{e:Expr}{t:TT}(h:PT X.nox e t):PT X e t:=λpins s σ H Q I hw=>
 wpAny_mono (h pins s σ H Q (I.Qc5 _) hw) (λ_ _ ⟨H',I',q⟩=>⟨H',I'.QcD,q⟩) λ_ _ z=>False.elim z
theorem PSs.nox{st:List Stmt}{t:TS}(h:PSs X.nox st t):PSs X st t:=λpins s σ H D I hw=>
 wpAny_mono (h pins s σ H D (I.Qc5 _) hw) (λ_ _ q=>q.QcD) λ_ _ z=>False.elim z
end
section
variable {X:Cx}{st:Stmt}{rest:List Stmt}{t u:TS}{e:Expr}{te:TE}{pos:Pos}
noncomputable def Qmt:TS:=λD σ H=>D.nx σ H
noncomputable def Qwn(t u:TS):TS:=λD σ H=>t {D with nx:=u D} σ H
theorem QrP:PSs X [] Qmt:=λ_ _ σ H _ I h=>wpAny_execs_nil ⟨σ,H,I,h⟩
theorem QgJ(h1:PS X st t)(h2:PSs X rest u):PSs X (st::rest) (Qwn t u):=by
 intro pins s σ H D I h
 refine wpAny_execs_cons (thn (h1 pins s σ H {D with nx:=u D} I h) λf s1 q=>?_)
 cases f with
 | next=>
  obtain⟨σ',H',I',q⟩:=q
  exact h2 pins s1 σ' H' D I' q
 | ret v=>exact q
 | brk=>exact q
 | cont=>exact q
noncomputable def Qtp:TS:=λD σ H=>D.bk σ H
noncomputable def Qvw:TS:=λD σ H=>D.ct σ H
theorem QrT:PS X (.Pass pos) Qmt:=λ_ _ σ H _ I h=>wpAny_Pass ⟨σ,H,I,h⟩
theorem Qqa:PS X (.Break pos) Qtp:=λ_ _ σ H _ I h=>wpAny_Break ⟨σ,H,I,h⟩
theorem Qlv:PS X (.Continue pos) Qvw:=λ_ _ σ H _ I h=>wpAny_Continue ⟨σ,H,I,h⟩
theorem Inv.quiet{pins:List (Addr×Obj)}{σ:St}{H:Hp}{s:Shared}(I:Inv X pins σ H s):interactive X.env=false:=by simp[interactive,I.ok.kind]
theorem Quy{x j pos pos'}:PS X (.Expr (.Constant (.str x) j pos) pos') Qmt:=λ_ s σ H _ I h=>wpAny_Expr (Calls.Constant_str (show SP X _ _ .next {s with toks:=s.toks+1}from⟨σ,H,I.tok _,h⟩)) I.quiet
noncomputable def Qe8(te:TE):TS:=λD σ H=>te σ H λ_ H1=>D.nx σ H1
theorem Qib(he:PE X e te)(hs:swapsWith e none pos.line X.env=pure false:=by rfl):PS X (.Expr e pos) (Qe8 te):=by
 intro pins s σ H D I h
 exact wpAny_Expr_any (thn (he pins s σ H _ I h) λv s1 ⟨x,H1,I1,r1,q1⟩=>⟨σ,H1,I1,q1⟩) I.quiet hs
noncomputable def Qwl(te:TE):TS:=λD σ H=>te σ H D.rt
theorem Qty(he:PE X e te):PS X (.Return (some e) pos) (Qwl te):=by
 intro pins s σ H D I h
 exact wpAny_Return_some (thn (he pins s σ H _ I h) λv s1 ⟨x,H1,I1,r1,q1⟩=>⟨x,σ,H1,I1,r1,q1⟩)
noncomputable def Qvc:TS:=λD _ H=>D.rt .non H
theorem Qsl:PS X (.Return none pos) Qvc:=λ_ _ σ H _ I h=>wpAny_Return_none ⟨.non,σ,H,I,rfl,h⟩
noncomputable def Qv7(c:TT)(t u:TS):TS:=λD σ H=>c σ H λb H1=>if b=true then t D σ H1 else u D σ H1
theorem Qvq{c:Expr}{a b:List Stmt}{tc:TT}(hc:PT X c tc)(ha:PSs X a t)(hb:PSs X b u):PS X (.If c a b pos) (Qv7 tc t u):=by
 intro pins s σ H D I h
 refine wpAny_If (thn (hc pins s σ H _ I h) λd s1 hpt=>?_)
 obtain⟨H1,I1,q1⟩:=hpt
 cases d with
 | true=>exact ha pins s1 σ H1 D I1 q1
 | false=>exact hb pins s1 σ H1 D I1 q1
noncomputable def Qun:TS:=λ_ _ _=>False
theorem QpC:PS X st Qun:=λ_ _ _ _ _ _ h=>h.elim
end
noncomputable abbrev TG:=V->St->Hp->(St->Hp->Prop)->Prop
noncomputable abbrev TGs:=List V->St->Hp->(St->Hp->Prop)->Prop
def PG(X:Cx)(target:Expr)(t:TG):Prop:=
 ∀(pins:List (Addr×Obj)) (s:Shared) (σ:St) (H:Hp) (v:V) (u:Value) (Q:St->Hp->Prop),Inv X pins σ H s->RelV v u->t v σ H Q→
  wpAny (model X.prog X.w) X.A (assign target X.env u) (λ_ s'=>∃σ' H',Inv X pins σ' H' s'/\Q σ' H') X.xe s
def PGs(X:Cx)(ts:List Expr)(t:TGs):Prop:=
 ∀(pins:List (Addr×Obj)) (s:Shared) (σ:St) (H:Hp) (vs:List V) (us:List Value) (Q:St->Hp->Prop),Inv X pins σ H s->Qq vs us->t vs σ H Q→
  wpAny (model X.prog X.w) X.A (assignInOrder ((assignEach ts X.env).map (·.2)) us) (λ_ s'=>∃σ' H',Inv X pins σ' H' s'/\Q σ' H') X.xe s
noncomputable abbrev QkG:=V->V->V->Hp->(Hp->Prop)->Prop
def Qpb(X:Cx)(t:QkG):Prop:=
 ∀(pins:List (Addr×Obj)) (s:Shared) (σ:St) (H:Hp) (o i v:V) (ov iv u:Value) (Q:Hp->Prop),Inv X pins σ H s->RelV o ov->RelV i iv->RelV v u->t o i v H Q→
  wpAny (model X.prog X.w) X.A (setItem ov iv u) (λ_ s'=>∃H',Inv X pins σ H' s'/\Q H') X.xe s
noncomputable abbrev TIp:=V->V->Hp->VK->Prop
def PIp(X:Cx)(op:Operator)(t:TIp):Prop:=
 ∀(pins:List (Addr×Obj)) (s:Shared) (σ:St) (H:Hp) (x y:V) (v u:Value) (Q:VK),Inv X pins σ H s->RelV x v->RelV y u->t x y H Q→
  wpAny (model X.prog X.w) X.A (inplaceOp op v u) (EP X pins σ Q) X.xe s
section
variable {X:Cx}{pos:Pos}
noncomputable def Qei(i:Nat):TG:=λv σ H Q=>Q (σ.set i (some v)) H
theorem QlU{i:Nat}{x:Str}(hN:X.N.Nodup)(hi:X.N[i]? =some x)(hx:Loc X.env.scope x)(hf:X.fn x=true∨X.env.scope.names.lookup x=some .local :=by first | exact .inl rfl | exact .inr rfl | assumption):PG X (.Name x pos) (Qei i):=by
 intro pins s σ H v u Q I r h
 exact wpAny_assign_Name (QgD I hN hi hx r (λs' I'=>⟨_,H,I',h⟩) hf)
noncomputable def QtE:TGs:=λvs σ H Q=>vs=[]/\Q σ H
noncomputable def QqE(t:TG)(u:TGs):TGs:=λvs σ H Q=>∃v r,vs=v::r/\t v σ H λσ' H'=>u r σ' H' Q
theorem QqO:PGs X [] QtE:=by
 intro pins s σ H vs us Q I r h
 obtain⟨e,h⟩:=h
 subst e
 cases r
 exact assignInOrder_nil ⟨σ,H,I,h⟩
theorem Qo4{e:Expr}{es:List Expr}{t:TG}{u:TGs}(h1:PG X e t)(h2:PGs X es u)
  (hs:(assignEach (e::es) X.env).map (·.2)=assign e X.env::(assignEach es X.env).map (·.2):=by rfl):PGs X (e::es) (QqE t u):=by
 intro pins s σ H vs us Q I r h
 obtain⟨v,vr,e1,h⟩:=h
 subst e1
 cases r with
 | cons r rr=>
  rw[hs]
  refine assignInOrder_cons (thn (h1 pins s σ H _ _ _ I r h) λ_ s1 hpt=>?_)
  obtain⟨σ1,H1,I1,q1⟩:=hpt
  exact h2 pins s1 σ1 H1 _ _ Q I1 rr q1
noncomputable def Qv2(K:PySem.W.Frag)(n:Nat)(t:TGs):TG:=λv σ H Q=>∃a xs,v= .ref a/\SqT K H a xs/\xs.length=n/\t xs σ H Q
theorem Qus{es:List Expr}{k:Nat}{t:TGs}{n:Nat}(hc:X.calm=true)(h:PGs X es t)
  (hn:(assignEach es X.env).length=n:=by rfl) (hst:(assignEach es X.env).findIdx? (·.1)=none:=by rfl):PG X (.Tuple es k pos) (Qv2 X.K n t):=by
 intro pins s σ H v u Q I r hw
 obtain⟨a,xs,e1,hq,hl,hw⟩:=hw
 subst e1
 cases r
 obtain⟨its,rv,ht,hz⟩:=I.tuple hq
 refine assign_Tuple_tuple (I.ok.hd hc) ht (by simp[hn,← hl,rv.length]) hst λh' hx=>?_
 have I1:Inv X pins σ H {s with heap:=h'}:=I.kept (t':=s.toks) λb o e=>hx b o (ZJ (Zw e)) e
 exact h pins _ σ H xs _ Q I1 (by simpa using rv) hw
noncomputable def Qev(to ti:TE)(t:QkG):TG:=λv σ H Q=>to σ H λo H1=>ti σ H1 λi H2=>t o i v H2 λH3=>Q σ H3
theorem QuN{o i:Expr}{to ti:TE}{t:QkG}(ho:PE X o to)(hi:PE X i ti)(hs:Qpb X t)
  (ha:∀v,assign (.Subscript o i pos) X.env v=(do
   let ov ← holding [v] (eval o X.env)
   let iv ← holding [v,ov] (eval i X.env)
   standAt pos
   holding [v,ov,iv] (setItem ov iv v)
   release [v,ov,iv] []):=by intro _;rfl):PG X (.Subscript o i pos) (Qev to ti t):=by
 intro pins s σ H v u Q I r h
 rw[ha]
 refine wpAny_bind (wpAny_holding (thn (ho pins s σ H _ I h) λov s1=>exJ λx H1 I1 r1 q1=>?_))
 refine wpAny_bind (wpAny_holding (thn (hi pins s1 σ H1 _ I1 q1) λiv s2=>exJ λy H2 I2 r2 q2=>?_))
 refine wpAny_bind (wpAny_standAt (wpAny_bind (wpAny_holding (thn (hs pins s2 σ H2 x y v ov iv u _ I2 r1 r2 r q2) λ_ s3 hpt=>?_))))
 obtain⟨H3,I3,q3⟩:=hpt
 exact wpAny_release ⟨σ,H3,I3,q3⟩
noncomputable def Qix(te:TE)(g:TG):TS:=λD σ H=>te σ H λx H1=>g x σ H1 D.nx
theorem QtD{tg e:Expr}{te:TE}{g:TG}(he:PE X e te)(hg:PG X tg g)(hs:swapsWithSole [tg] e pos.line X.env=pure false:=by rfl)(hw:swappedStores [tg] e X.env=pure none:=by rfl)
  (h1:(assignEach [tg] X.env).map (·.2)=[assign tg X.env]:=by rfl):PS X (.Assign [tg] e pos) (Qix te g):=by
 intro pins s σ H D I h
 refine wpAny_Assign_stores (thn (he pins s σ H _ I h) λv s1 ⟨x,H1,I1,r1,q1⟩=>?_) hs hw
 rw[h1]
 exact thn (hg pins s1 σ H1 x v _ I1 r1 q1) λ_ s2 q=>q
theorem Qhk{i:Nat}{x:Str}{e:Expr}{te:TE}{pos':Pos}(hN:X.N.Nodup)(hi:X.N[i]? =some x)(hx:Loc X.env.scope x)(he:PE X e te)(hs:swapsWith e (some (.Name x pos')) pos.line X.env=pure false:=by rfl)(hf:X.fn x=true∨X.env.scope.names.lookup x=some .local :=by first | exact .inl rfl | exact .inr rfl | assumption):
  PS X (.Assign [.Name x pos'] e pos) (Qix te (Qei i)):=by
 intro pins s σ H D I h
 refine wpAny_Assign_Name (thn (he pins s σ H _ I h) λv s1 ⟨y,H1,I1,r1,q1⟩=>?_) hs
 exact QgD I1 hN hi hx r1 (λs2 I2=>⟨_,H1,I2,q1⟩) hf
noncomputable def QtX(i:Nat)(te:TE)(ti:TIp):TS:=λD σ H=>∃x,σ[i]? =some (some x)/\te σ H λy H1=>ti x y H1 λz H2=>D.nx (σ.set i (some z)) H2
theorem Qs3{i:Nat}{x:Str}{e:Expr}{te:TE}{op:Operator}{ti:TIp}{pos':Pos}(hN:X.N.Nodup)(hi:X.N[i]? =some x)(hx:Loc X.env.scope x)(he:PE X e te)(ho:PIp X op ti)(hf:X.fn x=true∨X.env.scope.names.lookup x=some .local :=by first | exact .inl rfl | exact .inr rfl | assumption):
  PS X (.AugAssign (.Name x pos') op e pos) (QtX i te ti):=by
 intro pins s σ H D I h
 obtain⟨v,e1,h⟩:=h
 obtain⟨m,hn,hl⟩:=I.loc
 have vis:Vis X.env.scope x:=by rcases hx with k | k;exact .inl k;exact .inr (.inl k)
 obtain⟨u,r,l⟩:=hl i x v hi e1 vis
 refine wpAny_AugAssign_Name ?_
 have go:wpAny (model X.prog X.w) X.A (eval e X.env) (λw s₂=>wpAny (model X.prog X.w) X.A (inplaceOp op u w) (λr s₃=>wpAny (model X.prog X.w) X.A (storeName X.env x r) (λ_=>SP X pins D .next) X.xe s₃) X.xe s₂) X.xe s:=by
  refine thn (he pins s σ H _ I h) λw s1=>exJ λy H1 I1 r1 q1=>?_
  refine thn (ho pins s1 σ H1 v y u w _ I1 r r1 q1) λz s2=>exJ λzv H2 I2 r2 q2=>?_
  exact QgD I2 hN hi hx r2 (λs3 I3=>⟨_,H2,I3,q2⟩) hf
 rcases l with⟨hk,hm⟩ | ⟨hk,c,hc,hcell⟩
 ·exact wpAny_loadName_local I.ok.kind hk hn hm go
 ·rcases hk with hk | hk
  ·exact wpAny_loadName_cell I.ok.kind hk hc hcell go
  ·rcases hx with k | k
   ·have:X.env.scope.names.lookup x=some .free:=hk
    rw[k]at this;cases this
   ·have:X.env.scope.names.lookup x=some .free:=hk
    rw[k]at this;cases this
noncomputable def Qvm(to ti te:TE)(tget:V->V->Hp->VK->Prop)(tip:TIp)(tset:QkG):TS:=λD σ H=>to σ H λo H1=>ti σ H1 λi H2=>tget o i H2 λx H3=>te σ H3 λy H4=>tip x y H4 λz H5=>tset o i z H5 λH6=>D.nx σ H6
def QsO(X:Cx)(t:V->V->Hp->VK->Prop):Prop:=
 ∀(pins:List (Addr×Obj)) (s:Shared) (σ:St) (H:Hp) (o i:V) (ov iv:Value) (Q:VK),Inv X pins σ H s->RelV o ov->RelV i iv->t o i H Q→
  wpAny (model X.prog X.w) X.A (getItem ov iv) (EP X pins σ Q) X.xe s
theorem Qrh{o i e:Expr}{to ti te:TE}{tget:V->V->Hp->VK->Prop}{tip:TIp}{tset:QkG}{op:Operator}{tpos:Pos}(ho:PE X o to)(hi:PE X i ti)(hg:QsO X tget)(he:PE X e te)(hp:PIp X op tip)(hs:Qpb X tset)
  (ha:∀ov iv new,augStore i ov iv new=(do holding [new,ov,iv] (setItem ov iv new);release [new,ov,iv] [];pure .next):=by intros;rfl):PS X (.AugAssign (.Subscript o i tpos) op e pos) (Qvm to ti te tget tip tset):=by
 intro pins s σ H D I h
 refine wpAny_AugAssign_SubscriptAny (thn (ho pins s σ H _ I h) λov s1 ⟨x1,H1,I1,r1,q1⟩=>?_) ha
 refine thn (hi pins s1 σ H1 _ I1 q1) λiv s2=>exJ λx2 H2 I2 r2 q2=>?_
 refine thn (hg pins s2 σ H2 x1 x2 ov iv _ I2 r1 r2 q2) λold s3=>exJ λx3 H3 I3 r3 q3=>?_
 refine thn (he pins s3 σ H3 _ I3 q3) λv s4=>exJ λx4 H4 I4 r4 q4=>?_
 refine thn (hp pins s4 σ H4 x3 x4 old v _ I4 r3 r4 q4) λnew s5=>exJ λx5 H5 I5 r5 q5=>?_
 exact thn (hs pins s5 σ H5 x1 x2 x5 ov iv new _ I5 r1 r2 r5 q5) λ_ s6 ⟨H6,I6,q6⟩=>⟨σ,H6,I6,q6⟩
end
section
variable {X:Cx}{pos:Pos}
noncomputable def Qs7(c:TT)(tb:TS):TS:=λD σ H=>∃W:Nat->St->Hp->Prop,(∃m,W m σ H)/\∀m σ H,W m σ H→
 c σ H λb H1=>if b=true then ∃N:St->Hp->Prop,(∀σ' H',N σ' H'->∃m',m'<m/\W m' σ' H')/\tb {D with nx:=N,ct:=N,bk:=D.nx} σ H1 else D.nx σ H1
theorem Qo1{c:Expr}{body:List Stmt}{tc:TT}{tb:TS}(hp:PassesOwn (model X.prog X.w) X.A X.env X.xe)(hc:PT X c tc)(hb:PSs X body tb):PS X (.While c body [] pos) (Qs7 tc tb):=by
 intro pins s σ H D I h
 obtain⟨W,⟨m0,w0⟩,turn⟩:=h
 refine wpAny_While (codeAny_whileLoop (λn s'=>∃σ' H',Inv X pins σ' H' s'/\W n σ' H') ?_ m0 ⟨σ,H,I,w0⟩)
 rintro n s1 ⟨σ1,H1,I1,w1⟩
 refine wpAny_passesOwn hp (thn (hc pins s1 σ1 H1 _ I1 (turn n σ1 H1 w1)) λb s2 hpt=>?_)
 obtain⟨H2,I2,q2⟩:=hpt
 cases b with
 | true=>
  obtain⟨N,hN,q2⟩:=q2
  rw[if_pos rfl]
  refine wpAny_passesOwn hp (thn (hb pins s2 σ1 H2 _ I2 q2) λf s3 q3=>?_)
  cases f with
  | next=>
   obtain⟨σ3,H3,I3,n3⟩:=q3
   obtain⟨m',hm,w3⟩:=hN σ3 H3 n3
   exact⟨m',hm,σ3,H3,I3,w3⟩
  | cont=>
   obtain⟨σ3,H3,I3,n3⟩:=q3
   obtain⟨m',hm,w3⟩:=hN σ3 H3 n3
   exact⟨m',hm,σ3,H3,I3,w3⟩
  | brk=>exact q3
  | ret v=>exact q3
 | false=>
  rw[if_neg ZH]
  exact wpAny_execs_nil ⟨σ1,H2,I2,q2⟩
end
structure It where
 go:Nat->Hp->Prop
 yld:Nat->Hp->V->Hp->Prop
 stop:Nat->Hp->Prop
def QcS(X:Cx)(pins:List (Addr×Obj))(H:Hp)(b:Addr):Prop:=
 H b=none/\b≠X.env.locals/\b∉X.fs/\(b∈X.ex∨X.s₀.heap.objs.size<=b)/\(∀x c,X.env.cells.lookup x=some c->c≠b)/\∀p∈X.pn++pins,p.1≠b
theorem Inv.Qh4{X:Cx}{pins:List (Addr×Obj)}{σ:St}{H H':Hp}{s:Shared}{b:Addr}(I:Inv X pins σ H s)(hb:s.heap.objs.size<=b)(hn:H' b=none):QcS X pins H' b:=by
 refine⟨hn,Nat.ne_of_gt (Zs I.lt hb),I.QwG hb,.inr (Zu I.sz hb),λx c e z=>?_,λp hp z=>?_⟩
 ·obtain⟨v,q⟩:=I.cell x c e
  exact absurd (Zs q.lt (by rw[z];exact hb)) (ZO _)
 ·exact absurd (Zs (Zw (I.pin p hp).1) (by rw[z];exact hb)) (ZO _)
structure Turn (P:Program) (w:World) (K:PySem.W.Frag) (tg:Expr) (J:It) (fp:List Addr) (it:Addr) (tn:Nat->Heap->Prop):Prop where
 mem:it∈fp
 obj:∀i h,tn i h->∀b∈fp,∃o,h.get? b=some o/\∀v,o.data≠ .cell v
 keep:∀i h h',tn i h->(∀b∈fp,∀o,h.get? b=some o->h'.get? b=some o)->tn i h'
 item:∀(X:Cx),X.prog=P->X.w=w->X.K=K->X.calm=true->∀(i:Nat) (pins:List (Addr×Obj)) (s:Shared) (σ:St) (H:Hp) (E:Value->Shared->Prop),Inv X pins σ H s->(∀b∈fp,QcS X pins H b)->tn i s.heap->J.go i H→
  wpAny (model P w) X.A (pyNext (.ref it)) (λr s1=>∃u,r=some u∧
   wpAny (model P w) X.A (letOwnedTupleGo tg (.ref it) u) (λ_ s2=>∃x H',Inv X pins σ H' s2/\RelV x u/\J.yld i H x H'/\tn (i+1) s2.heap/\∀b∈fp,H' b=none) E s1) E s
 done:∀(X:Cx),X.prog=P->X.w=w->X.K=K->X.calm=true->∀(i:Nat) (pins:List (Addr×Obj)) (s:Shared) (σ:St) (H:Hp) (E:Value->Shared->Prop),Inv X pins σ H s->(∀b∈fp,QcS X pins H b)->tn i s.heap->J.stop i H→
  wpAny (model P w) X.A (pyNext (.ref it)) (λr s1=>r=none/\Inv X pins σ H s1) E s
 self:∀(A:Around) (i:Nat) (s:Shared) (Q:Value->Shared->Prop) (E:Value->Shared->Prop),tn i s.heap->Q (.ref it) s->wpAny (model P w) A (pyIter (.ref it)) Q E s
noncomputable abbrev TI:=St->Hp->(It->Hp->Prop)->Prop
def PIE(X:Cx)(pins:List (Addr×Obj))(σ:St)(tg:Expr)(R:It->Hp->Prop)(itv:Value)(s2:Shared):Prop:=
 ∃(it:Addr) (fp:List Addr) (tn:Nat->Heap->Prop) (J:It) (H':Hp),itv= .ref it/\Inv X pins σ H' s2/\Turn X.prog X.w X.K tg J fp it tn/\tn 0 s2.heap/\(∀b∈fp,QcS X pins H' b)/\R J H'
def PI(X:Cx)(tg iter:Expr)(wi:TI):Prop:=
 ∀(pins:List (Addr×Obj)) (s:Shared) (σ:St) (H:Hp) (R:It->Hp->Prop),Inv X pins σ H s->wi σ H R→
  wpAny (model X.prog X.w) X.A (eval iter X.env) (λv s1=>wpAny (model X.prog X.w) X.A (pyIter v) (PIE X pins σ tg R) X.xe s1) X.xe s
theorem QjF{M:Model}{A:Around}{E:Value->Shared->Prop}{s:Shared}{tg:Expr}{it:Addr}{u:Value}{o:Obj}{n:String}{vs:Array Value}{Q:Unit->Shared->Prop}(ho:s.heap.get? it=some o)(hc:o.cls= .type n)(hd:o.data= .fields vs)
    (hn:["enumerate","zip","dict_itemiterator","dict_reverseitemiterator","odict_iterator","itertools.zip_longest","itertools.pairwise"].contains n=false) (hQ:Q () s):wpAny M A (letOwnedTupleGo tg (.ref it) u) Q E s:=by
  unfold letOwnedTupleGo
  cases tg<;>first
    | exact wpAny_pure hQ
    | (cases u<;>first
        | exact wpAny_pure hQ
        | (refine wpAny_bind (wpAny_load ho ?_)
           rw[hc,hd]
           show wpAny M A (if(["enumerate","zip","dict_itemiterator","dict_reverseitemiterator","odict_iterator","itertools.zip_longest","itertools.pairwise"].contains n && vs[0]? == some (rawInt _))=true then _ else _) Q E s
           rw[if_neg (by intro h;rw[hn,Zbt]at h;cases h)]
           exact wpAny_pure hQ))
noncomputable def Itl(K:PySem.W.Frag)(a:Addr):It:=
 ⟨λi H=>∃xs x,SqL K H a xs/\xs[i]? =some x,λi H x H'=>H'=H/\∀xs,SqL K H a xs->xs[i]? =some x,λi H=>∃xs,SqL K H a xs/\xs.length<=i⟩
noncomputable def Itt(K:PySem.W.Frag)(a:Addr):It:=
 ⟨λi H=>∃xs x,SqT K H a xs/\xs[i]? =some x,λi H x H'=>H'=H/\∀xs,SqT K H a xs->xs[i]? =some x,λi H=>∃xs,SqT K H a xs/\xs.length<=i⟩
noncomputable def Itr(lo:Int)(n:Nat):It:=⟨λi _=>i<n,λi H x H'=>H'=H/\x= .int (lo+i),λi _=>n<=i⟩
theorem Qod{P:Program}{w:World}{K:PySem.W.Frag}{tg:Expr}(a it:Addr):Turn P w K tg (Itl K a) [it] it (λi h=>h.IsListIter it a i) where
 mem:=by simp
 obj:=λi h st b hb=>by
  have e:b=it:=by simpa using hb
  subst e
  obtain⟨o,e,c,d⟩:=st
  exact⟨o,e,λv z=>by rw[d]at z;cases z⟩
 keep:=λi h h' st k=>st.at λo e=>k it (by simp) o e
 item:=by
  intro X hP hw hK hc i pins s σ H E I hf st hg
  subst hP hw hK
  obtain⟨xs,x,hq,hx⟩:=hg
  obtain⟨its,rv,p,hz⟩:=I.list hq
  obtain⟨u,hu,ru⟩:=rv.get hx
  obtain⟨f0,f1,f2,f3,f4,f5⟩:=hf it (by simp)
  refine wpAny_pyNext_list_item st p.isList (x:=u) (by simpa using hu) λh' st' sb=>?_
  have I1:Inv X pins σ H {s with heap:=h'}:=I.turned (t':=s.toks) (λb o hb e=>(sb.2 b hb).trans e) f0 f1 f3 f4 f5
  obtain⟨o,e,c,d⟩:=id st'
  exact⟨u,rfl,QjF (s:={s with heap:=h'}) e c d (by decide) ⟨x,H,I1,ru,⟨rfl,λys hy=>by rw[I.Qfa hy hq];exact hx⟩,st',λb hb=>(hf b hb).1⟩⟩
 done:=by
  intro X hP hw hK hc i pins s σ H E I hf st hg
  subst hP hw hK
  obtain⟨xs,hq,hx⟩:=hg
  obtain⟨its,rv,p,hz⟩:=I.list hq
  obtain⟨f0,f1,f2,f3,f4,f5⟩:=hf it (by simp)
  have hl:=rv.length
  exact wpAny_pyNext_list_end (I.ok.hd hc) st p.isList (by simp;omega) λh' eb=>⟨rfl,I.turned (t':=s.toks) (λb o hb e=>eb b o hb e) f0 f1 f3 f4 f5⟩
 self:=λ_ _ _ _ _ st h=>wpAny_pyIter_listiter st h
theorem Qm1{P:Program}{w:World}{K:PySem.W.Frag}{tg:Expr}(a it:Addr):Turn P w K tg (Itt K a) [it] it (λi h=>h.IsTupleIter it a i) where
 mem:=by simp
 obj:=λi h st b hb=>by
  have e:b=it:=by simpa using hb
  subst e
  obtain⟨o,e,c,d⟩:=st
  exact⟨o,e,λv z=>by rw[d]at z;cases z⟩
 keep:=λi h h' st k=>st.at λo e=>k it (by simp) o e
 item:=by
  intro X hP hw hK hc i pins s σ H E I hf st hg
  subst hP hw hK
  obtain⟨xs,x,hq,hx⟩:=hg
  obtain⟨its,rv,p,hz⟩:=I.tuple hq
  obtain⟨u,hu,ru⟩:=rv.get hx
  obtain⟨f0,f1,f2,f3,f4,f5⟩:=hf it (by simp)
  refine wpAny_pyNext_tuple_item st (show s.heap.IsTuple a its.toArray from p) (x:=u) (by simpa using hu) λh' st' sb=>?_
  have I1:Inv X pins σ H {s with heap:=h'}:=I.turned (t':=s.toks) (λb o hb e=>(sb.2 b hb).trans e) f0 f1 f3 f4 f5
  obtain⟨o,e,c,d⟩:=id st'
  exact⟨u,rfl,QjF (s:={s with heap:=h'}) e c d (by decide) ⟨x,H,I1,ru,⟨rfl,λys hy=>by rw[I.QnF hy hq];exact hx⟩,st',λb hb=>(hf b hb).1⟩⟩
 done:=by
  intro X hP hw hK hc i pins s σ H E I hf st hg
  subst hP hw hK
  obtain⟨xs,hq,hx⟩:=hg
  obtain⟨its,rv,p,hz⟩:=I.tuple hq
  obtain⟨f0,f1,f2,f3,f4,f5⟩:=hf it (by simp)
  have hl:=rv.length
  exact wpAny_pyNext_tuple_end (I.ok.hd hc) st (show s.heap.IsTuple a its.toArray from p) (by simp;omega) λh' eb=>⟨rfl,I.turned (t':=s.toks) (λb o hb e=>eb b o hb e) f0 f1 f3 f4 f5⟩
 self:=λ_ _ _ _ _ st h=>wpAny_pyIter_tupleiter st h
theorem Qme{P:Program}{w:World}{K:PySem.W.Frag}{tg:Expr}(it:Addr)(lo:Int)(n:Nat):Turn P w K tg (Itr lo n) [it] it (λi h=>IsRangeIter h it (lo+(i:Nat)*1) ((n:Int)-(i:Nat)) 1) where
 mem:=by simp
 obj:=λi h st b hb=>by
  have e:b=it:=by simpa using hb
  subst e
  exact⟨_,st,λv z=>by
   have z':Data.fields _=Data.cell v:=z
   cases z'⟩
 keep:=λi h h' st k=>k it (by simp) _ st
 item:=by
  intro X hP hw hK hc i pins s σ H E I hf st hg
  subst hP hw hK
  obtain⟨f0,f1,f2,f3,f4,f5⟩:=hf it (by simp)
  have W:=Walks.range (prog:=X.prog) (w:=X.w) (I.ok.hd hc) it lo 1 n
  refine W.item i s _ _ hg st λv h' tk hv st' kk=>?_
  obtain⟨t,rfl⟩:=hv
  have I1:Inv X pins σ H {s with heap:=h',toks:=tk}:=I.turned (λb o hb e=>kk b o (by simpa using hb) e) f0 f1 f3 f4 f5
  refine⟨_,rfl,QjF (s:={s with heap:=h',toks:=tk}) (n:= "range_iterator") st' rfl rfl (by decide) ⟨.int (lo+i),H,I1,⟨t,?_⟩,⟨rfl,rfl⟩,st',λb hb=>(hf b hb).1⟩⟩
  rw[Int.mul_one]
 done:=by
  intro X hP hw hK hc i pins s σ H E I hf st hg
  subst hP hw hK
  obtain⟨f0,f1,f2,f3,f4,f5⟩:=hf it (by simp)
  exact wpAny_pyNext_range_end (I.ok.hd hc) st (by have:n<=i:=hg;omega) λh' eb=>⟨rfl,I.turned (t':=s.toks) (λb o hb e=>eb b o hb e) f0 f1 f3 f4 f5⟩
 self:=λ_ _ _ _ _ st h=>wpAny_pyIter_rangeiter st h
end L2
namespace L2
open PySem PySem.Spec PyProof.Rows
section
variable {X:Cx}{tg:Expr}
theorem Qqb{pins:List (Addr×Obj)}{σ:St}{H:Hp}{s:Shared}{R:It->Hp->Prop}{E:Value->Shared->Prop}{lo hi:Int}{t u v:Tok}{tk:Nat}(I:Inv X pins σ H s)(h1: -(2^62)<=lo)(h2:lo<2^62)(h3: -(2^62)<=hi)(h4:hi<2^62)
  (q:R (Itr lo (hi-lo).toNat) H):wpAny (model X.prog X.w) X.A (pyIter (.ref s.heap.objs.size)) (PIE X pins σ tg R) E {s with heap:=s.heap.push {cls:= .type "range",data:= .fields #[.int lo t,.int hi u,.int 1 v]},toks:=tk}:=by
 refine wpAny_pyIter_range (IsRange.new ..) (small_one h1 h2 h3 h4) ?_
 have I1:Inv X pins σ H {s with heap:=s.heap.push {cls:= .type "range",data:= .fields #[.int lo t,.int hi u,.int 1 v]},toks:=tk}:=I.kept λb o e=>Zt _ e
 refine⟨(s.heap.push {cls:= .type "range",data:= .fields #[.int lo t,.int hi u,.int 1 v]}).objs.size,[(s.heap.push {cls:= .type "range",data:= .fields #[.int lo t,.int hi u,.int 1 v]}).objs.size],_,_,H,rfl,
  I1.kept (t':=tk) λb o e=>Zt _ e,Qme _ lo (hi-lo).toNat,?_,λb hb=>?_,q⟩
 ·have e1:lo+((0:Nat):Int)*1=lo:=by simp
  have e2:(((hi-lo).toNat:Nat):Int)-((0:Nat):Int)=Builtin.Range.rangeSize lo hi 1:=by rw[rangeSize_one];split<;>omega
  show IsRangeIter _ _ (lo+((0:Nat):Int)*1) ((((hi-lo).toNat:Nat):Int)-((0:Nat):Int)) 1
  rw[e1,e2]
  exact ZC _ rfl
 ·have e:b=(s.heap.push {cls:= .type "range",data:= .fields #[.int lo t,.int hi u,.int 1 v]}).objs.size:=by simpa using hb
  subst e
  exact I1.Qh4 (Zj _) (I1.hok.fresh (Zj _))
noncomputable def Qvf(ta:TA):TI:=λσ H R=>ta σ H λvs H1=>∃j:Int,vs=[.int j]/\ -(2^62)<=j/\j<2^62/\R (Itr 0 j.toNat) H1
theorem Qop{a:Expr}{ta:TA}{p pos:Pos}(hg:Gl X "range")(hm:X.mg "range" =none)(ha:PA X [a] ta)(hs:starEach [a] X.env=[(false,eval a X.env)]:=by rfl):PI X tg (.Call (.Name "range" p) [a] [] pos) (Qvf ta):=by
 intro pins s σ H R I h
 refine Call_ (QeR I hg hm boot_range (Zaq (thn (ha pos pins s σ H _ I h) λus s1 ⟨vs,H1,I1,r1,q1⟩=>?_) hs rfl))
 obtain⟨j,e,q1,q2,q⟩:=q1
 subst e
 cases r1 with
 | cons r rr=>
  cases rr
  obtain⟨t,rfl⟩:=r
  exact call_range_1 (Qqb I1 (by omega) (by omega) q1 q2 (by simpa using q))
noncomputable def Qv6(wi:TI)(g:TG)(tb:TS):TS:=λD σ H=>wi σ H λJ H1=>∃W:Nat->Nat->St->Hp->Prop,(∃m,W 0 m σ H1)/\∀i m σ H,W i m σ H→
 (J.stop i H/\D.nx σ H)∨(J.go i H/\∃N:St->Hp->Prop,(∀σ' H',N σ' H'->∃m',m'<m/\W (i+1) m' σ' H')/\∀x H',J.yld i H x H'->g x σ H' λσ2 H2=>tb {D with nx:=N,ct:=N,bk:=D.nx} σ2 H2)
noncomputable def QfU(fp:List Addr)(h:Heap):List (Addr×Obj):=fp.filterMap λb=>(h.get? b).map λo=>(b,o)
theorem Qe9{fp:List Addr}{h:Heap}{b:Addr}{o:Obj}(hb:b∈fp)(e:h.get? b=some o):(b,o)∈QfU fp h:=ZaF.mpr ⟨b,hb,by rw[e];rfl⟩
theorem Qnq{fp:List Addr}{h:Heap}{p:Addr×Obj}(hp:p∈QfU fp h):p.1∈fp/\h.get? p.1=some p.2:=by
 obtain⟨b,hb,e⟩:=ZaF.mp hp
 cases q:h.get? b with
 | none=>rw[q]at e;cases e
 | some o=>
  rw[q]at e
  have e':(b,o)=p:=Option.some.inj e
  subst e'
  exact⟨hb,q⟩
theorem Inv.pinned{pins:List (Addr×Obj)}{σ:St}{H:Hp}{s:Shared}{fp:List Addr}(I:Inv X pins σ H s)(hf:∀b∈fp,QcS X pins H b)(ho:∀b∈fp,∃o,s.heap.get? b=some o/\∀v,o.data≠ .cell v):Inv X (pins++QfU fp s.heap) σ H s:=
 I.Ql3 λp hp=>(Zy.mp hp).elim (λz=>I.pin p (Ze _ z)) λz=>by
  obtain⟨hb,e⟩:=Qnq z
  obtain⟨f0,f1,f2,_⟩:=hf p.1 hb
  obtain⟨o,e',d⟩:=ho p.1 hb
  rw[e]at e';cases e'
  exact⟨e,f0,f1,f2,d⟩
theorem Inv.Qfe{pins pl:List (Addr×Obj)}{σ:St}{H:Hp}{s:Shared}(I:Inv X (pins++pl) σ H s):Inv X pins σ H s:=I.Ql3 λp hp=>I.pin p (Ze _ (Zi _ hp))
theorem QtJ{iter:Expr}{body:List Stmt}{wi:TI}{g:TG}{tb:TS}{pos:Pos}(hp:PassesOwn (model X.prog X.w) X.A X.env X.xe)(hc:X.calm=true)(hi:PI X tg iter wi)(hg:PG X tg g)(hb:PSs X body tb)
  (hs:∀x,foldedSetIterable iter X.env x=pure x:=by intro _;rfl):PS X (.For tg iter body [] pos) (Qv6 wi g tb):=by
 intro pins s σ H D I h
 refine wpAny_For (thn (hi pins s σ H _ I h) λv s1 h1=>thn h1 λitv s2 h2=>?_) hs
 obtain⟨it,fp,tn,J,H2,e,I2,T,st2,f2,W,⟨m0,w0⟩,turn⟩:=h2
 subst e
 have stat:∀{H':Hp},(∀b∈fp,H' b=none)->∀b∈fp,QcS X pins H' b:=λhn b hb=>⟨hn b hb,(f2 b hb).2⟩
 refine codeAny_forLoop_any (λn s'=>∃i σ' H',Inv X pins σ' H' s'/\tn i s'.heap/\(∀b∈fp,H' b=none)/\W i n σ' H') ?_ m0 ⟨0,σ,H2,I2,st2,λb hb=>(f2 b hb).1,w0⟩
 rintro n s3 ⟨i,σ3,H3,I3,st3,fr3,w3⟩
 rcases turn i n σ3 H3 w3 with⟨stop,qn⟩ | ⟨go,N,hN,step⟩
 ·refine wpAny_passesOwn hp (thn (T.done X rfl rfl rfl hc i pins s3 σ3 H3 X.xe I3 (stat fr3) st3 stop) λr s4 hpt=>?_)
  obtain⟨hr,I4⟩:=hpt
  subst hr
  exact wpAny_execs_nil ⟨σ3,H3,I4,qn⟩
 ·refine wpAny_passesOwn hp (thn (T.item X rfl rfl rfl hc i pins s3 σ3 H3 X.xe I3 (stat fr3) st3 go) λr s4 hpt=>?_)
  obtain⟨u,hr,h4⟩:=hpt
  subst hr
  refine wpAny_passesOwn hp (thn h4 λ_ s5 hpt=>?_)
  obtain⟨x,H5,I5,r5,y5,st5,fr5⟩:=hpt
  have I5':=I5.pinned (stat fr5) (T.obj _ _ st5)
  refine wpAny_passesOwn hp (thn (hg _ s5 σ3 H5 x u _ I5' r5 (step x H5 y5)) λ_ s6 hpt=>?_)
  obtain⟨σ6,H6,I6,q6⟩:=hpt
  refine wpAny_passesOwn hp (thn (hb _ s6 σ6 H6 _ I6 q6) λf s7 q7=>?_)
  have again:∀{σ7:St}{H7:Hp},Inv X (pins++QfU fp s5.heap) σ7 H7 s7->N σ7 H7->∃m,m<n/\∃i σ' H',Inv X pins σ' H' s7/\tn i s7.heap/\(∀b∈fp,H' b=none)/\W i m σ' H':=λ{σ7 H7} I7 n7=>by
   obtain⟨m',hm,w7⟩:=hN σ7 H7 n7
   refine⟨m',hm,i+1,σ7,H7,I7.Qfe,T.keep _ _ _ st5 λb hb o e=>(I7.pin (b,o) (Ze _ (Ze _ (Qe9 hb e)))).1,λb hb=>?_,w7⟩
   obtain⟨o,e,d⟩:=T.obj _ _ st5 b hb
   exact(I7.pin (b,o) (Ze _ (Ze _ (Qe9 hb e)))).2.1
  cases f with
  | next=>obtain⟨σ7,H7,I7,n7⟩:=q7;exact again I7 n7
  | cont=>obtain⟨σ7,H7,I7,n7⟩:=q7;exact again I7 n7
  | brk=>obtain⟨σ7,H7,I7,q7⟩:=q7;exact⟨σ7,H7,I7.Qfe,q7⟩
  | ret v=>obtain⟨x7,σ7,H7,I7,r7,q7⟩:=q7;exact⟨x7,σ7,H7,I7.Qfe,r7,q7⟩
end
end L2
namespace L2
open PySem PySem.Spec PyProof.Rows
noncomputable abbrev R2:=V->V->Hp->VK->Prop
def OpR(X:Cx)(f:Value->Value->Sem Value)(r:R2):Prop:=
 ∀(pins:List (Addr×Obj)) (s:Shared) (σ:St) (H:Hp) (x y:V) (v u:Value) (Q:VK),Inv X pins σ H s->RelV x v->RelV y u->r x y H Q→
  wpAny (model X.prog X.w) X.A (f v u) (EP X pins σ Q) X.xe s
def UnR(X:Cx)(f:Value->Sem Value)(r:V->Hp->VK->Prop):Prop:=
 ∀(pins:List (Addr×Obj)) (s:Shared) (σ:St) (H:Hp) (x:V) (v:Value) (Q:VK),Inv X pins σ H s->RelV x v->r x H Q→
  wpAny (model X.prog X.w) X.A (f v) (EP X pins σ Q) X.xe s
def QaM(X:Cx)(f:Value)(r:List V->Hp->VK->Prop):Prop:=
 ∀(pins:List (Addr×Obj)) (s:Shared) (σ:St) (H:Hp) (xs:List V) (us:List Value) (Q:VK),Inv X pins σ H s->Qq xs us->r xs H Q→
  wpAny (model X.prog X.w) X.A (call f us) (EP X pins σ Q) X.xe s
def Qws(X:Cx)(r:V->Hp->(Bool->Hp->Prop)->Prop):Prop:=
 ∀(pins:List (Addr×Obj)) (s:Shared) (σ:St) (H:Hp) (x:V) (v:Value) (Q:Bool->Hp->Prop),Inv X pins σ H s->RelV x v->r x H Q→
  wpAny (model X.prog X.w) X.A (truthy v) (TP X pins σ Q) X.xe s
noncomputable def tOp(r:R2)(ta tb:TE):TE:=λσ H Q=>ta σ H λx H1=>tb σ H1 λy H2=>r x y H2 Q
noncomputable def tUn(r:V->Hp->VK->Prop)(ta:TE):TE:=λσ H Q=>ta σ H λx H1=>r x H1 Q
noncomputable def rI(C:Int->Int->Prop)(g:Int->Int->V):R2:=λx y H Q=>∃i j,x= .int i/\y= .int j/\C i j/\Q (g i j) H
noncomputable def rI0(g:Int->Int->V):R2:=λx y H Q=>∃i j,x= .int i/\y= .int j/\Q (g i j) H
noncomputable def rU(g:Int->V):V->Hp->VK->Prop:=λx H Q=>∃i,x= .int i/\Q (g i) H
section
variable {X:Cx}{a b c:Expr}{ta tb tc:TE}{pos:Pos}
theorem Qmn(ha:PE X a ta)(hb:PE X b tb){pins:List (Addr×Obj)}{s:Shared}{σ:St}{H:Hp}{R:V->V->Hp->Prop}(I:Inv X pins σ H s)
  (h:ta σ H λx H1=>tb σ H1 λy H2=>R x y H2) {Q:Value->Shared->Prop}{f:Value->Value->Sem Value}
  (hf:∀v u s2 x y H2,Inv X pins σ H2 s2->RelV x v->RelV y u->R x y H2->wpAny (model X.prog X.w) X.A (f v u) Q X.xe s2):
  wpAny (model X.prog X.w) X.A (eval a X.env) (λv s₁=>wpAny (model X.prog X.w) X.A (eval b X.env) (λu s₂=>wpAny (model X.prog X.w) X.A (f v u) Q X.xe s₂) X.xe s₁) X.xe s:=by
 refine thn (ha pins s σ H _ I h) λv s1=>exJ λx H1 I1 r1 q1=>?_
 refine thn (hb pins s1 σ H1 _ I1 q1) λu s2=>exJ λy H2 I2 r2 q2=>?_
 exact hf v u s2 x y H2 I2 r1 r2 q2
theorem Qmg{op:Operator}{r:R2}(ho:OpR X (binaryOp op) r)(ha:PE X a ta)(hb:PE X b tb):PE X (.BinOp a op b pos) (tOp r ta tb):=by
 intro pins s σ H Q I h
 exact wpAny_BinOp (Qmn ha hb I h λv u s2 x y H2 I2 rx ry q=>ho pins s2 σ H2 x y v u Q I2 rx ry q)
theorem QuV{op:UnaryOp}{r:V->Hp->VK->Prop}(ho:UnR X (unaryOp op) r)(ha:PE X a ta):PE X (.UnaryOp op a pos) (tUn r ta):=by
 intro pins s σ H Q I h
 exact UnaryOp_ (thn (ha pins s σ H _ I h) λv s1 ⟨x,H1,I1,r1,q1⟩=>ho pins s1 σ H1 x v Q I1 r1 q1)
theorem Qta{op:Operator}{r:R2}(ho:OpR X (inplaceOp op) r){pins:List (Addr×Obj)}{s:Shared}{σ:St}{H:Hp}{x y:V}{v u:Value}{Q:VK}(I:Inv X pins σ H s)
  (rx:RelV x v) (ry:RelV y u) (q:r x y H Q):wpAny (model X.prog X.w) X.A (inplaceOp op v u) (EP X pins σ Q) X.xe s:=ho pins s σ H x y v u Q I rx ry q
theorem opI{f:Value->Value->Sem Value}{C:Int->Int->Prop}{g:Int->Int->Int}
  (rule:∀(i j:Int) (t u:Tok) (s:Shared) (Q:Value->Shared->Prop) (E:Value->Shared->Prop),C i j->Q (.int (g i j) s.toks) {s with toks:=s.toks+1}->wpAny (model X.prog X.w) X.A (f (.int i t) (.int j u)) Q E s):
  OpR X f (rI C λi j=> .int (g i j)):=by
 intro pins s σ H x y v u Q I rx ry h
 obtain⟨i,j,rfl,rfl,hc,q⟩:=h
 obtain⟨t,rfl⟩:=rx
 obtain⟨t',rfl⟩:=ry
 exact rule i j t t' s _ _ hc ⟨.int (g i j),H,I.tok _,⟨_,rfl⟩,q⟩
theorem Qng{f:Value->Value->Sem Value}{g:Int->Int->Int}
  (rule:∀(i j:Int) (t u:Tok) (s:Shared) (Q:Value->Shared->Prop) (E:Value->Shared->Prop),Q (.int (g i j) s.toks) {s with toks:=s.toks+1}->wpAny (model X.prog X.w) X.A (f (.int i t) (.int j u)) Q E s):
  OpR X f (rI0 λi j=> .int (g i j)):=by
 intro pins s σ H x y v u Q I rx ry h
 obtain⟨i,j,rfl,rfl,q⟩:=h
 obtain⟨t,rfl⟩:=rx
 obtain⟨t',rfl⟩:=ry
 exact rule i j t t' s _ _ ⟨.int (g i j),H,I.tok _,⟨_,rfl⟩,q⟩
theorem QmO{f:Value->Value->Sem Value}{g:Int->Int->Bool}
  (rule:∀(i j:Int) (t u:Tok) (s:Shared) (Q:Value->Shared->Prop) (E:Value->Shared->Prop),Q (.bool (g i j)) s->wpAny (model X.prog X.w) X.A (f (.int i t) (.int j u)) Q E s):
  OpR X f (rI0 λi j=> .bl (g i j)):=by
 intro pins s σ H x y v u Q I rx ry h
 obtain⟨i,j,rfl,rfl,q⟩:=h
 obtain⟨t,rfl⟩:=rx
 obtain⟨t',rfl⟩:=ry
 exact rule i j t t' s _ _ ⟨.bl (g i j),H,I,rfl,q⟩
def Qs6(i j:Int):Prop:=(-(2^64)<i/\i<2^64)∨(-(2^64)<j/\j<2^64)
theorem Qs6.ok{i j:Int}(h:Qs6 i j):IntMulOk i j:=by
 rcases h with⟨h1,h2⟩ | ⟨h1,h2⟩
 ·exact .of_left (intBits_le_64 h1 h2)
 ·exact .of_right (intBits_le_64 h1 h2)
theorem Qts:OpR X (binaryOp .Add) (rI0 λi j=> .int (i+j)):=Qng λ_ _ _ _ _ _ _ q=>add_int q
theorem Qul:OpR X (binaryOp .Sub) (rI0 λi j=> .int (i-j)):=Qng λ_ _ _ _ _ _ _ q=>sub_int q
theorem QqS:OpR X (inplaceOp .Add) (rI0 λi j=> .int (i+j)):=Qng λ_ _ _ _ _ _ _ q=>iadd_int q
theorem Qr8:OpR X (inplaceOp .Sub) (rI0 λi j=> .int (i-j)):=Qng λ_ _ _ _ _ _ _ q=>isub_int q
theorem unI{f:Value->Sem Value}{g:Int->Int}
  (rule:∀(i:Int) (t:Tok) (s:Shared) (Q:Value->Shared->Prop) (E:Value->Shared->Prop),Q (.int (g i) s.toks) {s with toks:=s.toks+1}->wpAny (model X.prog X.w) X.A (f (.int i t)) Q E s):
  UnR X f (rU λi=> .int (g i)):=by
 intro pins s σ H x v Q I rx h
 obtain⟨i,rfl,q⟩:=h
 obtain⟨t,rfl⟩:=rx
 exact rule i t s _ _ ⟨.int (g i),H,I.tok _,⟨_,rfl⟩,q⟩
theorem Quo:UnR X (unaryOp .USub) (rU λi=> .int (-i)):=unI λ_ _ _ _ _ q=>neg_int q
end
section
variable {X:Cx}{a b c:Expr}{ta tb tc:TE}{pos:Pos}
theorem QeH{pins:List (Addr×Obj)}{σ:St}{H:Hp}{s:Shared}{Q:VK}{k k':Bool}(I:Inv X pins σ H s)(q:Q (.bl k) H)(e:k=k'):EP X pins σ Q (.bool k') s:=by
 subst e
 exact⟨.bl k,H,I,rfl,q⟩
theorem QuX:OpR X (compareOp .Lt) (rI0 λi j=> .bl (decide (i<j))):=QmO λ_ _ _ _ _ _ _ q=>lt_int q
theorem QuU:OpR X (compareOp .LtE) (rI0 λi j=> .bl (decide (i<=j))):=QmO λ_ _ _ _ _ _ _ q=>le_int q
theorem Qvz:OpR X (compareOp .Gt) (rI0 λi j=> .bl (decide (j<i))):=QmO λ_ _ _ _ _ _ _ q=>gt_int q
theorem QvL:OpR X (compareOp .GtE) (rI0 λi j=> .bl (decide (j<=i))):=QmO λ_ _ _ _ _ _ _ q=>ge_int q
theorem Qn8:OpR X (compareOp .In) (λx y H Q=>∃i j,x= .str i/\y= .str j/\Q (.bl (!(Builtin.Str.occurrences j i 0 j.length 1).isEmpty)) H):=by
 intro pins s σ H x y v u Q I rx ry h
 obtain⟨i,j,rfl,rfl,q⟩:=h
 obtain⟨t,rfl⟩:=rx
 obtain⟨t',rfl⟩:=ry
 exact in_str (QeH I q rfl)
theorem QsS:OpR X (compareOp .Is) (λx y H Q=>y= .non/\Q (.bl (decide (x= .non))) H):=by
 intro pins s σ H x y v u Q I rx ry h
 obtain⟨rfl,q⟩:=h
 cases ry
 refine is_none_gen (QeH I q ?_)
 cases x<;>first
  | (cases rx;rfl)
  | (obtain⟨t,rfl⟩:=rx;rfl)
theorem QrW:OpR X (compareOp .IsNot) (λx y H Q=>y= .non/\Q (.bl (!decide (x= .non))) H):=by
 intro pins s σ H x y v u Q I rx ry h
 obtain⟨rfl,q⟩:=h
 cases ry
 refine isnot_none_gen (QeH I q ?_)
 cases x<;>first
  | (cases rx;rfl)
  | (obtain⟨t,rfl⟩:=rx;rfl)
theorem Qj8:OpR X (compareOp .NotIn) (λx y H Q=>∃i j,x= .str i/\y= .str j/\Q (.bl (!(!(Builtin.Str.occurrences j i 0 j.length 1).isEmpty))) H):=by
 intro pins s σ H x y v u Q I rx ry h
 obtain⟨i,j,rfl,rfl,q⟩:=h
 obtain⟨t,rfl⟩:=rx
 obtain⟨t',rfl⟩:=ry
 exact notIn_str (QeH I q rfl)
theorem OpR.or{f:Value->Value->Sem Value}{r r':R2}(h:OpR X f r)(h':OpR X f r'):OpR X f (λx y H Q=>r x y H Q∨r' x y H Q):=by
 intro pins s σ H x y v u Q I rx ry q
 rcases q with q | q
 ·exact h pins s σ H x y v u Q I rx ry q
 ·exact h' pins s σ H x y v u Q I rx ry q
theorem QwO(b:Expr){op:CmpOp}(h:op≠ .In:=by decide)(h2:op≠ .NotIn:=by decide):behindInMarks op b=false:=by
 have e1:(op == CmpOp.In)=false:=by cases op<;>first | rfl | exact absurd rfl h
 have e2:(op == CmpOp.NotIn)=false:=by cases op<;>first | rfl | exact absurd rfl h2
 cases b<;>simp[behindInMarks,e1,e2]
theorem Qru{op:CmpOp}{r:R2}(ho:OpR X (compareOp op) r)(ha:PE X a ta)(hb:PE X b tb)(hm:behindInMarks op b=false):PE X (.Compare a [op] [b] pos) (tOp r ta tb):=by
 intro pins s σ H Q I h
 exact wpAny_Compare1 (Qmn ha hb I h λv u s2 x y H2 I2 rx ry q=>ho pins s2 σ H2 x y v u Q I2 rx ry q) hm
noncomputable def QuQ(t:TE):TT:=λσ H Q=>t σ H λx H'=>∃k,x= .bl k/\Q k H'
theorem QqJ{op:CmpOp}{r:R2}(ho:OpR X (compareOp op) r)(ha:PE X a ta)(hb:PE X b tb)(hm:behindInMarks op b=false):PT X (.Compare a [op] [b] pos) (QuQ (tOp r ta tb)):=by
 intro pins s σ H Q I h
 refine wpAny_isTrue_Compare1 (thn (ha pins s σ H _ I h) λv s1 ⟨x,H1,I1,r1,q1⟩=>thn (hb pins s1 σ H1 _ I1 q1) λu s2 ⟨y,H2,I2,r2,q2⟩=>
  thn (ho pins s2 σ H2 x y v u _ I2 r1 r2 q2) λc s3 ⟨z,H3,I3,r3,k,e,q3⟩=>?_) hm
 subst e
 cases r3
 exact wpAny_truthy_bool ⟨H3,I3,q3⟩
def Qpg(K:PySem.W.Frag)(x:V)(H:Hp)(k:Bool):Prop:=
 match x with
 | .non=>k=false
 | .bl b=>k=b
 | .int i=>k=(i != 0)
 | .str y=>y.length<=sizeLine/\k=((y.length:Int) != 0)
 | .byt y=>y.size<=sizeLine/\k=((y.size:Int) != 0)
 | .ref p=>(∃xs,SqL K H p xs/\k= !xs.isEmpty)∨(∃xs,SqT K H p xs/\k= !xs.isEmpty)∨∃kvs,H p=some (.dK kvs)/\k= !kvs.isEmpty
 | _=>False
theorem Qmi{κ:Type}{kvs:List (κ×V)}{vs:List (κ×Value)}(r:KV kvs vs):(!vs.isEmpty)= !kvs.isEmpty:=by
 cases r<;>rfl
theorem Qhj{xs:List V}{its:List Value}(r:Qq xs its):(!its.toArray.isEmpty)= !xs.isEmpty:=by
 cases r<;>simp
theorem Qd7:(sizeLine:Nat)<2^63:=by rw[sizeLine_eq];decide
theorem QhL:Qws X (λx H Q=>∃k,Qpg X.K x H k/\Q k H):=by
 intro pins s σ H x v Q I rx h
 obtain⟨k,e,q⟩:=h
 have hl:=Qd7
 have hs:sizeLine=16777216:=sizeLine_eq
 cases x with
 | non=>
  cases rx
  have e':k=false:=e
  subst e'
  exact truthy_none ⟨H,I,q⟩
 | bl b=>
  cases rx
  have e':k=b:=e
  subst e'
  exact wpAny_truthy_bool ⟨H,I,q⟩
 | int i=>
  obtain⟨t,rfl⟩:=rx
  have e':k=(i != 0):=e
  subst e'
  exact PySem.P.truthy_int ⟨H,I,q⟩
 | str y=>
  obtain⟨t,rfl⟩:=rx
  obtain⟨hy,e'⟩:y.length<=sizeLine/\k=((y.length:Int) != 0):=e
  subst e'
  exact PySem.P.truthy_str (by omega) ⟨H,I.tok _,q⟩
 | byt y=>
  obtain⟨t,rfl⟩:=rx
  obtain⟨hy,e'⟩:y.size<=sizeLine/\k=((y.size:Int) != 0):=e
  subst e'
  exact PySem.W.truthy_bytes (by omega) ⟨H,I.tok _,q⟩
 | ref p=>
  cases rx
  have e':(∃xs,SqL X.K H p xs/\k= !xs.isEmpty)∨(∃xs,SqT X.K H p xs/\k= !xs.isEmpty)∨∃kvs,H p=some (.dK kvs)/\k= !kvs.isEmpty:=e
  rcases e' with⟨xs,hx,e'⟩ | ⟨xs,hx,e'⟩ | ⟨kvs,hx,e'⟩
  ·subst e'
   obtain⟨its,r,pl,hz⟩:=I.list hx
   have hlen:=r.length
   exact wpAny_truthy_list pl.isList (by simp only[Zp];omega) ⟨H,I.tok _,by rw[Qhj r];exact q⟩
  ·subst e'
   obtain⟨its,r,pl,hz⟩:=I.tuple hx
   have hlen:=r.length
   exact truthy_tuple pl (by simp only[Zp];omega) ⟨H,I.tok _,by rw[Qhj r];exact q⟩
  ·subst e'
   obtain⟨hz,hS,vs,r,m⟩:kvs.length<=sizeLine/\(p == sysModules)=false/\∃vs,KV kvs vs/\s.heap.DictOf (Qik X.prog X.w) p vs:=I.hok p _ hx
   have hlen:kvs.length=vs.length:=Paired.length r
   exact wpAny_truthy_dict hS m (by omega) ⟨H,I.tok _,by rw[Qmi r];exact q⟩
 | _=>exact(show False from e).elim
theorem Qqi(ha:PE X a ta)(he:∀whole,isTrue a X.env whole=(do let v ← whole;standAt a.pos;holding [v] (truthy v))):
  PT X a (λσ H Q=>ta σ H λx H'=>∃k,Qpg X.K x H' k/\Q k H'):=by
 intro pins s σ H Q I h
 exact isTrue_plain (thn (ha pins s σ H _ I h) λv s1 ⟨x,H1,I1,r1,q1⟩=>QhL pins s1 σ H1 x v Q I1 r1 q1) (he _)
theorem QmA:OpR X (binaryOp .Add) (λx y H Q=>∃i j,x= .str i/\y= .str j/\i.length+j.length<=sizeLine/\Q (.str (i++j)) H):=by
 intro pins s σ H x y v u Q I rx ry h
 obtain⟨i,j,rfl,rfl,hz,q⟩:=h
 obtain⟨t,rfl⟩:=rx
 obtain⟨t',rfl⟩:=ry
 exact add_str (λt' tk=>⟨.str (i++j),H,I.tok _,⟨_,rfl⟩,q⟩) hz
def QpR(b:Expr):Prop:=∀o i,subscripted b false o i=operate [o,i] (getItem o i)
theorem Qlu(ha:PE X a ta)(hb:PE X b tb)(hs:QpR b):
  PE X (.Subscript a b pos) (tOp (λx y H Q=>∃z i c,x= .str z/\y= .int i/\0<=i/\i<2^63/\i<z.length/\z.cps[i.toNat]? =some c/\Q (.str ⟨#[c]⟩) H) ta tb):=by
 intro pins s σ H Q I h
 refine Subscript_ (Qmn ha hb I h λv u s2 x y H2 I2 rx ry q=>?_)
 obtain⟨z,i,c,rfl,rfl,h0,h63,h1,hc,q⟩:=q
 obtain⟨t,rfl⟩:=rx
 obtain⟨t',rfl⟩:=ry
 have e:seqIndex? i z.length=some i.toNat:=PySem.StrLaws.seqIndex_nonneg h0 h1
 exact tail_any (typeIs_str s2 z t) slot_str_getitem.lookup (getItem_str (c:=c) (by
  have e1:decide (i< -(2^63:Int))=false:=decide_eq_false (by omega)
  have e2:decide (i≥2^63)=false:=decide_eq_false (by omega)
  rw[e1,e2]<;>rfl) (by rw[e];exact hc) ⟨.str ⟨#[c]⟩,H2,I2.tok _,⟨_,rfl⟩,q⟩) (hs _ _)
theorem vals1{x:V}{us:List Value}(r:Qq [x] us):∃u,us=[u]/\RelV x u:=by
 cases r with
 | cons r1 r2=>cases r2;exact⟨_,rfl,r1⟩
theorem vals2{x y:V}{us:List Value}(r:Qq [x,y] us):∃u w',us=[u,w']/\RelV x u/\RelV y w':=by
 cases r with
 | cons r1 r2=>
  cases r2 with
  | cons r3 r4=>cases r4;exact⟨_,_,rfl,r1,r3⟩
theorem QnN(hc:X.calm=true):QaM X (.builtin "max") (λxs H Q=>∃i j,xs=[.int i,.int j]/\Q (.int (if j>i then j else i)) H):=by
 intro pins s σ H xs us Q I r h
 obtain⟨i,j,rfl,q⟩:=h
 obtain⟨u,w',rfl,⟨t,rfl⟩,⟨t',rfl⟩⟩:=vals2 r
 refine max_two_ints (I.ok.hd hc) λh' tk k=>⟨_,H,I.kept k,?_,q⟩
 by_cases hj:j>i
 ·rw[if_pos hj,if_pos hj];exact⟨_,rfl⟩
 ·rw[if_neg hj,if_neg hj];exact⟨_,rfl⟩
theorem QnW(hc:X.calm=true):QaM X (.builtin "min") (λxs H Q=>∃i j,xs=[.int i,.int j]/\Q (.int (if j<i then j else i)) H):=by
 intro pins s σ H xs us Q I r h
 obtain⟨i,j,rfl,q⟩:=h
 obtain⟨u,w',rfl,⟨t,rfl⟩,⟨t',rfl⟩⟩:=vals2 r
 refine min_two_ints (I.ok.hd hc) λh' tk k=>⟨_,H,I.kept k,?_,q⟩
 by_cases hj:j<i
 ·rw[if_pos hj,if_pos hj];exact⟨_,rfl⟩
 ·rw[if_neg hj,if_neg hj];exact⟨_,rfl⟩
theorem Qi1:QaM X (.type "int") (λxs H Q=>(∃i,xs=[.int i]/\Q (.int i) H)∨∃k,xs=[.bl k]/\Q (.int (if k then 1 else 0)) H):=by
 intro pins s σ H xs us Q I r h
 rcases h with⟨i,rfl,q⟩ | ⟨k,rfl,q⟩
 ·obtain⟨u,rfl,t,rfl⟩:=vals1 r
  exact call_int_int ⟨.int i,H,I,⟨_,rfl⟩,q⟩
 ·obtain⟨u,rfl,r1⟩:=vals1 r
  cases r1
  exact call_int_bool ⟨.int (if k then 1 else 0),H,I.tok _,⟨_,rfl⟩,q⟩
theorem Qkr:QaM X (.type "str") (λxs H Q=>∃i,xs=[.int i]/\i.natAbs.log2<1920/\Q (.str (toString i)) H):=by
 intro pins s σ H xs us Q I r h
 obtain⟨i,rfl,hz,q⟩:=h
 obtain⟨u,rfl,t,rfl⟩:=vals1 r
 exact PySem.P.str_of_int hz ⟨.str _,H,I.tok _,⟨_,rfl⟩,q⟩
end
end L2
namespace L2
open PySem PySem.Spec PyProof.Rows
structure Qt1 (h:Heap) (x dx C:Addr) (mA:Str->Option Value):Prop where
 obj:h.get? x=some (PySem.W.instObj C dx)
 ns:h.Ns1 dx mA
 ne:dx≠x
theorem Qog{h:Heap}{dx:Addr}{mA:Str->Option Value}(n:h.Ns1 dx mA):∃od,h.get? dx=some od/\∀name,PySem.W.lookIn name od=some (mA name):=by
 obtain⟨o,es,ep,ho,hd,hk,_,hm⟩:=n
 refine⟨o,ho,λname=>?_⟩
 have e:=hm name
 unfold nsFind findBy at e
 rw[← Array.find?_toList]at e
 unfold PySem.W.lookIn
 rw[hd]
 dsimp only
 split
 ·rename_i y q
  rw[q]at e
  exact congrArg some e
 ·rename_i q
  rw[q]at e
  have a:es.toList.any (·.refKey)=false:=by
   rw[List.any_eq_false]
   intro y hy
   obtain⟨z,t,hkey⟩:=hk y (Array.mem_toList_iff.mp hy)
   simp[DictEntry.refKey,hkey]
  have a':¬es.toList.any (·.refKey)=true:=by rw[a];exact ZH
  rw[if_neg a']
  exact congrArg some e
theorem Qt1.look{h:Heap}{x dx C:Addr}{mA:Str->Option Value}(I:Qt1 h x dx C mA):∃od,PySem.W.InstAt h x (PySem.W.instObj C dx) C (some od)/\∀name,PySem.W.lookIn name od=some (mA name):=
 let ⟨od,ho,hl⟩:=Qog I.ns
 ⟨od,⟨I.obj,rfl,rfl,ho⟩,hl⟩
section
variable {prog:Program}{w:World}{A:Around}{E:Value->Shared->Prop}{s:Shared}{K:PySem.W.Frag}{x dx C f:Addr}{mA:Str->Option Value}{name:Str}{v:Value}
end
theorem Qdt.some_of{v:V}{o:Option Value}(r:Qdt (some v) o):∃u,o=some u/\RelV v u:=by
 cases o with
 | none=>exact(show False from r).elim
 | some u=>exact⟨u,rfl,r⟩
theorem Qdt.none_of{o:Option Value}(r:Qdt none o):o=none:=by
 cases o with
 | none=>rfl
 | some u=>exact(show False from r).elim
section
variable {P:Program}{w:World}{H H':Hp}{h h':Heap}{a C dx:Addr}{fs fs':List (Str×V)}
end
structure Cls (K:PySem.W.Frag) (C:Addr):Prop where
 pg:PySem.W.plainGet K C Str.empty=true
 hd:PySem.W.hasDictIn K C=true
 po:PySem.W.plainOver K C=true
 sa:PySem.W.findIn K (.ref C) "__setattr__" =some (some (.builtin "object.__setattr__"))
theorem Cls.get{K:PySem.W.Frag}{C:Addr}(c:Cls K C)(f:Str):PySem.W.plainGet K C f=true:=c.pg
structure Con (K:PySem.W.Frag) (C:Addr) (f:Str) (v:V) (u:Value):Prop where
 at_:PySem.W.findIn K (.ref C) f=some (some u)
 rel:RelV v u
 get:PySem.W.specialIn K u "__get__" =some none
 cp:PySem.W.copiedNames.contains f=false
structure QwS (K:PySem.W.Frag) (C:Addr) (m:Str) (f:Addr):Prop where
 at_:PySem.W.findIn K (.ref C) m=some (some (.ref f))
 fn:PySem.W.isFn K (.ref f)=true
 kp:PySem.W.keepIn K (.ref f)=true
section
variable {X:Cx}{pins:List (Addr×Obj)}{σ:St}{H:Hp}{s:Shared}{a C dx:Addr}{fs:List (Str×V)}{f:Str}{v:V}{A:Around}{E:Value->Shared->Prop}
theorem Inv.made(I:Inv X pins σ H s):Inv X pins σ (upd (upd H s.heap.objs.size (.own (s.heap.objs.size+1))) (s.heap.objs.size+1) (.ins C s.heap.objs.size []))
  {s with heap:=(s.heap.push PySem.W.emptyDict).push (PySem.W.instObj C s.heap.objs.size)}:=by
 have e1:(s.heap.push PySem.W.emptyDict).get? s.heap.objs.size=some PySem.W.emptyDict:=ZC s.heap rfl
 have e2:((s.heap.push PySem.W.emptyDict).push (PySem.W.instObj C s.heap.objs.size)).get? (s.heap.objs.size+1)=some (PySem.W.instObj C s.heap.objs.size):=by
  have:=ZC (s.heap.push PySem.W.emptyDict) (o:=PySem.W.instObj C s.heap.objs.size) rfl
  rwa[ZaH]at this
 have e3:(s.heap.push PySem.W.emptyDict).Ns s.heap.objs.size (λ_=>none):=⟨PySem.W.emptyDict,#[],_,e1,rfl,(λe he=>absurd he (by simp)),λ_=>rfl⟩
 have I1:=I.laid (a:=s.heap.objs.size) (o:= .own (s.heap.objs.size+1)) (h':=s.heap.push PySem.W.emptyDict) (t':=s.toks) (λb u q=>Zt _ q) (Zj _) ⟨_,e1⟩
 refine I1.laid (a:=s.heap.objs.size+1) (o:= .ins C s.heap.objs.size []) (t':=s.toks) (λb u q=>Zt _ q) (Nat.le_of_eq (ZaH _ _)) ?_
 have ne:s.heap.objs.size≠s.heap.objs.size+1:=ZJ (Zbb _)
 refine⟨by rw[QE ne,Qaz],Zac _,ne,e2,λ_=>none,(Heap.Ns1.of_empty e3).at λo q=>Zt _ q,λ_=>True.intro,λy hy=>absurd rfl hy⟩
end
section
variable {X:Cx}{o e value:Expr}{f:Str}{pos pos' tpos:Pos}{ta tv:TE}
end
section
variable {X:Cx}{pins:List (Addr×Obj)}{σ:St}{H:Hp}{s:Shared}{A:Around}{E:Value->Shared->Prop}{Q:Value->Shared->Prop}{c:Value}{b:Bool}
end
end L2
namespace L2
open PySem PySem.Spec PyProof.Rows
structure Qaj (k:Nat) (A:Around):Prop where
 hd:A.handled=none
 dp:A.depth+3*k+5<recursionLimit
 un:A.units+16*k+200<cLine
theorem Qaj.mono{j k:Nat}{A:Around}(r:Qaj k A)(h:j<=k):Qaj j A:=⟨r.hd,by have:=r.dp;omega,by have:=r.un;omega⟩
theorem Qaj.deeper{k:Nat}{A:Around}(r:Qaj (k+1) A)(env:Env):Qaj k (A.deeper env):=
 ⟨r.hd,by have:=r.dp;show A.depth+1+3*k+5<_;omega,by have:=r.un;show A.units+3+16*k+200<_;omega⟩
theorem Qaj.in1{k:Nat}{A:Around}(r:Qaj (k+1) A):Qaj k A.in1:=
 ⟨r.hd,by have:=r.dp;show A.depth+3*k+5<_;omega,by have:=r.un;show A.units+1+16*k+200<_;omega⟩
theorem QmF{A:Around}{C:Addr}{us:List Value}{kw:List (Str×Value)}:(A.under (.builtin "type.__call__" ⟨.ref C::us,kw⟩)).depth=A.depth+1:=by
 first | rfl | simp[Around.under,Code.weight,Code.isCreation,Code.isGuard,Code.isCaller,Code.frames,Code.isFrame,guardIds]
theorem Qne{A:Around}{C:Addr}{us:List Value}{kw:List (Str×Value)}:(A.under (.builtin "type.__call__" ⟨.ref C::us,kw⟩)).units=A.units+1:=by
 first | rfl | simp[Around.under,Code.cUnits,Code.frames,Code.isFrame]
theorem Qaj.make{k:Nat}{A:Around}(r:Qaj (k+1) A)(C:Addr)(us:List Value)(kw:List (Str×Value)):Qaj k (A.under (.builtin "type.__call__" ⟨.ref C::us,kw⟩)):=
 ⟨r.hd,by have:=r.dp;rw[QmF];omega,by have:=r.un;rw[Qne];omega⟩
theorem Qaj.depth{k:Nat}{A:Around}(r:Qaj k A):A.depth<recursionLimit:=by have:=r.dp;omega
theorem Qaj.units{k:Nat}{A:Around}(r:Qaj k A):A.units+64<cLine:=by have:=r.un;omega
noncomputable def QgT:TA:=λ_ H Q=>Q [] H
noncomputable def Qgc(ta:TE)(tr:TA):TA:=λσ H Q=>ta σ H λx H1=>tr σ H1 λxs H2=>Q (x::xs) H2
section
variable {X:Cx}{e:Expr}{es:List Expr}{te:TE}{t:TA}{pos:Pos}
theorem QdN:PA X [] QgT:=λ_ _ _ _ H Q I h=>Calls.spliced_nil ⟨[],H,I,.nil,h⟩
theorem Qcp(ha:PE X e te)(hr:PA X es t)(hs:starEach (e::es) X.env=(false,eval e X.env)::starEach es X.env:=by rfl):PA X (e::es) (Qgc te t):=by
 intro pos pins s σ H Q I h
 rw[hs]
 show wpAny _ _ (spliced ((false,eval e X.env)::backTo pos (starEach es X.env))) _ _ s
 refine Calls.spliced_cons (thn (ha pins s σ H _ I h) λu s1=>exJ λx H1 I1 r1 q1=>?_)
 exact thn (hr pos pins s1 σ H1 _ I1 q1) λus s2 ⟨xs,H2,I2,r2,q2⟩=>⟨x::xs,H2,I2,.cons r1 r2,q2⟩
noncomputable def Qwt(t:TA):TE:=λσ H Q=>t σ H λxs H1=>xs.length<=sizeLine/\∀p,H1 p=none->Q (.ref p) (upd H1 p (.tup xs))
noncomputable def QvW(t:TA):TE:=λσ H Q=>t σ H λxs H1=>xs.length<=sizeLine/\∀p,H1 p=none->Q (.ref p) (upd H1 p (.lst xs))
theorem Qud{x1}(h:PA X es t):PE X (.Tuple es x1 pos) (Qwt t):=by
 intro pins s σ H Q I hq
 refine wpAny_Tuple_spliced (thn (h pos pins s σ H _ I hq) λus s1 ⟨xs,H1,I1,r,z,q⟩=>⟨by rw[← r.length];exact z,?_⟩)
 have hf:H1 s1.heap.objs.size=none:=I1.hok.fresh (Zj _)
 refine⟨.ref s1.heap.objs.size,upd H1 s1.heap.objs.size (.tup xs),I1.laid (t':=s1.toks) (λb u e=>Zt _ e) (Zj _) ?_,rfl,q _ hf⟩
 exact⟨z,us,r,⟨_,ZC _ rfl,rfl,_,rfl⟩⟩
theorem Qt0(h:PA X es t):PE X (.List es pos) (QvW t):=by
 intro pins s σ H Q I hq
 refine wpAny_List_spliced (thn (h pos pins s σ H _ I hq) λus s1 ⟨xs,H1,I1,r,z,q⟩=>⟨by rw[← r.length];exact z,?_⟩)
 have hf:H1 s1.heap.objs.size=none:=I1.hok.fresh (Zj _)
 refine⟨.ref s1.heap.objs.size,upd H1 s1.heap.objs.size (.lst xs),I1.laid (t':=s1.toks) (λb u e=>Zt _ e) (Zj _) ?_,rfl,q _ hf⟩
 exact⟨z,us,0,r,ZC _ rfl⟩
end
noncomputable abbrev Sp:=List V->Hp->VK->XK->Prop
noncomputable abbrev CXT:=List Env->Hp->Shared->XK->Value->Shared->Prop
structure QdT (P:Program) (w:World) (K:PySem.W.Frag) (mg:Str->Option Value) (base:Heap) (A:Around) (outer:List Env) (s:Shared) (H:Hp):Prop where
 frames:A.frames=some outer
 mod:Mod K mg base
 bs:∀b o,base.get? b=some o->s.heap.get? b=some o/\H b=none
 bsz:base.objs.size<=s.heap.objs.size
 QcI:s.heap.FunFrames base outer
 frf:∀b∈frs outer,H b=none
 hok:HOk P w H s.heap
 bare:AllBare s.gens
def CE(outer:List Env)(P:Program)(w:World)(H:Hp)(s:Shared)(Q:VK)(u:Value)(s':Shared):Prop:=
 ∃v H',s'.os=s.os/\AllBare s'.gens/\Un (frs outer) [] H H' s.heap s'.heap/\HOk P w H' s'.heap/\RelV v u/\Q v H'
def CR(CX:CXT)(outer:List Env)(P:Program)(w:World)(H:Hp)(s:Shared)(Q:VK)(E:XK)(r:Result)(s':Shared):Prop:=
 match r with
 | .ok (.ret u)=>CE outer P w H s Q u s'
 | .ok _=>False
 | .error e=>CX outer H s E e s'
structure Qa7 (P:Program) (w:World) (K:PySem.W.Frag) (mg:Str->Option Value) (base:Heap) (CX:CXT) (k:Nat) (f:Addr) (fd:FuncData) (ps:List Str) (sp:Sp):Prop where
 len:∀vs H Q E,sp vs H Q E->vs.length=ps.length
 run:∀(A:Around) (outer:List Env) (s:Shared) (H:Hp) (args:Args) (us:List Value) (vs:List V) (Q:VK) (E:XK),Qaj k A->QdT P w K mg base A outer s H->BindsTo s fd args (ps.zip us)->Qq vs us->sp vs H Q E→
  codeAny (model P w) A (.call (.ref f) args) (CR CX outer P w H s Q E) s
theorem Qa7.mono{P:Program}{w:World}{K:PySem.W.Frag}{mg:Str->Option Value}{base:Heap}{CX:CXT}{j k:Nat}{f:Addr}{fd:FuncData}{ps:List Str}{sp:Sp}(F:Qa7 P w K mg base CX j f fd ps sp)(h:j<=k):
  Qa7 P w K mg base CX k f fd ps sp:=⟨F.len,λA outer s H args us vs Q E hr=>F.run A outer s H args us vs Q E (hr.mono h)⟩
theorem Qa7.imp{P:Program}{w:World}{K:PySem.W.Frag}{mg:Str->Option Value}{base:Heap}{CX:CXT}{k:Nat}{f:Addr}{fd:FuncData}{ps:List Str}{sp sp':Sp}(F:Qa7 P w K mg base CX k f fd ps sp)
  (h:∀vs H Q E,sp' vs H Q E->sp vs H Q E):Qa7 P w K mg base CX k f fd ps sp':=
 ⟨λvs H Q E q=>F.len vs H Q E (h _ _ _ _ q),λA outer s H args us vs Q E hr he hb hv hs=>F.run A outer s H args us vs Q E hr he hb hv (h _ _ _ _ hs)⟩
theorem QdT.make{P:Program}{w:World}{K:PySem.W.Frag}{mg:Str->Option Value}{base:Heap}{A:Around}{outer:List Env}{s:Shared}{H:Hp}(e:QdT P w K mg base A outer s H)(C:Addr)(us:List Value)(kw:List (Str×Value)):
  QdT P w K mg base (A.under (.builtin "type.__call__" ⟨.ref C::us,kw⟩)) outer s H:=⟨by first | exact e.frames | (simpa[Around.under,Code.envs,Code.isFrame,pushEnvs]using e.frames),e.mod,e.bs,e.bsz,e.QcI,e.frf,e.hok,e.bare⟩
theorem QdT.in1{P:Program}{w:World}{K:PySem.W.Frag}{mg:Str->Option Value}{base:Heap}{A:Around}{outer:List Env}{s:Shared}{H:Hp}(e:QdT P w K mg base A outer s H):
  QdT P w K mg base A.in1 outer s H:=⟨e.frames,e.mod,e.bs,e.bsz,e.QcI,e.frf,e.hok,e.bare⟩
section
variable {X:Cx}{pins:List (Addr×Obj)}{σ:St}{H:Hp}{s s':Shared}
theorem Inv.Qv4(I:Inv X pins σ H s):QdT X.prog X.w X.K X.mg X.base X.A X.stack s H:=
 ⟨I.ok.frames,I.ok.mod,I.bs,Zu I.ok.bsz I.sz,I.stack,I.Ql4,I.hok,I.bare⟩
theorem Inv.after{Q:VK}{u:Value}(I:Inv X pins σ H s)(h:CE X.stack X.prog X.w H s Q u s'):EP X pins σ Q u s':=by
 obtain⟨v,H',os,bare,un,hok,r,q⟩:=h
 obtain⟨hh,g,d,t,os'⟩:=s'
 obtain rfl:os'=s.os:=os
 exact⟨v,H',I.call (h':=hh) (g':=g) (d':=d) (t':=t) (ch:=[]) un hok bare (λb z=>absurd z (by simp)),r,q⟩
end
noncomputable def Qnh(sp:Sp)(dvs:List V)(E:XK)(t:TA):TE:=λσ H Q=>t σ H λvs H1=>sp (vs++dvs) H1 Q E
def Binds(K:PySem.W.Frag)(fd:FuncData)(ps:List Str)(ds:List Value):Prop:=
 ∀(s:Shared) (us:List Value),K.In s.heap->(us++ds).length=ps.length->BindsTo s fd ⟨us,[]⟩ (ps.zip (us++ds))
theorem Binds.all{K:PySem.W.Frag}{fd:FuncData}{ps:List Str}(h:∀us:List Value,us.length=ps.length->bindArgs fd ⟨us,[]⟩=pure (ps.zip us)):Binds K fd ps []:=λs us _ hl=>by
 rw[Zam]at hl ⊢
 exact .of_eq (h us hl)
def QhQ(CX:CXT)(X:Cx)(E:XK):Prop:=∀(pins:List (Addr×Obj)) (σ:St) (H:Hp) (s:Shared) (e:Value) (s':Shared),Inv X pins σ H s->CX X.stack H s E e s'->X.xe e s'
section
variable {X:Cx}{CX:CXT}{k:Nat}{f C:Addr}{fd:FuncData}{ps:List Str}{sp:Sp}{dvs:List V}{ds:List Value}{E:XK}{x m:Str}{p pos apos:Pos}{e o:Expr}{es:List Expr}{ta:TE}{t:TA}
theorem Qnu{pins:List (Addr×Obj)}{σ:St}{H:Hp}{s:Shared}{Q:VK}{us:List Value}{vs:List V}(F:Qa7 X.prog X.w X.K X.mg X.base CX k f fd ps sp)(hr:Qaj k X.A)(hb:Binds X.K fd ps ds)(hd:Qq dvs ds)(hx:QhQ CX X E)
  (I:Inv X pins σ H s) (r:Qq vs us) (h:sp (vs++dvs) H Q E):wpAny (model X.prog X.w) X.A (call (.ref f) us) (EP X pins σ Q) X.xe s:=by
 have r2:Qq (vs++dvs) (us++ds):=r.append hd
 have hl:(us++ds).length=ps.length:=by rw[← r2.length];exact F.len _ _ _ _ h
 refine wpAny_call (codeAny_mono (F.run X.A X.stack s H ⟨us,[]⟩ (us++ds) (vs++dvs) Q E hr I.Qv4 (hb s us I.kIn hl) r2 h) λr s' hq=>?_)
 cases r with
 | error e=>exact hx pins σ H s e s' I hq
 | ok fl=>
  cases fl with
  | ret u=>exact I.after hq
  | next=>exact False.elim hq
  | brk=>exact False.elim hq
  | cont=>exact False.elim hq
theorem Qst(F:Qa7 X.prog X.w X.K X.mg X.base CX k f fd ps sp)(hr:Qaj k X.A)(hg:Gl X x)(hm:X.mg x=some (.ref f))(hk:PySem.W.keepIn X.K (.ref f)=true)(hb:Binds X.K fd ps ds)(hd:Qq dvs ds)(hx:QhQ CX X E)
  (ha:PA X (e::es) t) (hdb:(x == ("__debug__" :Str))=false:=by decide) (he:starEach (e::es) X.env=(false,eval e X.env)::starEach es X.env:=by rfl) (hpl:(backTo pos (starEach es X.env)).any (·.1)=false:=by rfl):
  PE X (.Call (.Name x p) (e::es) [] pos) (Qnh sp dvs E t):=by
 intro pins s σ H Q I h
 refine wpAny_Call_Name_kw (Qis I hg hm ?_ hdb)
 refine PySem.W.callWith_K (h₀:=X.base) I.ok.mod.kin hk (thn (ha pos pins s σ H _ I h) λus s1 ⟨vs,H1,I1,r,q⟩=>⟨I1.kIn,?_⟩) he hpl
 exact Qnu F hr hb hd hx I1 r q
theorem QpT(F:Qa7 X.prog X.w X.K X.mg X.base CX k f fd ps sp)(hr:Qaj k X.A)(hg:Gl X x)(hm:X.mg x=some (.ref f))(hk:PySem.W.keepIn X.K (.ref f)=true)(hb:Binds X.K fd ps ds)(hd:Qq dvs ds)(hx:QhQ CX X E)
  (hdb:(x == ("__debug__" :Str))=false:=by decide):PE X (.Call (.Name x p) [] [] pos) (Qnh sp dvs E QgT):=by
 intro pins s σ H Q I h
 refine wpAny_Call_Name_kw (Qis I hg hm ?_ hdb)
 exact PySem.W.callWith_K0 I.kIn hk (Qnu (us:=[]) F hr hb hd hx I .nil h)
structure Mk (K:PySem.W.Frag) (C f:Addr):Prop where
 makes:PySem.W.makesIn K C=true
 init:PySem.W.findIn K (.ref C) "__init__" =some (some (.ref f))
 fn:PySem.W.isFn K (.ref f)=true
 kp:PySem.W.keepIn K (.ref C)=true
end
section
variable {X:Cx}{CX:CXT}{k:Nat}{f C:Addr}{fd:FuncData}{ps ks:List Str}{sp:Sp}{E:XK}{x m:Str}{p pos apos kpos:Pos}{e o:Expr}{es:List Expr}{kws:List Keyword}{te ta:TE}{t tk:TA}{nm:Option Str}
structure QwN (K:PySem.W.Frag) (fd:FuncData) (ps ks:List Str) (g:List Value->List Value->List Value) (gV:List V->List V->List V):Prop where
 to:∀(s:Shared) (us ws:List Value),K.In s.heap->(g us ws).length=ps.length->BindsTo s fd ⟨us,ks.zip ws⟩ (ps.zip (g us ws))
 rel:∀{vs:List V}{us:List Value}{zs:List V}{ws:List Value},Qq vs us->Qq zs ws->Qq (gV vs zs) (g us ws)
variable {g:List Value->List Value->List Value}{gV:List V->List V->List V}
end
structure QbZ (N P:List Str) (sc:Scope):Prop where
 kind:sc.kind= .function
 co:sc.isCoroutine=false
 gen:sc.isGenerator=false
 nd:N.Nodup
 pre:N.take P.length=P
 par:∀x∈P,sc.names.lookup x=some .local ∨sc.names.lookup x=some .cell
 nofree:∀y∈sc.names,y.2≠ .free
theorem Qi3{kindOf:Str->Option NameKind}{x:Str}:∀{binds:List (Str×Value)}{m:Str->Option Value},(∀v,(x,v)∉binds)->bindL kindOf binds m x=m x
 | [],_,_=>rfl
 | (n,v)::r,m,h=>by
  unfold bindL
  rw[Qi3 λw hw=>h w (Zb _ hw)]
  split
  ·have:x≠n:=by rintro rfl;exact h v Zm
   simp[this]
  ·rfl
theorem QiQ{kindOf:Str->Option NameKind}{x:Str}:∀{binds:List (Str×Value)}{m:Str->Option Value},(∀v,(x,v)∉binds)->bindC kindOf binds m x=m x
 | [],_,_=>rfl
 | (n,v)::r,m,h=>by
  unfold bindC
  rw[QiQ λw hw=>h w (Zb _ hw)]
  split
  ·rfl
  ·have:x≠n:=by rintro rfl;exact h v Zm
   simp[this]
theorem Qjc{kindOf:Str->Option NameKind}{x:Str}{v:Value}:∀{P:List Str}{vs:List Value}{i:Nat}{m:Str->Option Value},P.Nodup->P[i]? =some x->vs[i]? =some v->kindOf x=some .local →
  bindL kindOf (P.zip vs) m x=some v
 | [],_,_,_,_,h,_,_=>by simp at h
 | _::_,[],_,_,_,_,h,_=>by simp at h
 | p::P,w::vs,0,m,nd,h1,h2,hk=>by
  simp at h1 h2;subst h1;subst h2
  show bindL kindOf ((p,w)::P.zip vs) m p=_
  unfold bindL
  rw[Qi3 λv hv=>(Zan.mp nd).1 (Zbo hv).1,if_pos hk]
  simp
 | p::P,w::vs,i+1,m,nd,h1,h2,hk=>by
  show bindL kindOf ((p,w)::P.zip vs) m x=_
  unfold bindL
  exact Qjc (i:=i) (Zan.mp nd).2 (by simpa using h1) (by simpa using h2) hk
theorem Qjb{kindOf:Str->Option NameKind}{x:Str}{v:Value}:∀{P:List Str}{vs:List Value}{i:Nat}{m:Str->Option Value},P.Nodup->P[i]? =some x->vs[i]? =some v->kindOf x≠some .local →
  bindC kindOf (P.zip vs) m x=some v
 | [],_,_,_,_,h,_,_=>by simp at h
 | _::_,[],_,_,_,_,h,_=>by simp at h
 | p::P,w::vs,0,m,nd,h1,h2,hk=>by
  simp at h1 h2;subst h1;subst h2
  show bindC kindOf ((p,w)::P.zip vs) m p=_
  unfold bindC
  rw[QiQ λv hv=>(Zan.mp nd).1 (Zbo hv).1,if_neg hk]
  simp
 | p::P,w::vs,i+1,m,nd,h1,h2,hk=>by
  show bindC kindOf ((p,w)::P.zip vs) m x=_
  unfold bindC
  exact Qjb (i:=i) (Zan.mp nd).2 (by simpa using h1) (by simpa using h2) hk
noncomputable def start(N:List Str)(vs:List V):St:=vs.map some++List.replicate (N.length-vs.length) none
noncomputable def QfF(CX:CXT)(P:Program)(w:World)(K:PySem.W.Frag)(mg:Str->Option Value)(base:Heap)(N:List Str)(qual:Str)(scope:Scope)(f:Addr)(cd:Value)(A:Around)(outer:List Env)(s:Shared)(H:Hp)(E:XK):Cx where
 prog:=P
 w:=w
 K:=K
 mg:=mg
 base:=base
 A:=A.deeper (envOfC qual scope s.heap.objs.size f cd)
 N:=N
 s₀:=s
 H₀:=H
 env:=envOfC qual scope s.heap.objs.size f cd
 outer:=outer
 stack:=envOfC qual scope s.heap.objs.size f cd::outer
 ex:=[]
 calm:=decide (A.handled=none)
 fn:=λ_=>true
 pn:=[]
 xe:=λe s'=>wpAny (model P w) (A.deeper (envOfC qual scope s.heap.objs.size f cd)) (leaving (envOfC qual scope s.heap.objs.size f cd) e) (λ_ s''=>CX outer H s E e s'') (λe' s''=>CX outer H s E e' s'') s'
theorem Qkc{sc:Scope}{n:Nat}{x:Str}(h:sc.names.lookup x=some .cell):∃c,(cellsFrom n sc.names []).lookup x=some c:=by
 have q:=Zbi sc.names n [] (.inl h)
 exact Zba.mp q
theorem Qoe{CX:CXT}{P:Program}{w:World}{K:PySem.W.Frag}{mg:Str->Option Value}{base:Heap}{N ps:List Str}{qual:Str}{scope:Scope}{f:Addr}{cd:Value}{A:Around}{outer:List Env}{s s1:Shared}{H:Hp}{E:XK}{us:List Value}{vs:List V}
  (S:QbZ N ps scope) (e0:QdT P w K mg base A outer s H) (hl:vs.length=ps.length) (r:Qq vs us)
  (x:InCallC s s.heap.objs.size (bindL (envOfC qual scope s.heap.objs.size f cd).kindOf (ps.zip us) λ_=>none) (cellsFrom (s.heap.objs.size+1) scope.names []) (bindC (envOfC qual scope s.heap.objs.size f cd).kindOf (ps.zip us) λ_=>none) s1):
  Inv (QfF CX P w K mg base N qual scope f cd A outer s H E) [] (start N vs) H s1:=by
 have hpl:ps.length<=N.length:=by have:=congrArg List.length S.pre;rw[ZaB]at this;omega
 obtain⟨h1,tk,rfl,hk⟩:=x.done
 have noA:∀b:Addr,b∉(QfF CX P w K mg base N qual scope f cd A outer s H E).ex:=λb z=>absurd (show b∈([]:List Addr)from z) (by simp)
 refine⟨⟨e0.mod,S.kind,rfl,rfl,Zj _,λy z c h1 h2=>?_,λy hy=>?_,λy c _ h=>?_,λh=>of_decide_eq_true h,Around.frames_deeper e0.frames,.inr ⟨rfl,rfl⟩,λb z=>absurd z (noA b),e0.bs,e0.bsz,λb _ _=>noA b,λb z=>absurd z (noA b),e0.QcI,e0.frf⟩,
  rfl,e0.bare,Un.kept hk,⟨_,x.toInCall.ns,λi y v h1 h2 h3=>?_⟩,λy c h=>⟨_,x.cell y c h⟩,e0.hok.fresh (Zj _),λy c h=>?_,λp hp=>absurd (show p∈([]:List (Addr×Obj))from hp) (by simp),e0.hok.kept hk,?_⟩
 ·exact name_of_addr x.apart (ZR h1) (ZR h2)
 ·have hy:scope.names.lookup y=some .cell∨scope.names.lookup y=some .free:=hy
  rcases hy with hy | hy
  ·exact Qkc hy
  ·exact absurd rfl (S.nofree _ (ZR hy))
 ·exact Nat.le_of_lt (x.above y c (ZR h))
 ·have hi:i<vs.length:=by
   unfold start at h2
   by_cases hi:i<vs.length
   ·exact hi
   ·rw[ZaU (by simpa using hi)]at h2
    rw[Zbc]at h2
    split at h2<;>cases h2
  have ha:vs[i]? =some v:=by
   unfold start at h2
   rw[ZY (by simpa using hi),Zx]at h2
   cases e:vs[i]? with
   | none=>rw[e]at h2;cases h2
   | some a=>rw[e]at h2;cases h2;rfl
  obtain⟨u,hu,rv⟩:=r.get ha
  have hp:ps[i]? =some y:=by
   rw[← S.pre,List.getElem?_take_of_lt (by omega)];exact h1
  have ndP:ps.Nodup:=by rw[← S.pre];exact S.nd.sublist (List.take_sublist _ _)
  refine⟨u,rv,?_⟩
  rcases S.par y (ZF hp)with k | k
  ·exact .inl ⟨k,Qjc ndP hp hu k⟩
  ·obtain⟨c,e⟩:=Qkc (n:=s.heap.objs.size+1) k
   refine .inr ⟨.inl k,c,e,?_⟩
   have q:=x.cell y c e
   rw[Qjb ndP hp hu (by show scope.names.lookup y≠_;rw[k];decide)]at q
   exact q
 ·exact e0.hok.fresh (Nat.le_of_lt (x.above y c (ZR h)))
 ·unfold start
  show _=N.length
  rw[Zf,Zc,ZM]
  omega
theorem Qqj{CX:CXT}{P:Program}{w:World}{K:PySem.W.Frag}{mg:Str->Option Value}{base:Heap}{k:Nat}{f:Addr}{name qual:Str}{params:Arguments}{body:List Stmt}{scope:Scope}{dV kV doc pm cdv ct oc:Value}{an od:Option Addr}
  {osl:Array (Option Value)}{N ps:List Str}{sp:Sp}(lk:K.lookup f=some ⟨oc,od,.func (PySem.W.fnOf name qual params body scope dV kV doc pm an cdv ct),osl⟩) (hcd:PySem.W.codeIn K cdv qual=true) (S:QbZ N ps scope)
  (len:∀vs H Q E,sp vs H Q E->vs.length=ps.length)
  (hbody:∀(A:Around) (outer:List Env) (s:Shared) (H:Hp) (vs:List V) (Q:VK) (E:XK),Qaj k (A.deeper (envOfC qual scope s.heap.objs.size f cdv))->sp vs H Q E→
   ∃t,PSs (QfF CX P w K mg base N qual scope f cdv A outer s H E) body t/\t {nx:=λ_ H'=>Q .non H',rt:=Q} (start N vs) H):
  Qa7 P w K mg base CX (k+1) f (PySem.W.fnOf name qual params body scope dV kV doc pm an cdv ct) ps sp:=by
 refine⟨len,λA outer s H args us vs Q E hr e0 hb r hsp=>?_⟩
 have hl:=len _ _ _ _ hsp
 have KX:K.In s.heap:=e0.mod.kin.keeps λb o e=>(e0.bs b o e).1
 have lim:s.heap.NoLimit:=e0.mod.nolimit.keeps λb o e=>(e0.bs b o e).1
 have hkind:∀y∈ps.zip us,scope.names.lookup y.1=some .local ∨(scope.names.lookup y.1=some .cell/\((cellsFrom (s.heap.objs.size+1) scope.names []).lookup y.1).isSome=true):=λhpt hy=>by
  obtain⟨n,v⟩:=hpt
  rcases S.par n (Zbo hy).1 with q | q
  ·exact .inl q
  ·exact .inr ⟨q,Zbi _ _ _ (.inl q)⟩
 refine codeAny_call_function hr.depth (KX _ _ lk) rfl S.co S.gen rfl (PySem.W.codeRec_of KX hcd) (hb _ _ _ _ ?_)
 refine wpAny_newFunctionEnv_cells S.kind hkind λenv he s1 x=>?_
 subst he
 refine⟨lim.keeps x.toInCall.keep,codeAny_func ?_⟩
 obtain⟨t,ht,hq⟩:=hbody A outer s H vs Q E (hr.deeper _) hsp
 have I:Inv (QfF CX P w K mg base N qual scope f cdv A outer s H E) [] (start N vs) H s1:=Qoe S e0 hl r x
 refine wpAny_mono (ht [] s1 (start N vs) H _ I hq) (λfl s' hs=>?_) λe s' hs=>hs
 have fin:∀{σ':St}{H':Hp}{v:V}{u:Value},Inv (QfF CX P w K mg base N qual scope f cdv A outer s H E) [] σ' H' s'->RelV v u->Q v H'->CE outer P w H s Q u s':=
  λ{σ' H' v u} J rv q=>⟨v,H',J.os,J.bare,J.base,J.hok,rv,q⟩
 cases fl with
 | ret u=>
  obtain⟨v,σ',H',J,rv,q⟩:=hs
  exact fin J rv q
 | next=>
  obtain⟨σ',H',J,q⟩:=hs
  exact fin (v:=V.non) (u:=Value.none) J rfl q
 | brk=>
  obtain⟨_,_,_,q⟩:=hs
  exact False.elim q
 | cont=>
  obtain⟨_,_,_,q⟩:=hs
  exact False.elim q
end L2
namespace L2
open PySem PySem.Spec PyProof.Rows
section
variable {X:Cx}{x:Str}{p pos:Pos}{e:Expr}{es:List Expr}{t:TA}{id T:String}{r:List V->Hp->VK->Prop}
noncomputable def tCB(r:List V->Hp->VK->Prop)(t:TA):TE:=λσ H Q=>t σ H λvs H1=>r vs H1 Q
theorem Qj1(hc:QaM X (.builtin id) r)(hg:Gl X x)(hm:X.mg x=none)(hv:bootBuiltins x=some (.builtin id))(ha:PA X (e::es) t)(hn:x≠ "__name__" :=by decide)(hdb:(x == ("__debug__" :Str))=false:=by decide)
  (he:starEach (e::es) X.env=(false,eval e X.env)::starEach es X.env:=by rfl) (hpl:(backTo pos (starEach es X.env)).any (·.1)=false:=by rfl):PE X (.Call (.Name x p) (e::es) [] pos) (tCB r t):=by
 intro pins s σ H Q I h
 refine wpAny_Call_Name_kw (QeR I hg hm hv ?_ hn hdb)
 exact PyProof.Rows.callWith_builtin1 (thn (ha pos pins s σ H _ I h) λus s1 ⟨vs,H1,I1,r1,q1⟩=>hc pins s1 σ H1 vs us Q I1 r1 q1) he hpl
theorem Qjd(hc:QaM X (.type T) r)(hg:Gl X x)(hm:X.mg x=none)(hv:bootBuiltins x=some (.type T))(ha:PA X (e::es) t)(hn:x≠ "__name__" :=by decide)(hdb:(x == ("__debug__" :Str))=false:=by decide)
  (he:starEach (e::es) X.env=(false,eval e X.env)::starEach es X.env:=by rfl) (hpl:(backTo pos (starEach es X.env)).any (·.1)=false:=by rfl):PE X (.Call (.Name x p) (e::es) [] pos) (tCB r t):=by
 intro pins s σ H Q I h
 refine wpAny_Call_Name_kw (QeR I hg hm hv ?_ hn hdb)
 exact Zaq (thn (ha pos pins s σ H _ I h) λus s1 ⟨vs,H1,I1,r1,q1⟩=>hc pins s1 σ H1 vs us Q I1 r1 q1) he hpl
end
end L2
namespace HT
open PySem PyProof.Rows
section
open PySem.SeqAt
open PySem.AutoSeq1 (wpAny_loadPart')
open PySem.MeetsSeq PySem.MeetsSeq2 PySem.MeetsSeq3
end
section
variable {prog:Program}{w:World}{A:Around}{E:Value->Shared->Prop}{s:Shared}
noncomputable def sIx(n d:Nat):Option Int->Nat
 | none=>d
 | some v=>if v<0 then(v+(n:Int)).toNat else min v.toNat n
theorem QgP(n d:Nat):sIx n d none=d:=rfl
theorem QeL(n d k:Nat):sIx n d (some (k:Int))=min k n:=by
 show(if(k:Int)<0 then((k:Int)+(n:Int)).toNat else min (k:Int).toNat n)=min k n
 rw[if_neg (by omega),ZE]
end
end HT
namespace L2
open PySem PySem.Spec PyProof.Rows
noncomputable abbrev TO:=St->Hp->(Option Int->Hp->Prop)->Prop
def PO(X:Cx)(e:Option Expr)(t:TO):Prop:=
 ∀(pins:List (Addr×Obj)) (s:Shared) (σ:St) (H:Hp) (Q:Option Int->Hp->Prop),Inv X pins σ H s->t σ H Q→
  wpAny (model X.prog X.w) X.A (evalPart e X.env) (λu s'=>∃o H',Inv X pins σ H' s'/\IsPart u o/\Q o H') X.xe s
noncomputable def QqI:TO:=λ_ H Q=>Q none H
noncomputable def Qvi(t:TE):TO:=λσ H Q=>t σ H λx H1=>∃i,x= .int i/\Q (some i) H1
theorem intsAre_of{ns:List Int}:∀{us:List Value},Qq (ns.map V.int) us->IntsAre us ns:=by
 induction ns with
 | nil=>intro us r;rw[ZaT]at r;cases r;exact .nil
 | cons n ns ih=>
  intro us r
  rw[Zo]at r
  cases r with
  | cons r1 r2=>
   obtain⟨t,e⟩:=r1
   subst e
   exact .cons n t (ih r2)
section
variable {X:Cx}{e:Expr}{te:TE}{lo hi:Option Expr}{tl th:TO}{pos p2:Pos}
theorem QsD:PO X none QqI:=by
 intro pins s σ H Q I h
 rw[evalPart_none]
 exact wpAny_pure ⟨none,H,I,.none,h⟩
theorem Qr6(h:PE X e te):PO X (some e) (Qvi te):=by
 intro pins s σ H Q I hw
 rw[evalPart_some]
 refine thn (h pins s σ H _ I hw) λu s1=>exJ λx H1 I1 r1 q1=>?_
 obtain⟨i,rfl,q⟩:=q1
 obtain⟨t,rfl⟩:=r1
 exact⟨some i,H1,I1,.int i t,q⟩
def SlR(X:Cx)(r:V->Option Int->Option Int->Hp->VK->Prop):Prop:=
 ∀(pins:List (Addr×Obj)) (s:Shared) (σ:St) (H:Hp) (x:V) (v vl vu:Value) (lo hi:Option Int) (sl:Addr) (Q:VK),Inv X pins σ H s->RelV x v->s.heap.IsSliceOf sl vl vu .none->IsPart vl lo->IsPart vu hi->r x lo hi H Q→
  ∃T id,typeLookup (.type T) "__getitem__" =pure (some (.builtin id))/\s.TypeIs v T/\wpAny (model X.prog X.w) X.A (getItem v (.ref sl)) (EP X pins σ Q) X.xe s
theorem SlR.or{r r':V->Option Int->Option Int->Hp->VK->Prop}(h:SlR X r)(h':SlR X r'):SlR X (λx lo hi H Q=>r x lo hi H Q∨r' x lo hi H Q):=by
 intro pins s σ H x v vl vu lo hi sl Q I rx hs pl pu q
 rcases q with q | q
 ·exact h pins s σ H x v vl vu lo hi sl Q I rx hs pl pu q
 ·exact h' pins s σ H x v vl vu lo hi sl Q I rx hs pl pu q
noncomputable def tSl(r:V->Option Int->Option Int->Hp->VK->Prop)(te:TE)(tl th:TO):TE:=λσ H Q=>te σ H λx H1=>tl σ H1 λl H2=>th σ H2 λu H3=>r x l u H3 Q
theorem QoX{r:V->Option Int->Option Int->Hp->VK->Prop}(hr:SlR X r)(he:PE X e te)(hl:PO X lo tl)(hu:PO X hi th):PE X (.Subscript e (.Slice lo hi none p2) pos) (tSl r te tl th):=by
 intro pins s σ H Q I h
 refine Subscript_ (thn (he pins s σ H _ I h) λv s1=>exJ λx H1 I1 r1 q1=>?_)
 refine wpAny_Slice (thn (hl pins s1 σ H1 _ I1 q1) λvl s2 ⟨l,H2,I2,pl,q2⟩=>thn (hu pins s2 σ H2 _ I2 q2) λvu s3=>exJ λu H3 I3 pu q3=>?_)
 rw[evalPart_none]
 refine wpAny_pure ?_
 have I4:Inv X pins σ H3 {s3 with heap:=s3.heap.push {cls:= .type "slice",data:= .fields #[vl,vu,.none]}}:=I3.kept (t':=s3.toks) λb ob q=>Zt _ q
 obtain⟨T,id,hT,ht,hg⟩:=hr pins {s3 with heap:=s3.heap.push {cls:= .type "slice",data:= .fields #[vl,vu,.none]}} σ H3 x v vl vu l u s3.heap.objs.size Q I4 r1 (Heap.IsSliceOf.new ..) pl pu q3
 show wpAny (model X.prog X.w) X.A (subscriptTail e (.Slice lo hi none p2) v (.ref s3.heap.objs.size)) (EP X pins σ Q) X.xe {s3 with heap:=s3.heap.push {cls:= .type "slice",data:= .fields #[vl,vu,.none]}}
 exact tail_any (ops:=[.ref s3.heap.objs.size,v]) ht hT hg (by with_unfolding_all rfl)
noncomputable def Qh6(xs:List V)(lo hi:Option Int):List V:=(xs.drop (HT.sIx xs.length 0 lo)).take (HT.sIx xs.length xs.length hi-HT.sIx xs.length 0 lo)
theorem Qlh(xs:List V)(lo hi:Option Int):(Qh6 xs lo hi).length<=xs.length:=by
 unfold Qh6
 rw[ZaB,Zbd]
 omega
end
end L2
namespace L2
open PySem PySem.Spec PyProof.Rows
noncomputable def ixN(n:Nat)(i:Int):Option Nat:=if 0<=i then(if i<n then some i.toNat else none)else if-(n:Int)<=i then some (i+n).toNat else none
noncomputable def atI{α:Type}(xs:List α)(i:Int):Option α:=(ixN xs.length i).bind λj=>xs[j]?
theorem Qf9{n:Nat}{i:Int}{j:Nat}(h:ixN n i=some j):seqIndex? i n=some j/\j<n/\ -(n:Int)<=i/\i<n:=by
 unfold ixN at h
 by_cases h0:0<=i
 ·rw[if_pos h0]at h
  by_cases h1:i<n
  ·rw[if_pos h1]at h
   have e:i.toNat=j:=Option.some.inj h
   exact⟨by rw[seqIndex_of h0 h1,e],by omega,by omega,h1⟩
  ·rw[if_neg h1]at h;cases h
 ·rw[if_neg h0]at h
  by_cases h1: -(n:Int)<=i
  ·rw[if_pos h1]at h
   have e:(i+n).toNat=j:=Option.some.inj h
   exact⟨by rw[seqIndex_neg (by omega) h1,e],by omega,h1,by omega⟩
  ·rw[if_neg h1]at h;cases h
theorem Qh0{α:Type}{xs:List α}{i:Int}{v:α}(h:atI xs i=some v):∃j,seqIndex? i xs.length=some j/\xs[j]? =some v/\j<xs.length/\ -(xs.length:Int)<=i/\i<xs.length:=by
 unfold atI at h
 cases e:ixN xs.length i with
 | none=>rw[e]at h;cases h
 | some j=>
  rw[e]at h
  obtain⟨h1,h2,h3,h4⟩:=Qf9 e
  exact⟨j,h1,h,h2,h3,h4⟩
def Qf3(b:Expr):Prop:=∀o i,subscripted b false o i=operate [o,i] (getItem o i)
def IxR(X:Cx)(r:R2):Prop:=
 ∀(value slice:Expr) (pins:List (Addr×Obj)) (s:Shared) (σ:St) (H:Hp) (x y:V) (v u:Value) (Q:VK),Inv X pins σ H s->RelV x v->RelV y u->r x y H Q→
  subscripted slice false v u=operate [v,u] (getItem v u)->wpAny (model X.prog X.w) X.A (subscriptTail value slice v u) (EP X pins σ Q) X.xe s
def MtR(X:Cx)(id:String)(r:V->List V->Hp->VK->Prop):Prop:=
 ∀(pins:List (Addr×Obj)) (s:Shared) (σ:St) (H:Hp) (x:V) (xs:List V) (v:Value) (us:List Value) (Q:VK),Inv X pins σ H s->RelV x v->Qq xs us->r x xs H Q→
  wpAny (model X.prog X.w) X.A (call (.builtin id) (v::us)) (EP X pins σ Q) X.xe s
section
variable {X:Cx}{a b:Expr}{ta tb:TE}{pos:Pos}
theorem IxR.or{r r':R2}(h:IxR X r)(h':IxR X r'):IxR X (λx y H Q=>r x y H Q∨r' x y H Q):=by
 intro value slice pins s σ H x y v u Q I rx ry q hs
 rcases q with q | q
 ·exact h value slice pins s σ H x y v u Q I rx ry q hs
 ·exact h' value slice pins s σ H x y v u Q I rx ry q hs
theorem MtR.or{id:String}{r r':V->List V->Hp->VK->Prop}(h:MtR X id r)(h':MtR X id r'):MtR X id (λx xs H Q=>r x xs H Q∨r' x xs H Q):=by
 intro pins s σ H x xs v us Q I rx rs q
 rcases q with q | q
 ·exact h pins s σ H x xs v us Q I rx rs q
 ·exact h' pins s σ H x xs v us Q I rx rs q
theorem Qqt{r:R2}(hr:IxR X r)(ha:PE X a ta)(hb:PE X b tb)(hs:Qf3 b):PE X (.Subscript a b pos) (tOp r ta tb):=by
 intro pins s σ H Q I h
 exact Subscript_ (Qmn ha hb I h λv u s2 x y H2 I2 rx ry q=>hr a b pins s2 σ H2 x y v u Q I2 rx ry q (hs _ _))
noncomputable def Qs8(K:PySem.W.Frag):R2:=λx y H Q=>∃p xs i v,x= .ref p/\y= .int i/\SqL K H p xs/\atI xs i=some v/\Q v H
noncomputable def QwD(K:PySem.W.Frag):R2:=λx y H Q=>∃p xs i v,x= .ref p/\y= .int i/\SqT K H p xs/\atI xs i=some v/\Q v H
theorem Ql8:IxR X (Qs8 X.K):=by
 intro value slice pins s σ H x y v u Q I rx ry h hs
 obtain⟨p,xs,i,z,rfl,rfl,hq,he,q⟩:=h
 cases rx
 obtain⟨t,rfl⟩:=ry
 obtain⟨its,r,pl,hz⟩:=I.list hq
 obtain⟨j,h1,h2,h3,h4,h5⟩:=Qh0 he
 obtain⟨w,ew,rw'⟩:=r.get h2
 have hl:=r.length
 have hn:=Qd7
 have fin:EP X pins σ Q w s:=⟨z,H,I,rw',q⟩
 by_cases h0:0<=i
 ·have hj:i.toNat=j:=by
   rw[seqIndex_of h0 h5]at h1
   exact Option.some.inj h1
  exact item_listR pl.isList h0 (by omega) (by rw[hj];simpa using ew) fin hs
 ·have hj:(i+(its.toArray.size:Int)).toNat=j:=by
   rw[seqIndex_neg (by omega) h4]at h1
   rw[Zp,← hl]
   exact Option.some.inj h1
  exact subscriptTail_builtinR (x:=w) pl.isList.typeIs slot_list_getitem.lookup
   (wpAny_getItem_list_neg (Q:=λr s'=>r=w/\EP X pins σ Q r s') pl.isList (by omega) (by rw[Zp]<;>omega) (by omega) (by rw[hj];simpa using ew) ⟨rfl,fin⟩) hs
theorem Qoy:IxR X (QwD X.K):=by
 intro value slice pins s σ H x y v u Q I rx ry h hs
 obtain⟨p,xs,i,z,rfl,rfl,hq,he,q⟩:=h
 cases rx
 obtain⟨t,rfl⟩:=ry
 obtain⟨its,r,pl,hz⟩:=I.tuple hq
 obtain⟨j,h1,h2,h3,h4,h5⟩:=Qh0 he
 obtain⟨w,ew,rw'⟩:=r.get h2
 have hl:=r.length
 have hn:=Qd7
 have fin:EP X pins σ Q w s:=⟨z,H,I,rw',q⟩
 exact subscriptTail_builtinR (x:=w) pl.typeIs slot_tuple_getitem.lookup
  (getItem_tuple (j:=j) (Q:=λr s'=>r=w/\EP X pins σ Q r s') pl (by omega) (by omega) (by rw[Zp,← hl];exact h1) (by simpa using ew) ⟨rfl,fin⟩) hs
theorem Qmj(its:List Value)(n j:Nat)(u:Value):Obj.mapSeq (·.setIfInBounds j u) {cls:= .type "list",data:= .seq its.toArray n}={cls:= .type "list",data:= .seq (its.set j u).toArray n}:=by
 simp[Obj.mapSeq]
theorem Inv.lst{pins:List (Addr×Obj)}{σ:St}{H:Hp}{s:Shared}{p:Addr}{xs:List V}(I:Inv X pins σ H s)(h:H p=some (.lst xs)):
  ∃(its:List Value) (n:Nat),Qq xs its/\s.heap.get? p=some {cls:= .type "list",data:= .seq its.toArray n}/\xs.length<=sizeLine:=by
 obtain⟨z,its,n,r,e⟩:=I.hok p _ h
 exact⟨its,n,r,e,z⟩
theorem Inv.Qt4{pins:List (Addr×Obj)}{σ:St}{H:Hp}{s:Shared}{p:Addr}{xs ys:List V}{its its':List Value}{n n':Nat}{f:Obj->Obj}(I:Inv X pins σ H s)(h:H p=some (.lst xs))
  (ho:s.heap.get? p=some {cls:= .type "list",data:= .seq its.toArray n}) (hf:f {cls:= .type "list",data:= .seq its.toArray n}={cls:= .type "list",data:= .seq its'.toArray n'}) (r:Qq ys its') (hz:ys.length<=sizeLine) (t:Nat):
  Inv X pins σ (upd H p (.lst ys)) {s with heap:=s.heap.update p f,toks:=t}:=by
 have e:(s.heap.update p f).get? p=some {cls:= .type "list",data:= .seq its'.toArray n'}:=by
  rw[Heap.get?_update_self f ho (by rw[hf]<;>rfl),hf]
 refine I.write (x:=p) (e:=p) (by rw[h];trivial) (.inl rfl) (λb u hb q=>(Heap.get?_update_other _ _ (Ne.symm hb)).trans q) ⟨_,e⟩ ?_
 exact⟨hz,its',n',r,e⟩
noncomputable def Qqk:V->V->V->Hp->(Hp->Prop)->Prop:=λo i v H Q=>∃p xs k j,o= .ref p/\i= .int k/\H p=some (.lst xs)/\ixN xs.length k=some j/\Q (upd H p (.lst (xs.set j v)))
theorem set_list:Qpb X Qqk:=by
 intro pins s σ H o i v ov iv u Q I ro ri rv h
 obtain⟨p,xs,k,j,rfl,rfl,hp,hj,q⟩:=h
 cases ro
 obtain⟨t,rfl⟩:=ri
 obtain⟨its,n,r,ho,hz⟩:=I.lst hp
 obtain⟨h1,h2,h3,h4⟩:=Qf9 hj
 have hl:=r.length
 have hn:=Qd7
 have I':Inv X pins σ (upd H p (.lst (xs.set j v))) {s with heap:=s.heap.update p (Obj.mapSeq (·.setIfInBounds j u))}:=
  I.Qt4 hp ho (Qmj its n j u) (r.set rv j) (by rw[ZaE];exact hz) s.toks
 by_cases h0:0<=k
 ·have hk:k.toNat=j:=by
   rw[seqIndex_of h0 h4]at h1
   exact Option.some.inj h1
  exact PySem.W.ki_setAt ho h0 (by omega) (by rw[Zp,← hl];exact h4) (by rw[hk];exact⟨_,I',q⟩)
 ·have hk:(k+(its.toArray.size:Int)).toNat=j:=by
   rw[seqIndex_neg (by omega) h3]at h1
   rw[Zp,← hl]
   exact Option.some.inj h1
  exact PySem.W.ki_setBack ho (by omega) (by rw[Zp,← hl];exact h3) (by omega) (by rw[hk];exact⟨_,I',q⟩)
theorem Qks(lo hi:Option Int)(n:Nat):(sliceBounds lo hi none n).1=((HT.sIx n 0 lo:Nat):Int)/\(sliceBounds lo hi none n).2.1=((HT.sIx n n hi:Nat):Int)/\(sliceBounds lo hi none n).2.2=1:=by
 refine⟨?_,?_,rfl⟩
 ·cases lo with
  | none=>simp[sliceBounds,HT.sIx]
  | some i=>
   simp only[sliceBounds,HT.sIx,Option.getD_none,show(1:Int)>0 by decide,if_true]
   by_cases h:i<0
   ·simp only[h,if_true]<;>omega
   ·simp only[h,if_false]<;>omega
 ·cases hi with
  | none=>simp[sliceBounds,HT.sIx]
  | some i=>
   simp only[sliceBounds,HT.sIx,Option.getD_none,show(1:Int)>0 by decide,if_true]
   by_cases h:i<0
   ·simp only[h,if_true]<;>omega
   ·simp only[h,if_false]<;>omega
theorem Qjg(its:List Value)(lo hi:Option Int):slicePick its.toArray lo hi none=((its.drop (HT.sIx its.length 0 lo)).take (HT.sIx its.length its.length hi-HT.sIx its.length 0 lo)).toArray:=by
 obtain⟨h1,h2,h3⟩:=Qks lo hi its.toArray.size
 unfold slicePick
 rw[h1,h2,h3]
 simp only[sliceRange_one,pick_run,Zp]<;>rfl
noncomputable def QwH(K:PySem.W.Frag):V->Option Int->Option Int->Hp->VK->Prop:=λx lo hi H Q=>∃a xs,x= .ref a/\SqL K H a xs/\∀p,H p=none->Q (.ref p) (upd H p (.lst (Qh6 xs lo hi)))
theorem QrX:SlR X (QwH X.K):=by
 intro pins s σ H x v vl vu lo hi sl Q I rx hs pl pu h
 obtain⟨a,xs,rfl,hx,q⟩:=h
 cases rx
 obtain⟨its,r,ht,hz⟩:=I.list hx
 have hlen:=r.length
 refine⟨"list",_,slot_list_getitem.lookup,ht.isList.typeIs,?_⟩
 refine wpAny_getItem_list_slice ht.isList hs pl pu .none (by simp) ?_ (by rw[Zp]<;>omega)
 rw[Qjg,← hlen]
 refine⟨.ref s.heap.objs.size,_,I.laid (t':=s.toks) (o:= .lst (Qh6 xs lo hi)) (λb ob q=>Zt _ q) (Zj _) ?_,rfl,q _ (I.hok.fresh (Zj _))⟩
 exact⟨Zu (Qlh xs lo hi) hz,_,0,(r.drop (HT.sIx xs.length 0 lo)).take (HT.sIx xs.length xs.length hi-HT.sIx xs.length 0 lo),ZC _ rfl⟩
theorem Qj7:QaM X (.builtin "len") (λxs H Q=>∃p ys,xs=[.ref p]/\(SqL X.K H p ys∨SqT X.K H p ys)/\Q (.int ys.length) H):=by
 intro pins s σ H xs us Q I r h
 obtain⟨p,ys,rfl,hq,q⟩:=h
 obtain⟨u,rfl,rx⟩:=vals1 r
 cases rx
 have hn:=Qd7
 rcases hq with hq | hq
 ·obtain⟨its,r',pl,hz⟩:=I.list hq
  have hlen:=r'.length
  exact Calls.call_len_list pl.isList (by simp only[Zp]<;>omega) ⟨.int ys.length,H,I.tok _,⟨s.toks+1,by rw[Zp,hlen]⟩,q⟩
 ·obtain⟨its,r',pl,hz⟩:=I.tuple hq
  have hlen:=r'.length
  exact len_tuple pl (by simp only[Zp]<;>omega) ⟨.int ys.length,H,I.tok _,⟨s.toks+1,by rw[Zp,hlen]⟩,q⟩
theorem QkQ:QaM X (.builtin "len") (λxs H Q=>∃z,xs=[.str z]/\z.length<=sizeLine/\Q (.int z.length) H):=by
 intro pins s σ H xs us Q I r h
 obtain⟨z,rfl,hz,q⟩:=h
 obtain⟨u,rfl,t,rfl⟩:=vals1 r
 have hn:=Qd7
 exact len_str (by omega) ⟨.int z.length,H,I.tok _,⟨_,rfl⟩,q⟩
theorem QaM.or{f:Value}{r r':List V->Hp->VK->Prop}(h:QaM X f r)(h':QaM X f r'):QaM X f (λxs H Q=>r xs H Q∨r' xs H Q):=by
 intro pins s σ H xs us Q I rs q
 rcases q with q | q
 ·exact h pins s σ H xs us Q I rs q
 ·exact h' pins s σ H xs us Q I rs q
theorem Qj5:QaM X (.type "list") (λxs H Q=>∃p ys,xs=[.ref p]/\(SqL X.K H p ys∨SqT X.K H p ys)/\∀l,H l=none->Q (.ref l) (upd H l (.lst ys))):=by
 intro pins s σ H xs us Q I r h
 obtain⟨p,ys,rfl,hq,q⟩:=h
 obtain⟨u,rfl,rx⟩:=vals1 r
 cases rx
 have fin:∀(its:List Value),Qq ys its->ys.length<=sizeLine->∀(h':Heap) (c':Nat),(∀b o',s.heap.get? b=some o'->h'.get? b=some o')→
   h'.get? s.heap.objs.size=some {cls:= .type "list",dict:=none,data:= .seq its.toArray c',slots:= #[]}->EP X pins σ Q (.ref s.heap.objs.size) {s with heap:=h'}:=λits r' hz h' c' kp e=>
  ⟨.ref s.heap.objs.size,_,I.laid (t':=s.toks) kp (Zj _) (show Qb4 X.prog X.w _ h' _ (.lst ys)from⟨hz,its,c',r',e⟩),rfl,q _ (I.hok.fresh (Zj _))⟩
 rcases hq with hq | hq
 ·obtain⟨its,r',pl,hz⟩:=I.list hq
  have hlen:=r'.length
  obtain⟨o,ho,hc,n,hd⟩:=pl.isList
  exact call_list_seq p (.inl rfl) ho hc hd (λh' c' kp e=>fin its r' hz h' c' kp e) (by simp only[Zp]<;>omega)
 ·obtain⟨its,r',pl,hz⟩:=I.tuple hq
  have hlen:=r'.length
  obtain⟨o,ho,hc,n,hd⟩:=pl
  exact call_list_seq p (.inr rfl) ho hc hd (λh' c' kp e=>fin its r' hz h' c' kp e) (by simp only[Zp]<;>omega)
def tyV(K:PySem.W.Frag)(T:String)(x:V)(H:Hp):Prop:=match x with
 | .str _=>T= "str"
 | .int _=>T= "int"
 | .ref p=>(T= "list" /\∃xs,SqL K H p xs)∨(T= "tuple" /\∃o,K.lookup p=some o/\o.cls= .type "tuple" /\o.dict=none)∨
   (T= "dict" /\((∃kvs,H p=some (.dK kvs))∨∃kvs,H p=some (.dT kvs)))∨(T= "set" /\∃S n,H p=some (.set S n))
 | _=>False
theorem Qon{pins:List (Addr×Obj)}{σ:St}{H:Hp}{s:Shared}{T:String}{x:V}{v:Value}(I:Inv X pins σ H s)(r:RelV x v)(ty:tyV X.K T x H):
  s.TypeIs v T/\∀a,v= .ref a->∃ob,s.heap.get? a=some ob/\ob.dict=none:=by
 cases x with
 | str z=>
  obtain⟨t,rfl⟩:=r
  cases(show T= "str" from ty)
  exact⟨typeIs_str s z t,λ_ e=>nomatch e⟩
 | int i=>
  obtain⟨t,rfl⟩:=r
  cases(show T= "int" from ty)
  exact⟨typeIs_int s i t,λ_ e=>nomatch e⟩
 | ref p=>
  cases r
  rcases ty with⟨rfl,xs,hq⟩ | ⟨rfl,o,hk,hc,hd⟩ | ⟨rfl,hk⟩ | ⟨rfl,S,n,hk⟩
  ·obtain⟨its,_,pl,_⟩:=I.list hq
   refine⟨pl.isList.typeIs,λa e=>?_⟩
   cases e
   obtain⟨o,n,e,c,hd,_⟩:=pl
   exact⟨o,e,hd⟩
  ·refine⟨⟨o,I.kIn p o hk,hc⟩,λa e=>?_⟩
   cases e
   exact⟨o,I.kIn _ o hk,hd⟩
  ·have z:∃o,s.heap.get? p=some o/\o.ExactDict:=by
    rcases hk with⟨kvs,hk⟩ | ⟨kvs,hk⟩
    ·obtain⟨_,_,_,_,o,_,_,e,ex,_⟩:=I.hok p _ hk
     exact⟨o,e,ex⟩
    ·obtain⟨_,_,_,_,o,_,_,e,ex,_⟩:=I.hok p _ hk
     exact⟨o,e,ex⟩
   obtain⟨o,e,ex⟩:=z
   refine⟨⟨o,e,ex.1⟩,λa e2=>?_⟩
   cases e2
   exact⟨o,e,ex.2.1⟩
  ·obtain⟨o,_,_,_,e,ex,_⟩:=I.hok p _ hk
   refine⟨⟨o,e,ex.1⟩,λa e2=>?_⟩
   cases e2
   exact⟨o,e,ex.2.1⟩
 | _=>exact False.elim ty
noncomputable def QvX(K:PySem.W.Frag)(T:String)(r:V->List V->Hp->VK->Prop)(to:TE):TE:=λσ H Q=>to σ H λx H1=>tyV K T x H1/\r x [] H1 Q
noncomputable def tBM(K:PySem.W.Frag)(T:String)(r:V->List V->Hp->VK->Prop)(to:TE)(t:TA):TE:=λσ H Q=>to σ H λx H1=>tyV K T x H1/\t σ H1 λxs H2=>r x xs H2 Q
variable {o e:Expr}{es:List Expr}{to:TE}{t:TA}{name:Str}{apos cpos:Pos}{T id:String}{r:V->List V->Hp->VK->Prop}
theorem QtZ(pa:PlainAttrs T)(slot:Slot T name id)(hty:typeOf (.builtin id)=pure (.type "method_descriptor"))(hm:MtR X id r)(ho:PE X o to)
  (hbase:attributeBase o name X.env (eval o X.env)=eval o X.env:=by rfl) (hline:(apos.endLine == cpos.line)=true:=by rfl):PE X (.Call (.Attribute o name apos) [] [] cpos) (QvX X.K T r to):=by
 intro pins s σ H Q I h
 refine wpAny_Call_method0_late hbase hline (thn (ho pins s σ H _ I h) λv s1 hpt=>?_)
 obtain⟨x,H1,I1,r1,ty,q1⟩:=hpt
 obtain⟨h1,h2⟩:=Qon I1 r1 ty
 exact⟨T,id,pa,slot,hty,h1,h2,Calls.callWith_builtin rfl (PySem.evalArgs_none (hm pins s1 σ H1 x [] v [] Q I1 r1 .nil q1))⟩
theorem Qm4(pa:PlainAttrs T)(slot:Slot T name id)(hty:typeOf (.builtin id)=pure (.type "method_descriptor"))(hm:MtR X id r)(ho:PE X o to)(ha:PA X (e::es) t)
  (hbase:attributeBase o name X.env (eval o X.env)=eval o X.env:=by rfl)
  (hfew:((backTo cpos (starEach (e::es) X.env)).all (λx=> !x.1) && (backToKw cpos (keywordEach [] X.env)).all (λx=>x.1.isSome)
   && decide ((e::es).length+([]:List Keyword).length+(if([]:List Keyword).isEmpty then 0 else 1)<30))=true:=by rfl)
  (hline:(apos.endLine == cpos.line)=true:=by rfl) (hs:starEach (e::es) X.env=(false,eval e X.env)::starEach es X.env:=by rfl) (hplain:(backTo cpos (starEach es X.env)).any (·.1)=false:=by rfl):
  PE X (.Call (.Attribute o name apos) (e::es) [] cpos) (tBM X.K T r to t):=by
 intro pins s σ H Q I h
 refine wpAny_Call_method_late hbase hfew hline rfl (thn (ho pins s σ H _ I h) λv s1 hpt=>?_)
 obtain⟨x,H1,I1,r1,ty,q1⟩:=hpt
 obtain⟨h1,h2⟩:=Qon I1 r1 ty
 refine⟨T,id,pa,slot,hty,h1,h2,?_⟩
 have hA:=ha cpos pins s1 σ H1 _ I1 q1
 rw[hs]at hA ⊢
 refine Calls.callWith_builtin (by show(false || (backTo cpos (starEach es X.env)).any (·.1))=false;rw[hplain]<;>rfl) (Calls.evalArgs_plain ?_)
 exact thn hA λus s2 ⟨vs,H2,I2,r2,q2⟩=>hm pins s2 σ H2 x vs v us Q I2 r1 r2 q2
end
end L2
namespace L2
open PySem PySem.Spec PyProof.Rows
def MtM(X:Cx)(id:String)(r:V->List V->Hp->VK->Prop):Prop:=
 ∀(pins:List (Addr×Obj)) (s:Shared) (σ:St) (H:Hp) (x:V) (xs:List V) (v:Value) (us:List Value) (Q:VK),Inv X pins σ H s->RelV x v->Qq xs us->r x xs H Q→
  wpAny (model X.prog X.w) X.A (call (.builtin id) (v::us)) (EP X pins σ Q) X.xe s
theorem Qq.one{x:V}{us:List Value}(r:Qq [x] us):∃u,us=[u]/\RelV x u:=vals1 r
theorem Qq.two{x y:V}{us:List Value}(r:Qq [x,y] us):∃u v,us=[u,v]/\RelV x u/\RelV y v:=vals2 r
theorem Qq.zero:∀{us:List Value},Qq [] us->us=[]
 | _,.nil=>rfl
theorem Qq.eraseIdx:∀{xs:List V}{us:List Value}(i:Nat),Qq xs us->Qq (xs.eraseIdx i) (us.eraseIdx i)
 | _,_,_,.nil=> .nil
 | _,_,0,.cons _ t=>t
 | _,_,i+1,.cons r t=> .cons r (Qq.eraseIdx i t)
theorem Qq.reverse{xs:List V}{us:List Value}(h:Qq xs us):Qq xs.reverse us.reverse:=by
 induction h with
 | nil=>exact .nil
 | cons r t ih=>rw[Zaz,Zaz];exact Qq.append ih (.cons r .nil)
theorem Qq.rep{xs:List V}{us:List Value}(h:Qq xs us):∀k:Nat,Qq (List.replicate k xs).flatten (List.replicate k us).flatten
 | 0=> .nil
 | k+1=>by
  rw[ZK,ZK,ZZ,ZZ]
  exact Qq.append h (Qq.rep h k)
theorem foldl_rep(its:List Value):∀(k:Nat) (acc:List Value),
  List.foldl (λx1 x2=>x1++x2) acc.toArray (List.replicate k its.toArray)=(acc++(List.replicate k its).flatten).toArray
 | 0,acc=>by simp
 | k+1,acc=>by
  have e:acc.toArray++its.toArray=(acc++its).toArray:=by simp
  have e2:(acc++its)++(List.replicate k its).flatten=acc++(List.replicate (k+1) its).flatten:=by
   rw[ZK,ZZ,ZT]
  rw[← e2,← foldl_rep its k (acc++its),← e,ZK,Zbp]
section
variable {X:Cx}{pins:List (Addr×Obj)}{σ:St}{H:Hp}{s:Shared}{l b:Addr}{xs ys zs:List V}
theorem Inv.QsN{its its':List Value}{n:Nat}{f:Array Value->Array Value}{t':Nat}(I:Inv X pins σ H s)(hH:H l=some (.lst xs))
  (e:s.heap.get? l=some {cls:= .type "list",data:= .seq its.toArray n}) (hf:f its.toArray=its'.toArray) (hv:Qq ys its') (hz:ys.length<=sizeLine):
  Inv X pins σ (upd H l (.lst ys)) {s with heap:=s.heap.update l (Obj.mapSeq f),toks:=t'}:=by
 have q:=PySem.IsL.update e f
 rw[hf]at q
 refine I.write (x:=l) (e:=l) (by rw[hH];exact trivial) (.inl rfl) (λb' u hb hu=>(Heap.get?_update_other s.heap (Obj.mapSeq f) (Ne.symm hb)).trans hu) ⟨_,q⟩ ?_
 exact⟨hz,its',_,hv,q⟩
theorem Inv.Qtk{its:List Value}{t':Nat}(I:Inv X pins σ H s)(hv:Qq ys its)(hz:ys.length<=sizeLine):
  Inv X pins σ (upd H s.heap.objs.size (.lst ys)) {s with heap:=s.heap.push {cls:= .type "list",data:= .seq its.toArray},toks:=t'}:=
 I.laid (λ_ _ q=>Zt _ q) (Zj _) ⟨hz,its,0,hv,ZC _ rfl⟩
theorem Inv.fresh(I:Inv X pins σ H s):H s.heap.objs.size=none:=I.hok.fresh (Zj _)
theorem Inv.Qo0(I:Inv X pins σ H s)(hH:H l=some (.lst xs)):xs.length<=sizeLine/\∃(its:List Value) (n:Nat),Qq xs its/\xs.length=its.length/\s.heap.get? l=some {cls:= .type "list",data:= .seq its.toArray n}:=by
 obtain⟨z,its,n,r,e⟩:=I.hok l _ hH
 exact⟨z,its,n,r,r.length,e⟩
theorem QjX{n:Nat}(h:n<=sizeLine):Builtin.List.listTooLong n=false:=by
 unfold Builtin.List.listTooLong
 exact decide_eq_false (by omega)
end
section
variable {X:Cx}
noncomputable def QlX:V->List V->Hp->VK->Prop:=λx vs H Q=>∃l xs y,x= .ref l/\vs=[y]/\H l=some (.lst xs)/\xs.length<sizeLine/\Q .non (upd H l (.lst (xs++[y])))
theorem Qi5:MtM X "list.append" QlX:=by
 intro pins s σ H x vs v us Q I rx rv h
 obtain⟨l,xs,y,rfl,rfl,hH,hz,q⟩:=h
 cases rx
 obtain⟨u,rfl,ru⟩:=rv.one
 obtain⟨z,its,n,r,hl,e⟩:=I.Qo0 hH
 refine call_meets F.slot_list_append ⟨_,e,rfl⟩ F.entry_list_append (F.args_list_append_2 _ _) (PySem.list_append l its.toArray n u (by rw[Zp];omega)) ⟨e,?_⟩
 refine⟨.non,_,I.QsN (its':=its++[u]) hH e (by simp) (r.append (.cons ru .nil)) ?_,rfl,q⟩
 rw[Zf,ZaJ]
 omega
theorem len_rep{α:Type}(xs:List α)(k:Nat):(List.replicate k xs).flatten.length=k*xs.length:=by
 induction k with
 | zero=>simp
 | succ k ih=>rw[ZK,ZZ,Zf,ih,Nat.succ_mul,Nat.add_comm]
end
section
variable {prog:Program}{w:World}{A:Around}{E:Value->Shared->Prop}{s:Shared}
end
section
variable {X:Cx}
end
end L2
namespace Att
open PySem PySem.W PySem.Calls PyProof.Rows
theorem Qg8{P:Params}{h:Heap}:∀(ns:List Int) (vs:List Value),WellAll P h vs (ns.map WData.int)->IntsAre vs ns:=by
 intro ns
 induction ns with
 | nil=>
  intro vs w
  rw[ZaT]at w
  cases w
  exact .nil
 | cons n ns ih=>
  intro vs w
  rw[Zo]at w
  cases w with
  | cons a b=>
   cases a
   exact .cons _ _ (ih _ b)
theorem QoB{l:OpenLaw}{n:Nat}(hn:l.most=some n){P:Params}{h:Heap}{args:List WData}{vals:List Value}
  (hpre:l.row.toRowW.claim.pre args=true) (hwl:WellAll P h vals args):
  ∃a vs ns,vals=[Value.ref a]/\args=[WData.list (ns.map WData.int)]/\h.get? a=some {cls:= .type "list",data:= .seq vs.toArray}/\IntsAre vs ns/\ns.length<=n:=by
 have hsh:WShape.hasAll [] args [.list .int]=true:=(pre_splitW hpre).1
 have hc:l.pre.holds [] {args:=args}=true:=(pre_splitW hpre).2
 obtain⟨d,r,rfl,h1,h2⟩:=hasAllW_cons hsh
 obtain rfl:=hasAllW_nil h2
 obtain⟨xs,rfl,h3⟩:=hasW_list h1
 obtain⟨ns,rfl⟩:=items_int h3
 have hlen:ns.length<=n:=by
  unfold OpenLaw.pre at hc
  have h4:(WTm.not (.lt (.lit (.int (n:Int))) (.len (.arg 0)))).holds [] {args:=[.list (ns.map .int)]}=true:=by
   have h4:=(holds_andW hc).1
   rw[hn]at h4
   exact h4
  have h5:=condW_of h4 (w_not (w_lt w_lit (w_len_list (w_arg rfl))))
  rw[Zc]at h5
  refine Nat.le_of_not_lt λq=>?_
  have q':(n:Int)<((ns.length:Nat):Int):=by omega
  first
   | (rw[decide_eq_true q']at h5;exact absurd h5 (by decide))
   | (simp at h5;omega)
 cases hwl with
 | cons w1 w2=>
  cases w2
  cases w1 with
  | list ho hall=>exact⟨_,_,ns,rfl,rfl,ho,Qg8 ns _ hall,hlen⟩
theorem QnV(l:OpenLaw)(args:List WData):l.row.toRowW.claim.post args (.bool true) args=true:=
 postW_of (r:=l.row.toRowW) (X:=(true == true))
  (show WShape.has [] (.bool true) .bool=true by first | rfl | decide | simp[WShape.has,WShape.arms,WShape.armsAll])
  (show(WTm.eq .res (.lit (.bool true))).value [] {args:=args,res:=some (.bool true),after:=args}=some (.bool (true == true))from w_eq_bool (w_res rfl) w_lit) rfl
theorem Qgr{l:OpenLaw}{n:Nat}{q:Program}{loose:List Str}{XP:(Str->Option Value)->Heap->Prop}{YP:World->Heap->Prop}{d:DefRec}
  (hn:l.most=some n) (hdf:d.params.defaults=[])
  (call:∀(w:World) (s₀ s₁:Shared) (mg mb:Str->Option Value) (fa:Addr) (o:Obj) (pm cd doc:Value) (a:Addr) (vs:List Value) (ns:List Int),
   Ground q loose [] XP w s₀ mg mb s₁.heap->YP w s₁.heap→
   s₁.heap.get? fa=some o->o.data= .func (docDef d.name d.params d.body d.scope pm cd doc)->s₁.heap.CodeRec cd d.name->mg d.name=some (.ref fa)→
   s₁.heap.get? a=some {cls:= .type "list",data:= .seq vs.toArray}->IntsAre vs ns->ns.length<=n->s₁.gens= #[]→
   codeAny (model l.prog w) callerA (.call (.ref fa) ⟨[.ref a],[]⟩) (λr s'=>r= .ok (.ret (.bool true))/\OldK s₁.heap s'.heap/\s'.os=s₁.os/\AllBare s'.gens) s₁):
  WalkO q loose XP YP l.row.toRowW d [] (λf vs=>PySem.call f vs):=by
 intro w s₀ s₁ mg mb G Y fa o pm cd doc dV kV ho hd hcd hD hmg hg args vals as hpre hlay hrd hwl hlo
 obtain rfl:dV= .none:=Dflts.none hD hdf
 obtain rfl:kV= .none:=Dflts.noKw hD
 obtain⟨a,vs,ns,rfl,rfl,hobj,hints,hlen⟩:=QoB hn hpre hwl
 refine enter_call (codeAny_mono (call w s₀ s₁ mg mb fa o pm cd doc a vs ns G Y ho (fd_plain hd) hcd hmg hobj hints hlen hg) λr s' hq=>?_)
 obtain⟨rfl,h2,h3,h4⟩:=hq
 exact⟨.inl ⟨.bool true,.bool true,[],rfl,λ_=>rfl,.bool true,QnV l _,λ_=>⟨List.Pairwise.nil,λ_ hm=>(nomatch hm)⟩⟩,h2,h3,h4⟩
section
variable {prog:Program}{w:World}{A:Around}{E:Value->Shared->Prop}{s:Shared}{K:Frag}
noncomputable def ledger(h:Heap)(L d:Addr):List (Addr×Obj):=(List.range h.objs.size).filterMap λa=>if a=L∨a=d then none else(h.get? a).map λo=>(a,o)
end
end Att
namespace L2
open PySem PySem.Spec PyProof.Rows
theorem QfO:∀{vs:List Value}{ns:List Int},IntsAre vs ns->Qq (ns.map V.int) vs
 | _,_,.nil=> .nil
 | _,_,.cons n t h=> .cons ⟨t,rfl⟩ (QfO h)
def QoP(H:Hp):Prop:=∀b,H b=none∨∃o xs,H b=some (.frz o (.lst xs))
theorem Qk2{P:Program}{w:World}{K:PySem.W.Frag}{mg mb:Str->Option Value}{CX:CXT}{k:Nat}{fa a:Addr}{fd:FuncData}{x:Str}{sp:Sp}{s₁:Shared}{vs:List Value}{ns:List Int}
  (KX:K.In s₁.heap) (hns:s₁.heap.Ns mainGlobals mg) (hb:s₁.heap.Ns builtinsNs mb) (hbb:∀x:Str,x≠ "__name__" ->mb x=bootBuiltins x) (hlim:s₁.heap.NoLimit) (hg:s₁.gens= #[])
  (ha:s₁.heap.get? a=some {cls:= .type "list",data:= .seq vs.toArray}) (hi:IntsAre vs ns) (hl:ns.length<=sizeLine) (hr:Qaj k callerA)
  (F:∀base:Heap,K.In base->base.Ns mainGlobals mg->Qa7 P w K mg base CX k fa fd [x] sp) (hbind:∀(s:Shared) (u:Value),BindsTo s fd ⟨[u],[]⟩ [(x,u)])
  (hsp:∀H:Hp,QoP H->SqL K H a (ns.map V.int)->sp [.ref a] H (λv _=>v= .bl true) λ_ _ _=>False)
  (hCX:∀H e s',CX [] H s₁ (λ_ _ _=>False) e s'->False):
  codeAny (model P w) callerA (.call (.ref fa) ⟨[.ref a],[]⟩) (λr s'=>r= .ok (.ret (.bool true))/\OldK s₁.heap s'.heap/\s'.os=s₁.os/\AllBare s'.gens) s₁:=by
 have rv:=QfO hi
 have lenV:=hi.length
 have core:∀H:Hp,QoP H->SqL K H a (ns.map V.int)->HOk P w H s₁.heap->(∀b,H b≠none->b=a)->(H a≠none->K.lookup a=none)→
   codeAny (model P w) callerA (.call (.ref fa) ⟨[.ref a],[]⟩) (λr s'=>r= .ok (.ret (.bool true))/\OldK s₁.heap s'.heap/\s'.os=s₁.os/\AllBare s'.gens) s₁:=by
  intro H hO hS hok hA hK
  have base_of:∀{b:Addr}{o:Obj},s₁.heap.get? b=some o->H b=none->(QeZ s₁.heap H).get? b=some o:=λe n=>Qpx e n
  have noA:∀{b:Addr}{o:Obj}{es:Array DictEntry}{ep:Nat},s₁.heap.get? b=some o->o.data= .dict es ep->H b=none:=λ{b o es ep} e d=>by
   cases q:H b with
   | none=>rfl
   | some u=>
    have e':b=a:=hA b (by rw[q];simp)
    subst e'
    rw[ha]at e;cases e
    have d':Data.seq vs.toArray _=Data.dict es ep:=d
    cases d'
  have nsK:∀{b:Addr}{m:Str->Option Value},s₁.heap.Ns b m->(QeZ s₁.heap H).Ns b m:=λ{b m} ⟨o,es,ep,e,d,r⟩=>⟨o,es,ep,base_of e (noA e d),d,r⟩
  have hKb:K.In (QeZ s₁.heap H):=λb o e=>base_of (KX b o e) (by
   cases q:H b with
   | none=>rfl
   | some u=>
    have e':b=a:=hA b (by rw[q];simp)
    subst e'
    rw[hK (by rw[q];simp)]at e;cases e)
  have hM:Mod K mg (QeZ s₁.heap H):=⟨hKb,nsK hns,⟨mb,nsK hb,hbb⟩,let ⟨mc,h1,h2⟩:=hlim;⟨mc,nsK h1,h2⟩⟩
  have e0:QdT P w K mg (QeZ s₁.heap H) callerA [] s₁ H:=⟨rfl,hM,λb o e=>Qsf e,Nat.le_of_eq (Qn0 _ _),trivial,λb hb=>absurd (show b∈([]:List Addr)from hb) (by simp),hok,.of_eq hg⟩
  refine codeAny_mono ((F _ hKb (nsK hns)).run callerA [] s₁ H ⟨[.ref a],[]⟩ [.ref a] [.ref a] _ _ hr e0 (hbind s₁ (.ref a)) (.cons rfl .nil) (hsp H hO hS)) λr s' h=>?_
  cases r with
  | error e=>exact(hCX H e s' h).elim
  | ok fl=>
   cases fl with
   | next=>exact False.elim h
   | brk=>exact False.elim h
   | cont=>exact False.elim h
   | ret u=>
    obtain⟨v,H',os,bare,un,hok',r',q⟩:=h
    have q':v= .bl true:=q
    subst q'
    obtain rfl:u=Value.bool true:=r'
    refine⟨rfl,OldK.of_keep λb o e=>?_,os,bare⟩
    cases q:H b with
    | none=>exact un.keep b o e q (by intro z;exact absurd (show b∈([]:List Addr)from z) (by simp)) (by simp)
    | some u=>
     rcases hO b with z | ⟨ob,xs,z⟩
     ·rw[q]at z;cases z
     ·have z2:=un.frzs b ob _ z
      obtain⟨e1,_⟩:=hok b _ z
      obtain⟨e2,_⟩:=hok' b _ z2
      rw[e]at e1;cases e1
      exact e2
 cases hk:K.lookup a with
 | some o=>
  have e:=KX a o hk
  rw[ha]at e
  cases e
  refine core (λ_=>none) (λ_=> .inl rfl) (.inr ⟨_,vs.toArray,_,hk,rfl,rfl,rfl,by rw[Zp,lenV];exact hl,by simpa using rv⟩) (λb u z=>by have z':(none:Option HO)=some u:=z;cases z') (λb z=>absurd rfl z) λz=>absurd rfl z
 | none=>
  refine core (λb=>if b=a then some (.frz {cls:= .type "list",data:= .seq vs.toArray} (.lst (ns.map V.int)))else none) (λb=>?_) (.inl (.inr ⟨{cls:= .type "list",data:= .seq vs.toArray},if_pos rfl⟩)) (λb u z=>?_) (λb z=>?_) λ_=>hk
  ·by_cases hb:b=a
   ·exact .inr ⟨_,_,if_pos hb⟩
   ·exact .inl (if_neg hb)
  ·by_cases hb:b=a
   ·have z':=(if_pos hb).symm.trans z
    cases z'
    subst hb
    exact⟨ha,by rw[Zc];exact hl,vs,_,rv,ha⟩
   ·have z':=(if_neg hb).symm.trans z
    cases z'
  ·by_cases hb:b=a
   ·exact hb
   ·exact absurd (if_neg hb) z
end L2
namespace L2
open PySem PySem.Spec PyProof.Rows
noncomputable abbrev KOf{K:PySem.W.Frag}{h:Heap}(_:K.In h):PySem.W.Frag:=K
theorem QwL{l:PySem.W.OpenLaw}{n k:Nat}{q:Program}{loose:List Str}{XP:(Str->Option Value)->Heap->Prop}{YP:World->Heap->Prop}{d:DefRec}{K:Params->PySem.W.Frag}{CX:World->CXT}{sp:World->Sp}{x:Str}
  (hn:l.most=some n) (hn2:n<=sizeLine) (hdf:d.params.defaults=[]) (hr:Qaj k callerA)
  (hY:∀(w:World) (h:Heap),YP w h->(K w.params).In h)
  (F:∀(w:World) (mg:Str->Option Value) (fa:Addr) (h:Heap),(K w.params).In h->h.Ns mainGlobals mg->mg d.name=some (.ref fa)→
   ∃fd:FuncData,(∀(s:Shared) (u:Value),BindsTo s fd ⟨[u],[]⟩ [(x,u)])∧
    ∀base:Heap,(K w.params).In base->base.Ns mainGlobals mg->Qa7 l.prog w (K w.params) mg base (CX w) k fa fd [x] (sp w))
  (hsp:∀(w:World) (H:Hp) (a:Addr) (ns:List Int),ns.length<=n->QoP H->SqL (K w.params) H a (ns.map V.int)->sp w [.ref a] H (λv _=>v= .bl true) λ_ _ _=>False)
  (hCX:∀(w:World) (H:Hp) (s:Shared) (e:Value) (s':Shared),CX w [] H s (λ_ _ _=>False) e s'->False):
  PySem.W.WalkO q loose XP YP l.row.toRowW d [] (λf vs=>PySem.call f vs):=by
 refine Att.Qgr hn hdf λw s₀ s₁ mg mb fa o pm cd doc a vs ns G Y ho hd hcd hmg hobj hints hlen hg=>?_
 have KX:=hY w _ Y
 obtain⟨fd,hb,hF⟩:=F w mg fa _ KX G.T.g hmg
 exact Qk2 KX G.T.g G.T.b G.T.builtins G.T.nolimit hg hobj hints (Zu hlen hn2) hr hF hb (λH hO hS=>hsp w H a ns hlen hO hS) λH e s'=>hCX w H s₁ e s'
end L2
namespace L2
open PySem PySem.Spec PyProof.Rows
noncomputable def Qbz(s:Stmt):Arguments:=match s with
 | .FunctionDef _ a _ _ _ _ _ _ _ _=>a
 | _=>{posonlyargs:=[],args:=[],vararg:=none,kwonlyargs:=[],kw_defaults:=[],kwarg:=none,defaults:=[]}
noncomputable def Qak(s:Stmt):List Stmt:=match s with
 | .FunctionDef _ _ b _ _ _ _ _ _ _=>b
 | _=>[]
noncomputable def Qk(s:Stmt):Scope:=match s with
 | .FunctionDef _ _ _ _ _ _ sc _ _ _=>sc
 | _=>{kind:= .function,names:=[],isGenerator:=false,isCoroutine:=false}
noncomputable abbrev CX0:CXT:=λ_ _ _ _ _ _=>False
noncomputable abbrev E0:XK:=λ_ _ _=>False
theorem Qqm{X:Cx}:QhQ CX0 X E0:=λ_ _ _ _ _ _ _ h=>h.elim
structure Fun (K:PySem.W.Frag) (x qual:Str) (st:Stmt) (f:Addr) (fd:FuncData):Prop where
 ex:∃(oc:Value) (od:Option Addr) (kV doc pm:Value) (an:Option Addr) (cdv ct:Value) (osl:Array (Option Value)),
  fd=PySem.W.fnOf x qual (Qbz st) (Qak st) (Qk st) .none kV doc pm an cdv ct/\K.lookup f=some ⟨oc,od,.func fd,osl⟩/\PySem.W.codeIn K cdv qual=true
 kp:PySem.W.keepIn K (.ref f)=true
section
variable {P:Program}{w:World}{K:PySem.W.Frag}{mg:Str->Option Value}{base:Heap}
theorem Fun.ok{x qual:Str}{st:Stmt}{f:Addr}{fd:FuncData}{N ps:List Str}{k:Nat}{sp:Sp}(F:Fun K x qual st f fd)(S:QbZ N ps (Qk st))(len:∀vs H Q E,sp vs H Q E->vs.length=ps.length)
  (hbody:∀(cdv:Value) (A:Around) (outer:List Env) (s:Shared) (H:Hp) (vs:List V) (Q:VK) (E:XK),Qaj k (A.deeper (envOfC qual (Qk st) s.heap.objs.size f cdv))->sp vs H Q E→
   ∃t,PSs (QfF CX0 P w K mg base N qual (Qk st) f cdv A outer s H E).nox (Qak st) t/\t {nx:=λ_ H'=>Q .non H',rt:=Q} (start N vs) H):Qa7 P w K mg base CX0 (k+1) f fd ps sp:=by
 obtain⟨oc,od,kV,doc,pm,an,cdv,ct,osl,rfl,lk,hcd⟩:=F.ex
 refine Qqj lk hcd S len λA outer s H vs Q E hr hsp=>?_
 obtain⟨t,h,q⟩:=hbody cdv A outer s H vs Q E hr hsp
 exact⟨t,h.nox,q⟩
theorem Fun.binds{x qual:Str}{st:Stmt}{f:Addr}{fd:FuncData}{ps:List Str}(F:Fun K x qual st f fd)
  (h:∀(kV doc pm:Value) (an:Option Addr) (cdv ct:Value) (us:List Value),us.length=ps.length->bindArgs (PySem.W.fnOf x qual (Qbz st) (Qak st) (Qk st) .none kV doc pm an cdv ct) ⟨us,[]⟩=pure (ps.zip us)):Binds K fd ps []:=by
 obtain⟨oc,od,kV,doc,pm,an,cdv,ct,osl,rfl,lk,hcd⟩:=F.ex
 exact .all (h kV doc pm an cdv ct)
theorem Qs5{x qual:Str}{st:Stmt}{f:Addr}{oc:Value}{od an:Option Addr}{osl:Array (Option Value)}{kV doc pm cdv ct:Value}(l:K.lookup f=some ⟨oc,od,.func (PySem.W.fnOf x qual (Qbz st) (Qak st) (Qk st) .none kV doc pm an cdv ct),osl⟩)
  (c:PySem.W.codeIn K cdv qual=true) (k:PySem.W.keepIn K (.ref f)=true):Fun K x qual st f (PySem.W.fnOf x qual (Qbz st) (Qak st) (Qk st) .none kV doc pm an cdv ct):=⟨⟨oc,od,kV,doc,pm,an,cdv,ct,osl,rfl,l,c⟩,k⟩
end
section
variable {X:Cx}
end
theorem Qo8{A B:Prop}(h:B):if false=true then A else B:=by
 rw[if_neg ZH]
 exact h
theorem Qqc{A B:Prop}(h:A):if true=true then A else B:=by
 rw[if_pos rfl]
 exact h
def Qz(H H':Hp):Prop:=∀b o,H b=some o->H' b=some o
theorem Qz.refl(H:Hp):Qz H H:=λ_ _ h=>h
theorem Qz.trans{H H1 H2:Hp}(a:Qz H H1)(b:Qz H1 H2):Qz H H2:=λc o h=>b c o (a c o h)
theorem Qz.free{H H':Hp}(e:Qz H H'){l:Addr}(h:H' l=Option.none):H l=Option.none:=by
 cases q:H l with
 | none=>rfl
 | some o=>
  rw[e l o q]at h
  cases h
theorem Qz.seq{K:PySem.W.Frag}{H H':Hp}{a:Addr}{xs:List V}(e:Qz H H')(h:SqL K H a xs):SqL K H' a xs:=by
 rcases h with(h | ⟨o,h⟩) | h
 ·exact .inl (.inl (e _ _ h))
 ·exact .inl (.inr ⟨o,e _ _ h⟩)
 ·exact .inr h
end L2
namespace L2
open PySem PySem.Spec PyProof.Rows
section
variable {κ:Type} [DecidableEq κ]
noncomputable def Qdr(kvs:List (κ×V))(k:κ):Option V:=(kvs.find? λkv=>decide (kv.1=k)).map (·.2)
noncomputable def putK(kvs:List (κ×V))(k:κ)(v:V):List (κ×V):=
 if(kvs.any λkv=>decide (kv.1=k))=true then kvs.map (λkv=>if kv.1=k then(kv.1,v)else kv)else kvs++[(k,v)]
noncomputable def Qqw(kvs:List (κ×V))(k:κ):List (κ×V):=kvs.filter λkv=>decide (kv.1≠k)
theorem QgW{p:κ×V}{r:List (κ×V)}{k:κ}(e:p.1=k):Qdr (p::r) k=some p.2:=by simp[Qdr,List.find?_cons,e]
theorem QgE{p:κ×V}{r:List (κ×V)}{k:κ}(e:¬p.1=k):Qdr (p::r) k=Qdr r k:=by simp[Qdr,List.find?_cons,e]
theorem Qkn(k:κ):∀kvs:List (κ×V),(kvs.any λkv=>decide (kv.1=k))=(Qdr kvs k).isSome
 | []=>rfl
 | p::r=>by
  rw[Zby]
  by_cases e:p.1=k
  ·simp only[QgW e,decide_eq_true e,Bool.true_or,Option.isSome_some]
  ·rw[QgE e,decide_eq_false e,Bool.false_or];exact Qkn k r
theorem Qdt.Qoo{o:Option V}{u:Option Value}(r:Qdt o u):o.isSome=u.isSome:=by
 cases o with
 | none=>cases u with
  | none=>rfl
  | some _=>exact(show False from r).elim
 | some _=>cases u with
  | none=>exact(show False from r).elim
  | some _=>rfl
theorem Qdt.getD{o:Option V}{u:Option Value}{d:V}{d':Value}(r:Qdt o u)(rd:RelV d d'):RelV (o.getD d) (u.getD d'):=by
 cases o with
 | none=>cases u with
  | none=>exact rd
  | some _=>exact(show False from r).elim
 | some _=>cases u with
  | none=>exact(show False from r).elim
  | some _=>exact r
theorem KV.val{kvs:List (κ×V)}{vs:List (κ×Value)}(r:KV kvs vs)(k:κ):Qdt (Qdr kvs k) (valueAt vs k):=by
 unfold KV at r
 induction r with
 | nil=>exact True.intro
 | @cons p q ps qs h t ih=>
  obtain⟨h1,h2⟩:=h
  by_cases e:p.1=k
  ·have e':q.1=k:=h1.symm.trans e
   have b:valueAt (q::qs) k=some q.2:=by simp[valueAt,List.find?_cons,e']
   rw[QgW e,b];exact h2
  ·have e':¬q.1=k:=λz=>e (h1.trans z)
   have b:valueAt (q::qs) k=valueAt qs k:=by simp[valueAt,List.find?_cons,e']
   rw[QgE e,b];exact ih
theorem KV.any{kvs:List (κ×V)}{vs:List (κ×Value)}(r:KV kvs vs)(k:κ):(kvs.any λkv=>decide (kv.1=k))=vs.any λkv=>decide (kv.1=k):=by
 unfold KV at r
 induction r with
 | nil=>rfl
 | cons h t ih=>rw[Zby,Zby,ih,h.1]
theorem KV.QoO{kvs:List (κ×V)}{vs:List (κ×Value)}(r:KV kvs vs)(k:κ){y:V}{u:Value}(ry:RelV y u):
  KV (kvs.map λkv=>if kv.1=k then(kv.1,y)else kv) (vs.map λkv=>if kv.1=k then(kv.1,u)else kv):=by
 unfold KV at r ⊢
 induction r with
 | nil=>exact .nil
 | @cons p q ps qs h t ih=>
  rw[Zo,Zo]
  refine .cons ?_ ih
  obtain⟨h1,h2⟩:=h
  by_cases e:p.1=k
  ·rw[if_pos e,if_pos (h1.symm.trans e)];exact⟨h1,ry⟩
  ·rw[if_neg e,if_neg (λz=>e (h1.trans z))];exact⟨h1,h2⟩
theorem KV.put{kvs:List (κ×V)}{vs:List (κ×Value)}(r:KV kvs vs)(k:κ){y:V}{u:Value}(ry:RelV y u):KV (putK kvs k y) (stored vs k u):=by
 unfold putK stored
 rw[r.any k]
 by_cases e:(vs.any λkv=>decide (kv.1=k))=true
 ·rw[if_pos e,if_pos e];exact r.QoO k ry
 ·rw[if_neg e,if_neg e];exact Paired.snoc r ⟨rfl,ry⟩
theorem KV.drop{kvs:List (κ×V)}{vs:List (κ×Value)}(r:KV kvs vs)(k:κ):KV (Qqw kvs k) (without vs k):=by
 unfold KV at r ⊢
 unfold Qqw without
 induction r with
 | nil=>exact .nil
 | @cons p q ps qs h t ih=>
  obtain⟨h1,h2⟩:=h
  rw[ZX,ZX]
  by_cases e:p.1=k
  ·have a:¬decide (p.1≠k)=true:=by simp[e]
   have b:¬decide (q.1≠k)=true:=by simp[h1.symm.trans e]
   rw[if_neg a,if_neg b];exact ih
  ·have e':¬q.1=k:=λz=>e (h1.trans z)
   have a:decide (p.1≠k)=true:=by simp[e]
   have b:decide (q.1≠k)=true:=by simp[e']
   rw[if_pos a,if_pos b];exact .cons ⟨h1,h2⟩ ih
theorem KV.keys{kvs:List (κ×V)}{vs:List (κ×Value)}(r:KV kvs vs):kvs.map (·.1)=vs.map (·.1):=by
 unfold KV at r
 induction r with
 | nil=>rfl
 | cons h t ih=>rw[Zo,Zo,ih,h.1]
theorem KV.length{kvs:List (κ×V)}{vs:List (κ×Value)}(r:KV kvs vs):kvs.length=vs.length:=Paired.length r
end
noncomputable abbrev KT(H:Hp):List (List Key×V)->List (List Key×Addr×Value)->Prop:=Paired λp q=>p.1=q.1/\H q.2.1=some (.tup (p.1.map kV))/\RelV p.2 q.2.2
theorem KT.val{H:Hp}{kvs:List (List Key×V)}{xs:List (List Key×Addr×Value)}(r:KT H kvs xs)(k:List Key):Qdt (Qdr kvs k) ((atKey xs k).map (·.2)):=by
 induction r with
 | nil=>exact True.intro
 | @cons p q ps qs h t ih=>
  obtain⟨h1,_,h2⟩:=h
  by_cases e:p.1=k
  ·have e':q.1=k:=h1.symm.trans e
   have b:atKey (q::qs) k=some q.2:=by simp[atKey,List.find?_cons,e']
   rw[QgW e,b];exact h2
  ·have e':¬q.1=k:=λz=>e (h1.trans z)
   have b:atKey (q::qs) k=atKey qs k:=by simp[atKey,List.find?_cons,e']
   rw[QgE e,b];exact ih
theorem KT.QoO{H:Hp}{kvs:List (List Key×V)}{xs:List (List Key×Addr×Value)}(r:KT H kvs xs)(k:List Key){y:V}{u:Value}(ry:RelV y u):
  KT H (kvs.map λkv=>if kv.1=k then(kv.1,y)else kv) (xs.map (putAt k u)):=by
 induction r with
 | nil=>exact .nil
 | @cons p q ps qs h t ih=>
  rw[Zo,Zo]
  refine .cons ?_ ih
  obtain⟨h1,h2,h3⟩:=h
  unfold putAt
  by_cases e:p.1=k
  ·rw[if_pos e,if_pos (h1.symm.trans e)];exact⟨h1,h2,ry⟩
  ·rw[if_neg e,if_neg (λz=>e (h1.trans z))];exact⟨h1,h2,h3⟩
theorem KT.put{H:Hp}{kvs:List (List Key×V)}{xs:List (List Key×Addr×Value)}(r:KT H kvs xs)(k:List Key){b:Addr}{y:V}{u:Value}(hb:H b=some (.tup (k.map kV)))(ry:RelV y u):
  KT H (putK kvs k y) (storedH xs k b u):=by
 have e:(kvs.any λkv=>decide (kv.1=k))=(atKey xs k).isSome:=by
  rw[Qkn,(r.val k).Qoo,Option.isSome_map]
 unfold putK storedH
 rw[e]
 by_cases q:(atKey xs k).isSome=true
 ·rw[if_pos q,if_pos q];exact r.QoO k ry
 ·rw[if_neg q,if_neg q];exact Paired.snoc r ⟨rfl,hb,ry⟩
theorem KT.keeps{H H':Hp}{kvs:List (List Key×V)}{xs:List (List Key×Addr×Value)}(r:KT H kvs xs)(ht:∀b ys,H b=some (.tup ys)->H' b=some (.tup ys)):KT H' kvs xs:=
 Paired.Qp8 r λ_ _ z=>⟨z.1,ht _ _ z.2.1,z.2.2⟩
section
variable {P:Program}{w:World}{H:Hp}{h:Heap}{a:Addr}
end
def QmV(H:Hp)(a:Addr)(y:V)(r:Option V):Prop:=
 (∃kvs k,Rd H a (.dK kvs)/\y=kV k/\r=Qdr kvs k)∨∃kvs k b,Rd H a (.dT kvs)/\y= .ref b/\H b=some (.tup (k.map kV))/\r=Qdr kvs k
def QmP(H:Hp)(a:Addr)(y v:V)(H':Hp):Prop:=
 (∃kvs k,H a=some (.dK kvs)/\y=kV k/\kvs.length<sizeLine/\H'=upd H a (.dK (putK kvs k v)))∨
 ∃kvs k b,H a=some (.dT kvs)/\y= .ref b/\H b=some (.tup (k.map kV))/\kvs.length<sizeLine/\H'=upd H a (.dT (putK kvs k v))
theorem QmV.k{H:Hp}{a:Addr}{kvs:List (Key×V)}{k:Key}(e:H a=some (.dK kvs)):QmV H a (kV k) (Qdr kvs k):= .inl ⟨kvs,k,.inl e,rfl,rfl⟩
theorem QmV.t{H:Hp}{a b:Addr}{kvs:List (List Key×V)}{k:List Key}(e:H a=some (.dT kvs))(eb:H b=some (.tup (k.map kV))):QmV H a (.ref b) (Qdr kvs k):= .inr ⟨kvs,k,b,.inl e,rfl,eb,rfl⟩
theorem QmP.k{H:Hp}{a:Addr}{kvs:List (Key×V)}{k:Key}{v:V}(e:H a=some (.dK kvs))(hl:kvs.length<sizeLine):QmP H a (kV k) v (upd H a (.dK (putK kvs k v))):= .inl ⟨kvs,k,e,rfl,hl,rfl⟩
theorem QmP.t{H:Hp}{a b:Addr}{kvs:List (List Key×V)}{k:List Key}{v:V}(e:H a=some (.dT kvs))(eb:H b=some (.tup (k.map kV)))(hl:kvs.length<sizeLine):
  QmP H a (.ref b) v (upd H a (.dT (putK kvs k v))):= .inr ⟨kvs,k,b,e,rfl,eb,hl,rfl⟩
section
variable {X:Cx}{pins:List (Addr×Obj)}{σ:St}{H:Hp}{s:Shared}{a:Addr}{y v:V}{u r:Value}{o:Option V}{A:Around}{E:Value->Shared->Prop}
end
section
variable {X:Cx}{pins:List (Addr×Obj)}{σ:St}{H:Hp}{s:Shared}{a:Addr}{kvs:List (Key×V)}{k:Key}{u:Value}{A:Around}{E:Value->Shared->Prop}
end
section
variable {X:Cx}{o i e value:Expr}{pos pos' tpos:Pos}{td ty tv:TE}
end
section
variable {X:Cx}{pos:Pos}
end
end L2
namespace HS
open PySem PySem.Spec L2 PyProof.Rows
noncomputable def Itx(x:Str):It:=⟨λi _=>i<x.cps.size,λi H v H'=>H'=H/\∃c,x.cps[i]? =some c/\v= .str ⟨#[c]⟩,λi _=>i=x.cps.size⟩
theorem Qpk{P:Program}{w:World}{K:PySem.W.Frag}{tg:Expr}{it:Addr}{x:Str}{t:Tok}{T:String}(hW:∀A':Around,A'.handled=none->Walks P w A' it [it] [it] x.cps.size (SignAt x) (λi h=>h.IsStrIter it T x t i))
  (hT:["enumerate","zip","dict_itemiterator","dict_reverseitemiterator","odict_iterator","itertools.zip_longest","itertools.pairwise"].contains T=false)
  (hS:∀(A:Around) (i:Nat) (s:Shared) (Q:Value->Shared->Prop) (E:Value->Shared->Prop),s.heap.IsStrIter it T x t i->Q (.ref it) s->wpAny (model P w) A (pyIter (.ref it)) Q E s):Turn P w K tg (Itx x) [it] it (λi h=>h.IsStrIter it T x t i) where
 mem:=by simp
 obj:=λi h st b hb=>by
  have e:b=it:=by simpa using hb
  subst e
  obtain⟨o,e,c,d⟩:=st
  exact⟨o,e,λv z=>by rw[d]at z;cases z⟩
 keep:=λi h h' st k=>let ⟨o,e,r⟩:=st;⟨o,k it (by simp) o e,r⟩
 item:=by
  intro X hP hw hK hc i pins s σ H E I hf st hg
  subst hP hw hK
  obtain⟨f0,f1,f2,f3,f4,f5⟩:=hf it (by simp)
  refine(hW X.A (I.ok.hd hc)).item i s _ _ hg st λv h' tk hv st' kk=>?_
  obtain⟨c,u,hcx,rfl⟩:=hv
  have I1:Inv X pins σ H {s with heap:=h',toks:=tk}:=I.turned (λb o hb e=>kk b o (by simpa using hb) e) f0 f1 f3 f4 f5
  obtain⟨o,e,c',d⟩:=id st'
  exact⟨_,rfl,QjF (s:={s with heap:=h',toks:=tk}) (n:=T) e c' d hT ⟨.str ⟨#[c]⟩,H,I1,⟨u,rfl⟩,⟨rfl,c,hcx,rfl⟩,st',λb hb=>(hf b hb).1⟩⟩
 done:=by
  intro X hP hw hK hc i pins s σ H E I hf st hg
  subst hP hw hK
  obtain⟨f0,f1,f2,f3,f4,f5⟩:=hf it (by simp)
  have hg:i=x.cps.size:=hg
  subst hg
  exact(hW X.A (I.ok.hd hc)).done s _ _ st λh' tk kk=>⟨rfl,I.turned (λb o hb e=>kk b o (by simpa using hb) e) f0 f1 f3 f4 f5⟩
 self:=λA i s Q E st h=>hS A i s Q E st h
noncomputable def Qwo(tl:TE):TI:=λσ H R=>tl σ H λx H1=>∃y,x= .str y/\R (Itx y) H1
theorem QsM{X:Cx}{tg l:Expr}{tl:TE}(hl:PE X l tl):PI X tg l (Qwo tl):=by
 intro pins s σ H R I h
 refine thn (hl pins s σ H _ I h) λv s1=>exJ λx H1 I1 r1 q1=>?_
 obtain⟨y,e,q⟩:=q1
 subst e
 obtain⟨t,rfl⟩:=(show ∃t,v=Value.str y t from r1)
 have fin:∀(o:Obj) (T:String),(∀A':Around,A'.handled=none->Walks X.prog X.w A' s1.heap.objs.size [s1.heap.objs.size] [s1.heap.objs.size] y.cps.size (SignAt y) (λi h=>h.IsStrIter s1.heap.objs.size T y t i))->["enumerate","zip","dict_itemiterator","dict_reverseitemiterator","odict_iterator","itertools.zip_longest","itertools.pairwise"].contains T=false→
   (∀(A:Around) (i:Nat) (s:Shared) (Q:Value->Shared->Prop) (E:Value->Shared->Prop),s.heap.IsStrIter s1.heap.objs.size T y t i->Q (.ref s1.heap.objs.size) s->wpAny (model X.prog X.w) A (pyIter (.ref s1.heap.objs.size)) Q E s)→
   (s1.heap.push o).IsStrIter s1.heap.objs.size T y t 0->PIE X pins σ tg R (.ref s1.heap.objs.size) {s1 with heap:=s1.heap.push o}:=λo T hW hT hS h0=>by
  refine⟨s1.heap.objs.size,[s1.heap.objs.size],_,_,H1,rfl,I1.kept (t':=s1.toks) λb o e=>Zt _ e,Qpk hW hT hS,h0,λb hb=>?_,q⟩
  have e:b=s1.heap.objs.size:=by simpa using hb
  subst e
  exact I1.Qh4 (Zj _) (I1.hok.fresh (Zj _))
 cases ha:y.cps.all (· <128)
 ·exact wpAny_pyIter_wide ha (fin _ _ (λA' hA=>Walks.strWide hA _ y t) (by decide) (λA i s Q E st h=>wpAny_pyIter_striter_wide st h) ⟨_,ZC _ rfl,rfl,rfl⟩)
 ·exact wpAny_pyIter_ascii ha (fin _ _ (λA' hA=>Walks.strAscii hA _ y t) (by decide) (λA i s Q E st h=>wpAny_pyIter_striter_ascii st h) ⟨_,ZC _ rfl,rfl,rfl⟩)
section
variable {X:Cx}
theorem Qrb{e:Expr}{t u:TE}(h1:PE X e t)(h2:PE X e u):PE X e (λσ H Q=>t σ H Q∨u σ H Q):=λpins s σ H Q I q=>q.elim (h1 pins s σ H Q I) (h2 pins s σ H Q I)
theorem QkU{v:Value}{o:Option Int}(h:IsPart v o):∃l:Option (Int×Tok),v=partValue l/\o=l.map (·.1):=by
 cases h with
 | none=>exact⟨none,rfl,rfl⟩
 | int i t=>exact⟨some (i,t),rfl,rfl⟩
theorem Que:SlR X (λx lo hi H Q=>∃z,x= .str z/\z.length<=sizeLine/\Q (.str (Txt.slice z lo hi)) H):=by
 intro pins s σ H x v vl vu lo hi sl Q I rx hs pl pu q
 obtain⟨z,rfl,hz,q⟩:=q
 obtain⟨t,rfl⟩:=(show ∃t,v=Value.str z t from rx)
 obtain⟨l,rfl,rfl⟩:=QkU pl
 obtain⟨u,rfl,rfl⟩:=QkU pu
 obtain⟨o,ho,hc,hd⟩:=hs
 exact⟨"str",_,F.slot_str_getitem.lookup,typeIs_str _ _ _,wpAny_getItem_str_slice (l:=l) (u:=u) (st:=none) ⟨o,ho,hc,hd⟩ rfl (post_val_or_str ⟨Zu (Txt.slice_le z _ _) hz,λt' k=>⟨.str _,H,I.tok _,⟨t',rfl⟩,q⟩⟩)⟩
theorem QiM:∀l:List (Str×Tok),Qq (l.map λp=>V.str p.1) (strValues l)
 | []=> .nil
 | p::l=> .cons ⟨p.2,rfl⟩ (QiM l)
theorem QiI:∀{ts:List Str}{its:List Value},Qq (ts.map V.str) its->∃l:List (Str×Tok),its=strValues l/\l.map (·.1)=ts
 | [],its,h=>by cases h;exact⟨[],rfl,rfl⟩
 | t::ts,its,h=>by
  cases h with
  | cons r h=>
   obtain⟨l,rfl,e⟩:=QiI h
   obtain⟨k,rfl⟩:=r
   exact⟨(t,k)::l,rfl,by rw[Zo,e]⟩
theorem Qnk:MtR X "str.split" (λx xs H Q=>∃z y,x= .str z/\xs=[.str y]/\(y.length == 0)=false/\z.length+2<=sizeLine/\∀l,H l=none->Q (.ref l) (L2.upd H l (.lst ((Txt.split z y).map .str)))):=by
 intro pins s σ H x xs v us Q I rx rs q
 obtain⟨z,y,rfl,rfl,hy,hsz,q⟩:=q
 obtain⟨t,rfl⟩:=(show ∃t,v=Value.str z t from rx)
 obtain⟨u',rfl,ru⟩:=vals1 rs
 obtain⟨u,rfl⟩:=(show ∃t,u'=Value.str y t from ru)
 have hn:(Builtin.Str.partsBetween z (Builtin.Str.occurrences z y 0 z.length (z.length+1)) y.length).length<=sizeLine:=by
  have e1:=StrLaws.occ_length_le_len z y 0 z.length (z.length+1)
  rw[length_partsBetween];omega
 have fin:∀(l:List (Str×Tok)) (k:Nat),l.length<=sizeLine->l.map (·.1)=Txt.split z y->EP X pins σ Q (.ref s.heap.objs.size) {s with heap:=s.heap.push {cls:= .type "list",data:= .seq (strValues l).toArray},toks:=k}:=λl k hl e=>by
  have e2:(Txt.split z y).map V.str=l.map λp=>V.str p.1:=by rw[← e,Zaf];rfl
  refine⟨.ref s.heap.objs.size,_,I.laid (t':=k) (λb o h=>Zt _ h) (Zj _) (show Qb4 X.prog X.w _ _ _ (.lst ((Txt.split z y).map .str))from⟨by rw[e2,Zc];exact hl,strValues l,0,by rw[e2];exact QiM l,ZC _ rfl⟩),rfl,q _ (I.hok.fresh (Zj _))⟩
 cases h1:(decide (z.length<y.length) || decide (Builtin.Str.strKind z<Builtin.Str.strKind y))
 ·cases hf:(Builtin.Str.occurrences z y 0 z.length (z.length+1)).isEmpty
  ·refine call_meets F.slot_str_split (typeIs_str _ _ _) F.entry_str_split (F.args_str_split_2 _ _) (meets_str_split_sep z y t u h1 hy hf (by omega) hn) ?_
   show wants _ _ _ {s with toks:=_,heap:=s.heap.push {cls:= .type "list",data:= .seq (strsFrom s.toks (Builtin.Str.partsBetween z (Builtin.Str.occurrences z y 0 z.length (z.length+1)) y.length)).toArray}}
   rw[strsFrom_eq]
   have en:=numbered_texts s.toks (Builtin.Str.partsBetween z (Builtin.Str.occurrences z y 0 z.length (z.length+1)) y.length)
   exact fin (numbered s.toks _) _ (by rw[← Zc (f:=(·.1)),en];exact hn) (en.trans ((if_neg (ne_true_of_eq_false h1)).trans (if_neg (ne_true_of_eq_false hf))).symm)
  ·exact call_meets F.slot_str_split (typeIs_str _ _ _) F.entry_str_split (F.args_str_split_2 _ _) (meets_str_split_not_found z y t u h1 hy hf) (fin [(z,t)] s.toks (show 1<=sizeLine by decide) ((if_neg (ne_true_of_eq_false h1)).trans (if_pos hf)).symm)
 ·exact call_meets F.slot_str_split (typeIs_str _ _ _) F.entry_str_split (F.args_str_split_2 _ _) (meets_str_split_cannot_occur z y t u h1) (fin [(z,t)] s.toks (show 1<=sizeLine by decide) (if_pos h1).symm)
theorem Qrg:MtR X "str.join" (λx xs H Q=>∃z p ts,x= .str z/\xs=[.ref p]/\SqL X.K H p (ts.map V.str)/\JoinOk z ts=true/\Q (.str (Txt.join z ts)) H):=by
 intro pins s σ H x xs v us Q I rx rs q
 obtain⟨z,p,ts,rfl,rfl,hq,hj,q⟩:=q
 obtain⟨t,rfl⟩:=(show ∃t,v=Value.str z t from rx)
 obtain⟨u',rfl,ru⟩:=vals1 rs
 cases ru
 obtain⟨its,rv,pl,hz⟩:=I.list hq
 obtain⟨l,rfl,e⟩:=QiI rv
 exact SC.join pl.isList e hj λt' k=>⟨.str _,H,I.tok _,⟨t',rfl⟩,q⟩
theorem Qns:MtR X "str.startswith" (λx xs H Q=>∃z y,x= .str z/\xs=[.str y]/\Q (.bl (Txt.startswith z y)) H):=by
 intro pins s σ H x xs v us Q I rx rs q
 obtain⟨z,y,rfl,rfl,q⟩:=q
 obtain⟨t,rfl⟩:=(show ∃t,v=Value.str z t from rx)
 obtain⟨u',rfl,ru⟩:=vals1 rs
 obtain⟨u,rfl⟩:=(show ∃t,u'=Value.str y t from ru)
 exact SC.startswith ⟨.bl _,H,I,rfl,q⟩
theorem Qkl:QaM X (.type "int") (λxs H Q=>∃z n,xs=[.str z]/\PySem.intText? z=some n/\z.length<=640/\Q (.int n) H):=by
 intro pins s σ H xs us Q I rs q
 obtain⟨z,n,rfl,hn,hl,q⟩:=q
 obtain⟨u',rfl,ru⟩:=vals1 rs
 obtain⟨u,rfl⟩:=(show ∃t,u'=Value.str z t from ru)
 exact PySem.W.KIN.call_text hn hl ⟨.int n,H,I.tok _,⟨_,rfl⟩,q⟩
end
end HS
namespace L2
open PySem PySem.Spec PyProof.Rows
theorem QiF(env:Env)(body:Str×NameKind->List (Str×Addr)->Sem (ForInStep (List (Str×Addr))))
  (hb:∀n k cs,body (n,k) cs=if(k == NameKind.free)=true then(do let c ← cellOf env n;pure (ForInStep.yield ((n,c)::cs)))else pure (ForInStep.yield cs)):
  ∀(names:List (Str×NameKind)) (acc:List (Str×Addr)),(∀y∈names,y.2= .free->∃c,env.cells.lookup y.1=some c)->(∀x c,acc.lookup x=some c->env.cells.lookup x=some c)→
   ∃cl,forIn names acc body=(pure cl:Sem _)/\(∀x c,cl.lookup x=some c->env.cells.lookup x=some c)/\(∀x,acc.lookup x≠none->cl.lookup x≠none)/\∀y∈names,y.2= .free->cl.lookup y.1≠none
 | [],acc,_,ha=>⟨acc,rfl,ha,λ_ h=>h,λy hy=>by simp at hy⟩
 | (n,k)::r,acc,hn,ha=>by
  rw[List.forIn_cons,hb]
  have hr:∀y∈r,y.2= .free->∃c,env.cells.lookup y.1=some c:=λy hy=>hn y (Zb _ hy)
  by_cases hk:k= .free
  ·subst hk
   obtain⟨c,hc⟩:=hn (n,.free) Zm rfl
   have hce:cellOf env n=pure c:=by unfold cellOf;rw[show env.cells.lookup n=some c from hc]
   rw[if_pos (by rfl),hce]
   obtain⟨cl,e,h1,h2,h3⟩:=QiF env body hb r ((n,c)::acc) hr (λx c' e=>by
    rw[Zq]at e
    cases q:x == n with
    | true=>rw[q]at e;cases e;rw[beq_iff_eq]at q;rw[q];exact hc
    | false=>rw[q]at e;exact ha x c' e)
   have hcons:∀x,((n,c)::acc).lookup x≠none->cl.lookup x≠none:=h2
   refine⟨cl,by simpa using e,h1,λx hx=>hcons x ?_,λy hy hf=>?_⟩
   ·rw[Zq];cases x == n with
    | true=>simp
    | false=>exact hx
   ·rcases Zn.mp hy with rfl | hy
    ·exact hcons _ (by simp[Zq])
    ·exact h3 y hy hf
  ·rw[if_neg (by simpa using hk)]
   obtain⟨cl,e,h1,h2,h3⟩:=QiF env body hb r acc hr ha
   refine⟨cl,by simpa using e,h1,h2,λy hy hf=>?_⟩
   rcases Zn.mp hy with rfl | hy
   ·exact absurd hf hk
   ·exact h3 y hy hf
theorem QsB(h:∀y∈scope.names,y.2= .free->∃c,env.cells.lookup y.1=some c):
  ∃cl,closureFor scope env=pure cl/\(∀x c,cl.lookup x=some c->env.cells.lookup x=some c)/\∀y∈scope.names,y.2= .free->∃c,cl.lookup y.1=some c:=by
 unfold closureFor
 obtain⟨cl,e,h1,_,h3⟩:=QiF env (λx cs=>match x with | (name,kind)=>if(kind == NameKind.free)=true then(do let c ← cellOf env name;pure (ForInStep.yield ((name,c)::cs)))else pure (ForInStep.yield cs)) (λ_ _ _=>rfl) scope.names [] h (λx c e=>by simp at e)
 refine⟨cl,?_,h1,λy hy hf=>Option.ne_none_iff_exists'.mp (h3 y hy hf)⟩
 show(forIn scope.names [] _ >>= λr=>pure r)=_
 rw[e];rfl
noncomputable def cxc(X:Cx)(N':List Str)(scope:Scope)(cl:List (Str×Addr))(C:Addr)(fp:List Addr)(s3:Shared)(H3:Hp):Cx:=
 {X with N:=N',s₀:=s3,H₀:=H3,env:=compEnvC scope cl C X.env,outer:=X.stack,ex:=fp,fn:=λx=>decide (scope.names.lookup x=some .cell),pn:=[],xe:=λ_ _=>False}
def PTs(X:Cx)(ifs:List Expr)(t:TT):Prop:=
 ∀(pins:List (Addr×Obj)) (s:Shared) (σ:St) (H:Hp) (Q:Bool->Hp->Prop),Inv X pins σ H s->t σ H Q→
  wpAny (model X.prog X.w) X.A (forIn ifs true λc r=>if r=true then do let ok ← isTrue c X.env (eval c X.env);pure (ForInStep.yield ok)else pure (ForInStep.yield r)) (TP X pins σ Q) X.xe s
noncomputable def QwJ:TT:=λ_ H Q=>Q true H
theorem QrE:PTs X [] QwJ:=λ_ _ _ H _ I h=>wpAny_tests_nil ⟨H,I,h⟩
theorem Qr0(h:PT X c t):PTs X [c] t:=λpins s σ H Q I q=>wpAny_tests_one (h pins s σ H Q I q)
def QhP(X:Cx)(N':List Str)(scope:Scope)(σ σ':St):Prop:=
 σ'.length=N'.length/\∀(j:Nat) (x:Str) (v:V),N'[j]? =some x->σ'[j]? =some (some v)->scope.names.lookup x=some .free/\∃i:Nat,X.N[i]? =some x/\σ[i]? =some (some v)/\(X.env.kindOf x=some .cell∨X.env.kindOf x=some .free)
noncomputable def Qjw(wi:TI)(cap:St->St->Prop)(g:TG)(tc:TT)(te:TE):TE:=λσ H Q=>wi σ H λJ H1=>∃σc,cap σ σc/\∀D,H1 D=none->∃W:Nat->Nat->List V->Hp->Prop,
 (∃m,W 0 m [] (upd H1 D (.lst [])))/\∀i m acc H2,W i m acc H2->(J.stop i H2/\Q (.ref D) H2)∨
  (J.go i H2/\∀x H3,J.yld i H2 x H3->g x σc H3 λσ2 H4=>(∀(j:Nat) v,σc[j]? =some (some v)->σ2[j]? =some (some v))/\tc σ2 H4 λb H5=>if b=true then
   te σ2 H5 λy H6=>H6 D=some (.lst acc)/\acc.length<sizeLine/\∃m',m'<m/\W (i+1) m' (acc++[y]) (upd H6 D (.lst (acc++[y])))
   else ∃m',m'<m/\W (i+1) m' acc H5)
theorem Qb2{env:Env}:∀{names:List (Str×NameKind)}{x:Str},names.lookup x=some .free→
  (names.map λ(n,k)=>if(k == NameKind.free && env.scope.kind == .function && env.kindOf n == some .cell)then(n,NameKind.cell)else(n,k)).lookup x=some .cell∨
  (names.map λ(n,k)=>if(k == NameKind.free && env.scope.kind == .function && env.kindOf n == some .cell)then(n,NameKind.cell)else(n,k)).lookup x=some .free
 | [],_,h=>by simp at h
 | (n,k)::r,x,h=>by
  have ih:= @Qb2 env r x
  rw[Zo]
  cases hx:x == n with
  | true=>
   simp only[Zq,hx]at h
   cases h
   dsimp only
   split
   ·left;simp[Zq,hx]
   ·right;simp[Zq,hx]
  | false=>
   simp only[Zq,hx]at h
   dsimp only
   split
   ·simp only[Zq,hx];exact ih h
   ·simp only[Zq,hx];exact ih h
theorem Qdl{env:Env}:∀{names:List (Str×NameKind)}{x:Str},
  ((names.map λ(n,k)=>if(k == NameKind.free && env.scope.kind == .function && env.kindOf n == some .cell)then(n,NameKind.cell)else(n,k)).lookup x=some .cell∨
  (names.map λ(n,k)=>if(k == NameKind.free && env.scope.kind == .function && env.kindOf n == some .cell)then(n,NameKind.cell)else(n,k)).lookup x=some .free)→
  ∃k,(x,k)∈names/\(k= .free∨k= .cell)
 | [],_,h=>by simp at h
 | (n,k)::r,x,h=>by
  have ih:= @Qdl env r x
  rw[Zo]at h
  cases hx:x == n with
  | true=>
   have hn:x=n:=by simpa using hx
   subst hn
   dsimp only at h
   split at h
   ·rename_i hc
    simp only[Zh]at hc
    refine⟨k,Zm,.inl (by simpa using hc.1.1)⟩
   ·simp only[Zq,hx]at h
    refine⟨k,Zm,?_⟩
    rcases h with h | h
    ·exact .inr (Option.some.inj h)
    ·exact .inl (Option.some.inj h)
  | false=>
   dsimp only at h
   have:∃k,(x,k)∈r/\(k= .free∨k= .cell):=by
    apply ih
    split at h
    ·simpa only[Zq,hx]using h
    ·simpa only[Zq,hx]using h
   obtain⟨k',h1,h2⟩:=this
   exact⟨k',Zb _ h1,h2⟩
theorem QeP:∀(names:List (Str×NameKind)) (n:Nat) (acc:List (Str×Addr)) (x:Str) (c:Addr),(cellsFrom n names acc).lookup x=some c->acc.lookup x=some c∨(n<=c/\(x,NameKind.cell)∈names)
 | [],_,_,_,_,h=> .inl h
 | (nm,k)::r,n,acc,x,c,h=>by
  unfold cellsFrom at h
  split at h
  ·rename_i hk
   have hk:k= .cell:=by simpa using hk
   rcases QeP r (n+1) ((nm,n)::acc) x c h with h | ⟨h1,h2⟩
   ·rw[Zq]at h
    cases q:x == nm with
    | true=>
     rw[q]at h
     cases h
     have:x=nm:=by simpa using q
     exact .inr ⟨Zj _,by rw[this,hk];exact Zm⟩
    | false=>rw[q]at h;exact .inl h
   ·exact .inr ⟨by omega,Zb _ h2⟩
  ·rcases QeP r n acc x c h with h | ⟨h1,h2⟩
   ·exact .inl h
   ·exact .inr ⟨h1,Zb _ h2⟩
theorem Qk1:∀(names:List (Str×NameKind)) (n:Nat) (acc:List (Str×Addr)) (x:Str) (c:Addr),(x,NameKind.cell)∈names->(cellsFrom n names acc).lookup x=some c->n<=c
 | (nm,k)::r,n,acc,x,c,hm,h=>by
  unfold cellsFrom at h
  split at h
  ·by_cases hr:(x,NameKind.cell)∈r
   ·have:=Qk1 r (n+1) _ x c hr h
    omega
   ·have hx:x=nm:=by
     rcases Zn.mp hm with e | e
     ·exact(Prod.mk.inj e).1
     ·exact absurd e hr
    rcases QeP r (n+1) ((nm,n)::acc) x c h with h | ⟨h1,_⟩
    ·rw[Zq,show(x == nm)=true by simpa using hx]at h
     cases h
     exact Zj _
    ·omega
  ·rename_i hk
   rcases Zn.mp hm with e | e
   ·exact absurd (by rw[← (Prod.mk.inj e).2];rfl) hk
   ·exact Qk1 r n acc x c e h
theorem QkY:∀(names:List (Str×NameKind)) (n:Nat) (acc:List (Str×Addr)),(∀x y c,acc.lookup x=some c->acc.lookup y=some c->x=y)->(∀x c,acc.lookup x=some c->c<n)→
  ∀x y c,(cellsFrom n names acc).lookup x=some c->(cellsFrom n names acc).lookup y=some c->x=y
 | [],_,_,hi,_,x,y,c,h1,h2=>hi x y c h1 h2
 | (nm,k)::r,n,acc,hi,hb,x,y,c,h1,h2=>by
  unfold cellsFrom at h1 h2
  split at h1
  ·rename_i hk
   rw[if_pos hk]at h2
   refine QkY r (n+1) ((nm,n)::acc) (λx y c h1 h2=>?_) (λx c h=>?_) x y c h1 h2
   ·rw[Zq]at h1 h2
    cases qx:x == nm with
    | true=>
     rw[qx]at h1
     cases h1
     cases qy:y == nm with
     | true=>rw[show x=nm by simpa using qx,show y=nm by simpa using qy]
     | false=>rw[qy]at h2;exact absurd (hb y _ h2) (ZO _)
    | false=>
     rw[qx]at h1
     cases qy:y == nm with
     | true=>rw[qy]at h2;cases h2;exact absurd (hb x _ h1) (ZO _)
     | false=>rw[qy]at h2;exact hi x y c h1 h2
   ·rw[Zq]at h
    cases qx:x == nm with
    | true=>rw[qx]at h;cases h;exact Zbb _
    | false=>rw[qx]at h;exact ZaW (hb x c h)
  ·rename_i hk
   rw[if_neg hk]at h2
   exact QkY r n acc hi hb x y c h1 h2
theorem QeN:∀(names:List (Str×NameKind)) (n:Nat) (acc:List (Str×Addr)) (x:Str),(∃c,acc.lookup x=some c)->∃c,(cellsFrom n names acc).lookup x=some c
 | [],_,_,_,h=>h
 | (nm,k)::r,n,acc,x,h=>by
  unfold cellsFrom
  split
  ·refine QeN r (n+1) _ x ?_
   rw[Zq]
   cases x == nm with
   | true=>exact⟨n,rfl⟩
   | false=>exact h
  ·exact QeN r n acc x h
theorem QjO:∀(names:List (Str×NameKind)) (n:Nat) (acc:List (Str×Addr)) (x:Str),(x,NameKind.cell)∈names->∃c,(cellsFrom n names acc).lookup x=some c
 | (nm,k)::r,n,acc,x,hm=>by
  unfold cellsFrom
  rcases Zn.mp hm with e | e
  ·obtain⟨e1,e2⟩:=Prod.mk.inj e
   subst e1
   rw[← e2,if_pos (by rfl)]
   exact QeN r (n+1) _ x ⟨n,by simp[Zq]⟩
  ·split
   ·exact QjO r (n+1) _ x e
   ·exact QjO r n acc x e
theorem QiD(lo:Nat):∀(names:List (Str×NameKind)) (h:Heap) (acc:List (Str×Addr)),(∀x c,acc.lookup x=some c->lo<=c->h.IsCell c none)->lo<=h.objs.size→
  ∀x c,(cellsFrom h.objs.size names acc).lookup x=some c->lo<=c->(pushCells h names).IsCell c none
 | [],_,_,ha,_,x,c,e,hl=>ha x c e hl
 | (nm,k)::r,h,acc,ha,hlo,x,c,e,hl=>by
  unfold cellsFrom at e
  unfold pushCells
  split at e
  ·rename_i hk
   rw[if_pos hk]
   have hs:=ZaH h {cls:= .type "cell",data:= .cell none}
   refine QiD lo r (h.push {cls:= .type "cell",data:= .cell none}) ((nm,h.objs.size)::acc) (λx c e hl=>?_) (by rw[hs];omega) x c (by rw[hs];exact e) hl
   rw[Zq]at e
   cases q:x == nm with
   | true=>rw[q]at e;cases e;exact⟨_,ZC _ rfl,rfl⟩
   | false=>rw[q]at e;exact(ha x c e hl).keeps λb o e=>Zt _ e
  ·rename_i hk
   rw[if_neg hk]
   exact QiD lo r h acc ha hlo x c e hl
theorem QmJ
  (hQ:∀h':Heap,h'.Ns s.heap.objs.size (λ_=>none)->(∀b o,s.heap.get? b=some o->h'.get? b=some o)->((∀x c,cl.lookup x=some c->c<s.heap.objs.size)->∀x c,(cellsFrom (s.heap.objs.size+1) scope.names cl).lookup x=some c->s.heap.objs.size+1<=c->h'.IsCell c none)→
   Q (newEnv scope s.heap.objs.size globals (cellsFrom (s.heap.objs.size+1) scope.names cl) qual none .none (some env) builtins) {s with heap:=h'}):
  wpAny M A (newFunctionEnv scope globals cl [] qual none .none (some env) builtins) Q E s:=by
 simp only[newFunctionEnv,Option.isSome_some,if_true]
 refine wpAny_bind (wpAny_alloc ?_)
 refine wpAny_bind (wpAny_layCells _ (λname kind cells=>by cases hkc:kind == NameKind.cell<;>simp[hkc]) _ _ _ _ ?_)
 have hs:=ZaH s.heap {cls:= .type "dict",data:= .dict #[]}
 rw[show({s with heap:=s.heap.push {cls:= .type "dict",data:= .dict #[]}}:Shared).heap.objs.size=s.heap.objs.size+1 from hs]
 refine wpAny_bind (wpAny_pure (wpAny_pure ?_))
 refine hQ _ ((Heap.Ns.new s.heap (.type "dict")).keeps (pushCells_keeps _ _)) (λb o e=>pushCells_keeps _ _ b o (Zt _ e)) λhb x c e hl=>?_
 refine QiD (s.heap.objs.size+1) scope.names (s.heap.push {cls:= .type "dict",data:= .dict #[]}) cl (λx c e hl=>?_) (by rw[hs];exact Zj _) x c (by rw[hs];exact e) hl
 exact absurd (Zs (hb x c e) (Zu (ZaG _) hl)) (ZO _)
section
variable {X:Cx}{tg iter elt:Expr}{ifs:List Expr}{scope:Scope}{N':List Str}{pos:Pos}
structure Qdm (X:Cx) (N':List Str) (scope:Scope):Prop where
 kind:scope.kind= .function
 own:∀y∈scope.names,y.2= .cell->scope.names.lookup y.1=some .cell
 loc:∀y∈scope.names,y.2= .local ->scope.names.lookup y.1=some .local
 free:∀y∈scope.names,y.2= .free->X.env.kindOf y.1=some .cell∨X.env.kindOf y.1=some .free
theorem QoG{pins:List (Addr×Obj)}{σ σc:St}{H3:Hp}{s3:Shared}{fp:List Addr}{cl:List (Str×Addr)}{h':Heap}{tk:Nat}(S:Qdm X N' scope)(I:Inv X pins σ H3 s3)
  (hf:∀b∈fp,QcS X pins H3 b) (hfl:∀b∈fp,b<s3.heap.objs.size) (hc1:∀x c,cl.lookup x=some c->X.env.cells.lookup x=some c) (hc2:∀y∈scope.names,y.2= .free->∃c,cl.lookup y.1=some c) (cap:QhP X N' scope σ σc)
  (hns:h'.Ns s3.heap.objs.size (λ_=>none)) (hk:∀b o,s3.heap.get? b=some o->h'.get? b=some o)
  (hown:(∀x c,cl.lookup x=some c->c<s3.heap.objs.size)->∀x c,(cellsFrom (s3.heap.objs.size+1) scope.names cl).lookup x=some c->s3.heap.objs.size+1<=c->h'.IsCell c none):
  Inv (cxc X N' scope (cellsFrom (s3.heap.objs.size+1) scope.names cl) s3.heap.objs.size fp s3 H3) [] σc H3 {s3 with heap:=h',toks:=tk}:=by
 have nold:∀b,b∈fp->b≠s3.heap.objs.size:=λb hb e=>absurd (hfl b hb) (by rw[e];exact ZO _)
 have cellOld:∀x c,cl.lookup x=some c->∃v,s3.heap.IsCell c v:=λx c e=>I.cell x c (hc1 x c e)
 have cellLt:∀x c,cl.lookup x=some c->c<s3.heap.objs.size:=λx c e=>let ⟨v,q⟩:=cellOld x c e;q.lt
 have cellNew:∀c v,s3.heap.IsCell c v->h'.IsCell c v:=λc v ⟨o,ho,hd⟩=>⟨o,hk c o ho,hd⟩
 have hown:=hown cellLt
 have look:∀x c,(cellsFrom (s3.heap.objs.size+1) scope.names cl).lookup x=some c->cl.lookup x=some c∨(s3.heap.objs.size+1<=c/\(x,NameKind.cell)∈scope.names):=QeP scope.names _ cl
 refine⟨⟨I.ok.mod,S.kind,I.ok.glob,I.ok.blt,Zj _,QkY scope.names _ cl (λx y c h1 h2=>I.ok.inj x y c (hc1 x c h1) (hc1 y c h2)) (λx c e=>ZaW (cellLt x c e)),λx hx=>?_,λx c e1 e2=>?_,I.ok.hd,I.ok.frames,.inl rfl,λb hb=>⟨nold b hb,λx c e=>?_⟩,
  I.bs,Zu I.ok.bsz I.sz,λb o e hb=>?_,λb hb hs=>?_,I.stack,I.Ql4⟩,rfl,I.bare,Un.kept hk,⟨_,hns,λj x v h1 h2 h3=>?_⟩,λx c e=>?_,I.hok.fresh (Zj _),λx c e=>?_,λp hp=>absurd (show p∈([]:List (Addr×Obj))from hp) (by simp),I.hok.kept hk,cap.1⟩
 ·obtain⟨k,hm,hk'⟩:=Qdl hx
  rcases hk' with rfl | rfl
  ·exact QeN scope.names _ cl x (hc2 _ hm rfl)
  ·exact QjO scope.names _ cl x hm
 ·have e1:decide (scope.names.lookup x=some .cell)=true:=e1
  have:=Qk1 scope.names _ cl x c (ZR (of_decide_eq_true e1)) e2
  exact Zu (ZaG _) this
 ·rcases look x c e with e | ⟨e,_⟩
  ·exact(hf b hb).2.2.2.2.1 x c (hc1 x c e)
  ·intro z
   rw[z]at e
   exact absurd (Zs (hfl b hb) (Zu (ZaG _) e)) (ZO _)
 ·rcases(hf b hb).2.2.2.1 with z | z
  ·exact I.ok.noex b o e z
  ·exact absurd (Zs (Zw e) (Zu I.ok.bsz z)) (ZO _)
 ·rcases Zn.mp (I.QhC b hs)with e | z
  ·exact(hf b hb).2.1 e
  ·exact(hf b hb).2.2.1 z
 ·obtain⟨hl,i,e1,e2,e3⟩:=cap.2 j x v h1 h2
  obtain⟨m,hn,look'⟩:=I.loc
  obtain⟨u,r,l⟩:=look' i x v e1 e2 (e3.elim (λz=> .inr (.inl z)) λz=> .inr (.inr z))
  refine⟨u,r,.inr ⟨Qb2 hl,?_⟩⟩
  rcases l with⟨k,_⟩ | ⟨_,c,ec,hcell⟩
  ·rcases e3 with z | z<;>(rw[k]at z;cases z)
  ·obtain⟨c',ec'⟩:=QeN scope.names (s3.heap.objs.size+1) cl x (hc2 (x,.free) (ZR hl) rfl)
   rcases look x c' ec' with q | ⟨_,q⟩
   ·have:=hc1 x c' q
    rw[ec]at this;cases this
    exact⟨c,ec',cellNew c _ hcell⟩
   ·have:=S.own _ q rfl
    rw[hl]at this
    cases this
 ·rcases look x c e with q | ⟨q,_⟩
  ·obtain⟨v,q⟩:=cellOld x c q
   exact⟨v,cellNew c v q⟩
  ·exact⟨none,hown x c e q⟩
 ·rcases look x c e with q | ⟨q,_⟩
  ·exact I.freeC x c (hc1 x c q)
  ·exact I.hok.fresh (by omega)
theorem Qov(J:Nat->Shared->Prop)
  (turn:∀n s,J n s->wpAny (model prog w) A (pyNext it) (λr s1=>match r with
   | none=>R (.ok .next) s1
   | some v=>wpAny (model prog w) A (letOwnedTupleGo tg it v) (λ_ s2=>wpAny (model prog w) A (assign tg env v) (λ_ s3=>
     wpAny (model prog w) A (forIn ifs true λc r=>if r=true then do let ok ← isTrue c env (eval c env);pure (ForInStep.yield ok)else pure (ForInStep.yield r)) (λok s4=>
      if ok=true then wpAny (model prog w) A (eval elt env) (λx s5=>wpAny (model prog w) A (call (.builtin "list.append") [acc,x]) (λ_ s6=>∃m,m<n/\J m s6) (λ_ _=>False) s5) (λ_ _=>False) s4
      else ∃m,m<n/\J m s4) (λ_ _=>False) s3) (λ_ _=>False) s2) (λ_ _=>False) s1) (λ_ _=>False) s)
  (n:Nat) (h:J n s0):codeAny (model prog w) A (.compLoop (.ListComp elt [⟨tg,iter,ifs,0⟩] scope pos) 0 it acc env) R s0:=by
 have up:∀{α:Type}{t:Sem α}{Q:α->Shared->Prop}{E:Value->Shared->Prop}{s:Shared},wpAny (model prog w) A t Q (λ_ _=>False) s->wpAny (model prog w) A t Q E s:=λh=>wpAny_mono h (λ_ _ q=>q) λ_ _ f=>f.elim
 refine codeAny_loop (by rfl) J (λk sk hk=>?_) n h
 show wpAny (model prog w) A ((compTurn (.ListComp elt [⟨tg,iter,ifs,0⟩] scope pos) 0 it acc env).onRaise (λx=>do noteFrame x env;theTreesLotGoes x)) _ _ sk
 refine wpAny_noted (up ?_)
 rw[compTurn_list]
 refine wpAny_bind (wpAny_standAt (wpAny_bind (thn (turn k sk hk) λr s1 h1=>?_)))
 cases r with
 | none=>exact wpAny_pure h1
 | some v=>
  refine wpAny_bind (thn h1 λ_ s2 h2=>wpAny_bind (thn h2 λ_ s3 h3=>wpAny_bind (thn h3 λok s4 h4=>?_)))
  cases ok with
  | false=>exact wpAny_pure ⟨rfl,h4⟩
  | true=>exact wpAny_bind (wpAny_bind (thn h4 λx s5 h5=>wpAny_bind (thn h5 λ_ s6 h6=>wpAny_pure (wpAny_pure ⟨rfl,h6⟩))))
theorem QpO{it D C:Addr}{fp:List Addr}{tn:Nat->Heap->Prop}{J:It}{cl:List (Str×Addr)}{s3 s4:Shared}{H3:Hp}{σc:St}{g:TG}{tc:TT}{te:TE}{Q:Hp->Prop}(hcalm:X.calm=true)
  (T:Turn X.prog X.w X.K tg J fp it tn)
  (hg:PG (cxc X N' scope cl C fp s3 H3) tg g) (ht:PTs (cxc X N' scope cl C fp s3 H3) ifs tc) (he:PE (cxc X N' scope cl C fp s3 H3) elt te)
  (I:Inv (cxc X N' scope cl C fp s3 H3) [] σc H3 s4) (st:tn 0 s4.heap) (ff:∀b∈fp,QcS (cxc X N' scope cl C fp s3 H3) [] H3 b)
  (W:Nat->Nat->List V->Hp->Prop) (hw:∃m,W 0 m [] H3)
  (turn:∀i m acc H2,W i m acc H2->(J.stop i H2/\Q H2)∨
   (J.go i H2/\∀x H5,J.yld i H2 x H5->g x σc H5 λσ2 H6=>(∀(j:Nat) v,σc[j]? =some (some v)->σ2[j]? =some (some v))/\tc σ2 H6 λb H7=>if b=true then
    te σ2 H7 λy H8=>H8 D=some (.lst acc)/\acc.length<sizeLine/\∃m',m'<m/\W (i+1) m' (acc++[y]) (upd H8 D (.lst (acc++[y])))
    else ∃m',m'<m/\W (i+1) m' acc H7))
  {R:Result->Shared->Prop}(hR:∀H' s',Inv (cxc X N' scope cl C fp s3 H3) [] σc H' s'->Q H'->R (.ok .next) s'):
  codeAny (model X.prog X.w) X.A (.compStart (.ListComp elt [⟨tg,iter,ifs,0⟩] scope pos) 0 (.ref it) (.ref D) (compEnvC scope cl C X.env)) R s4:=by
 obtain⟨m0,w0⟩:=hw
 have stat:∀{H':Hp},(∀b∈fp,H' b=none)->∀b∈fp,QcS (cxc X N' scope cl C fp s3 H3) [] H' b:=λhn b hb=>⟨hn b hb,(ff b hb).2⟩
 have loop:codeAny (model X.prog X.w) X.A (.compLoop (.ListComp elt [⟨tg,iter,ifs,0⟩] scope pos) 0 (.ref it) (.ref D) (compEnvC scope cl C X.env)) R s4:=by
  refine Qov (λn s'=>∃i acc H',Inv (cxc X N' scope cl C fp s3 H3) [] σc H' s'/\tn i s'.heap/\(∀b∈fp,H' b=none)/\W i n acc H') ?_ m0 ⟨0,[],H3,I,st,λb hb=>(ff b hb).1,w0⟩
  rintro n s5 ⟨i,acc,H5,I5,st5,fr5,w5⟩
  rcases turn i n acc H5 w5 with⟨stop,q⟩ | ⟨go,step⟩
  ·refine thn (T.done (cxc X N' scope cl C fp s3 H3) rfl rfl rfl hcalm i [] s5 σc H5 _ I5 (stat fr5) st5 stop) λr s6 hpt=>?_
   obtain⟨hr,I6⟩:=hpt
   subst hr
   exact hR H5 s6 I6 q
  ·refine thn (T.item (cxc X N' scope cl C fp s3 H3) rfl rfl rfl hcalm i [] s5 σc H5 _ I5 (stat fr5) st5 go) λr s6 hpt=>?_
   obtain⟨u,hr,h6⟩:=hpt
   subst hr
   refine thn h6 λ_ s7 hpt=>?_
   obtain⟨x,H7,I7,r7,y7,st7,fr7⟩:=hpt
   have I7':=I7.pinned (stat fr7) (T.obj _ _ st7)
   refine thn (hg _ s7 σc H7 x u _ I7' r7 (step x H7 y7)) λ_ s8=>exJ λσ8 H8 I8 k8 q8=>?_
   refine thn (ht _ s8 σ8 H8 _ I8 q8) λok s9 hpt=>?_
   obtain⟨H9,I9,q9⟩:=hpt
   have again:∀{H':Hp}{s':Shared}{acc':List V},Inv (cxc X N' scope cl C fp s3 H3) ([]++QfU fp s7.heap) σ8 H' s'->(∃m',m'<n/\W (i+1) m' acc' H')→
     ∃m,m<n/\∃i acc H',Inv (cxc X N' scope cl C fp s3 H3) [] σc H' s'/\tn i s'.heap/\(∀b∈fp,H' b=none)/\W i m acc H':=λ{H' s' acc'} I' ⟨m',hm,w'⟩=>by
    have pin:∀b∈fp,∀o,s7.heap.get? b=some o->s'.heap.get? b=some o/\H' b=none:=λb hb o e=>by
     have z:=I'.pin (b,o) (Ze _ (Ze _ (Qe9 hb e)))
     exact⟨z.1,z.2.1⟩
    refine⟨m',hm,i+1,acc',H',?_,T.keep _ _ _ st7 λb hb o e=>(pin b hb o e).1,λb hb=>?_,w'⟩
    ·exact I'.Qfe.weak (I.len.trans I8.len.symm) k8
    ·obtain⟨o,e,_⟩:=T.obj _ _ st7 b hb
     exact(pin b hb o e).2
   cases ok with
   | false=>
    rw[if_neg ZH]at q9 ⊢
    exact again I9 q9
   | true=>
    rw[if_pos rfl]at q9 ⊢
    refine thn (he _ s9 σ8 H9 _ I9 q9) λyv s10 hpt=>?_
    obtain⟨y,H10,I10,r10,e10,l10,q10⟩:=hpt
    refine thn (Qi5 _ s10 σ8 H10 (.ref D) [y] (.ref D) [yv] (λv H11=>H11=upd H10 D (.lst (acc++[y]))) I10 rfl (.cons r10 .nil) ⟨D,acc,y,rfl,rfl,e10,l10,rfl⟩) λ_ s11 hpt=>?_
    obtain⟨_,H11,I11,_,e11⟩:=hpt
    subst e11
    exact again I11 q10
 exact codeAny_compStart_list loop (T.self _ 0 _ _ _ st loop)
theorem Qkw{wi:TI}{g:TG}{tc:TT}{te:TE}{cp:Pos}{use:Option (Value->Sem Unit)}{pins:List (Addr×Obj)}{s:Shared}{σ:St}{H:Hp}{QV:Value->Shared->Prop}{Q:VK}(hcalm:X.calm=true)(S:Qdm X N' scope)(hi:PI X tg iter wi)
  (hin:∀cl C fp s3 H3,PG (cxc X N' scope cl C fp s3 H3) tg g/\PTs (cxc X N' scope cl C fp s3 H3) ifs tc/\PE (cxc X N' scope cl C fp s3 H3) elt te)
  (hs:∀x,foldedSetIterable iter X.env x=pure x) (I:Inv X pins σ H s) (h:Qjw wi (QhP X N' scope) g tc te σ H Q)
  (fin:∀(D C:Addr) (H':Hp) (s':Shared),Inv X pins σ H' s'->H' C=none->C≠X.env.locals->X.s₀.heap.objs.size<=C->(∀x c,X.env.cells.lookup x=some c->c≠C)->(∀p∈X.pn++pins,p.1≠C)->(∃m,s'.heap.Ns C m)->Q (.ref D) H'→
   compPost (model X.prog X.w) X.A X.xe use QV (.ref D) C (.ok .next) s'):
  wpAny (model X.prog X.w) X.A (comprehension (.ListComp elt [⟨tg,iter,ifs,0⟩] scope pos) scope X.env cp (newList []) false (eval iter X.env) use) QV X.xe s:=by
 obtain⟨cl,hcl,hc1,hc2⟩:=QsB λy hy hf=>I.ok.has y.1 (S.free y hy hf)
 refine wpAny_comprehension_free rfl hs hcl S.kind S.loc ?_
 refine thn (hi pins s σ H _ I h) λv s1 h1=>thn h1 λitv s2 h2=>?_
 obtain⟨it,fp,tn,J,H2,e,I2,T,st2,f2,σc,cap,hw⟩:=h2
 subst e
 have hD0:H2 s2.heap.objs.size=none:=I2.hok.fresh (Zj _)
 obtain⟨W,hW0,turn⟩:=hw _ hD0
 have fpl:∀b∈fp,b<s2.heap.objs.size:=λb hb=>let ⟨o,e,_⟩:=T.obj _ _ st2 b hb;Zw e
 have hlist:∀D:Addr,D=s2.heap.objs.size->∃x,x=D:=λD _=>⟨D,rfl⟩
 refine wpAny_newObj_type ?_
 have I3:Inv X pins σ (upd H2 s2.heap.objs.size (.lst [])) {s2 with heap:=s2.heap.push {cls:= .type "list",dict:=none,data:= .seq ([]:List Value).toArray}}:=
  I2.laid (t':=s2.toks) (λb o e=>Zt _ e) (Zj _) ⟨Zac _,[],0,.nil,ZC _ rfl⟩
 generalize hs3:({s2 with heap:=s2.heap.push {cls:= .type "list",dict:=none,data:= .seq ([]:List Value).toArray}}:Shared)=s3 at I3
 have hs3':s3.heap=s2.heap.push {cls:= .type "list",dict:=none,data:= .seq ([]:List Value).toArray}:=by rw[← hs3]
 have sz3:s3.heap.objs.size=s2.heap.objs.size+1:=by rw[hs3',ZaH]
 have old3:∀b o,s2.heap.get? b=some o->s3.heap.get? b=some o:=λb o e=>by rw[hs3'];exact Zt _ e
 have f3:∀b∈fp,QcS X pins (upd H2 s2.heap.objs.size (.lst [])) b:=λb hb=>⟨by rw[QE (ZJ (fpl b hb))];exact(f2 b hb).1,(f2 b hb).2⟩
 have fpl3:∀b∈fp,b<s3.heap.objs.size:=λb hb=>by rw[sz3];exact ZaW (fpl b hb)
 refine QmJ (λh4 hns4' keep4 hown4=>?_)
 have I4:=QoG (tk:=s3.toks) S I3 f3 fpl3 hc1 hc2 cap hns4' keep4 hown4
 have hout:∀H' s',Inv (cxc X N' scope (cellsFrom (s3.heap.objs.size+1) scope.names cl) s3.heap.objs.size fp s3 (upd H2 s2.heap.objs.size (.lst []))) [] σc H' s'->Inv X pins σ H' s':=λH' s' J'=>
  I3.Qvu J'.os J'.base J'.hok J'.bare λb hb=>⟨(f3 b hb).2.2.2.1,(f3 b hb).2.1,(f3 b hb).2.2.2.2.1,(f3 b hb).2.2.2.2.2⟩
 obtain⟨hg,ht,he⟩:=hin (cellsFrom (s3.heap.objs.size+1) scope.names cl) s3.heap.objs.size fp s3 (upd H2 s2.heap.objs.size (.lst []))
 have fc:∀b∈fp,QcS (cxc X N' scope (cellsFrom (s3.heap.objs.size+1) scope.names cl) s3.heap.objs.size fp s3 (upd H2 s2.heap.objs.size (.lst []))) [] (upd H2 s2.heap.objs.size (.lst [])) b:=λb hb=>
  ⟨(f3 b hb).1,ZJ (fpl3 b hb),λhs'=>(Zn.mp (I3.QhC b hs')).elim (f3 b hb).2.1 (f3 b hb).2.2.1,.inl hb,λx c e=>(by
   rcases QeP scope.names _ cl x c e with e | ⟨e,_⟩
   ·exact(f3 b hb).2.2.2.2.1 x c (hc1 x c e)
   ·intro z
    rw[z]at e
    exact absurd (Zs (fpl3 b hb) (Zu (ZaG _) e)) (ZO _)),λp hp=>absurd (show p∈([]:List (Addr×Obj))from hp) (by simp)⟩
 have hC1:s3.heap.objs.size≠X.env.locals:=Ne.symm (ZJ I3.lt)
 refine QpO (W:=W) hcalm T hg ht he I4 (T.keep _ _ _ st2 λb hb o e=>keep4 b o (old3 b o e)) fc hW0 turn λH' s' J' q=>?_
 have O:=hout H' s' J'
 refine fin _ _ H' s' O J'.free hC1 (Zu I3.sz (Zj _)) (λx c e z=>?_) (λp hp z=>?_) (let ⟨m,hn,_⟩:=J'.loc;⟨m,hn⟩) q
 ·obtain⟨v,o,ho,_⟩:=I3.cell x c e
  exact absurd (Zw ho) (by rw[z];exact ZO _)
 ·exact absurd (Zw (I3.pin p hp).1) (by rw[z];exact ZO _)
theorem Inv.Qqo(I:Inv X pins σ H s)(hs:Heap.SameBut C s.heap h')(hn:H C=none)(hL:C≠X.env.locals)(h1:X.s₀.heap.objs.size<=C)
  (h2:∀x c,X.env.cells.lookup x=some c->c≠C) (h3:∀p∈X.pn++pins,p.1≠C):Inv X pins σ H {s with heap:=h'}:=
 I.turned (t':=s.toks) (λb o hb e=>(hs.2 b hb).trans e) hn hL (.inr h1) h2 h3
theorem Ql1(hcalm:X.calm=true)(S:Qdm X N' scope)(hi:PI X tg iter wi)
  (hin:∀cl C fp s3 H3,PG (cxc X N' scope cl C fp s3 H3) tg g/\PTs (cxc X N' scope cl C fp s3 H3) ifs tc/\PE (cxc X N' scope cl C fp s3 H3) elt te)
  (hs:∀x,foldedSetIterable iter X.env x=pure x:=by intro _;rfl):PE X (.ListComp elt [⟨tg,iter,ifs,0⟩] scope pos) (Qjw wi (QhP X N' scope) g tc te):=by
 intro pins s σ H Q I h
 rw[eval_ListComp]
 refine Qkw hcalm S hi hin hs I h λD C H' s' O h1 h2 h3 h4 h5 hpt q=>?_
 obtain⟨m,hm⟩:=hpt
 exact⟨m,hm,λh' hs'=>⟨.ref D,H',O.Qqo hs' h1 h2 h3 h4 h5,rfl,q⟩⟩
theorem QrZ(hN:X.N.Nodup)(hx1:X.N[i]? =some x)(hx:Loc X.env.scope x)(hf:X.fn x=true∨X.env.scope.names.lookup x=some .local)(hcalm:X.calm=true)(S:Qdm X N' scope)(hi:PI X tg iter wi)
  (hin:∀cl C fp s3 H3,PG (cxc X N' scope cl C fp s3 H3) tg g/\PTs (cxc X N' scope cl C fp s3 H3) ifs tc/\PE (cxc X N' scope cl C fp s3 H3) elt te)
  (hs:∀x,foldedSetIterable iter X.env x=pure x:=by intro _;rfl):
  PS X (.Assign [.Name x pos'] (.ListComp elt [⟨tg,iter,ifs,0⟩] scope pos) spos) (Qix (Qjw wi (QhP X N' scope) g tc te) (Qei i)):=by
 have hb:∃b,swapsWith (.ListComp elt [⟨tg,iter,ifs,0⟩] scope pos) (some (.Name x pos')) spos.line X.env=pure b:=⟨_,rfl⟩
 obtain⟨b,hb⟩:=hb
 cases b with
 | false=>exact Qhk hN hx1 hx (Ql1 hcalm S hi hin hs) hb hf
 | true=>
  intro pins s σ H D I h
  rw[exec_Assign_Name_used _ _ _ _ hb]
  refine wpAny_bind (wpAny_standAt (wpAny_bind ?_))
  show wpAny _ X.A (do let _ ← comprehension (.ListComp elt [⟨tg,iter,ifs,0⟩] scope pos) scope X.env _ (newList []) false (eval iter X.env) (some (assign (.Name x pos') X.env))) _ _ s
  refine wpAny_bind (thn (Qkw hcalm S hi hin hs I h λDl C H' s' O h1 h2 h3 h4 h5 ⟨m,hm⟩ q=>?_) λ_ s' hq=>wpAny_pure (wpAny_pure hq))
  refine wpAny_assign_Name (Qjf O hN hx1 hx (v:= .ref Dl) rfl (λs2 I2 hsb=>?_) hf)
  obtain⟨a,sb,ha⟩:=hsb
  have haC:C≠a:=by
   rcases ha with rfl | ha
   ·exact h2
   ·exact Ne.symm (h4 _ _ ha)
  exact⟨m,hm.sameBut sb haC,λh' hs'=>⟨_,H',I2.Qqo hs' h1 h2 h3 h4 h5,q⟩⟩
end
end L2
namespace L2
open PySem PySem.Spec PyProof.Rows
section
theorem Inv.Qqp{t':Nat}{ch:List Addr}{T:Addr}{ts:List V}(I:Inv X pins σ H s)(hf:∀b∈ch,QcS X pins H b)(k:∀b o,b∉ch->s.heap.get? b=some o->h'.get? b=some o)(hp:∀b∈ch,∃o,h'.get? b=some o)
  (hT:s.heap.objs.size<=T) (hnew:ts.length<=sizeLine/\∃its:List Value,Qq ts its/\IsTup h' T its.toArray):Inv X pins σ (upd H T (.tup ts)) {s with heap:=h',toks:=t'}:=by
 have hn:H T=none:=I.hok.fresh hT
 have neT:∀b u,H b=some u->b≠T:=λb u e=>Qbh e hn
 have nch:∀b u,H b=some u->b∉ch:=λb u e hb=>by rw[(hf b hb).1]at e;cases e
 have ltT:∀b o,s.heap.get? b=some o->b≠T:=λb o e=>ZJ (Zs (Zw e) hT)
 refine I.step (g':=s.gens) (d':=s.drawn) (ch:=ch) (λb hb=>?_) (λb o _ _ hc e _=>k b o hc e) (λb o _ _ hc e _=>⟨o.slots,k b o hc e⟩) (λb o _ e n=>by rw[QE (ltT b o e)];exact n)
  (λb o hc e=>⟨o,k b o hc e⟩) (λb xs e=>by rw[QE (neT b _ e)];exact e) (λb o u e=>by rw[QE (neT b _ e)];exact e) (λb ps e=>⟨#[],by rw[QE (neT b _ e),e];simp⟩) (λm hm=>?_) (λb u e=>?_) I.bare
 ·obtain⟨f0,f1,f2,f3,f4,f5⟩:=hf b hb
  exact⟨f3,f1,f4,f5⟩
 ·obtain⟨o,es,ep,ho,r⟩:=hm
  exact⟨o,es,ep,k _ o (λz=>(hf _ z).2.1 rfl) ho,r⟩
 ·by_cases hb:b=T
  ·subst hb
   rw[Qaz]at e
   cases e
   exact hnew
  ·rw[QE hb]at e
   refine(I.hok b u e).Qfq (λc v hc q=>k c v ?_ q) (λc q=>by rw[QE (neT c _ q)];exact q) λc xs q=>by rw[QE (neT c _ q)];exact q
   rcases hc with z | z
   ·rw[z];exact nch b u e
   ·exact nch c _ z
theorem Inv.turns{t':Nat}{ch:List Addr}(I:Inv X pins σ H s)(hf:∀b∈ch,QcS X pins H b)(k:∀b o,b∉ch->s.heap.get? b=some o->h'.get? b=some o):Inv X pins σ H {s with heap:=h',toks:=t'}:=by
 have nch:∀b u,H b=some u->b∉ch:=λb u e hb=>by rw[(hf b hb).1]at e;cases e
 refine I.step (g':=s.gens) (d':=s.drawn) (ch:=ch) (λb hb=>?_) (λb o _ _ hc e _=>k b o hc e) (λb o _ _ hc e _=>⟨o.slots,k b o hc e⟩) (λb o _ e n=>n)
  (λb o hc e=>⟨o,k b o hc e⟩) (λb xs e=>e) (λb o u e=>e) (λb ps e=>⟨#[],by rw[e];simp⟩) (λm hm=>?_) (λb u e=>?_) I.bare
 ·obtain⟨f0,f1,f2,f3,f4,f5⟩:=hf b hb
  exact⟨f3,f1,f4,f5⟩
 ·obtain⟨o,es,ep,ho,r⟩:=hm
  exact⟨o,es,ep,k _ o (λz=>(hf _ z).2.1 rfl) ho,r⟩
 ·refine(I.hok b u e).Qfq (λc v hc q=>k c v ?_ q) (λc q=>q) λc xs q=>q
  rcases hc with z | z
  ·rw[z];exact nch b u e
  ·exact nch c _ z
end
noncomputable def Ite(K:PySem.W.Frag)(a:Addr):It:=
 ⟨λi H=>∃xs x,SqL K H a xs/\xs[i]? =some x,λi H v H'=>∃p x,v= .ref p/\H p=none/\H'=upd H p (.tup [.int i,x])/\∀xs,SqL K H a xs->xs[i]? =some x,λi H=>∃xs,SqL K H a xs/\xs.length<=i⟩
theorem mm0{a:Addr}{l:List Addr}:a∈a::l:= .head _
theorem mm1{a b:Addr}{l:List Addr}:a∈b::a::l:= .tail _ mm0
theorem mm2{a b c:Addr}{l:List Addr}:a∈b::c::a::l:= .tail _ mm1
theorem mm3{a b c d:Addr}{l:List Addr}:a∈b::c::d::a::l:= .tail _ mm2
theorem mm4{a b c d e:Addr}{l:List Addr}:a∈b::c::d::e::a::l:= .tail _ mm3
theorem nmm{a b:Addr}{l:List Addr}(hb:b∉l)(ha:a∈l):b≠a:=λe=>hb (e▸ha)
theorem fa1{p:Addr->Prop}{a:Addr}{l:List Addr}(h:p a)(t:∀x∈l,p x):∀x∈a::l,p x:=List.forall_mem_cons.2 ⟨h,t⟩
def NL(h:Heap)(b:Addr):Prop:=∃o,h.get? b=some o/\o.cls≠ .type "list" /\∀v,o.data≠ .cell v
theorem NL.it{h:Heap}(q:h.IsListIter b l k):NL h b:=by
 obtain⟨o,ho,hc,hd⟩:=q
 exact⟨o,ho,by rw[hc];simp,λv z=>by rw[hd]at z;cases z⟩
theorem NL.zip(hz:IsZip h z T1 T2 x):NL h z:=⟨_,hz,by simp,λv z=>by cases z⟩
theorem NL.tup{h:Heap}(q:h.get? b=some {cls:= .type "tuple",data:= .seq a}):NL h b:=⟨_,q,by simp,λv z=>by cases z⟩
theorem NL.obj(n:NL h b):∃o,h.get? b=some o/\∀v,o.data≠ .cell v:=let ⟨o,e,_,v⟩:=n;⟨o,e,v⟩
theorem NL.ex(n:NL h b):∃o,h.get? b=some o:=let ⟨o,e,_⟩:=n;⟨o,e⟩
theorem NL.lt(n:NL h b):b<h.objs.size:=let ⟨_,e⟩:=n.ex;Zw e
theorem NL.apart{X:Cx}{H:Hp}{s:Shared}(n:NL s.heap b)(I:Inv X pins σ H s)(hn:H b=none)(hq:SqL X.K H l ys):l≠b:=λe=>by
 subst e
 rcases hq with(hq | ⟨_,hq⟩) | ⟨o',its,k,hk,hc',_⟩
 ·rw[hn]at hq;cases hq
 ·rw[hn]at hq;cases hq
 ·obtain⟨o,ho,hc,_⟩:=n
  rw[I.kIn l o' hk]at ho
  exact hc (Option.some.inj ho▸hc')
theorem Qn5{P:Program}{w:World}{K:PySem.W.Frag}{es:List Expr}{tk:Nat}{tpos:Pos}(a e it:Addr)(hne:e≠it):Turn P w K (.Tuple es tk tpos) (Ite K a) [e,it] e (λi h=>∃old,IsEnum h e it (i:Int) old/\h.IsListIter it a i) where
 mem:=mm0
 obj:=λi h st b hb=>by
  obtain⟨old,he,hi⟩:=st
  exact(fa1 (p:=NL h) ⟨_,he,by simp,λv z=>by cases z⟩ (fa1 (.it hi) (List.forall_mem_nil _)) b hb).obj
 keep:=λi h h' st k=>by
  obtain⟨old,he,hi⟩:=st
  exact⟨old,k e mm0 _ he,hi.at (k it mm1)⟩
 item:=by
  intro X hP hw hK hc i pins s σ H E I hf st hg
  subst hP hw hK
  obtain⟨old,he,hi⟩:=st
  obtain⟨xs,x,hq,hx⟩:=hg
  obtain⟨its,rv,p,hz⟩:=I.list hq
  obtain⟨u,hu,ru⟩:=rv.get hx
  refine wpAny_pyNext_enum_item he hi p.isList (x:=u) (by simpa using hu) hne λh1 heo hi1 ht1 hz1 hk1=>?_
  refine⟨.ref s.heap.objs.size,rfl,wpAny_letOwnedTupleGo_enum heo λh2 he2 hs2=>?_⟩
  replace hs2:Heap.SameBut e h1 h2:=hs2
  have helt:e<s.heap.objs.size:=Zw he
  have hilt:it<s.heap.objs.size:=by obtain⟨o,ho,_⟩:=hi;exact Zw ho
  have ht2:IsTup h2 s.heap.objs.size [Value.int i s.toks,u].toArray:=⟨_,(hs2.2 _ (Nat.ne_of_gt helt)).trans ht1,rfl,_,rfl⟩
  have hi2:h2.IsListIter it a (i+1):=hi1.extBut hs2.extBut (Ne.symm hne)
  have kk:∀b o,b∉[e,it]->s.heap.get? b=some o->h2.get? b=some o:=λb o hb q=>by
   have h1:b≠e:=λz=>hb (by simp[z])
   have h2:b≠it:=λz=>hb (by simp[z])
   exact hs2.extBut b o h1 (hk1 b o h1 h2 q)
  refine⟨.ref s.heap.objs.size,upd H s.heap.objs.size (.tup [.int i,x]),I.Qqp (t':=s.toks+1) hf kk (λb hb=>?_) (Zj _) ⟨by show 2<=sizeLine;decide,_,.cons ⟨_,rfl⟩ (.cons ru .nil),ht2⟩,rfl,
   ⟨_,x,rfl,I.hok.fresh (Zj _),rfl,λys hy=>by rw[I.Qfa hy hq];exact hx⟩,⟨u,?_,hi2⟩,λb hb=>?_⟩
  ·have hb:b=e∨b=it:=by simpa using hb
   rcases hb with rfl | rfl
   ·exact⟨_,he2⟩
   ·obtain⟨o,ho,_⟩:=hi2;exact⟨o,ho⟩
  ·have:((i+1:Nat):Int)=(i:Int)+1:=by push_cast;rfl
   rw[this];exact he2
  ·have hb':b=e∨b=it:=by simpa using hb
   have:b≠s.heap.objs.size:=by
    rcases hb' with rfl | rfl
    ·exact ZJ helt
    ·exact ZJ hilt
   rw[QE this];exact(hf b hb).1
 done:=by
  intro X hP hw hK hc i pins s σ H E I hf st hg
  subst hP hw hK
  obtain⟨old,he,hi⟩:=st
  obtain⟨xs,hq,hx⟩:=hg
  obtain⟨its,rv,p,hz⟩:=I.list hq
  have hl:=rv.length
  refine wpAny_pyNext_enum_end (I.ok.hd hc) he hi p.isList (by simp;omega) λh1 eb=>⟨rfl,?_⟩
  exact I.turns (t':=s.toks) hf λb o hb q=>eb b o (λz=>hb (by simp[z])) q
 self:=λ_ _ _ _ _ st h=>by
  obtain⟨old,he,hi⟩:=st
  exact wpAny_pyIter_enum he h
section
noncomputable def QvR(K:PySem.W.Frag)(ta:TA):TI:=λσ H R=>ta σ H λvs H1=>∃a,vs=[.ref a]/\(∃xs,SqL K H1 a xs)/\R (Ite K a) H1
theorem Qra{a:Expr}{ta:TA}{p pos:Pos}{es:List Expr}{tk:Nat}{tpos:Pos}(hg:Gl X "enumerate")(hm:X.mg "enumerate" =none)(ha:PA X [a] ta)(hs:starEach [a] X.env=[(false,eval a X.env)]):
  PI X (.Tuple es tk tpos) (.Call (.Name "enumerate" p) [a] [] pos) (QvR X.K ta):=by
 intro pins s σ H R I h
 refine Call_ (QeR I hg hm PyProof.Rows.boot_enumerate (Zaq (thn (ha pos pins s σ H _ I h) λus s1 ⟨vs,H1,I1,r1,q1⟩=>?_) hs rfl))
 obtain⟨l,e,⟨xs,hq⟩,q⟩:=q1
 subst e
 obtain⟨u,rfl,ru⟩:=vals1 r1
 cases ru
 obtain⟨its,rv,pl,hz⟩:=I1.list hq
 refine call_enumerate_list pl.isList λh2 he2 hi2 hz2 hk2=>?_
 have I2:Inv X pins σ H1 {s1 with heap:=h2}:=I1.kept (t':=s1.toks) hk2
 refine wpAny_pyIter_enum he2 ⟨_,[s1.heap.objs.size+1,s1.heap.objs.size],_,_,H1,rfl,I2,Qn5 l _ _ (Nat.succ_ne_self _),⟨_,he2,hi2⟩,λb hb=>?_,q⟩
 have hb:b=s1.heap.objs.size+1∨b=s1.heap.objs.size:=by simpa using hb
 have hle:s1.heap.objs.size<=b:=by rcases hb with rfl | rfl<;>omega
 exact I1.Qh4 hle (I1.hok.fresh hle)
end
noncomputable def Itz(K:PySem.W.Frag)(a b:Addr):It:=
 ⟨λi H=>∃xs ys x y,SqL K H a xs/\SqL K H b ys/\xs[i]? =some x/\ys[i]? =some y,λi H v H'=>∃p x y,v= .ref p/\H p=none/\H'=upd H p (.tup [x,y])/\(∀xs,SqL K H a xs->xs[i]? =some x)/\∀ys,SqL K H b ys->ys[i]? =some y,
  λi H=>∃xs ys,SqL K H a xs/\SqL K H b ys/\(xs.length<=i∨ys.length<=i)⟩
structure QlV (z TI TO i1 i2:Addr):Prop where
 a:TI≠z
 b:TO≠z
 c:i1≠z
 d:i2≠z
 e:TI≠TO
 f:TI≠i1
 g:TI≠i2
 h:TO≠i1
 i:TO≠i2
 j:i1≠i2
theorem QhN{h:Heap}(hz:IsZip h z T1 T2 x)(hA:IsPair h T1 a b)(hB:IsPair h T2 c d)(h1:h.IsListIter i1 l1 k)(h2:h.IsListIter i2 l2 k):∀b∈[z,T1,T2,i1,i2],NL h b:=
 fa1 (.zip hz) (fa1 (.tup hA) (fa1 (.tup hB) (fa1 (.it h1) (fa1 (.it h2) λ_ h=>nomatch h))))
theorem Qnw{X:Cx}{s:Shared}(D:QlV z T1 T2 i1 i2)(I:Inv X pins σ H s)(hf:∀b∈[z,T1,T2,i1,i2],QcS X pins H b)(O:∀b∈[z,T1,T2,i1,i2],NL s.heap b)(hq1:SqL X.K H l1 xs)(hq2:SqL X.K H l2 ys):ZipApart z T1 T2 i1 i2 l1 l2:=by
 have A1:=λb hb=>(O b hb).apart I (hf b hb).1 hq1
 have A2:=λb hb=>(O b hb).apart I (hf b hb).1 hq2
 exact⟨D.a,D.b,D.c,D.d,D.e,D.f,D.g,D.h,D.i,D.j,A1 z mm0,A1 T2 mm2,A1 i1 mm3,A1 i2 mm4,A2 z mm0,A2 T2 mm2,A2 i1 mm3,A2 i2 mm4⟩
theorem Qps{P:Program}{w:World}{K:PySem.W.Frag}{es:List Expr}{tk:Nat}{tpos:Pos}(l1 l2 z TI TO i1 i2:Addr)(D:QlV z TI TO i1 i2):
  Turn P w K (.Tuple es tk tpos) (Itz K l1 l2) [z,TI,TO,i1,i2] z (λi h=>IsZip h z TI TO .none/\IsPair h TI (.ref i1) (.ref i2)/\(∃a b,IsPair h TO a b)/\h.IsListIter i1 l1 i/\h.IsListIter i2 l2 i) where
 mem:=mm0
 obj:=λi h st b hb=>by
  obtain⟨hz,hTI,⟨p,q,hTO⟩,h1,h2⟩:=st
  exact(QhN hz hTI hTO h1 h2 b hb).obj
 keep:=λi h h' st k=>by
  obtain⟨hz,hTI,⟨p,q,hTO⟩,h1,h2⟩:=st
  exact⟨k z mm0 _ hz,k TI mm1 _ hTI,⟨p,q,k TO mm2 _ hTO⟩,h1.at (k i1 mm3),h2.at (k i2 mm4)⟩
 item:=by
  intro X hP hw hK hc i pins s σ H E I hf st hg
  subst hP hw hK
  obtain⟨hz,hTI,⟨a0,b0,hTO⟩,h1,h2⟩:=st
  obtain⟨xs,ys,x,y,hq1,hq2,hx,hy⟩:=hg
  obtain⟨its,rv,p,hzz⟩:=I.list hq1
  obtain⟨its2,rv2,p2,hzz2⟩:=I.list hq2
  obtain⟨u,hu,ru⟩:=rv.get hx
  obtain⟨u2,hu2,ru2⟩:=rv2.get hy
  have O:=QhN hz hTI hTO h1 h2
  refine wpAny_pyNext_zip_item (Qnw D I hf O hq1 hq2) hz hTI hTO h1 h2 p.isList p2.isList (x:=u) (y:=u2) (by simpa using hu) (by simpa using hu2) λh3 z3 TO3 a3 b3 T3 sz3 k3=>?_
  refine⟨.ref s.heap.objs.size,rfl,wpAny_letOwnedTupleGo_zip z3 λh4 z4 hs4=>?_⟩
  replace hs4:Heap.SameBut z h3 h4:=hs4
  have kk:∀b o,b∉[z,TI,TO,i1,i2]->s.heap.get? b=some o->h4.get? b=some o:=λb o hb q=>
   hs4.extBut b o (nmm hb mm0) (k3 b o (nmm hb mm0) (nmm hb mm2) (nmm hb mm3) (nmm hb mm4) q)
  have TI4:IsPair h4 TI (.ref i1) (.ref i2):=hs4.extBut _ _ D.a (k3 _ _ D.a D.e D.f D.g hTI)
  have TO4:IsPair h4 TO u u2:=hs4.extBut _ _ D.b TO3
  have a4:h4.IsListIter i1 l1 (i+1):=a3.extBut hs4.extBut D.c
  have b4:h4.IsListIter i2 l2 (i+1):=b3.extBut hs4.extBut D.d
  exact⟨.ref s.heap.objs.size,upd H s.heap.objs.size (.tup [x,y]),I.Qqp (t':=s.toks) hf kk (λb hb=>(QhN z4 TI4 TO4 a4 b4 b hb).ex) (Zj _) ⟨by show 2<=sizeLine;decide,_,.cons ru (.cons ru2 .nil),_,(hs4.2 _ (Nat.ne_of_gt (O z mm0).lt)).trans T3,rfl,_,rfl⟩,rfl,
   ⟨_,x,y,rfl,I.hok.fresh (Zj _),rfl,λzs hy'=>by rw[I.Qfa hy' hq1];exact hx,λzs hy'=>by rw[I.Qfa hy' hq2];exact hy⟩,⟨z4,TI4,⟨_,_,TO4⟩,a4,b4⟩,λb hb=>by rw[QE (ZJ (O b hb).lt)];exact(hf b hb).1⟩
 done:=by
  intro X hP hw hK hc i pins s σ H E I hf st hg
  subst hP hw hK
  obtain⟨hz,hTI,⟨a0,b0,hTO⟩,h1,h2⟩:=st
  obtain⟨xs,ys,hq1,hq2,hx⟩:=hg
  obtain⟨its,rv,p,hzz⟩:=I.list hq1
  obtain⟨its2,rv2,p2,hzz2⟩:=I.list hq2
  have hl:=rv.length
  have hl2:=rv2.length
  refine wpAny_pyNext_zip_end (I.ok.hd hc) (Qnw D I hf (QhN hz hTI hTO h1 h2) hq1 hq2) hz hTI hTO h1 h2 p.isList p2.isList (by rcases hx with hx | hx;(left;simp;omega);(right;simp;omega)) λh3 k3=>⟨rfl,?_⟩
  exact I.turns (t':=s.toks) hf λb o hb q=>k3 b o (nmm hb mm0) (nmm hb mm2) (nmm hb mm3) (nmm hb mm4) q
 self:=λ_ _ _ _ _ st h=>wpAny_pyIter_zip st.1 h
section
noncomputable def Qwy(K:PySem.W.Frag)(ta:TA):TI:=λσ H R=>ta σ H λvs H1=>∃a b,vs=[.ref a,.ref b]/\(∃xs,SqL K H1 a xs)/\(∃ys,SqL K H1 b ys)/\R (Itz K a b) H1
theorem QtN{a b:Expr}{ta:TA}{p pos:Pos}{es:List Expr}{tk:Nat}{tpos:Pos}(hg:Gl X "zip")(hm:X.mg "zip" =none)(ha:PA X [a,b] ta)(hs:starEach [a,b] X.env=[(false,eval a X.env),(false,eval b X.env)])(hs2:starEach [b] X.env=[(false,eval b X.env)]):
  PI X (.Tuple es tk tpos) (.Call (.Name "zip" p) [a,b] [] pos) (Qwy X.K ta):=by
 intro pins s σ H R I h
 refine Call_ (QeR I hg hm PyProof.Rows.boot_zip (Zaq (thn (ha pos pins s σ H _ I h) λus s1 ⟨vs,H1,I1,r1,q1⟩=>?_) (by rw[hs,hs2]) (by rw[hs2];rfl)))
 obtain⟨l,l2,e,⟨xs,hq⟩,⟨ys,hq2⟩,q⟩:=q1
 subst e
 obtain⟨u,u2,rfl,ru,ru2⟩:=vals2 r1
 cases ru
 cases ru2
 obtain⟨its,rv,pl,hz⟩:=I1.list hq
 obtain⟨its2,rv2,pl2,hz2⟩:=I1.list hq2
 refine call_zip_2 pl.isList pl2.isList λh2 hz hTI hTO h1 h2' hsz hk2=>?_
 have I2:Inv X pins σ H1 {s1 with heap:=h2}:=I1.kept (t':=s1.toks) hk2
 refine wpAny_pyIter_zip hz ⟨_,[s1.heap.objs.size+4,s1.heap.objs.size+2,s1.heap.objs.size+3,s1.heap.objs.size,s1.heap.objs.size+1],_,_,H1,rfl,I2,Qps l l2 _ _ _ _ _ ⟨?_,?_,?_,?_,?_,?_,?_,?_,?_,?_⟩,⟨hz,hTI,⟨_,_,hTO⟩,h1,h2'⟩,λb hb=>?_,q⟩
 iterate 10 (exact(by intro e;first | (have e':(s1.heap.objs.size:Nat)+_=_:=e;omega) | (have e':(s1.heap.objs.size:Nat)=_:=e;omega)))
 have hle:s1.heap.objs.size<=b:=by
  simp only[Zn,ZaK,or_false]at hb
  rcases hb with rfl | rfl | rfl | rfl | rfl<;>first | exact Zj _ | exact Nat.le_add_right _ _
 exact I1.Qh4 hle (I1.hok.fresh hle)
end
end L2
namespace L2
open PySem PySem.Spec
section
variable {prog:Program}{w:World}{A:Around}{E:Value->Shared->Prop}{s:Shared}
structure Six (z TI TO i1 i2 i3:Addr):Prop where
 TIz:TI≠z
 TOz:TO≠z
 i1z:i1≠z
 i2z:i2≠z
 i3z:i3≠z
 TITO:TI≠TO
 TIi1:TI≠i1
 TIi2:TI≠i2
 TIi3:TI≠i3
 TOi1:TO≠i1
 TOi2:TO≠i2
 TOi3:TO≠i3
 i12:i1≠i2
 i13:i1≠i3
 i23:i2≠i3
end
section
variable {prog:Program}{w:World}{A:Around}{E:Value->Shared->Prop}{s:Shared}
end
open PyProof.Rows
section
end
end L2
namespace HS
open PySem PySem.Spec PyProof.Rows L2
inductive D where
 | non | bl (b:Bool) | int (i:Int) | str (x:Str) | tup (xs:List D) | lst (xs:List D) | exc (x:Str) | dk (ks:List (List Int))
mutual
noncomputable def D.flat:D->Bool
 | .lst _=>false
 | .tup xs=>QK xs
 | .non=>true
 | .bl _=>true
 | .int _=>true
 | .str _=>true
 | .exc _=>true
 | .dk _=>false
noncomputable def QK:List D->Bool
 | []=>true
 | d::ds=>d.flat && QK ds
end
mutual
noncomputable def D.nl:D->Nat
 | .lst xs=>nls xs+1
 | .tup xs=>nls xs
 | .non=>0
 | .bl _=>0
 | .int _=>0
 | .str _=>0
 | .exc _=>0
 | .dk _=>1
noncomputable def nls:List D->Nat
 | []=>0
 | d::ds=>d.nl+nls ds
end
mutual
theorem Qc9:∀(d:D),d.flat=true->d.nl=0
 | .non,_=>rfl
 | .bl _,_=>rfl
 | .int _,_=>rfl
 | .str _,_=>rfl
 | .exc _,_=>rfl
 | .dk _,h=>by simp[D.flat]at h
 | .tup xs,h=>by simp only[D.nl];simp only[D.flat]at h;exact Qe0 xs h
 | .lst xs,h=>by simp[D.flat]at h
theorem Qe0:∀(ds:List D),QK ds=true->nls ds=0
 | [],_=>rfl
 | d::ds,h=>by simp only[QK,Zh]at h;simp only[nls,Qc9 d h.1,Qe0 ds h.2]
end
def Fix(K:PySem.W.Frag)(H:Hp)(a:Addr)(vs:List V):Prop:=
 (∃o,H a=some (.frz o (.lst vs)))∨
  ∃(its:List Value) (n:Nat),K.lookup a=some {cls:= .type "list",data:= .seq its.toArray n}/\vs.length<=sizeLine/\Qq vs its
def Qwe(a C:Addr)(h:Heap):Prop:=∃o vs,h.get? a=some o/\o.cls= .ref C/\o.data= .fields vs
def ExcAt(K:PySem.W.Frag)(H:Hp)(a:Addr)(x:Str):Prop:=∃C,PySem.W.nsIn K mainGlobals x=some (some (.ref C))/\H a=some (.ext (Qwe a C))
theorem QmN{K:PySem.W.Frag}{H H':Hp}{a:Addr}{x:Str}(s:Qz H H')(h:ExcAt K H a x):ExcAt K H' a x:=by
 obtain⟨C,h1,h2⟩:=h
 exact⟨C,h1,s _ _ h2⟩
theorem QnS{K:PySem.W.Frag}{H:Hp}{a p:Addr}{x:Str}{zs ys:List V}(hp:H p=some (.lst zs))(h:ExcAt K H a x):ExcAt K (upd H p (.lst ys)) a x:=by
 obtain⟨C,h1,h2⟩:=h
 exact⟨C,h1,by rw[QE (Qjy h2 hp (by intro z;cases z))];exact h2⟩
noncomputable def dkC(ks:List (List Int)):List (List Key×V):=ks.map λk=>(k.map Sum.inl,V.bl true)
mutual
noncomputable def Rp(K:PySem.W.Frag)(H:Hp):D->V->List Addr->Prop
 | .non,v,F=>v= .non/\F=[]
 | .bl b,v,F=>v= .bl b/\F=[]
 | .int i,v,F=>v= .int i/\F=[]
 | .str x,v,F=>v= .str x/\F=[]
 | .exc x,v,F=>(∃a,v= .ref a/\ExcAt K H a x)/\F=[]
 | .dk ks,v,F=>∃a,v= .ref a/\F=[a]/\H a=some (.dT (dkC ks))
 | .tup ds,v,F=>∃a vs,v= .ref a/\SqT K H a vs/\Rps K H ds vs F
 | .lst ds,v,F=>ds.length<=sizeLine/\∃a vs,v= .ref a/\((∃G,F=a::G/\H a=some (.lst vs)/\Rps K H ds vs G)∨(Fix K H a vs/\Rps K H ds vs F))
noncomputable def Rps(K:PySem.W.Frag)(H:Hp):List D->List V->List Addr->Prop
 | [],vs,F=>vs=[]/\F=[]
 | d::ds,vs,F=>∃v ws F1 F2,vs=v::ws/\F=F1++F2/\Rp K H d v F1/\Rps K H ds ws F2
end
theorem Qj3{K:PySem.W.Frag}{H H':Hp}{a:Addr}{vs:List V}(s:Qz H H')(h:SqT K H a vs):SqT K H' a vs:=by
 rcases h with(h | ⟨o,h⟩) | h
 ·exact .inl (.inl (s _ _ h))
 ·exact .inl (.inr ⟨o,s _ _ h⟩)
 ·exact .inr h
theorem QkB{K:PySem.W.Frag}{H H':Hp}{a:Addr}{vs:List V}(s:Qz H H')(h:Fix K H a vs):Fix K H' a vs:=by
 rcases h with⟨o,h⟩ | h
 ·exact .inl ⟨o,s _ _ h⟩
 ·exact .inr h
theorem QlC{K:PySem.W.Frag}{H:Hp}{a p:Addr}{vs zs ys:List V}(hp:H p=some (.lst zs))(h:SqT K H a vs):SqT K (upd H p (.lst ys)) a vs:=by
 rcases h with(h | ⟨o,h⟩) | h
 ·exact .inl (.inl (by rw[QE (Qjy h hp (by intro z;cases z))];exact h))
 ·exact .inl (.inr ⟨o,by rw[QE (Qjy h hp (by intro z;cases z))];exact h⟩)
 ·exact .inr h
theorem Qq7{K:PySem.W.Frag}{H:Hp}{a p:Addr}{vs zs ys:List V}(hp:H p=some (.lst zs))(h:Fix K H a vs):Fix K (upd H p (.lst ys)) a vs:=by
 rcases h with⟨o,h⟩ | h
 ·exact .inl ⟨o,by rw[QE (Qjy h hp (by intro z;cases z))];exact h⟩
 ·exact .inr h
section
variable {K:PySem.W.Frag}{H H':Hp}
mutual
theorem Rp.same(s:Qz H H'):∀{d:D}{v:V}{F:List Addr},Rp K H d v F->Rp K H' d v F
 | .exc _,_,_,h=>by
  simp only[Rp]at h ⊢
  obtain⟨⟨a,e,q⟩,z⟩:=h
  exact⟨⟨a,e,QmN s q⟩,z⟩
 | .dk _,_,_,h=>by
  simp only[Rp]at h ⊢
  obtain⟨a,e,eF,q⟩:=h
  exact⟨a,e,eF,s _ _ q⟩
 | .non,_,_,h=>h
 | .bl _,_,_,h=>h
 | .int _,_,_,h=>h
 | .str _,_,_,h=>h
 | .tup ds,_,_,h=>by
  simp only[Rp]at h ⊢
  obtain⟨a,vs,e,q,r⟩:=h
  exact⟨a,vs,e,Qj3 s q,Rps.same s r⟩
 | .lst ds,_,_,h=>by
  simp only[Rp]at h ⊢
  obtain⟨hz,a,vs,e,⟨G,eF,q,r⟩ | ⟨q,r⟩⟩:=h
  ·exact⟨hz,a,vs,e,.inl ⟨G,eF,s _ _ q,Rps.same s r⟩⟩
  ·exact⟨hz,a,vs,e,.inr ⟨QkB s q,Rps.same s r⟩⟩
theorem Rps.same(s:Qz H H'):∀{ds:List D}{vs:List V}{F:List Addr},Rps K H ds vs F->Rps K H' ds vs F
 | [],_,_,h=>h
 | d::ds,_,_,h=>by
  simp only[Rps]at h ⊢
  obtain⟨v,ws,F1,F2,e,eF,r,q⟩:=h
  exact⟨v,ws,F1,F2,e,eF,Rp.same s r,Rps.same s q⟩
end
mutual
theorem Rp.upd{p:Addr}{zs ys:List V}(hp:H p=some (.lst zs)):∀{d:D}{v:V}{F:List Addr},Rp K H d v F->p∉F->Rp K (upd H p (.lst ys)) d v F
 | .exc _,_,_,h,_=>by
  simp only[Rp]at h ⊢
  obtain⟨⟨a,e,q⟩,z⟩:=h
  exact⟨⟨a,e,QnS hp q⟩,z⟩
 | .dk _,_,_,h,hn=>by
  simp only[Rp]at h ⊢
  obtain⟨a,e,eF,q⟩:=h
  subst eF
  exact⟨a,e,rfl,by rw[QE (λz=>hn (by rw[z];exact Zm))];exact q⟩
 | .non,_,_,h,_=>h
 | .bl _,_,_,h,_=>h
 | .int _,_,_,h,_=>h
 | .str _,_,_,h,_=>h
 | .tup ds,_,_,h,hn=>by
  simp only[Rp]at h ⊢
  obtain⟨a,vs,e,q,r⟩:=h
  exact⟨a,vs,e,QlC hp q,Rps.upd hp r hn⟩
 | .lst ds,_,_,h,hn=>by
  simp only[Rp]at h ⊢
  obtain⟨hz,a,vs,e,⟨G,eF,q,r⟩ | ⟨q,r⟩⟩:=h
  ·subst eF
   have h1:a≠p:=λz=>hn (by rw[z];exact Zm)
   exact⟨hz,a,vs,e,.inl ⟨G,rfl,by rw[QE h1];exact q,Rps.upd hp r λz=>hn (Zb _ z)⟩⟩
  ·exact⟨hz,a,vs,e,.inr ⟨Qq7 hp q,Rps.upd hp r hn⟩⟩
theorem Rps.upd{p:Addr}{zs ys:List V}(hp:H p=some (.lst zs)):∀{ds:List D}{vs:List V}{F:List Addr},Rps K H ds vs F->p∉F->Rps K (upd H p (.lst ys)) ds vs F
 | [],_,_,h,_=>h
 | d::ds,_,_,h,hn=>by
  simp only[Rps]at h ⊢
  obtain⟨v,ws,F1,F2,e,eF,r,q⟩:=h
  subst eF
  exact⟨v,ws,F1,F2,e,rfl,Rp.upd hp r λz=>hn (Zi _ z),Rps.upd hp q λz=>hn (Ze _ z)⟩
end
mutual
theorem Rp.mem:∀{d:D}{v:V}{F:List Addr},Rp K H d v F->∀a∈F,∃u,H a=some u
 | .non,_,_,h,a,ha=>by simp only[Rp]at h;rw[h.2]at ha;simp at ha
 | .bl _,_,_,h,a,ha=>by simp only[Rp]at h;rw[h.2]at ha;simp at ha
 | .int _,_,_,h,a,ha=>by simp only[Rp]at h;rw[h.2]at ha;simp at ha
 | .str _,_,_,h,a,ha=>by simp only[Rp]at h;rw[h.2]at ha;simp at ha
 | .exc _,_,_,h,a,ha=>by simp only[Rp]at h;rw[h.2]at ha;simp at ha
 | .dk _,_,_,h,a,ha=>by simp only[Rp]at h;obtain⟨b,e,eF,q⟩:=h;subst eF;rw[Zk.mp ha];exact⟨_,q⟩
 | .tup ds,_,_,h,a,ha=>by
  simp only[Rp]at h
  obtain⟨_,vs,e,q,r⟩:=h
  exact Rps.mem r a ha
 | .lst ds,_,_,h,a,ha=>by
  simp only[Rp]at h
  obtain⟨_,b,vs,e,⟨G,eF,q,r⟩ | ⟨q,r⟩⟩:=h
  ·subst eF
   rcases Zn.mp ha with z | z
   ·exact⟨_,by rw[z];exact q⟩
   ·exact Rps.mem r a z
  ·exact Rps.mem r a ha
theorem Rps.mem:∀{ds:List D}{vs:List V}{F:List Addr},Rps K H ds vs F->∀a∈F,∃u,H a=some u
 | [],_,_,h,a,ha=>by simp only[Rps]at h;rw[h.2]at ha;simp at ha
 | d::ds,_,_,h,a,ha=>by
  simp only[Rps]at h
  obtain⟨v,ws,F1,F2,e,eF,r,q⟩:=h
  subst eF
  rcases Zy.mp ha with z | z
  ·exact Rp.mem r a z
  ·exact Rps.mem q a z
end
mutual
theorem Rp.Qbi:∀{d:D}{v:V}{F:List Addr},Rp K H d v F->d.flat=true->F=[]
 | .non,_,_,h,_=>by simp only[Rp]at h;exact h.2
 | .bl _,_,_,h,_=>by simp only[Rp]at h;exact h.2
 | .int _,_,_,h,_=>by simp only[Rp]at h;exact h.2
 | .str _,_,_,h,_=>by simp only[Rp]at h;exact h.2
 | .exc _,_,_,h,_=>by simp only[Rp]at h;exact h.2
 | .dk _,_,_,h,hf=>by simp[D.flat]at hf
 | .tup ds,_,_,h,hf=>by
  simp only[Rp]at h
  simp only[D.flat]at hf
  obtain⟨_,vs,e,q,r⟩:=h
  exact Rps.Qbi r hf
 | .lst ds,_,_,h,hf=>by simp[D.flat]at hf
theorem Rps.Qbi:∀{ds:List D}{vs:List V}{F:List Addr},Rps K H ds vs F->QK ds=true->F=[]
 | [],_,_,h,_=>by simp only[Rps]at h;exact h.2
 | d::ds,_,_,h,hf=>by
  simp only[Rps]at h
  simp only[QK,Zh]at hf
  obtain⟨v,ws,F1,F2,e,eF,r,q⟩:=h
  rw[eF,Rp.Qbi r hf.1,Rps.Qbi q hf.2];rfl
end
mutual
theorem Rp.Qay:∀{d:D}{v:V}{F:List Addr},Rp K H d v F->F.length<=d.nl
 | .non,_,_,h=>by simp only[Rp]at h;rw[h.2];exact Zac _
 | .bl _,_,_,h=>by simp only[Rp]at h;rw[h.2];exact Zac _
 | .int _,_,_,h=>by simp only[Rp]at h;rw[h.2];exact Zac _
 | .str _,_,_,h=>by simp only[Rp]at h;rw[h.2];exact Zac _
 | .exc _,_,_,h=>by simp only[Rp]at h;rw[h.2];exact Zac _
 | .dk _,_,_,h=>by simp only[Rp]at h;obtain⟨b,e,eF,q⟩:=h;subst eF;exact Zj _
 | .tup ds,_,_,h=>by
  simp only[Rp]at h
  obtain⟨_,vs,e,q,r⟩:=h
  simp only[D.nl]
  exact Rps.Qay r
 | .lst ds,_,_,h=>by
  simp only[Rp]at h
  simp only[D.nl]
  obtain⟨_,b,vs,e,⟨G,eF,q,r⟩ | ⟨q,r⟩⟩:=h
  ·rw[eF,Zr];have:=Rps.Qay r;omega
  ·have:=Rps.Qay r;omega
theorem Rps.Qay:∀{ds:List D}{vs:List V}{F:List Addr},Rps K H ds vs F->F.length<=nls ds
 | [],_,_,h=>by simp only[Rps]at h;rw[h.2];exact Zac _
 | d::ds,_,_,h=>by
  simp only[Rps]at h
  obtain⟨v,ws,F1,F2,e,eF,r,q⟩:=h
  simp only[nls]
  rw[eF,Zf]
  have:=Rp.Qay r
  have:=Rps.Qay q
  omega
end
theorem Rps.length:∀{ds:List D}{vs:List V}{F:List Addr},Rps K H ds vs F->ds.length=vs.length
 | [],_,_,h=>by simp only[Rps]at h;rw[h.1];rfl
 | d::ds,_,_,h=>by
  simp only[Rps]at h
  obtain⟨v,ws,F1,F2,e,eF,r,q⟩:=h
  rw[e,Zr,Zr,Rps.length q]
theorem Rps.append:∀{ds es:List D}{vs ws:List V}{F G:List Addr},Rps K H ds vs F->Rps K H es ws G->Rps K H (ds++es) (vs++ws) (F++G)
 | [],_,_,_,_,_,h,g=>by simp only[Rps]at h;rw[h.1,h.2];exact g
 | d::ds,_,_,_,_,_,h,g=>by
  simp only[Rps,ZaC]at h ⊢
  obtain⟨v,ws,F1,F2,e,eF,r,q⟩:=h
  subst e eF
  exact⟨v,_,F1,_,rfl,by rw[ZT],r,Rps.append q g⟩
theorem Rps.get:∀{ds:List D}{vs:List V}{F:List Addr}{i:Nat}{d:D},Rps K H ds vs F->ds[i]? =some d->∃v F1 G F2,vs[i]? =some v/\F=F1++(G++F2)/\Rp K H d v G/\(F.length=nls ds->G.length=d.nl)
 | [],_,_,_,_,_,e=>by simp at e
 | d::ds,_,_,0,_,h,e=>by
  simp only[Rps]at h
  obtain⟨v,ws,F1,F2,e1,eF,r,q⟩:=h
  simp at e;subst e e1 eF
  refine⟨v,[],F1,F2,by simp,rfl,r,λhl=>?_⟩
  simp only[nls,Zf]at hl
  have:=Rp.Qay r
  have:=Rps.Qay q
  omega
 | d::ds,_,_,i+1,_,h,e=>by
  simp only[Rps]at h
  obtain⟨v,ws,F1,F2,e1,eF,r,q⟩:=h
  obtain⟨v',G1,G,G2,h1,h2,h3,h4⟩:=Rps.get q (by simpa using e)
  have l1:=Rp.Qay r
  have l2:=Rps.Qay q
  subst e1 eF
  refine⟨v',F1++G1,G,G2,by simpa using h1,by rw[h2,ZT],h3,λhl=>h4 ?_⟩
  simp only[nls,Zf]at hl
  omega
theorem Fix.sq{K:PySem.W.Frag}{H:Hp}{a:Addr}{vs:List V}(h:Fix K H a vs):SqL K H a vs:=by
 rcases h with⟨o,h⟩ | ⟨its,n,h,hz,r⟩
 ·exact .inl (.inr ⟨o,h⟩)
 ·exact .inr ⟨_,its.toArray,n,h,rfl,rfl,rfl,by rw[Zp,← r.length];exact hz,by simpa using r⟩
theorem _root_.L2.Inv.Qiq(I:Inv X pins σ H s)(h:H a=some (.lst vs)∨Fix X.K H a vs):
  vs.length<=sizeLine/\∃(its:List Value) (n:Nat),Qq vs its/\vs.length=its.length/\s.heap.get? a=some {cls:= .type "list",data:= .seq its.toArray n}:=by
 rcases h with h | ⟨o,h⟩ | ⟨its,n,h,hz,r⟩
 ·exact I.Qo0 h
 ·obtain⟨e,hz,its,n,r,e2⟩:=I.hok a _ h
  exact⟨hz,its,n,r,r.length,e2⟩
 ·exact⟨hz,its,n,r,r.length,I.kIn _ _ h⟩
theorem Rp.lst_inv{K:PySem.W.Frag}{H:Hp}{ds:List D}{v:V}{F:List Addr}(h:Rp K H (.lst ds) v F):
  ∃a vs G,v= .ref a/\(H a=some (.lst vs)∨Fix K H a vs)/\Rps K H ds vs G/\ds.length<=sizeLine/\(F=a::G∨F=G):=by
 simp only[Rp]at h
 obtain⟨hz,a,vs,e,⟨G,eF,q,r⟩ | ⟨q,r⟩⟩:=h
 ·exact⟨a,vs,G,e,.inl q,r,hz,.inl eF⟩
 ·exact⟨a,vs,F,e,.inr q,r,hz,.inr rfl⟩
theorem Q1{K:PySem.W.Frag}{H:Hp}{a:Addr}{vs:List V}(h:H a=some (.lst vs)∨Fix K H a vs):SqL K H a vs:=h.elim (λh=>SqL.of h) Fix.sq
theorem Rp.QaW{K:PySem.W.Frag}{H:Hp}{ds:List D}{v:V}{F:List Addr}(h:Rp K H (.tup ds) v F):∃a vs,v= .ref a/\SqT K H a vs/\Rps K H ds vs F:=by
 simp only[Rp]at h
 exact h
theorem Rp.QeT{K:PySem.W.Frag}{H:Hp}{ds:List D}{a:Addr}{vs:List V}{G:List Addr}(h:H a=some (.lst vs))(r:Rps K H ds vs G)(hz:ds.length<=sizeLine):Rp K H (.lst ds) (.ref a) (a::G):=by
 simp only[Rp]
 exact⟨hz,a,vs,rfl,.inl ⟨G,rfl,h,r⟩⟩
theorem Rp.Qhe{K:PySem.W.Frag}{H:Hp}{ds:List D}{a:Addr}{vs:List V}{G:List Addr}(h:H a=some (.tup vs))(r:Rps K H ds vs G):Rp K H (.tup ds) (.ref a) G:=by
 simp only[Rp]
 exact⟨a,vs,rfl,SqT.of h,r⟩
theorem Rp.int_inv{K:PySem.W.Frag}{H:Hp}{i:Int}{v:V}{F:List Addr}(h:Rp K H (.int i) v F):v= .int i:=by simp only[Rp]at h;exact h.1
theorem Rp.Qcc{K:PySem.W.Frag}{H:Hp}{i:Bool}{v:V}{F:List Addr}(h:Rp K H (.bl i) v F):v= .bl i:=by simp only[Rp]at h;exact h.1
theorem Rp.QdK{K:PySem.W.Frag}{H:Hp}{v:V}{F:List Addr}(h:Rp K H .non v F):v= .non:=by simp only[Rp]at h;exact h.1
theorem Rp.str_inv{K:PySem.W.Frag}{H:Hp}{i:Str}{v:V}{F:List Addr}(h:Rp K H (.str i) v F):v= .str i:=by simp only[Rp]at h;exact h.1
theorem Rp.int_mk{K:PySem.W.Frag}{H:Hp}{i:Int}:Rp K H (.int i) (.int i) []:=by simp[Rp]
theorem Rp.Qa5{K:PySem.W.Frag}{H:Hp}{i:Bool}:Rp K H (.bl i) (.bl i) []:=by simp[Rp]
theorem Rp.QeE{K:PySem.W.Frag}{H:Hp}:Rp K H .non .non []:=by simp[Rp]
theorem Rp.str_mk{K:PySem.W.Frag}{H:Hp}{i:Str}:Rp K H (.str i) (.str i) []:=by simp[Rp]
theorem QbI(h:H p=none):Qz H (L2.upd H p o):=λb u e=>by rw[QE (Qbh e h)];exact e
end
end HS
namespace HS
open PySem PySem.Spec L2
noncomputable abbrev En:=List (Option (D×Bool))
structure R where
 d:D
 fr:Bool
 M:List Nat
structure RA where
 ds:List D
 fr:Bool
 M:List Nat
noncomputable abbrev DE:=En->Option R
noncomputable abbrev DA:=En->Option RA
noncomputable abbrev DT:=En->Option Bool
structure Rel (K:PySem.W.Frag) (H0:Hp) (A0:List Addr) (hs:List (V×D×List Addr)) (ρ:En) (F:Nat->List Addr) (σ:St) (H:Hp):Prop where
 len:ρ.length=σ.length
 val:∀(i:Nat) d b,ρ[i]? =some (some (d,b))->∃v,σ[i]? =some (some v)/\Rp K H d v (F i)
 own:∀(i:Nat) d,ρ[i]? =some (some (d,true))->(F i).length=d.nl/\(F i).Nodup/\(∀a∈F i,H0 a=none)/\(∀(j:Nat) d' b',j≠i->ρ[j]? =some (some (d',b'))->∀a∈F i,a∉F j)/\∀t∈hs,∀a∈F i,a∉t.2.2
 src:∀(i:Nat) d b,ρ[i]? =some (some (d,b))->∀a∈F i,H0 a=none∨a∈A0
 held:∀t∈hs,Rp K H t.2.1 t.1 t.2.2/\∀a∈t.2.2,H0 a=none∨a∈A0
 same:Qz H0 H
def Src(ρ:En)(F:Nat->List Addr)(H:Hp)(M:List Nat)(G:List Addr):Prop:=
 ∀a∈G,H a=none∨∃(i:Nat) (d:D) (b:Bool),ρ[i]? =some (some (d,b))/\a∈F i/\(b=true->i∈M)
noncomputable def nw(H:Hp)(a:Addr):Nat:=match H a with | none=>1 | some _=>0
def Cnt(F:Nat->List Addr)(H:Hp)(M:List Nat)(G:List Addr):Prop:=
 ∀a,G.count a<=nw H a+((M.map F).flatten).count a
def Qa1(ρ:En)(M:List Nat):Prop:=∀i∈M,∃d,ρ[i]? =some (some (d,true))
structure QR (K:PySem.W.Frag) (ρ:En) (F:Nat->List Addr) (H H':Hp) (r:R) (v:V) (G:List Addr):Prop where
 same:Qz H H'
 rp:Rp K H' r.d v G
 src:Src ρ F H r.M G
 cnt:r.fr=true->Cnt F H r.M G/\G.length=r.d.nl
 own:Qa1 ρ r.M
structure Qvx (K:PySem.W.Frag) (ρ:En) (F:Nat->List Addr) (H H':Hp) (r:RA) (vs:List V) (G:List Addr):Prop where
 same:Qz H H'
 rp:Rps K H' r.ds vs G
 src:Src ρ F H r.M G
 cnt:r.fr=true->Cnt F H r.M G/\G.length=nls r.ds
 own:Qa1 ρ r.M
noncomputable def tV(K:PySem.W.Frag)(H0:Hp)(A0:List Addr)(f:DE):TE:=λσ H Q=>∃ρ hs F r,Rel K H0 A0 hs ρ F σ H/\f ρ=some r/\∀v H' G,QR K ρ F H H' r v G->Q v H'
noncomputable def tVA(K:PySem.W.Frag)(H0:Hp)(A0:List Addr)(f:DA):TA:=λσ H Q=>∃ρ hs F r,Rel K H0 A0 hs ρ F σ H/\f ρ=some r/\∀v H' G,Qvx K ρ F H H' r v G->Q v H'
noncomputable def tVT(K:PySem.W.Frag)(H0:Hp)(A0:List Addr)(f:DT):TT:=λσ H Q=>∃ρ hs F b,Rel K H0 A0 hs ρ F σ H/\f ρ=some b/\∀H',Qz H H'->Q b H'
def SE(X:Cx)(e:Expr)(f:DE):Prop:=∀H0 A0,PE X e (tV X.K H0 A0 f)
def SA(X:Cx)(es:List Expr)(f:DA):Prop:=∀H0 A0,PA X es (tVA X.K H0 A0 f)
def ST(X:Cx)(e:Expr)(f:DT):Prop:=∀H0 A0,PT X e (tVT X.K H0 A0 f)
theorem _root_.L2.PE.mono(h:PE X e t)(m:∀σ H Q,t' σ H Q->t σ H Q):PE X e t':=λpins s σ H Q I q=>h pins s σ H Q I (m σ H Q q)
theorem _root_.L2.PT.mono(h:PT X e t)(m:∀σ H Q,t' σ H Q->t σ H Q):PT X e t':=λpins s σ H Q I q=>h pins s σ H Q I (m σ H Q q)
theorem _root_.L2.PA.mono(h:PA X e t)(m:∀σ H Q,t' σ H Q->t σ H Q):PA X e t':=λpos pins s σ H Q I q=>h pos pins s σ H Q I (m σ H Q q)
section
theorem Rel.ext(r:Rel K H0 A0 hs ρ F σ H)(s:Qz H H'):Rel K H0 A0 hs ρ F σ H' where
 len:=r.len
 val:=λi d b e=>let ⟨v,h1,h2⟩:=r.val i d b e;⟨v,h1,h2.same s⟩
 own:=r.own
 src:=r.src
 held:=λt ht=>⟨(r.held t ht).1.same s,(r.held t ht).2⟩
 same:=r.same.trans s
theorem Rel.mem(r:Rel K H0 A0 hs ρ F σ H)(e:ρ[i]? =some (some (d,b)))(h:a∈F i):∃u,H a=some u:=
 let ⟨_,_,h2⟩:=r.val i d b e;h2.mem a h
theorem Qc2(h:H a=some o):nw H a=0:=by simp[nw,h]
theorem QaX(h:H a=none):nw H a=1:=by simp[nw,h]
theorem Rel.fl0(r:Rel K H0 A0 hs ρ F σ H)(ow:Qa1 ρ M)(h:H a=none):((M.map F).flatten).count a=0:=by
 rw[ZI]
 intro hm
 obtain⟨l,hl,ha⟩:=ZaL.mp hm
 obtain⟨i,hi,rfl⟩:=ZA.mp hl
 obtain⟨d,e⟩:=ow i hi
 obtain⟨vs,q⟩:=r.mem e ha
 rw[h]at q;cases q
theorem Cnt.append(r:Rel K H0 A0 hs ρ F σ H)(c1:Cnt F H M1 G1)(c2:Cnt F H1 M2 G2)(s:Qz H H1)(m1:∀a∈G1,∃u,H1 a=some u):Cnt F H (M1++M2) (G1++G2):=λa=>by
 rw[Zaa,Zz,List.flatten_append,Zaa]
 have h1:=c1 a
 have h2:=c2 a
 cases q:H1 a with
 | some o=>rw[Qc2 q]at h2;omega
 | none=>
  rw[QaX q]at h2
  have h3:H a=none:=s.free q
  rw[QaX h3]at h1 ⊢
  have h4:G1.count a=0:=ZI.mpr λhm=>by obtain⟨vs,z⟩:=m1 a hm;rw[q]at z;cases z
  omega
theorem Src.append(c1:Src ρ F H M1 G1)(c2:Src ρ F H1 M2 G2)(s:Qz H H1):Src ρ F H (M1++M2) (G1++G2):=λa ha=>by
 rcases Zy.mp ha with h | h
 ·rcases c1 a h with z | ⟨i,d,b,e,m,w⟩
  ·exact .inl z
  ·exact .inr ⟨i,d,b,e,m,λhb=>Zi _ (w hb)⟩
 ·rcases c2 a h with z | ⟨i,d,b,e,m,w⟩
  ·exact .inl (s.free z)
  ·exact .inr ⟨i,d,b,e,m,λhb=>Ze _ (w hb)⟩
theorem Qa1.append(h1:Qa1 ρ M1)(h2:Qa1 ρ M2):Qa1 ρ (M1++M2):=λi hi=>(Zy.mp hi).elim (h1 i) (h2 i)
theorem Qa1.nil:Qa1 ρ []:=λi hi=>by simp at hi
theorem Src.nil:Src ρ F H M []:=λa ha=>by simp at ha
theorem Cnt.nil:Cnt F H M []:=λa=>by simp
theorem QR.flat(s:Qz H H')(r:Rp K H' d v [])(hf:d.flat=true:=by rfl):QR K ρ F H H' ⟨d,true,[]⟩ v []:=⟨s,r,Src.nil,λ_=>⟨Cnt.nil,(Qc9 d hf).symm⟩,Qa1.nil⟩
theorem QR.sub(p:QR K ρ F H H1 r v G)(rp:Rp K H1 d u G')(hs:∀a,G'.count a<=G.count a)(hn:G.length=r.d.nl->G'.length=d.nl):QR K ρ F H H1 ⟨d,r.fr,r.M⟩ u G' where
 same:=p.same
 rp:=rp
 src:=λa ha=>p.src a (by
  have:=hs a
  have h1:0<G'.count a:=Zaj.mpr ha
  exact Zaj.mp (by omega))
 cnt:=λh=>⟨λa=>Zu (hs a) ((p.cnt h).1 a),hn (p.cnt h).2⟩
 own:=p.own
noncomputable def R.norm(r:R):R:=if r.d.flat then⟨r.d,true,[]⟩else r
theorem R.Qdn(r:R):r.norm.d=r.d:=by unfold R.norm;split<;>rfl
theorem QR.norm(p:QR K ρ F H H' r v G):QR K ρ F H H' r.norm v G:=by
 unfold R.norm
 split
 ·rename_i h
  have:=p.rp.Qbi h
  subst this
  exact .flat p.same p.rp h
 ·exact p
end
noncomputable def Qa(i:Nat):DE:=λρ=>match ρ[i]? with
 | some (some (d,b))=>if d.flat then some ⟨d,true,[]⟩else if b then some ⟨d,true,[i]⟩else some ⟨d,false,[]⟩
 | _=>none
noncomputable def dC(d:D):DE:=λ_=>some ⟨d,true,[]⟩
section
theorem Qth(h:PE X (.Name x pos) (QeA i)):SE X (.Name x pos) (Qa i):=λH0 A0=>h.mono λσ H Q=>exK λρ hs F r rel e q=>by
 unfold Qa at e
 split at e
 ·rename_i d b q1
  obtain⟨v,h1,h2⟩:=rel.val i d b q1
  refine⟨v,h1,q v H (F i) ?_⟩
  split at e
  ·rename_i hf
   cases e
   have:=h2.Qbi hf
   rw[this]at h2 ⊢
   exact .flat (Qz.refl _) h2 hf
  ·split at e
   ·rename_i hb
    cases e
    subst hb
    exact⟨Qz.refl _,h2,λa ha=> .inr ⟨i,d,true,q1,ha,λ_=>by simp⟩,λ_=>⟨λa=>(by simp),(rel.own i d q1).1⟩,λj hj=>by simp at hj;subst hj;exact⟨d,q1⟩⟩
   ·rename_i hb
    cases e
    simp at hb
    subst hb
    exact⟨Qz.refl _,h2,λa ha=> .inr ⟨i,d,false,q1,ha,λz=>by cases z⟩,λz=>(by cases z),Qa1.nil⟩
 ·cases e
theorem Qh7(h:PE X e (tC v))(r:∀K H,Rp K H d v [])(hf:d.flat=true):SE X e (dC d):=λH0 A0=>h.mono λσ H Q=>exK λρ hs F r' rel e q=>by
 cases e
 exact q v H [] (.flat (Qz.refl _) (r _ _) hf)
theorem two{K:PySem.W.Frag}{H0:Hp}{A0:List Addr}{fa fb:DE}{σ:St}{H:Hp}{hs:List (V×D×List Addr)}{ρ:En}{F:Nat->List Addr}{ra rb:R}{Rr:V->V->Hp->Prop}(rel:Rel K H0 A0 hs ρ F σ H)(ea:fa ρ=some ra)(eb:fb ρ=some rb)
  (k:∀x y H1 H2 G1 G2,QR K ρ F H H1 ra x G1->QR K ρ F H1 H2 rb y G2->Rr x y H2):tV K H0 A0 fa σ H λx H1=>tV K H0 A0 fb σ H1 λy H2=>Rr x y H2:=
 ⟨ρ,hs,F,ra,rel,ea,λx H1 G1 p1=>⟨ρ,hs,F,rb,rel.ext p1.same,eb,λy H2 G2 p2=>k x y H1 H2 G1 G2 p1 p2⟩⟩
noncomputable def dOp(g:D->D->Option D)(fa fb:DE):DE:=λρ=>(fa ρ).bind λra=>(fb ρ).bind λrb=>(g ra.d rb.d).map λd=>⟨d,true,[]⟩
theorem Qil(e:dOp g fa fb ρ=some r):∃ra rb d,fa ρ=some ra/\fb ρ=some rb/\g ra.d rb.d=some d/\r=⟨d,true,[]⟩:=by
 unfold dOp at e
 cases h1:fa ρ with
 | none=>rw[h1]at e;cases e
 | some ra=>
  cases h2:fb ρ with
  | none=>rw[h1,h2]at e;cases e
  | some rb=>
   rw[h1,h2]at e
   cases h3:g ra.d rb.d with
   | none=>simp[h3]at e
   | some d=>simp[h3]at e;exact⟨ra,rb,d,rfl,rfl,h3,e.symm⟩
def Qbj(K:PySem.W.Frag)(g:D->D->Option D)(r:R2):Prop:=∀a b d,g a b=some d->d.flat=true/\∀H x y F G (Q:VK),Rp K H a x F->Rp K H b y G->(∀v,(∀H',Rp K H' d v [])->Q v H)->r x y H Q
theorem Qni(ho:OpR X (binaryOp op) r)(hg:Qbj X.K g r)(ha:SE X a fa)(hb:SE X b fb):SE X (.BinOp a op b pos) (dOp g fa fb):=λH0 A0=>
 (Qmg ho (ha H0 A0) (hb H0 A0)).mono λσ H Q=>exK λρ hs F r' rel e q=>by
  obtain⟨ra,rb,d,ea,eb,eg,rfl⟩:=Qil e
  refine two rel ea eb λx y H1 H2 G1 G2 p1 p2=>(hg _ _ _ eg).2 H2 x y G1 G2 Q (p1.rp.same p2.same) p2.rp λv hv=>?_
  exact q v H2 [] (.flat (p1.same.trans p2.same) (hv H2) (hg _ _ _ eg).1)
theorem Quu(ho:OpR X (compareOp op) r)(hg:Qbj X.K g r)(ha:SE X a fa)(hb:SE X b fb)(hm:behindInMarks op b=false):SE X (.Compare a [op] [b] pos) (dOp g fa fb):=λH0 A0=>
 (Qru ho (ha H0 A0) (hb H0 A0) hm).mono λσ H Q=>exK λρ hs F r' rel e q=>by
  obtain⟨ra,rb,d,ea,eb,eg,rfl⟩:=Qil e
  refine two rel ea eb λx y H1 H2 G1 G2 p1 p2=>(hg _ _ _ eg).2 H2 x y G1 G2 Q (p1.rp.same p2.same) p2.rp λv hv=>?_
  exact q v H2 [] (.flat (p1.same.trans p2.same) (hv H2) (hg _ _ _ eg).1)
end
noncomputable def QfJ(i j:Int):Int:=if 0<=j then i / j else i.fdiv j
noncomputable def QfI(i j:Int):Int:=if 0<=j then i % j else i.fmod j
theorem Qq5(i j:Int):QfJ i j=i.fdiv j:=by
 unfold QfJ;split
 ·rw[Int.fdiv_eq_ediv_of_nonneg _ (by assumption)]
 ·rfl
theorem Qr4(i j:Int):QfI i j=i.fmod j:=by
 unfold QfI;split
 ·rw[Int.fmod_eq_emod_of_nonneg _ (by assumption)]
 ·rfl
noncomputable def Qdx(i j:Int):Bool:=decide (i.natAbs<2^64) || decide (j.natAbs<2^64) || (decide (Builtin.Int.intBits i<=2^20) && decide (Builtin.Int.intBits j<=2^20))
noncomputable def Qe1(j:Int):Bool:=decide (j≠0) && decide (j.natAbs<2^8000)
noncomputable def gI(f:Int->Int->Option D)(a b:D):Option D:=match a,b with
 | .int i,.int j=>f i j
 | _,_=>none
noncomputable def Qev:=gI λi j=>some (.int (i-j))
noncomputable def QdO:=gI λi j=>if Qe1 j then some (.int (QfJ i j))else none
noncomputable def QaH:=gI λi j=>if j≠0 then some (.int (QfI i j))else none
noncomputable def gLt:=gI λi j=>some (.bl (decide (i<j)))
noncomputable def gLe:=gI λi j=>some (.bl (decide (i<=j)))
noncomputable def gGt:=gI λi j=>some (.bl (decide (j<i)))
noncomputable def gGe:=gI λi j=>some (.bl (decide (j<=i)))
theorem QnL(h:gI f a b=some d):∃i j,a= .int i/\b= .int j/\f i j=some d:=by
 unfold gI at h
 split at h
 ·exact⟨_,_,rfl,rfl,h⟩
 ·cases h
section
theorem QfP(hf:∀i j d,f i j=some d->d.flat=true)(h:∀i j d,f i j=some d->∀H (Q:VK),(∀v,(∀H',Rp K H' d v [])->Q v H)->r (.int i) (.int j) H Q):Qbj K (gI f) r:=λa b d e=>by
 obtain⟨i,j,rfl,rfl,ef⟩:=QnL e
 refine⟨hf i j d ef,λH x y F G Q ha hb q=>?_⟩
 rw[ha.int_inv,hb.int_inv]
 exact h i j d ef H Q q
theorem Qnx:Qbj K Qev (rI0 λi j=> .int (i-j)):=QfP (λi j d e=>by cases e;rfl) λi j d e H Q q=>by cases e;exact⟨i,j,rfl,rfl,q _ λ_=> .int_mk⟩
theorem QoE(h:Qdx i j=true):IntMulOk i j:=by
 have small:∀k:Int,k.natAbs<2^64->Builtin.Int.intBits k<=64:=λk hk=>by
  unfold Builtin.Int.intBits
  split
  ·omega
  ·rename_i h0;have h0':k.natAbs≠0:=λz=>by simp_all
   have:=(Zbu h0').mpr hk;omega
 unfold Qdx at h
 simp only[Zbq,Zh,decide_eq_true_eq]at h
 rcases h with(h | h) | ⟨h1,h2⟩
 ·exact .of_left (small i h)
 ·exact .of_right (small j h)
 ·exact .of_bits h1 h2
theorem Qsh:OpR X (binaryOp .Mult) (rI (λi j=>Qdx i j=true) λi j=> .int (i*j)):=opI λ_ _ _ _ _ _ _ hc q=>PyProof.Rows.mul_int q (QoE hc)
theorem Qq1:OpR X (binaryOp .FloorDiv) (rI (λi j=>Qe1 j=true) λi j=> .int (QfJ i j)):=opI λi j _ _ _ _ _ hc q=>by
 unfold Qe1 at hc
 simp only[Zh,decide_eq_true_eq]at hc
 rw[Qq5]at q
 refine PyProof.Rows.floordiv_int hc.1 q (.inl (PyProof.noPylong_of_log2 ?_))
 have h0:j.natAbs≠0:=by omega
 exact Nat.lt_trans ((Zbu h0).mpr hc.2) (by decide)
theorem QrO:OpR X (binaryOp .Mod) (rI (λi j=>j≠0) λi j=> .int (QfI i j)):=opI λi j _ _ _ _ _ hc q=>by
 rw[Qr4]at q
 exact PyProof.Rows.mod_int' hc q
theorem Quf:Qbj K QdO (rI (λi j=>Qe1 j=true) λi j=> .int (QfJ i j)):=QfP (λi j d e=>by split at e<;>cases e;rfl) λi j d e H Q q=>by
 split at e
 ·cases e;exact⟨i,j,rfl,rfl,by assumption,q _ λ_=> .int_mk⟩
 ·cases e
theorem Qut:Qbj K QaH (rI (λi j=>j≠0) λi j=> .int (QfI i j)):=QfP (λi j d e=>by split at e<;>cases e;rfl) λi j d e H Q q=>by
 split at e
 ·cases e;exact⟨i,j,rfl,rfl,by assumption,q _ λ_=> .int_mk⟩
 ·cases e
theorem Qvn:Qbj K gLt (rI0 λi j=> .bl (decide (i<j))):=QfP (λi j d e=>by cases e;rfl) λi j d e H Q q=>by cases e;exact⟨i,j,rfl,rfl,q _ λ_=> .Qa5⟩
theorem QvG:Qbj K gLe (rI0 λi j=> .bl (decide (i<=j))):=QfP (λi j d e=>by cases e;rfl) λi j d e H Q q=>by cases e;exact⟨i,j,rfl,rfl,q _ λ_=> .Qa5⟩
theorem Qvt:Qbj K gGt (rI0 λi j=> .bl (decide (j<i))):=QfP (λi j d e=>by cases e;rfl) λi j d e H Q q=>by cases e;exact⟨i,j,rfl,rfl,q _ λ_=> .Qa5⟩
theorem QvB:Qbj K gGe (rI0 λi j=> .bl (decide (j<=i))):=QfP (λi j d e=>by cases e;rfl) λi j d e H Q q=>by cases e;exact⟨i,j,rfl,rfl,q _ λ_=> .Qa5⟩
end
theorem Qd3:∀(xs ys:List D),QK (xs++ys)=(QK xs && QK ys)
 | [],ys=>by simp[QK]
 | x::xs,ys=>by simp[QK,Qd3 xs ys,Bool.and_assoc]
noncomputable def Qab(ds:List D)(M:List Nat):R:=if QK ds then⟨.lst ds,true,[]⟩else⟨.lst ds,false,M⟩
section
variable {K:PySem.W.Frag}{H0 H H':Hp}{A0:List Addr}{hs:List (V×D×List Addr)}{ρ:En}{F:Nat->List Addr}{σ:L2.St}
theorem QR.Qab(s:Qz H H1)(hp:H1 p=none)(r:Rps K H1 ds vs G)(hz:ds.length<=sizeLine)(src:Src ρ F H M G)(ow:Qa1 ρ M):
  QR K ρ F H (upd H1 p (.lst vs)) (Qab ds M) (.ref p) (p::G):=by
 have s2:Qz H1 (upd H1 p (.lst vs)):=QbI hp
 have rp:Rp K (upd H1 p (.lst vs)) (.lst ds) (.ref p) (p::G):=Rp.QeT Qaz (r.same s2) hz
 have hH:H p=none:=s.free hp
 unfold HS.Qab
 split
 ·rename_i hf
  have:=r.Qbi hf
  subst this
  refine⟨s.trans s2,rp,λa ha=>?_,λ_=>⟨λa=>?_,by simp only[D.nl,Qe0 ds hf];rfl⟩,Qa1.nil⟩
  ·have:a=p:=by simpa using ha
   subst this;exact .inl hH
  ·rw[List.count_singleton]
   split
   ·rename_i e;have e':p=a:=by simpa using e
    subst e';rw[QaX hH];omega
   ·omega
 ·refine⟨s.trans s2,rp,λa ha=>?_,λz=>(by cases z),ow⟩
  rcases Zn.mp ha with rfl | h
  ·exact .inl hH
  ·exact src a h
end
noncomputable def Qt(fa fb:DE):DE:=λρ=>(fa ρ).bind λra=>(fb ρ).bind λrb=>match ra.d,rb.d with
 | .int i,.int j=>some ⟨.int (i+j),true,[]⟩
 | .lst xs,.lst ys=>if xs.length+ys.length<=sizeLine then some (Qab (xs++ys) (ra.M++rb.M))else none
 | .str x,.str y=>if x.length+y.length<=sizeLine then some ⟨.str (x++y),true,[]⟩else none
 | _,_=>none
noncomputable def Qaq(fa fb:DE):DE:=λρ=>(fa ρ).bind λra=>(fb ρ).bind λrb=>match ra.d,rb.d with
 | .int i,.int j=>if Qdx i j then some ⟨.int (i*j),true,[]⟩else none
 | .lst xs,.int j=>if xs.length*j.toNat<=sizeLine/\ -(2^63)<=j/\j<2^63/\QK xs=true then some ⟨.lst (List.replicate j.toNat xs).flatten,true,[]⟩else none
 | _,_=>none
theorem QmD{fa fb:DE}{ρ:En}{k:R->R->Option R}{r:R}(e:((fa ρ).bind λra=>(fb ρ).bind λrb=>k ra rb)=some r):∃ra rb,fa ρ=some ra/\fb ρ=some rb/\k ra rb=some r:=by
 cases h1:fa ρ with
 | none=>rw[h1]at e;cases e
 | some ra=>
  cases h2:fb ρ with
  | none=>rw[h1,h2]at e;cases e
  | some rb=>rw[h1,h2]at e;exact⟨ra,rb,rfl,rfl,e⟩
theorem bind1{α β:Type}{x:Option α}{k:α->Option β}{r:β}(e:x.bind k=some r):∃a,x=some a/\k a=some r:=by
 cases x with
 | none=>cases e
 | some a=>exact⟨a,rfl,e⟩
section
noncomputable def QuZ(K:PySem.W.Frag):R2:=λx y H Q=>∃l c xs zs,x= .ref l/\y= .ref c/\(H l=some (.lst xs)∨Fix K H l xs)/\(H c=some (.lst zs)∨Fix K H c zs)/\xs.length+zs.length<=sizeLine/\∀p,H p=none->Q (.ref p) (upd H p (.lst (xs++zs)))
theorem mapR{α γ:Type}{x:Option α}{f:α->γ}{r:γ}{M:γ->Prop}(e:x.map f=some r)(g:∀a,x=some a->M (f a)):M r:=by
 obtain⟨a,h,rfl⟩:=Zg.mp e
 exact g a h
theorem Qf{α β:Type}{x:Option α}{k:α->Option β}{r:β}{G:Prop}(e:x.bind k=some r)(g:∀a,x=some a->k a=some r->G):G:=let ⟨a,h1,h2⟩:=bind1 e;g a h1 h2
theorem QrR:OpR X (binaryOp .Add) (QuZ X.K):=by
 intro pins s σ H x y v u Q I rx ry h
 obtain⟨l,c,xs,zs,rfl,rfl,hH,hB,hz,q⟩:=h
 cases rx
 cases ry
 obtain⟨z,its,n,r,hl,e⟩:=I.Qiq hH
 obtain⟨z2,its2,n2,r2,hl2,e2⟩:=I.Qiq hB
 refine PySem.P.add_list e e2 ?_ (by rw[Zp,Zp];omega)
 have ea:its.toArray++its2.toArray=(its++its2).toArray:=by simp
 rw[ea]
 exact⟨.ref _,_,I.Qtk (t':=s.toks) (r.append r2) (by rw[Zf];omega),rfl,q _ I.fresh⟩
theorem QsK(ha:SE X a fa)(hb:SE X b fb):SE X (.BinOp a .Add b pos) (Qt fa fb):=λH0 A0=>
 (Qmg ((Qts.or QrR).or QmA) (ha H0 A0) (hb H0 A0)).mono λσ H Q=>exK λρ hs F r' rel e q=>by
  obtain⟨ra,rb,ea,eb,ek⟩:=QmD e
  refine two rel ea eb λx y H1 H2 G1 G2 p1 p2=>?_
  have p1':=p1.rp.same p2.same
  have p2':=p2.rp
  have c1:=p1.src.append p2.src p1.same
  have o1:=p1.own.append p2.own
  revert ek
  revert p1' p2'
  cases ra.d<;>cases rb.d<;>intro p1' p2' ek<;>first | (cases ek;done) | skip
  ·cases ek
   rw[p1'.int_inv,p2'.int_inv]
   left
   exact .inl ⟨_,_,rfl,rfl,q _ H2 [] (.flat (p1.same.trans p2.same) .int_mk)⟩
  ·rename_i xs ys
   dsimp only at ek
   split at ek
   ·rename_i hz
    cases ek
    rw[p1'.str_inv,p2'.str_inv]
    exact .inr ⟨_,_,rfl,rfl,hz,q _ H2 [] (.flat (p1.same.trans p2.same) .str_mk)⟩
   ·cases ek
  ·rename_i xs ys
   dsimp only at ek
   split at ek
   ·rename_i hz
    cases ek
    obtain⟨l,vs,L1,rfl,hl,rl,zl,el⟩:=p1'.lst_inv
    obtain⟨c,ws,L2',rfl,hc,rc,zc,ec⟩:=p2'.lst_inv
    have n1:=rl.length
    have n2:=rc.length
    left
    refine .inr ⟨l,c,vs,ws,rfl,rfl,hl,hc,by omega,λp hp=>?_⟩
    refine q _ _ (p::(L1++L2')) (QR.Qab (p1.same.trans p2.same) hp (rl.append rc) (by rw[Zf];exact hz) (λa ha=>c1 a ?_) o1)
    rcases Zy.mp ha with h | h
    ·refine Zi _ ?_
     rcases el with rfl | rfl
     ·exact Zb _ h
     ·exact h
    ·refine Ze _ ?_
     rcases ec with rfl | rfl
     ·exact Zb _ h
     ·exact h
   ·cases ek
noncomputable def QvO(K:PySem.W.Frag):R2:=λx y H Q=>∃l k xs,x= .ref l/\y= .int k/\(H l=some (.lst xs)∨Fix K H l xs)/\ -(2^63)<=k/\k<2^63/\xs.length*k.toNat<=sizeLine∧
 ∀p,H p=none->Q (.ref p) (upd H p (.lst (List.replicate k.toNat xs).flatten))
theorem Qrd:OpR X (binaryOp .Mult) (QvO X.K):=by
 intro pins s σ H x y v u Q I rx ry h
 obtain⟨l,k,xs,rfl,rfl,hH,h1,h2,hz,q⟩:=h
 cases rx
 obtain⟨t,rfl⟩:=ry
 obtain⟨z,its,n,r,hl,e⟩:=I.Qiq hH
 have hlen:its.toArray.size*k.toNat<=sizeLine:=by rw[Zp,← hl];exact hz
 have hcap:¬its.toArray.size*k.toNat>(2^63-1) / 8:=by
  have:(sizeLine:Nat)<=(2^63-1) / 8:=by decide
  omega
 have hfit:¬(!Builtin.List.listFitsIndex k)=true:=by
  rw[fitsIndex_both h1 h2]
  exact ZH
 have hlong:¬Builtin.List.listTooLong (its.toArray.size*k.toNat)=true:=by
  rw[QjX hlen]
  exact ZH
 have hnew:List.foldl (λx1 x2=>x1++x2) #[] (List.replicate (if its.toArray.isEmpty=true then 0 else k.toNat) its.toArray)=(List.replicate k.toNat its).flatten.toArray:=by
  have f0:∀m:Nat,List.foldl (λx1 x2=>x1++x2) #[] (List.replicate m its.toArray)=(List.replicate m its).flatten.toArray:=λm=>by
   have:=foldl_rep its m []
   rw[Zbr]at this
   exact this
  rw[f0]
  cases its with
  | nil=>simp
  | cons a r'=>rw[if_neg (by simp)]
 open PyProof.Rows in
 refine wpAny_binaryOp_repeat_ref (by decide) ⟨_,e,rfl⟩ (λs'=>typeIs_int s' k t) noFill_list_mul F.fills_int_mul F.slot_int_rmul repeat_list F.slot_int_index.lookup
  (call_meets F.slot_int_rmul (typeIs_int s k t) F.entry_int_rmul (F.args_int_rmul_2 _ _) (int___rmul___int_list k t l its.toArray n)
   ⟨e,rfl,⟨_,e,rfl⟩,call_meets F.slot_list_mul ⟨_,e,rfl⟩ F.entry_list_mul (F.args_list_mul_2 _ _) (AutoListH.list___mul___list_int_3 l its.toArray n k t hfit hcap hlong) ⟨e,?_⟩⟩)
 rw[hnew]
 exact⟨.ref _,_,I.Qtk (t':=s.toks) (r.rep k.toNat) (by rw[len_rep,Nat.mul_comm];exact hz),rfl,q _ I.fresh⟩
theorem Qja(h:QK xs=true):∀n:Nat,QK (List.replicate n xs).flatten=true
 | 0=>by simp[QK]
 | n+1=>by rw[ZK,ZZ,Qd3,h,Qja h n];rfl
theorem Rps.rep(h:Rps K H ds vs []):∀n:Nat,Rps K H (List.replicate n ds).flatten (List.replicate n vs).flatten []
 | 0=>by simp[Rps]
 | n+1=>by rw[ZK,ZZ,ZK,ZZ];exact h.append (Rps.rep h n)
theorem QsU(ha:SE X a fa)(hb:SE X b fb):SE X (.BinOp a .Mult b pos) (Qaq fa fb):=λH0 A0=>
 (Qmg (Qsh.or Qrd) (ha H0 A0) (hb H0 A0)).mono λσ H Q=>exK λρ hs F r' rel e q=>by
  obtain⟨ra,rb,ea,eb,ek⟩:=QmD e
  refine two rel ea eb λx y H1 H2 G1 G2 p1 p2=>?_
  have p1':=p1.rp.same p2.same
  have p2':=p2.rp
  revert ek
  revert p1' p2'
  cases ra.d<;>cases rb.d<;>intro p1' p2' ek<;>first | (cases ek;done) | skip
  ·dsimp only at ek
   split at ek
   ·rename_i hm
    cases ek
    rw[p1'.int_inv,p2'.int_inv]
    exact .inl ⟨_,_,rfl,rfl,hm,q _ H2 [] (.flat (p1.same.trans p2.same) .int_mk)⟩
   ·cases ek
  ·rename_i xs j
   dsimp only at ek
   split at ek
   ·rename_i hz
    cases ek
    obtain⟨hz1,hz2,hz3,hf⟩:=hz
    obtain⟨l,vs,L1,rfl,hl,rl,zl,el⟩:=p1'.lst_inv
    have n1:=rl.length
    have e0:=rl.Qbi hf
    subst e0
    rw[p2'.int_inv]
    refine .inr ⟨l,j,vs,rfl,rfl,hl,hz2,hz3,by rw[← n1];exact hz1,λp hp=>?_⟩
    have w:HS.Qab (List.replicate j.toNat xs).flatten []=⟨.lst (List.replicate j.toNat xs).flatten,true,[]⟩:=by
     unfold HS.Qab;rw[if_pos (Qja hf _)]
    rw[← w]at q
    exact q _ _ (p::[]) (QR.Qab (p1.same.trans p2.same) hp (rl.rep _) (by rw[len_rep,Nat.mul_comm];exact hz1) Src.nil Qa1.nil)
   ·cases ek
end
end HS
namespace HS
open PySem PySem.Spec L2
noncomputable def Qe:DA:=λ_=>some ⟨[],true,[]⟩
noncomputable def Qb(fa:DE)(fr:DA):DA:=λρ=>(fa ρ).bind λr=>(fr ρ).bind λrs=>some ⟨r.d::rs.ds,r.fr && rs.fr,r.M++rs.M⟩
noncomputable def QaI(fa:DA):DE:=λρ=>(fa ρ).bind λr=>if r.ds.length<=64 then some ⟨.tup r.ds,r.fr,r.M⟩else none
noncomputable def Qaa(fa:DA):DE:=λρ=>(fa ρ).bind λr=>if r.ds.length<=64 then some ⟨.lst r.ds,r.fr,r.M⟩else none
section
variable {X:Cx}{a b e:Expr}{es:List Expr}{fa fb:DE}{fs:DA}{pos:Pos}
theorem QdS:SA X [] Qe:=λH0 A0=>QdN.mono λσ H Q=>exK λρ hs F r' rel e q=>by
 cases e
 exact q [] H [] ⟨Qz.refl _,by simp[Rps],Src.nil,λ_=>⟨Cnt.nil,rfl⟩,Qa1.nil⟩
theorem QcL(ha:SE X e fa)(hr:SA X es fs)(hs:starEach (e::es) X.env=(false,eval e X.env)::starEach es X.env):SA X (e::es) (Qb fa fs):=λH0 A0=>
 (Qcp (ha H0 A0) (hr H0 A0) hs).mono λσ H Q=>exK λρ hs F r' rel e q=>by
  refine Qf e λr e1 e=>?_
  refine Qf e λrs e2 e=>?_
  cases e
  refine⟨ρ,hs,F,r,rel,e1,λx H1 G1 p1=>⟨ρ,hs,F,rs,rel.ext p1.same,e2,λxs H2 G2 p2=>?_⟩⟩
  refine q _ H2 (G1++G2) ⟨p1.same.trans p2.same,?_,p1.src.append p2.src p1.same,λh=>?_,p1.own.append p2.own⟩
  ·simp only[Rps]
   exact⟨x,xs,G1,G2,rfl,rfl,p1.rp.same p2.same,p2.rp⟩
  ·simp only[Zh]at h
   exact⟨(p1.cnt h.1).1.append rel (p2.cnt h.2).1 p1.same p1.rp.mem,by simp only[nls,Zf,(p1.cnt h.1).2,(p2.cnt h.2).2]⟩
theorem Qe2{n:Nat}(h:n<=64):n<=sizeLine:=Zu h (by decide)
theorem Qt9{k:Nat}(ha:SA X es fs):SE X (.Tuple es k pos) (QaI fs):=λH0 A0=>
 (Qud (ha H0 A0)).mono λσ H Q=>exK λρ hs F r' rel e q=>by
  refine Qf e λr e1 e=>?_
  split at e
  ·rename_i hz
   cases e
   refine⟨ρ,hs,F,r,rel,e1,λxs H1 G p=>⟨by rw[← p.rp.length];exact Qe2 hz,λc hc=>q _ _ G ⟨p.same.trans (QbI hc),Rp.Qhe Qaz (p.rp.same (QbI hc)),p.src,λh=>⟨(p.cnt h).1,by simp only[D.nl];exact(p.cnt h).2⟩,p.own⟩⟩⟩
  ·cases e
theorem Quj(ha:SA X es fs):SE X (.List es pos) (Qaa fs):=λH0 A0=>
 (Qt0 (ha H0 A0)).mono λσ H Q=>exK λρ hs F r' rel e q=>by
  refine Qf e λr e1 e=>?_
  split at e
  ·rename_i hz
   cases e
   refine⟨ρ,hs,F,r,rel,e1,λxs H1 G p=>⟨by rw[← p.rp.length];exact Qe2 hz,λc hc=>?_⟩⟩
   have hH:H c=none:=p.same.free hc
   refine q _ _ (c::G) ⟨p.same.trans (QbI hc),Rp.QeT Qaz (p.rp.same (QbI hc)) (Qe2 hz),λz hz'=>?_,λh=>⟨λz=>?_,by simp only[D.nl,Zr,(p.cnt h).2]⟩,p.own⟩
   ·rcases Zn.mp hz' with rfl | h
    ·exact .inl hH
    ·exact p.src z h
   ·rw[Zav]
    have:=(p.cnt h).1 z
    split
    ·rename_i e'
     have e':c=z:=by simpa using e'
     subst e'
     have h0:G.count c=0:=ZI.mpr λhm=>by obtain⟨vs,w⟩:=p.rp.mem c hm;rw[hc]at w;cases w
     rw[QaX hH];omega
    ·exact this
  ·cases e
noncomputable def D.items:D->Option (List D)
 | .lst xs=>some xs
 | .tup xs=>some xs
 | _=>none
noncomputable def Qo(fa fb:DE):DE:=λρ=>(fa ρ).bind λra=>(fb ρ).bind λrb=>match rb.d with
 | .int i=>match ra.d with
  | .str x=>if 0<=i/\i<2^63/\i<x.length then(x.cps[i.toNat]?).map λc=>⟨.str ⟨#[c]⟩,true,[]⟩else none
  | _=>(ra.d.items).bind λxs=>(atI xs i).map λd=>(R.norm ⟨d,ra.fr,ra.M⟩)
 | _=>none
theorem Qrv{α β:Type}{xs:List α}{i:Int}{d:α}(h:atI xs i=some d):∃j:Nat,xs[j]? =some d/\∀(ys:List β),ys.length=xs.length->∀y,ys[j]? =some y->atI ys i=some y:=by
 unfold atI at h
 cases e:ixN xs.length i with
 | none=>rw[e]at h;cases h
 | some j=>
  rw[e]at h
  refine⟨j,h,λys hl y hy=>?_⟩
  unfold atI
  rw[hl,e]
  exact hy
theorem Qtf(ha:SE X a fa)(hb:SE X b fb)(hs:Qf3 b):SE X (.Subscript a b pos) (Qo fa fb):=λH0 A0=>
 (Qrb (Qqt (Ql8.or Qoy) (ha H0 A0) (hb H0 A0) hs) (Qlu (ha H0 A0) (hb H0 A0) (λo i=>hs o i))).mono λσ H Q=>exK λρ hs F r' rel e q=>by
  obtain⟨ra,rb,ea,eb,ek⟩:=QmD e
  by_cases hx:∃x,ra.d= .str x
  ·obtain⟨z,hx⟩:=hx
   right
   refine two rel ea eb λx y H1 H2 G1 G2 p1 p2=>?_
   have p1':=p1.rp.same p2.same
   have p2':=p2.rp
   cases hb':rb.d with
   | int i=>
    rw[hb',hx]at ek
    rw[hx]at p1'
    rw[hb']at p2'
    have ek:(if 0<=i/\i<2^63/\i<z.length then(z.cps[i.toNat]?).map λc=>(⟨.str ⟨#[c]⟩,true,[]⟩:HS.R)else none)=some r':=ek
    split at ek
    ·rename_i hi
     obtain⟨c,hc,rfl⟩:=Zg.mp ek
     exact⟨z,i,c,p1'.str_inv,p2'.int_inv,hi.1,hi.2.1,hi.2.2,hc,q _ H2 [] (.flat (p1.same.trans p2.same) .str_mk)⟩
    ·cases ek
   | _=>rw[hb']at ek;cases ek
  left
  have ek:(match rb.d with | .int i=>(ra.d.items).bind λxs=>(atI xs i).map λd=>(R.norm ⟨d,ra.fr,ra.M⟩) | _=>none)=some r':=by
   rw[← ek]
   split
   ·split
    ·rename_i h;exact absurd ⟨_,h⟩ hx
    ·rfl
   ·rfl
  refine two rel ea eb λx y H1 H2 G1 G2 p1 p2=>?_
  have p1':=p1.rp.same p2.same
  have p2':=p2.rp
  have pp:QR X.K ρ F H H2 ra x G1:=⟨p1.same.trans p2.same,p1',p1.src,p1.cnt,p1.own⟩
  cases hb':rb.d with
  | int i=>
   rw[hb']at ek p2'
   rw[p2'.int_inv]
   refine Qf ek λxs ex ek=>?_
   obtain⟨d,ed,ek⟩:=Zg.mp ek
   subst ek
   obtain⟨j,hj,hm⟩:=Qrv ed
   have fin:∀(L:List Addr) (vs:List V),Rps X.K H2 xs vs L->(∀z,L.count z<=G1.count z)->(G1.length=ra.d.nl->L.length=nls xs)->∃v,atI vs i=some v/\Q v H2:=λL vs rl hc hn=>by
    obtain⟨v,F1,G,F2,hv,eF,rv,hx⟩:=rl.get hj
    refine⟨v,hm vs rl.length.symm v hv,q v H2 G (QR.norm (QR.sub pp rv (λz=>Zu ?_ (hc z)) λz=>hx (hn z)))⟩
    rw[eF,Zaa,Zaa];omega
   cases hra:ra.d with
   | lst ys=>
    rw[hra]at ex p1'
    cases ex
    obtain⟨l,vs,L,rfl,hl,rl,zl,el⟩:=p1'.lst_inv
    have hn:G1.length=ra.d.nl->L.length=nls xs:=λhz=>by
     have:=rl.Qay
     simp only[hra,D.nl]at hz
     rcases el with rfl | rfl
     ·rw[Zr]at hz;omega
     ·omega
    have hc:∀z,L.count z<=G1.count z:=λz=>by
     rcases el with rfl | rfl
     ·rw[Zav];omega
     ·exact Zj _
    obtain⟨v,h1,h2⟩:=fin L vs rl hc hn
    exact .inl ⟨l,vs,i,v,rfl,rfl,Q1 hl,h1,h2⟩
   | tup ys=>
    rw[hra]at ex p1'
    cases ex
    obtain⟨l,vs,rfl,hl,rl⟩:=p1'.QaW
    obtain⟨v,h1,h2⟩:=fin G1 vs rl (λz=>Zj _) λz=>(by simpa only[hra,D.nl]using z)
    exact .inr ⟨l,vs,i,v,rfl,rfl,hl,h1,h2⟩
   | _=>rw[hra]at ex;cases ex
  | _=>rw[hb']at ek;cases ek
noncomputable abbrev DO:=En->Option (Option Int)
noncomputable def Qcu:DO:=λ_=>some none
noncomputable def Q4(f:DE):DO:=λρ=>(f ρ).bind λr=>match r.d with
 | .int i=>some (some i)
 | _=>none
noncomputable def tVO(K:PySem.W.Frag)(H0:Hp)(A0:List Addr)(f:DO):TO:=λσ H Q=>∃ρ hs F o,Rel K H0 A0 hs ρ F σ H/\f ρ=some o/\∀H',Qz H H'->Q o H'
def SO(X:Cx)(e:Option Expr)(f:DO):Prop:=∀H0 A0,PO X e (tVO X.K H0 A0 f)
theorem _root_.L2.PO.mono{X:Cx}{e:Option Expr}{t t':TO}(h:PO X e t)(m:∀σ H Q,t' σ H Q->t σ H Q):PO X e t':=by
 intro pins s σ H Q I q
 exact h pins s σ H Q I (m σ H Q q)
theorem Qsj:SO X none Qcu:=λH0 A0=>QsD.mono λσ H Q=>exK λρ hs F o rel e q=>by
 cases e
 exact q H (Qz.refl _)
theorem QqR(h:SE X a fa):SO X (some a) (Q4 fa):=λH0 A0=>(Qr6 (h H0 A0)).mono λσ H Q=>exK λρ hs F o rel e q=>by
 refine Qf e λr e1 e=>?_
 refine⟨ρ,hs,F,r,rel,e1,λv H1 G p=>?_⟩
 have rp:=p.rp
 cases hr:r.d with
 | int i=>
  rw[hr]at e rp
  cases e
  exact⟨i,rp.int_inv,q H1 p.same⟩
 | _=>rw[hr]at e;cases e
noncomputable def cutD(xs:List D)(lo hi:Option Int):List D:=(xs.drop (HT.sIx xs.length 0 lo)).take (HT.sIx xs.length xs.length hi-HT.sIx xs.length 0 lo)
noncomputable def Qa8(fa:DE)(lo hi:DO):DE:=λρ=>(fa ρ).bind λra=>(lo ρ).bind λl=>(hi ρ).bind λh=>match ra.d with
 | .lst xs=>some (Qab (cutD xs l h) ra.M)
 | .str x=>if x.length<=sizeLine then some ⟨.str (Txt.slice x l h),true,[]⟩else none
 | _=>none
theorem Rps.drop:∀{ds:List D}{vs:List V}{F:List Addr}{K:PySem.W.Frag}{H:Hp}(n:Nat),Rps K H ds vs F->∃G,Rps K H (ds.drop n) (vs.drop n) G/\∀a∈G,a∈F
 | [],vs,F,K,H,n,h=>by simp only[Rps]at h;rw[h.1,h.2];exact⟨[],by simp[Rps],λ_ h=>h⟩
 | d::ds,vs,F,K,H,0,h=>⟨F,by simpa using h,λ_ h=>h⟩
 | d::ds,vs,F,K,H,n+1,h=>by
  simp only[Rps]at h
  obtain⟨v,ws,F1,F2,e,eF,r,q⟩:=h
  subst e eF
  obtain⟨G,h1,h2⟩:=Rps.drop n q
  exact⟨G,by simpa using h1,λa ha=>Ze _ (h2 a ha)⟩
theorem Rps.take:∀{ds:List D}{vs:List V}{F:List Addr}{K:PySem.W.Frag}{H:Hp}(n:Nat),Rps K H ds vs F->∃G,Rps K H (ds.take n) (vs.take n) G/\∀a∈G,a∈F
 | [],vs,F,K,H,n,h=>by simp only[Rps]at h;rw[h.1,h.2];exact⟨[],by simp[Rps],λ_ h=>h⟩
 | d::ds,vs,F,K,H,0,h=>⟨[],by simp[Rps],λ_ h=>by simp at h⟩
 | d::ds,vs,F,K,H,n+1,h=>by
  simp only[Rps]at h
  obtain⟨v,ws,F1,F2,e,eF,r,q⟩:=h
  subst e eF
  obtain⟨G,h1,h2⟩:=Rps.take n q
  refine⟨F1++G,?_,λa ha=>?_⟩
  ·simp only[List.take_succ_cons,Rps]
   exact⟨v,_,F1,G,rfl,rfl,r,h1⟩
  ·rcases Zy.mp ha with h | h
   ·exact Zi _ h
   ·exact Ze _ (h2 a h)
theorem QtL{lo hi:Option Expr}{fl fh:DO}{p2:Pos}(ha:SE X a fa)(hl:SO X lo fl)(hh:SO X hi fh):SE X (.Subscript a (.Slice lo hi none p2) pos) (Qa8 fa fl fh):=λH0 A0=>
 (QoX (QrX.or Que) (ha H0 A0) (hl H0 A0) (hh H0 A0)).mono λσ H Q=>exK λρ hs F r' rel e q=>by
  refine Qf e λra e1 e=>?_
  refine Qf e λl e2 e=>?_
  refine Qf e λh e3 e=>?_
  refine⟨ρ,hs,F,ra,rel,e1,λx H1 G1 p1=>⟨ρ,hs,F,l,rel.ext p1.same,e2,λH2 s2=>⟨ρ,hs,F,h,(rel.ext p1.same).ext s2,e3,λH3 s3=>?_⟩⟩⟩
  have rp:=p1.rp.same (s2.trans s3)
  cases hra:ra.d with
  | lst xs=>
   rw[hra]at e rp
   cases e
   obtain⟨c,vs,L,rfl,hc,rl,zl,el⟩:=rp.lst_inv
   left
   refine⟨c,vs,rfl,Q1 hc,λp hp=>?_⟩
   obtain⟨G2,h2,m2⟩:=rl.drop (HT.sIx xs.length 0 l)
   obtain⟨G3,h3,m3⟩:=h2.take (HT.sIx xs.length xs.length h-HT.sIx xs.length 0 l)
   have n1:=rl.length
   rw[show Qh6 vs l h=(vs.drop (HT.sIx xs.length 0 l)).take (HT.sIx xs.length xs.length h-HT.sIx xs.length 0 l) by unfold Qh6;rw[n1]]
   refine q _ _ (p::G3) (QR.Qab (p1.same.trans (s2.trans s3)) hp h3 ?_ (λz hz=>p1.src z ?_) p1.own)
   ·unfold cutD;rw[ZaB,Zbd];omega
   ·have:=m2 z (m3 z hz)
    rcases el with rfl | rfl
    ·exact Zb _ this
    ·exact this
  | str x=>
   rw[hra]at e rp
   dsimp only at e
   split at e
   ·rename_i hz
    cases e
    exact .inr ⟨x,rp.str_inv,hz,q _ H3 [] (.flat (p1.same.trans (s2.trans s3)) .str_mk)⟩
   ·cases e
  | _=>rw[hra]at e;cases e
noncomputable def dBf(g:List D->Option D)(fs:DA):DE:=λρ=>(fs ρ).bind λr=>(g r.ds).map λd=>⟨d,true,[]⟩
def Qdo(K:PySem.W.Frag)(g:List D->Option D)(r:List V->Hp->VK->Prop):Prop:=∀ds d,g ds=some d->d.flat=true/\∀H vs F (Q:VK),Rps K H ds vs F->(∀v,(∀H',Rp K H' d v [])->Q v H)->r vs H Q
theorem Qjx{x:Str}{id:String}{g:List D->Option D}{r:List V->Hp->VK->Prop}{p:Pos}(hc:QaM X (.builtin id) r)(hk:Qdo X.K g r)(hg:Gl X x)(hm:X.mg x=none)(hv:bootBuiltins x=some (.builtin id))(ha:SA X (e::es) fs)(hn:x≠ "__name__")(hdb:(x == ("__debug__" :Str))=false)
  (he:starEach (e::es) X.env=(false,eval e X.env)::starEach es X.env) (hpl:(backTo pos (starEach es X.env)).any (·.1)=false):SE X (.Call (.Name x p) (e::es) [] pos) (dBf g fs):=λH0 A0=>
 (Qj1 hc hg hm hv (ha H0 A0) hn hdb he hpl).mono λσ H Q=>exK λρ hs F r' rel e q=>by
  refine Qf e λra e1 e=>?_
  obtain⟨d,ed,e⟩:=Zg.mp e
  subst e
  exact⟨ρ,hs,F,ra,rel,e1,λvs H1 G p1=>(hk _ _ ed).2 H1 vs G Q p1.rp λv hv=>q v H1 [] (.flat p1.same (hv _) (hk _ _ ed).1)⟩
theorem Rps.one{K:PySem.W.Frag}{H:Hp}{d:D}{vs:List V}{F:List Addr}(h:Rps K H [d] vs F):∃v,vs=[v]/\Rp K H d v F:=by
 simp only[Rps]at h
 obtain⟨v,ws,F1,F2,rfl,rfl,r,rfl,rfl⟩:=h
 exact⟨v,rfl,by simpa using r⟩
theorem Rps.two{K:PySem.W.Frag}{H:Hp}{d e:D}{vs:List V}{F:List Addr}(h:Rps K H [d,e] vs F):∃v w F1 F2,vs=[v,w]/\Rp K H d v F1/\Rp K H e w F2:=by
 simp only[Rps]at h
 obtain⟨v,ws,F1,F2,rfl,rfl,r,w,ws',F3,F4,rfl,rfl,r2,rfl,rfl⟩:=h
 exact⟨v,w,F1,F3,rfl,r,r2⟩
noncomputable def Qau:List D->Option D
 | [.lst xs]=>some (.int xs.length)
 | [.tup xs]=>some (.int xs.length)
 | [.str x]=>if x.length<=sizeLine then some (.int x.length)else none
 | _=>none
noncomputable def Qqu(K:PySem.W.Frag):List V->Hp->VK->Prop:=λxs H Q=>(∃p ys,xs=[.ref p]/\(SqL K H p ys∨SqT K H p ys)/\Q (.int ys.length) H)∨∃z,xs=[.str z]/\z.length<=sizeLine/\Q (.int z.length) H
theorem Qol{X:Cx}:QaM X (.builtin "len") (Qqu X.K):=Qj7.or QkQ
theorem QsG{K:PySem.W.Frag}:Qdo K Qau (Qqu K):=λds d e=>by
 unfold Qau at e
 split at e
 ·cases e
  refine⟨rfl,λH vs F Q r q=>?_⟩
  obtain⟨v,rfl,rp⟩:=r.one
  obtain⟨l,ws,L,rfl,hl,rl,zl,el⟩:=rp.lst_inv
  left
  exact⟨l,ws,rfl,.inl (Q1 hl),by rw[← rl.length];exact q _ λ_=> .int_mk⟩
 ·cases e
  refine⟨rfl,λH vs F Q r q=>?_⟩
  obtain⟨v,rfl,rp⟩:=r.one
  obtain⟨l,ws,rfl,hl,rl⟩:=rp.QaW
  left
  exact⟨l,ws,rfl,.inr hl,by rw[← rl.length];exact q _ λ_=> .int_mk⟩
 ·split at e
  ·rename_i hz
   cases e
   refine⟨rfl,λH vs F Q r q=>?_⟩
   obtain⟨v,rfl,rp⟩:=r.one
   exact .inr ⟨_,by rw[rp.str_inv],hz,q _ λ_=> .int_mk⟩
  ·cases e
 ·cases e
noncomputable def Qb6:List D->Option D
 | [.int i,.int j]=>some (.int (if j<i then j else i))
 | _=>none
noncomputable def Qcr:List D->Option D
 | [.int i,.int j]=>some (.int (if j>i then j else i))
 | _=>none
theorem Qsp{K:PySem.W.Frag}:Qdo K Qb6 (λxs H Q=>∃i j,xs=[.int i,.int j]/\Q (.int (if j<i then j else i)) H):=λds d e=>by
 unfold Qb6 at e
 split at e
 ·cases e
  refine⟨rfl,λH vs F Q r q=>?_⟩
  obtain⟨v,w,F1,F2,rfl,r1,r2⟩:=r.two
  exact⟨_,_,by rw[r1.int_inv,r2.int_inv],q _ λ_=> .int_mk⟩
 ·cases e
theorem Qq0{K:PySem.W.Frag}:Qdo K Qcr (λxs H Q=>∃i j,xs=[.int i,.int j]/\Q (.int (if j>i then j else i)) H):=λds d e=>by
 unfold Qcr at e
 split at e
 ·cases e
  refine⟨rfl,λH vs F Q r q=>?_⟩
  obtain⟨v,w,F1,F2,rfl,r1,r2⟩:=r.two
  exact⟨_,_,by rw[r1.int_inv,r2.int_inv],q _ λ_=> .int_mk⟩
 ·cases e
noncomputable def dList(fs:DA):DE:=λρ=>(fs ρ).bind λr=>match r.ds with
 | [.lst xs]=>some (Qab xs r.M)
 | [.tup xs]=>if xs.length<=sizeLine then some (Qab xs r.M)else none
 | _=>none
end
end HS
namespace HS
open PySem PySem.Spec L2 PyProof.Rows
end HS
namespace HS
open PySem PySem.Spec L2
mutual
noncomputable def D.py:D->PyData
 | .non=> .none
 | .bl b=> .bool b
 | .int i=> .int i
 | .str x=> .str x
 | .tup xs=> .tuple (pys xs)
 | .lst xs=> .list (pys xs)
 | .exc _=> .none
 | .dk _=> .none
noncomputable def pys:List D->List PyData
 | []=>[]
 | d::ds=>d.py::pys ds
end
theorem QlP:∀ds:List D,pys ds=ds.map D.py
 | []=>rfl
 | d::ds=>by simp[pys,QlP ds]
noncomputable def D.sim:Nat->D->Bool
 | _,.non=>true
 | _,.bl _=>true
 | _,.int _=>true
 | _,.str x=>PyData.canLay0 (.str x)
 | 0,.tup xs=>xs.isEmpty
 | 0,.lst xs=>xs.isEmpty
 | n+1,.tup xs=>xs.all (D.sim n)
 | n+1,.lst xs=>xs.all (D.sim n)
 | _,.exc _=>false
 | _,.dk _=>false
theorem QdV:∀{ds:List D},(∀d∈ds,d.py.canLay0=true)->PyData.canLayAll0 (pys ds)=true
 | [],_=>rfl
 | d::ds,h=>by
  simp only[pys,PyData.canLayAll0,Zh]
  exact⟨h d Zm,QdV λe he=>h e (Zb _ he)⟩
theorem Qeo:∀{ds:List D},(∀d∈ds,d.py.depth<=n)->PyData.depthAll (pys ds)<=n
 | [],_=>Zac _
 | d::ds,h=>by
  simp only[pys,PyData.depthAll]
  exact Nat.max_le.mpr ⟨h d Zm,Qeo λe he=>h e (Zb _ he)⟩
theorem QbE:∀(n:Nat) (d:D),d.sim n=true->d.py.canLay0=true/\d.py.depth<=n+1
 | n,.exc _,h=>by cases n<;>cases h
 | n,.dk _,h=>by cases n<;>cases h
 | n,.non,_=>by simp[D.py,PyData.canLay0,PyData.depth]
 | n,.bl _,_=>by simp[D.py,PyData.canLay0,PyData.depth]
 | n,.int _,_=>by simp[D.py,PyData.canLay0,PyData.depth]
 | n,.str x,h=>by
  simp only[D.py,PyData.depth]
  refine⟨?_,Zac _⟩
  cases n<;>exact h
 | 0,.tup xs,h=>by
  have:xs=[]:=by simpa[D.sim]using h
  subst this
  simp[D.py,pys,PyData.canLay0,PyData.canLayAll0,PyData.depth,PyData.depthAll]
 | 0,.lst xs,h=>by
  have:xs=[]:=by simpa[D.sim]using h
  subst this
  simp[D.py,pys,PyData.canLay0,PyData.canLayAll0,PyData.depth,PyData.depthAll]
 | n+1,.tup xs,h=>by
  simp only[D.sim,Zad]at h
  simp only[D.py,PyData.canLay0,PyData.depth]
  exact⟨QdV λd hd=>(QbE n d (h d hd)).1,ZaQ (Qeo λd hd=>(QbE n d (h d hd)).2) 1⟩
 | n+1,.lst xs,h=>by
  simp only[D.sim,Zad]at h
  simp only[D.py,PyData.canLay0,PyData.depth]
  exact⟨QdV λd hd=>(QbE n d (h d hd)).1,ZaQ (Qeo λd hd=>(QbE n d (h d hd)).2) 1⟩
noncomputable def deq(a b:D):Bool:=PyData.eqv a.py b.py
theorem Qpj(h:d.sim n=true):deq d d=true:=SeqAt.eqv_refl _ (QbE n d h).1
mutual
noncomputable def D.noX:D->Bool
 | .exc _=>false
 | .dk _=>false
 | .tup xs=>QgM xs
 | .lst xs=>QgM xs
 | .non=>true
 | .bl _=>true
 | .int _=>true
 | .str _=>true
noncomputable def QgM:List D->Bool
 | []=>true
 | d::ds=>d.noX && QgM ds
end
theorem QiA:∀{ds:List D},(∀d∈ds,d.noX=true)->QgM ds=true
 | [],_=>rfl
 | d::ds,h=>by
  simp only[QgM,Zh]
  exact⟨h d Zm,QiA λe he=>h e (Zb _ he)⟩
theorem QbV:∀(n:Nat) (d:D),d.sim n=true->d.noX=true
 | n,.exc _,h=>by cases n<;>cases h
 | n,.dk _,h=>by cases n<;>cases h
 | n,.non,_=>rfl
 | n,.bl _,_=>rfl
 | n,.int _,_=>rfl
 | n,.str x,_=>rfl
 | 0,.tup xs,h=>by
  have:xs=[]:=by simpa[D.sim]using h
  subst this;rfl
 | 0,.lst xs,h=>by
  have:xs=[]:=by simpa[D.sim]using h
  subst this;rfl
 | n+1,.tup xs,h=>by
  simp only[D.sim,Zad]at h
  simp only[D.noX]
  exact QiA λd hd=>QbV n d (h d hd)
 | n+1,.lst xs,h=>by
  simp only[D.sim,Zad]at h
  simp only[D.noX]
  exact QiA λd hd=>QbV n d (h d hd)
section
variable {X:Cx}{pins:List (Addr×Obj)}{σ:L2.St}{H:Hp}{s:Shared}
mutual
theorem Rp.reads(I:Inv X pins σ H s):∀{d:D}{v:V}{F:List Addr}{u:Value},d.noX=true->Rp X.K H d v F->RelV v u->∃as,Reads s.heap u d.py as
 | .exc _,v,_,u,hx,h,r=>by cases hx
 | .dk _,v,_,u,hx,h,r=>by cases hx
 | .non,v,_,u,hx,h,r=>by
  rw[h.QdK]at r
  cases(show u=Value.none from r)
  exact⟨_,.none⟩
 | .bl b,v,_,u,hx,h,r=>by
  rw[h.Qcc]at r
  cases(show u=Value.bool b from r)
  exact⟨_,.bool b⟩
 | .int i,v,_,u,hx,h,r=>by
  rw[h.int_inv]at r
  obtain⟨t,rfl⟩:=(show ∃t,u=Value.int i t from r)
  exact⟨_,.int i t⟩
 | .str i,v,_,u,hx,h,r=>by
  rw[h.str_inv]at r
  obtain⟨t,rfl⟩:=(show ∃t,u=Value.str i t from r)
  exact⟨_,.str i t⟩
 | .tup ds,v,_,u,hx,h,r=>by
  obtain⟨a,vs,rfl,hq,rs⟩:=h.QaW
  cases(show u=Value.ref a from r)
  obtain⟨its,rv,⟨o,h1,h2,n,h3⟩,_⟩:=I.tuple hq
  obtain⟨as,ra⟩:=Rps.reads I (by simpa only[D.noX]using hx) rs rv
  exact⟨_,.tuple h1 h2 h3 (by simpa using ra)⟩
 | .lst ds,v,_,u,hx,h,r=>by
  simp only[Rp]at h
  obtain⟨hz,a,vs,rfl,h⟩:=h
  have key:∃G,(H a=some (.lst vs)∨Fix X.K H a vs)/\Rps X.K H ds vs G:=by
   rcases h with⟨G,_,q,rs⟩ | ⟨q,rs⟩
   ·exact⟨G,.inl q,rs⟩
   ·exact⟨_,.inr q,rs⟩
  obtain⟨G,hq,rs⟩:=key
  cases(show u=Value.ref a from r)
  obtain⟨_,its,n,rv,_,e⟩:=I.Qiq hq
  obtain⟨as,ra⟩:=Rps.reads I (by simpa only[D.noX]using hx) rs rv
  exact⟨_,.list e rfl rfl (by simpa using ra)⟩
theorem Rps.reads(I:Inv X pins σ H s):∀{ds:List D}{vs:List V}{F:List Addr}{us:List Value},QgM ds=true->Rps X.K H ds vs F->Qq vs us->∃as,ReadsAll s.heap us (pys ds) as
 | [],vs,_,us,_,h,r=>by
  simp only[Rps]at h
  rw[h.1]at r
  cases r
  exact⟨_,.nil⟩
 | d::ds,vs,_,us,hx,h,r=>by
  simp only[QgM,Zh]at hx
  simp only[Rps]at h
  obtain⟨v,ws,F1,F2,rfl,rfl,h1,h2⟩:=h
  cases r with
  | cons r rr=>
   obtain⟨as,ra⟩:=Rp.reads I hx.1 h1 r
   obtain⟨bs,rb⟩:=Rps.reads I hx.2 h2 rr
   exact⟨_,.cons ra rb⟩
end
end
noncomputable def gEq(a b:D):Option D:=if a.sim 8 && b.sim 8 then some (.bl (deq a b))else none
noncomputable def gNe(a b:D):Option D:=if a.sim 8 && b.sim 8 then some (.bl (!deq a b))else none
noncomputable def Qms(neg:Bool)(a b:D):Option D:=match a,b with
 | .str x,.str y=>some (.bl (if neg then !(!(Builtin.Str.occurrences y x 0 y.length 1).isEmpty)else !(Builtin.Str.occurrences y x 0 y.length 1).isEmpty))
 | _,_=>none
noncomputable def Qkm(neg:Bool):R2:=λx y H Q=>∃i j,x= .str i/\y= .str j/\Q (.bl (if neg then !(!(Builtin.Str.occurrences j i 0 j.length 1).isEmpty)else !(Builtin.Str.occurrences j i 0 j.length 1).isEmpty)) H
theorem QtU{X:Cx}:OpR X (compareOp .In) (Qkm false):=Qn8
theorem Qrt{X:Cx}:OpR X (compareOp .NotIn) (Qkm true):=Qj8
theorem Quz{K:PySem.W.Frag}{neg:Bool}:Qbj K (Qms neg) (Qkm neg):=λa b d e=>by
 unfold Qms at e
 split at e
 ·cases e
  exact⟨rfl,λH x y F G Q ha hb q=>⟨_,_,ha.str_inv,hb.str_inv,q _ λ_=> .Qa5⟩⟩
 ·cases e
noncomputable def gIn(neg:Bool)(a b:D):Option D:=match b with
 | .lst xs=>if a.sim 8 && b.sim 8 then some (.bl (if neg then !(xs.any λy=>deq y a)else xs.any λy=>deq y a))else none
 | .tup xs=>if a.sim 8 && b.sim 8 then some (.bl (if neg then !(xs.any λy=>deq y a)else xs.any λy=>deq y a))else none
 | .str _=>Qms neg a b
 | _=>none
theorem Qnr{neg:Bool}:∀a b d,gIn neg a b=some d->∃k,d= .bl k:=λa b d h=>by
 unfold gIn at h
 split at h
 ·split at h<;>cases h;exact⟨_,rfl⟩
 ·split at h<;>cases h;exact⟨_,rfl⟩
 ·unfold Qms at h;split at h;(cases h;exact⟨_,rfl⟩);cases h
 ·cases h
noncomputable def Qt5(K:PySem.W.Frag):R2:=λx y H Q=>∃a b F G,Rp K H a x F/\Rp K H b y G/\a.sim 8=true/\b.sim 8=true/\Q (.bl (deq a b)) H
noncomputable def QtI(K:PySem.W.Frag):R2:=λx y H Q=>∃a b F G,Rp K H a x F/\Rp K H b y G/\a.sim 8=true/\b.sim 8=true/\Q (.bl (!deq a b)) H
section
variable {X:Cx}
theorem QsX(hu:X.A.units+64<cLine):OpR X (compareOp .Eq) (Qt5 X.K):=by
 intro pins s σ H x y v u Q I rx ry h
 obtain⟨a,b,F,G,ha,hb,sa,sb,q⟩:=h
 obtain⟨as,ra⟩:=Rp.reads I (QbV 8 _ sa) ha rx
 obtain⟨bs,rb⟩:=Rp.reads I (QbV 8 _ sb) hb ry
 have h1:=QbE 8 a sa
 have h2:=QbE 8 b sb
 exact SeqAt.compareEq_reads ra rb h1.1 h2.1 (by have:=Nat.min_le_left a.py.depth b.py.depth;omega) ⟨.bl _,H,I,rfl,q⟩
theorem Qt8(hu:X.A.units+64<cLine):OpR X (compareOp .NotEq) (QtI X.K):=by
 intro pins s σ H x y v u Q I rx ry h
 obtain⟨a,b,F,G,ha,hb,sa,sb,q⟩:=h
 obtain⟨as,ra⟩:=Rp.reads I (QbV 8 _ sa) ha rx
 obtain⟨bs,rb⟩:=Rp.reads I (QbV 8 _ sb) hb ry
 have h1:=QbE 8 a sa
 have h2:=QbE 8 b sb
 exact SeqAt.compareNe_reads ra rb h1.1 h2.1 (by have:=Nat.min_le_left a.py.depth b.py.depth;omega) ⟨.bl _,H,I,rfl,q⟩
theorem QvM:Qbj K gEq (Qt5 K):=λa b d e=>by
 unfold gEq at e
 split at e
 ·rename_i h
  simp only[Zh]at h
  cases e
  exact⟨rfl,λH x y F G Q ha hb q=>⟨a,b,F,G,ha,hb,h.1,h.2,q _ λ_=> .Qa5⟩⟩
 ·cases e
theorem Qvh:Qbj K gNe (QtI K):=λa b d e=>by
 unfold gNe at e
 split at e
 ·rename_i h
  simp only[Zh]at h
  cases e
  exact⟨rfl,λH x y F G Q ha hb q=>⟨a,b,F,G,ha,hb,h.1,h.2,q _ λ_=> .Qa5⟩⟩
 ·cases e
noncomputable def QoK(K:PySem.W.Frag)(neg:Bool):R2:=λx y H Q=>∃a b F G xs,Rp K H a x F/\Rp K H b y G/\a.sim 8=true/\b.sim 8=true/\(b= .lst xs∨b= .tup xs)/\Q (.bl (if neg then !(xs.any λy=>deq y a)else xs.any λy=>deq y a)) H
noncomputable def QiB(K:PySem.W.Frag)(neg:Bool):R2:=λx y H Q=>QoK K neg x y H Q
 ∨Qkm neg x y H Q
theorem inS{K:PySem.W.Frag}{neg:Bool}{x y:V}{H:Hp}{Q:VK}(h:QoK K neg x y H Q):QiB K neg x y H Q:=by first | exact h | exact .inl h
theorem Qos{K:PySem.W.Frag}{neg:Bool}{x y:V}{H:Hp}{Q:VK}{P:Prop}(h:QiB K neg x y H Q)(h1:QoK K neg x y H Q->P)
 (h3:Qkm neg x y H Q->P)
 :P:=by
 unfold QiB at h
 first
  | exact h1 h
  | exact h.elim h1 h3
  | exact h.elim h1 λh=>h.elim h2 h3
theorem QnM(xs:List D)(a:D):((pys xs).any λy=>PyData.eqv y a.py)=xs.any λy=>deq y a:=by
 rw[QlP,List.any_map];rfl
theorem Qtl(hu:X.A.units+64<cLine):OpR X (compareOp .In) (QiB X.K false):=by
 intro pins s σ H x y v u Q I rx ry h
 refine Qos h (λh=>?_)
  (QtU pins s σ H x y v u Q I rx ry)
 obtain⟨a,b,F,G,xs,ha,hb,sa,sb,hk,q⟩:=h
 obtain⟨as,ra⟩:=Rp.reads I (QbV 8 _ sa) ha rx
 obtain⟨bs,rb⟩:=Rp.reads I (QbV 8 _ sb) hb ry
 have h1:=QbE 8 a sa
 have h2:=QbE 8 b sb
 have q':Q (.bl ((pys xs).any λy=>PyData.eqv y a.py)) H:=by rw[QnM];exact q
 rcases hk with rfl | rfl
 ·exact SeqAt.in_list_reads rb ra h2.1 h1.1 (by have:=ZaM (PyData.depthAll (pys xs)) a.py.depth;omega) ⟨.bl _,H,I,rfl,q'⟩
 ·exact SeqAt.in_tuple_reads rb ra h2.1 h1.1 (by have:=ZaM (PyData.depthAll (pys xs)) a.py.depth;omega) ⟨.bl _,H,I,rfl,q'⟩
theorem QnK(hu:X.A.units+64<cLine):OpR X (compareOp .NotIn) (QiB X.K true):=by
 intro pins s σ H x y v u Q I rx ry h
 refine Qos h (λh=>?_)
  (Qrt pins s σ H x y v u Q I rx ry)
 obtain⟨a,b,F,G,xs,ha,hb,sa,sb,hk,q⟩:=h
 obtain⟨as,ra⟩:=Rp.reads I (QbV 8 _ sa) ha rx
 obtain⟨bs,rb⟩:=Rp.reads I (QbV 8 _ sb) hb ry
 have h1:=QbE 8 a sa
 have h2:=QbE 8 b sb
 have q':Q (.bl (!(pys xs).any λy=>PyData.eqv y a.py)) H:=by rw[QnM];exact q
 rcases hk with rfl | rfl
 ·exact SeqAt.notIn_list_reads rb ra h2.1 h1.1 (by have:=ZaM (PyData.depthAll (pys xs)) a.py.depth;omega) ⟨.bl _,H,I,rfl,q'⟩
 ·exact SeqAt.notIn_tuple_reads rb ra h2.1 h1.1 (by have:=ZaM (PyData.depthAll (pys xs)) a.py.depth;omega) ⟨.bl _,H,I,rfl,q'⟩
theorem Qqx:Qbj K (gIn neg) (QiB K neg):=λa b d e=>by
 unfold gIn at e
 split at e
 ·split at e
  ·rename_i h
   simp only[Zh]at h
   cases e
   exact⟨rfl,λH x y F G Q ha hb q=>inS ⟨a,_,F,G,_,ha,hb,h.1,h.2,.inl rfl,q _ λ_=> .Qa5⟩⟩
  ·cases e
 ·split at e
  ·rename_i h
   simp only[Zh]at h
   cases e
   exact⟨rfl,λH x y F G Q ha hb q=>inS ⟨a,_,F,G,_,ha,hb,h.1,h.2,.inr rfl,q _ λ_=> .Qa5⟩⟩
  ·cases e
 ·obtain⟨h1,h2⟩:=Quz (K:=K) _ _ _ e
  exact⟨h1,λH x y F G Q ha hb q=>by have:=h2 H x y F G Q ha hb q;first | exact .inr this | exact .inr (.inr this)⟩
 ·cases e
noncomputable def D.QmG:D->Bool
 | .non=>true
 | _=>false
theorem QlJ(h:Rp K H d v F):decide (v= .non)=d.QmG:=by
 cases d with
 | non=>rw[h.QdK];rfl
 | bl b=>rw[h.Qcc];rfl
 | int b=>rw[h.int_inv];rfl
 | str b=>rw[h.str_inv];rfl
 | tup b=>obtain⟨a,vs,rfl,_⟩:=h.QaW;rfl
 | lst b=>obtain⟨a,vs,G,rfl,_⟩:=h.lst_inv;rfl
 | exc b=>simp only[Rp]at h;obtain⟨⟨a,rfl,_⟩,_⟩:=h;rfl
 | dk b=>simp only[Rp]at h;obtain⟨a,rfl,_⟩:=h;rfl
noncomputable def D.tyN:D->String
 | .non=> "NoneType" | .bl _=> "bool" | .int _=> "int" | .str _=> "str" | .tup _=> "tuple" | .lst _=> "list" | .exc _=> "?" | .dk _=> "?"
noncomputable def D.isE:D->Bool
 | .exc _=>true
 | .dk _=>true
 | _=>false
noncomputable def D.isa(T:String)(d:D):Option Bool:=if(T == "int" || T == "bool" || T == "list" || T == "tuple" || T == "str") && !d.isE then some (d.tyN == T || (d.tyN == "bool" && T == "int"))else none
theorem Qui(I:Inv X pins σ H s)(rp:Rp X.K H d v F)(rx:RelV v u)(e:d.isa T=some b)(h:∀tk,Q (.bool b) {s with toks:=tk}):
  wpAny (model X.prog X.w) A (call (.builtin "isinstance") [u,.type T]) Q E s:=by
 have kit:PySem.W.kitOne X.K (.type d.tyN) (.type T)=some b:=by
  unfold D.isa at e
  split at e
  ·rename_i hT
   cases e
   simp only[Zh,Zbq,beq_iff_eq]at hT
   obtain⟨hT,hE⟩:=hT
   rcases hT with(((rfl | rfl) | rfl) | rfl) | rfl<;>cases d<;>first | rfl | (cases hE)
  ·cases e
 cases d with
 | exc x=>unfold D.isa at e;split at e;(rename_i hT;exfalso;simp only[Zh]at hT;exact nomatch hT.2);cases e
 | dk x=>unfold D.isa at e;split at e;(rename_i hT;exfalso;simp only[Zh]at hT;exact nomatch hT.2);cases e
 | non=>rw[rp.QdK]at rx;cases(show u=Value.none from rx);exact Zay PySem.W.kitx_none I.kIn True.intro kit (λz=>nomatch z) h
 | bl y=>rw[rp.Qcc]at rx;cases(show u=Value.bool y from rx);exact Zay PySem.W.kitx_bool I.kIn True.intro kit (λz=>nomatch z) h
 | int i=>rw[rp.int_inv]at rx;obtain⟨t,q⟩:=(show ∃t,u=Value.int i t from rx);cases q;exact Zay PySem.W.kitx_int I.kIn True.intro kit (λz=>nomatch z) h
 | str y=>rw[rp.str_inv]at rx;obtain⟨t,q⟩:=(show ∃t,u=Value.str y t from rx);cases q;exact Zay PySem.W.kitx_str I.kIn True.intro kit (λz=>nomatch z) h
 | tup ds=>
  obtain⟨a,vs,rfl,hq,_⟩:=rp.QaW
  cases(show u=Value.ref a from rx)
  obtain⟨its,rv,⟨o,h1,h2,n,h3⟩,_⟩:=I.tuple hq
  exact Zay PySem.W.kitx_tuple I.kIn ⟨o,h1,h2⟩ kit (λz=>nomatch z) h
 | lst ds=>
  obtain⟨a,vs,G,rfl,hq,_⟩:=rp.lst_inv
  cases(show u=Value.ref a from rx)
  obtain⟨_,its,n,rv,_,e1⟩:=I.Qiq hq
  exact Zay PySem.W.kitx_list I.kIn ⟨_,e1,rfl⟩ kit (λz=>nomatch z) h
noncomputable def Qv9(K:PySem.W.Frag):List V->Hp->VK->Prop:=λxs H Q=>∃x T d F b,xs=[x,.ty T]/\Rp K H d x F/\d.isa T=some b/\Q (.bl b) H
theorem QpV:QaM X (.builtin "isinstance") (Qv9 X.K):=by
 intro pins s σ H xs us Q I r h
 obtain⟨x,T,d,F,b,rfl,rp,e,q⟩:=h
 obtain⟨u,w,rfl,ru,rw'⟩:=vals2 r
 cases(show w=Value.type T from rw')
 exact Qui I rp ru e λtk=>⟨.bl b,H,I.tok _,rfl,q⟩
noncomputable def QcT(T:String)(fa:DE):DE:=λρ=>(fa ρ).bind λr=>(r.d.isa T).map λb=>⟨.bl b,true,[]⟩
theorem QuL(hg:Gl X "isinstance")(hm:X.mg "isinstance" =none)(ha:SE X a fa)(hT:PE X (.Name x p2) (tC (.ty T)))
  (he:starEach [a,.Name x p2] X.env=(false,eval a X.env)::starEach [.Name x p2] X.env):SE X (.Call (.Name "isinstance" p) [a,.Name x p2] [] pos) (QcT T fa):=λH0 A0=>
 (Qj1 QpV hg hm PyProof.Rows.boot_isinstance (Qcp (ha H0 A0) (Qcp hT QdN) he) (by decide) (by decide) he (by rfl)).mono λσ H Q=>exK λρ hs F r' rel e q=>by
  refine Qf e λr e1 e=>?_
  obtain⟨b,eb,e⟩:=Zg.mp e
  subst e
  exact⟨ρ,hs,F,r,rel,e1,λv H1 G p=>⟨v,T,r.d,G,b,rfl,p.rp,eb,q _ H1 [] (.flat p.same .Qa5)⟩⟩
noncomputable def D.tru:D->Option Bool
 | .non=>some false
 | .bl b=>some b
 | .int i=>some (i != 0)
 | .lst xs=>some (!xs.isEmpty)
 | .tup xs=>some (!xs.isEmpty)
 | .str x=>if x.length<=sizeLine then some ((x.length:Int) != 0)else none
 | .exc _=>none
 | .dk _=>none
theorem Qjv(h:Rp K H d v F)(e:d.tru=some b):Qpg K v H b:=by
 have emp:∀{ds:List D}{vs:List V}{G:List Addr},Rps K H ds vs G->(!ds.isEmpty)= !vs.isEmpty:=λ{ds vs G} r=>by
  have:=r.length
  cases ds<;>cases vs<;>simp_all
 cases d with
 | non=>rw[h.QdK];cases e;exact rfl
 | bl c=>rw[h.Qcc];cases e;exact rfl
 | int i=>rw[h.int_inv];cases e;exact rfl
 | str i=>
  rw[h.str_inv]
  have e:(if i.length<=sizeLine then some ((i.length:Int) != 0)else none)=some b:=e
  split at e
  ·cases e;rename_i hz;exact⟨hz,rfl⟩
  ·cases e
 | exc i=>cases e
 | dk i=>cases e
 | tup ds=>cases e;obtain⟨a,vs,rfl,hq,r⟩:=h.QaW;exact .inr (.inl ⟨vs,hq,emp r⟩)
 | lst ds=>cases e;obtain⟨a,vs,G,rfl,hq,r,_⟩:=h.lst_inv;exact .inl ⟨vs,Q1 hq,emp r⟩
noncomputable def Qm(fa:DE):DT:=λρ=>(fa ρ).bind λr=>r.d.tru
noncomputable def QcV(f g:DT):DT:=λρ=>(f ρ).bind λb=>if b=true then g ρ else some false
noncomputable def bOr(f g:DT):DT:=λρ=>(f ρ).bind λb=>if b=true then some true else g ρ
noncomputable def QbK(f:DT):DT:=λρ=>(f ρ).bind λb=>some (!b)
def SW(X:Cx)(e:Expr)(f:DT):Prop:=∀H0 A0,PW X e (tVT X.K H0 A0 f)
theorem _root_.L2.PW.mono(h:PW X e t)(m:∀σ H Q,t' σ H Q->t σ H Q):PW X e t':=λwh pins s σ H Q I q=>h wh pins s σ H Q I (m σ H Q q)
variable {a b e:Expr}{fa fb:DE}{ga gb gc:DT}{pos:Pos}{rest:List Expr}
theorem QsV(ha:SE X a fa)(he:∀whole,isTrue a X.env whole=(do let v ← whole;standAt a.pos;holding [v] (truthy v))):ST X a (Qm fa):=λH0 A0=>
 (Qqi (ha H0 A0) he).mono λσ H Q=>exK λρ hs F b rel e q=>by
  refine Qf e λr e1 e=>?_
  exact⟨ρ,hs,F,r,rel,e1,λv H1 G p=>⟨b,Qjv p.rp e,q H1 p.same⟩⟩
theorem QtF(ho:OpR X (compareOp op) r)(hg:Qbj X.K g r)(hbl:∀a b d,g a b=some d->∃k,d= .bl k)(ha:SE X a fa)(hb:SE X b fb)(hm:behindInMarks op b=false):ST X (.Compare a [op] [b] pos) (Qm (dOp g fa fb)):=λH0 A0=>
 (QqJ ho (ha H0 A0) (hb H0 A0) hm).mono λσ H Q=>exK λρ hs F k rel e q=>by
  refine Qf e λr' e0 e=>?_
  obtain⟨ra,rb,d,ea,eb,eg,rfl⟩:=Qil e0
  obtain⟨k',rfl⟩:=hbl _ _ _ eg
  cases e
  refine two rel ea eb λx y H1 H2 G1 G2 p1 p2=>(hg _ _ _ eg).2 H2 x y G1 G2 _ (p1.rp.same p2.same) p2.rp λv hv=>?_
  exact⟨_,(hv H2).Qcc,q H2 (p1.same.trans p2.same)⟩
theorem Quc(ha:ST X a ga):ST X (.UnaryOp .Not a pos) (QbK ga):=λH0 A0=>
 (Quk (ha H0 A0)).mono λσ H Q=>exK λρ hs F b rel e q=>by
  refine Qf e λc e1 e=>?_
  cases e
  exact⟨ρ,hs,F,c,rel,e1,λH1 s1=>q H1 s1⟩
theorem QrB(ha:ST X a ga):SW X (.BoolOp .And [a] pos) ga:=λH0 A0=>Qso (ha H0 A0)
theorem Quh(ha:ST X a ga):SW X (.BoolOp .Or [a] pos) ga:=λH0 A0=>QtR (ha H0 A0)
theorem QtK(ha:ST X a ga)(hb:SW X (.BoolOp .And (b::rest) pos) gb):SW X (.BoolOp .And (a::b::rest) pos) (QcV ga gb):=λH0 A0=>
 (Qua (ha H0 A0) (hb H0 A0)).mono λσ H Q=>exK λρ hs F c rel e q=>by
  refine Qf e λd e1 e=>?_
  refine⟨ρ,hs,F,d,rel,e1,λH1 s1=>?_⟩
  cases d with
  | true=>exact⟨ρ,hs,F,c,rel.ext s1,e,λH2 s2=>q H2 (s1.trans s2)⟩
  | false=>cases e;exact q H1 s1
theorem Qu0(ha:ST X a ga)(hb:SW X (.BoolOp .Or (b::rest) pos) gb):SW X (.BoolOp .Or (a::b::rest) pos) (bOr ga gb):=λH0 A0=>
 (Qvl (ha H0 A0) (hb H0 A0)).mono λσ H Q=>exK λρ hs F c rel e q=>by
  refine Qf e λd e1 e=>?_
  refine⟨ρ,hs,F,d,rel,e1,λH1 s1=>?_⟩
  cases d with
  | true=>cases e;exact q H1 s1
  | false=>exact⟨ρ,hs,F,c,rel.ext s1,e,λH2 s2=>q H2 (s1.trans s2)⟩
theorem SW.st(h:SW X e ga):ST X e ga:=λH0 A0=>(h H0 A0).pt
noncomputable def Qdv(fa fb:DE):DE:=λρ=>(fa ρ).bind λra=>(ra.d.tru).bind λb=>if b=true then fb ρ else some ra
noncomputable def dOr(fa fb:DE):DE:=λρ=>(fa ρ).bind λra=>(ra.d.tru).bind λb=>if b=true then some ra else fb ρ
noncomputable def QpN(fa:DE):DE:=λρ=>(fa ρ).bind λra=>(ra.d.tru).bind λb=>some ⟨.bl (!b),true,[]⟩
noncomputable def dIf(g:DT)(fa fb:DE):DE:=λρ=>(g ρ).bind λb=>if b=true then fa ρ else fb ρ
theorem QnP{op}(h:SE X a fa):SE X (.BoolOp op [a] pos) fa:=λH0 A0=>QtO (h H0 A0)
theorem QR.ext(s:Qz H H1)(p:QR K ρ F H1 H2 r v G)(rel:Rel K H0 A0 hs ρ F σ H):QR K ρ F H H2 r v G where
 same:=s.trans p.same
 rp:=p.rp
 src:=λa ha=>(p.src a ha).elim (λz=> .inl (s.free z)) .inr
 cnt:=λh=>⟨λa=>Zu ((p.cnt h).1 a) (ZaQ (by
  cases q:H1 a with
  | none=>rw[QaX q,QaX (s.free q)];exact Zj _
  | some o=>rw[Qc2 q];exact Zac _) _),(p.cnt h).2⟩
 own:=p.own
theorem Qtc(ha:SE X a fa)(hb:SE X (.BoolOp .And (b::rest) pos) fb):SE X (.BoolOp .And (a::b::rest) pos) (Qdv fa fb):=λH0 A0=>by
 intro pins s σ H Q I ⟨ρ,hs,F,r,rel,e,q⟩
 refine Qf e λra e1 e=>?_
 refine Qf e λc e2 e=>?_
 refine PyProof.Rows.BoolOp_and (thn (ha H0 A0 pins s σ H _ I ⟨ρ,hs,F,ra,rel,e1,λv H' G p=>(⟨G,p⟩:∃G,QR X.K ρ F H H' ra v G)⟩) λv s1 hpt=>?_)
 obtain⟨x,H1,I1,r1,G,p⟩:=hpt
 refine thn (QhL pins s1 σ H1 x v (λk H2=>k=c/\H2=H1) I1 r1 ⟨c,Qjv p.rp e2,rfl,rfl⟩) λk s2 hpt=>?_
 obtain⟨H2,I2,e3,e4⟩:=hpt
 subst e3 e4
 cases k with
 | true=>exact hb H0 A0 pins s2 σ _ Q I2 ⟨ρ,hs,F,r,rel.ext p.same,e,λw H3 G3 p3=>q w H3 G3 (p3.ext p.same rel)⟩
 | false=>cases e;exact⟨x,_,I2,r1,q x _ G p⟩
theorem Qvj(ha:SE X a fa)(hb:SE X (.BoolOp .Or (b::rest) pos) fb):SE X (.BoolOp .Or (a::b::rest) pos) (dOr fa fb):=λH0 A0=>by
 intro pins s σ H Q I ⟨ρ,hs,F,r,rel,e,q⟩
 refine Qf e λra e1 e=>?_
 refine Qf e λc e2 e=>?_
 refine PyProof.Rows.BoolOp_or (thn (ha H0 A0 pins s σ H _ I ⟨ρ,hs,F,ra,rel,e1,λv H' G p=>(⟨G,p⟩:∃G,QR X.K ρ F H H' ra v G)⟩) λv s1 hpt=>?_)
 obtain⟨x,H1,I1,r1,G,p⟩:=hpt
 refine thn (QhL pins s1 σ H1 x v (λk H2=>k=c/\H2=H1) I1 r1 ⟨c,Qjv p.rp e2,rfl,rfl⟩) λk s2 hpt=>?_
 obtain⟨H2,I2,e3,e4⟩:=hpt
 subst e3 e4
 cases k with
 | false=>exact hb H0 A0 pins s2 σ _ Q I2 ⟨ρ,hs,F,r,rel.ext p.same,e,λw H3 G3 p3=>q w H3 G3 (p3.ext p.same rel)⟩
 | true=>cases e;exact⟨x,_,I2,r1,q x _ G p⟩
theorem QtY(ha:SE X a fa):SE X (.UnaryOp .Not a pos) (QpN fa):=λH0 A0=>by
 intro pins s σ H Q I ⟨ρ,hs,F,r,rel,e,q⟩
 refine Qf e λra e1 e=>?_
 refine Qf e λc e2 e=>?_
 cases e
 refine PyProof.Rows.UnaryOp_ (thn (ha H0 A0 pins s σ H _ I ⟨ρ,hs,F,ra,rel,e1,λv H' G p=>(⟨G,p⟩:∃G,QR X.K ρ F H H' ra v G)⟩) λv s1 hpt=>?_)
 obtain⟨x,H1,I1,r1,G,p⟩:=hpt
 refine PyProof.Rows.not_of (thn (QhL pins s1 σ H1 x v (λk H2=>k=c/\H2=H1) I1 r1 ⟨c,Qjv p.rp e2,rfl,rfl⟩) λk s2 hpt=>?_)
 obtain⟨H2,I2,e3,e4⟩:=hpt
 subst e3 e4
 exact⟨.bl (!k),_,I2,rfl,q _ _ [] (.flat p.same .Qa5)⟩
theorem QvI(hc:ST X c gc)(ha:SE X a fa)(hb:SE X b fb):SE X (.IfExp c a b pos) (dIf gc fa fb):=λH0 A0=>
 (QkM (hc H0 A0) (ha H0 A0) (hb H0 A0)).mono λσ H Q=>exK λρ hs F r rel e q=>by
  refine Qf e λc e1 e=>?_
  refine⟨ρ,hs,F,c,rel,e1,λH1 s1=>?_⟩
  cases c with
  | true=>exact⟨ρ,hs,F,r,rel.ext s1,e,λv H2 G p=>q v H2 G (p.ext s1 rel)⟩
  | false=>exact⟨ρ,hs,F,r,rel.ext s1,e,λv H2 G p=>q v H2 G (p.ext s1 rel)⟩
noncomputable def QtP(fa:DE):DE:=λρ=>(fa ρ).bind λra=>match ra.d with
 | .int i=>some ⟨.int (-i),true,[]⟩
 | _=>none
theorem QtB(ha:SE X a fa):SE X (.UnaryOp .USub a pos) (QtP fa):=λH0 A0=>
 (QuV Quo (ha H0 A0)).mono λσ H Q=>exK λρ hs F r rel e q=>by
  refine Qf e λra e1 e=>?_
  refine⟨ρ,hs,F,ra,rel,e1,λv H1 G p=>?_⟩
  have rp:=p.rp
  cases hr:ra.d with
  | int i=>
   rw[hr]at e rp
   cases e
   exact⟨i,rp.int_inv,q _ H1 [] (.flat p.same .int_mk)⟩
  | _=>rw[hr]at e;cases e
end
end HS
namespace HS
open PySem PySem.Spec L2
section
def Qca(ρ ρ':En):Prop:=ρ'.length=ρ.length/\∀(i:Nat) d b,ρ'[i]? =some (some (d,b))->∃b',ρ[i]? =some (some (d,b'))/\(b=true->b'=true)
theorem Qca.refl:Qca ρ ρ:=⟨rfl,λi d b h=>⟨b,h,id⟩⟩
theorem Qca.trans(a:Qca ρ ρ')(b:Qca ρ' ρ''):Qca ρ ρ'':=⟨b.1.trans a.1,λi d c h=>by
 obtain⟨c',h1,h2⟩:=b.2 i d c h
 obtain⟨c'',h3,h4⟩:=a.2 i d c' h1
 exact⟨c'',h3,λz=>h4 (h2 z)⟩⟩
theorem Rel.weak(r:Rel K H0 A0 hs ρ F σ H)(w:Qca ρ ρ'):Rel K H0 A0 hs ρ' F σ H where
 len:=w.1.trans r.len
 val:=λi d b e=>let ⟨b',h,_⟩:=w.2 i d b e;r.val i d b' h
 own:=λi d e=>by
  obtain⟨b',h,hb⟩:=w.2 i d true e
  have:b'=true:=hb rfl
  subst this
  obtain⟨h1,h2,h3,h4,h5⟩:=r.own i d h
  exact⟨h1,h2,h3,λj d' b' hj e'=>let ⟨b'',h',_⟩:=w.2 j d' b' e';h4 j d' b'' hj h',h5⟩
 src:=λi d b e=>let ⟨b',h,_⟩:=w.2 i d b e;r.src i d b' h
 held:=r.held
 same:=r.same
noncomputable def kill:List Nat->En->En
 | [],ρ=>ρ
 | i::M,ρ=>kill M (ρ.set i none)
noncomputable def QcC:List Nat->En->En
 | [],ρ=>ρ
 | i::M,ρ=>QcC M (match ρ[i]? with
  | some (some (d,_))=>ρ.set i (some (d,false))
  | _=>ρ)
theorem QiO(i:Nat):Qca ρ (ρ.set i none):=⟨by simp,λj d b h=>by
 by_cases hj:i=j
 ·subst hj
  by_cases hl:i<ρ.length
  ·rw[Zv hl]at h;cases h
  ·rw[ZD (by simp;omega)]at h;cases h
 ·rw[Zl hj]at h
  exact⟨b,h,id⟩⟩
theorem Qce:∀(M:List Nat) (ρ:En),Qca ρ (kill M ρ)
 | [],ρ=> .refl
 | i::M,ρ=>(QiO i).trans (Qce M _)
theorem Qfw:∀(M:List Nat) (ρ:En) (i:Nat) (d:D) (b:Bool),i∈M->(kill M ρ)[i]? =some (some (d,b))->False
 | [],ρ,i,d,b,h,_=>by simp at h
 | j::M,ρ,i,d,b,h,e=>by
  rcases Zn.mp h with rfl | h
  ·obtain⟨b',e',_⟩:=(Qce M (ρ.set i none)).2 i d b e
   by_cases hl:i<ρ.length
   ·rw[Zv hl]at e';cases e'
   ·rw[ZD (by simp;omega)]at e';cases e'
  ·exact Qfw M _ i d b h e
theorem QoF(i:Nat):Qca ρ (match ρ[i]? with
  | some (some (d,_))=>ρ.set i (some (d,false))
  | _=>ρ):=by
 split
 ·rename_i d b e
  refine⟨by simp,λj d' b' h=>?_⟩
  by_cases hj:i=j
  ·subst hj
   have hl:i<ρ.length:=(Zd.mp e).1
   rw[Zv hl]at h
   cases h
   exact⟨b,e,λz=>by cases z⟩
  ·rw[Zl hj]at h
   exact⟨b',h,id⟩
 ·exact .refl
theorem QcA:∀(M:List Nat) (ρ:En),Qca ρ (QcC M ρ)
 | [],ρ=> .refl
 | i::M,ρ=>(QoF i).trans (QcA M _)
theorem QhA:∀(M:List Nat) (ρ:En) (i:Nat) (d:D),i∈M->(QcC M ρ)[i]? =some (some (d,true))->False
 | [],ρ,i,d,h,_=>by simp at h
 | j::M,ρ,i,d,h,e=>by
  rcases Zn.mp h with rfl | h
  ·obtain⟨b',e',hb⟩:=(QcA M _).2 i d true e
   have:b'=true:=hb rfl
   subst this
   split at e'
   ·rename_i d' b e1
    have hl:i<ρ.length:=(Zd.mp e1).1
    rw[Zv hl]at e'
    cases e'
   ·rename_i h1
    exact h1 d true e'
  ·exact QhA M _ i d h e
def Shr(H0:Hp)(A0:List Addr)(ρ:En)(F:Nat->List Addr)(G:List Addr):Prop:=
 ∀a∈G,(H0 a=none∨a∈A0)/\∀(i:Nat) d,ρ[i]? =some (some (d,true))->a∉F i
theorem Shr.of(r:Rel K H0 A0 hs ρ F σ H)(s:Src ρ F H M G):Shr H0 A0 (QcC M ρ) F G:=λa ha=>by
 have w:=QcA M ρ
 rcases s a ha with h | ⟨i,d,b,e,m,hm⟩
 ·refine⟨.inl (r.same.free h),λj d' e' hj=>?_⟩
  obtain⟨b',e2,_⟩:=w.2 j d' true e'
  obtain⟨vs,q⟩:=r.mem e2 hj
  rw[h]at q;cases q
 ·refine⟨r.src i d b e a m,λj d' e' hj=>?_⟩
  obtain⟨b',e2,hb⟩:=w.2 j d' true e'
  have:b'=true:=hb rfl
  subst this
  by_cases hij:i=j
  ·subst hij
   rw[e]at e2
   cases e2
   exact QhA M ρ i _ (hm rfl) e'
  ·exact(r.own j d' e2).2.2.2.1 i d b hij e a hj m
theorem Rel.QmZ(r:Rel K H0 A0 hs ρ F σ H)(rp:Rp K H d v G)(sh:Shr H0 A0 ρ F G):
  Rel K H0 A0 hs (ρ.set i (some (d,d.flat))) (λj=>if j=i then G else F j) (σ.set i (some v)) H where
 len:=by simp[r.len]
 val:=λj d' b e=>by
  by_cases hj:j=i
  ·subst hj
   have hl:j<ρ.length:=by
    by_cases hl:j<ρ.length
    ·exact hl
    ·rw[ZD (by simp;omega)]at e;cases e
   rw[Zv hl]at e
   cases e
   exact⟨v,by rw[Zv (by rw[← r.len];exact hl)],by rw[if_pos rfl];exact rp⟩
  ·rw[Zl (Ne.symm hj)]at e
   obtain⟨w,h1,h2⟩:=r.val j d' b e
   exact⟨w,by rw[Zl (Ne.symm hj)];exact h1,by rw[if_neg hj];exact h2⟩
 own:=λj d' e=>by
  by_cases hj:j=i
  ·subst hj
   have hl:j<ρ.length:=by
    by_cases hl:j<ρ.length
    ·exact hl
    ·rw[ZD (by simp;omega)]at e;cases e
   rw[Zv hl]at e
   have e1:=Option.some.inj (Option.some.inj e)
   have ed:d=d':=congrArg Prod.fst e1
   have ef:d.flat=true:=congrArg Prod.snd e1
   subst ed
   have:=rp.Qbi ef
   subst this
   rw[if_pos rfl]
   exact⟨(Qc9 d ef).symm,Zas,λa ha=>by simp at ha,λ_ _ _ _ _ a ha=>by simp at ha,λ_ _ a ha=>by simp at ha⟩
  ·rw[Zl (Ne.symm hj)]at e
   obtain⟨h1,h2,h3,h4,h5⟩:=r.own j d' e
   rw[if_neg hj]
   refine⟨h1,h2,h3,λk d'' b hk ek a ha=>?_,h5⟩
   by_cases hki:k=i
   ·subst hki
    rw[if_pos rfl]
    exact λhG=>(sh a hG).2 j d' e ha
   ·rw[Zl (Ne.symm hki)]at ek
    rw[if_neg hki]
    exact h4 k d'' b hk ek a ha
 src:=λj d' b e a ha=>by
  by_cases hj:j=i
  ·subst hj
   rw[if_pos rfl]at ha
   exact(sh a ha).1
  ·rw[Zl (Ne.symm hj)]at e
   rw[if_neg hj]at ha
   exact r.src j d' b e a ha
 held:=r.held
 same:=r.same
theorem QvH(r:Rel K H0 A0 hs ρ F σ H)(ow:Qa1 ρ M)(nd:M.Nodup)(a:Addr):((M.map F).flatten).count a<=1:=by
 induction M with
 | nil=>simp
 | cons i M ih=>
  rw[Zo,ZZ,Zaa]
  obtain⟨h1,h2⟩:=Zan.mp nd
  have ih':=ih (λj hj=>ow j (Zb _ hj)) h2
  obtain⟨d,e⟩:=ow i Zm
  obtain⟨_,nd1,_,apart,_⟩:=r.own i d e
  by_cases ha:a∈F i
  ·have c1:(F i).count a<=1:=Zak.mp nd1 a
   have c2:((M.map F).flatten).count a=0:=ZI.mpr λhm=>by
    obtain⟨l,hl,hal⟩:=ZaL.mp hm
    obtain⟨j,hj,rfl⟩:=ZA.mp hl
    obtain⟨d',e'⟩:=ow j (Zb _ hj)
    exact apart j d' true (λz=>h1 (z▸hj)) e' a ha hal
   omega
  ·have:(F i).count a=0:=ZI.mpr ha
   omega
theorem QR.fresh(r:Rel K H0 A0 hs ρ F σ H)(p:QR K ρ F H H' rr v G)(hf:rr.fr=true)(nd:rr.M.Nodup):
  G.Nodup/\∀a∈G,H0 a=none/\(H a=none∨∃i d,i∈rr.M/\ρ[i]? =some (some (d,true))/\a∈F i):=by
 obtain⟨c,_⟩:=p.cnt hf
 refine⟨Zak.mpr λa=>?_,λa ha=>?_⟩
 ·have h1:=c a
  have h2:=QvH r p.own nd a
  cases q:H a with
  | none=>rw[QaX q,r.fl0 p.own q]at h1;omega
  | some o=>rw[Qc2 q]at h1;omega
 ·cases q:H a with
  | none=>exact⟨r.same.free q,.inl rfl⟩
  | some o=>
   have h1:=c a
   rw[Qc2 q]at h1
   have h2:0<G.count a:=Zaj.mpr ha
   obtain⟨l,hl,hal⟩:=ZaL.mp (Zaj.mp (by omega:0<((rr.M.map F).flatten).count a))
   obtain⟨i,hi,rfl⟩:=ZA.mp hl
   obtain⟨d,e⟩:=p.own i hi
   exact⟨(r.own i d e).2.2.1 a hal,.inr ⟨i,d,hi,e,hal⟩⟩
theorem Rel.QuA(r:Rel K H0 A0 hs ρ F σ H)(p:QR K ρ F H H' rr v G)(hf:rr.fr=true)(nd:rr.M.Nodup):
  Rel K H0 A0 hs ((kill rr.M ρ).set i (some (rr.d,true))) (λj=>if j=i then G else F j) (σ.set i (some v)) H':=by
 have r1:=(r.ext p.same).weak (Qce rr.M ρ)
 obtain⟨gn,gs⟩:=p.fresh r hf nd
 have gl:=(p.cnt hf).2
 have apart:∀(j:Nat) d b,(kill rr.M ρ)[j]? =some (some (d,b))->∀a∈G,a∉F j:=λj d b e a ha hj=>by
  obtain⟨b',e',_⟩:=(Qce rr.M ρ).2 j d b e
  rcases(gs a ha).2 with q | ⟨k,d',hk,ek,hak⟩
  ·obtain⟨vs,w⟩:=r.mem e' hj
   rw[q]at w;cases w
  ·have hjk:j≠k:=λz=>by subst z;exact Qfw rr.M ρ j d b hk e
   exact(r.own k d' ek).2.2.2.1 j d b' hjk e' a hak hj
 have apartH:∀t∈hs,∀a∈G,a∉t.2.2:=λt ht a ha hj=>by
  rcases(gs a ha).2 with q | ⟨k,d',hk,ek,hak⟩
  ·obtain⟨vs,w⟩:=(r.held t ht).1.mem a hj
   rw[q]at w;cases w
  ·exact(r.own k d' ek).2.2.2.2 t ht a hak hj
 have lt:∀{j:Nat}{x:Option (D×Bool)}{y:D×Bool},((kill rr.M ρ).set j x)[j]? =some (some y)->j<(kill rr.M ρ).length:=λ{j x y} e=>by
  by_cases hl:j<(kill rr.M ρ).length
  ·exact hl
  ·rw[ZD (by simp;omega)]at e;cases e
 refine⟨by simp[r1.len],λj d b e=>?_,λj d e=>?_,λj d b e a ha=>?_,r1.held,r1.same⟩
 ·by_cases hj:j=i
  ·subst hj
   have hl:=lt e
   rw[Zv hl]at e
   cases e
   exact⟨v,by rw[Zv (by rw[← r1.len];exact hl)],by rw[if_pos rfl];exact p.rp⟩
  ·rw[Zl (Ne.symm hj)]at e
   obtain⟨w,h1,h2⟩:=r1.val j d b e
   exact⟨w,by rw[Zl (Ne.symm hj)];exact h1,by rw[if_neg hj];exact h2⟩
 ·by_cases hj:j=i
  ·subst hj
   have hl:=lt e
   rw[Zv hl]at e
   cases e
   rw[if_pos rfl]
   refine⟨gl,gn,λa ha=>(gs a ha).1,λk d' b hk ek a ha=>?_,apartH⟩
   rw[Zl (Ne.symm hk)]at ek
   rw[if_neg hk]
   exact apart k d' b ek a ha
  ·rw[Zl (Ne.symm hj)]at e
   obtain⟨h1,h2,h3,h4,h5⟩:=r1.own j d e
   rw[if_neg hj]
   refine⟨h1,h2,h3,λk d' b hk ek a ha=>?_,h5⟩
   by_cases hki:k=i
   ·subst hki
    rw[if_pos rfl]
    exact λhG=>apart j d true e a hG ha
   ·rw[Zl (Ne.symm hki)]at ek
    rw[if_neg hki]
    exact h4 k d' b hk ek a ha
 ·by_cases hj:j=i
  ·subst hj
   rw[if_pos rfl]at ha
   exact .inl (gs a ha).1
  ·rw[Zl (Ne.symm hj)]at e
   rw[if_neg hj]at ha
   exact r1.src j d b e a ha
noncomputable def asg(i:Nat)(r:R)(ρ:En):En:=
 if r.norm.fr && decide r.norm.M.Nodup then(kill r.norm.M ρ).set i (some (r.d,true))else(QcC r.norm.M ρ).set i (some (r.d,r.d.flat))
theorem Rel.asg(r:Rel K H0 A0 hs ρ F σ H)(p:QR K ρ F H H' rr v G):∃F',Rel K H0 A0 hs (asg i rr ρ) F' (σ.set i (some v)) H':=by
 have p':=p.norm
 unfold HS.asg
 split
 ·rename_i h
  simp only[Zh,decide_eq_true_eq]at h
  have:=r.QuA (i:=i) p' h.1 h.2
  rw[rr.Qdn]at this
  exact⟨_,this⟩
 ·have r1:=(r.ext p'.same).weak (QcA rr.norm.M ρ)
  have rp:=p'.rp
  rw[rr.Qdn]at rp
  have sh:=Shr.of r p'.src
  exact⟨_,r1.QmZ rp sh⟩
theorem Rel.hold(r:Rel K H0 A0 hs ρ F σ H)(h:∀t∈ts,Rp K H t.2.1 t.1 t.2.2/\Shr H0 A0 ρ F t.2.2):Rel K H0 A0 (ts++hs) ρ F σ H where
 len:=r.len
 val:=r.val
 own:=λi d e=>by
  obtain⟨h1,h2,h3,h4,h5⟩:=r.own i d e
  refine⟨h1,h2,h3,h4,λt ht a ha hm=>?_⟩
  rcases Zy.mp ht with z | z
  ·exact((h t z).2 a hm).2 i d e ha
  ·exact h5 t z a ha hm
 src:=r.src
 held:=λt ht=>by
  rcases Zy.mp ht with z | z
  ·exact⟨(h t z).1,λa ha=>((h t z).2 a ha).1⟩
  ·exact r.held t z
 same:=r.same
theorem Rel.Qkb(r:Rel K H0 A0 (ts++hs) ρ F σ H):Rel K H0 A0 hs ρ F σ H where
 len:=r.len
 val:=r.val
 own:=λi d e=>let ⟨h1,h2,h3,h4,h5⟩:=r.own i d e;⟨h1,h2,h3,h4,λt ht=>h5 t (Ze _ ht)⟩
 src:=r.src
 held:=λt ht=>r.held t (Ze _ ht)
 same:=r.same
end
structure Ret (K:PySem.W.Frag) (H0:Hp) (A0:List Addr) (d:D) (fr:Bool) (v:V) (H':Hp) (G:List Addr):Prop where
 same:Qz H0 H'
 rp:Rp K H' d v G
 src:∀a∈G,H0 a=none∨a∈A0
 cnt:fr=true->G.Nodup/\G.length=d.nl/\∀a∈G,H0 a=none
noncomputable abbrev Den:=List D->Option (D×Bool)
noncomputable def spV(K:PySem.W.Frag)(n:Nat)(den:Den):Sp:=λvs H Q _=>∃ds F d fr,Rps K H ds vs F/\ds.length=n/\den ds=some (d,fr)/\∀v H' G,Ret K H F d fr v H' G->Q v H'
theorem QlM{K:PySem.W.Frag}{n:Nat}{den:Den}{ps:List Str}(hn:ps.length=n):∀vs H Q E,spV K n den vs H Q E->vs.length=ps.length:=λvs H Q E ⟨ds,F,d,fr,r,hl,_⟩=>by rw[hn,← hl,r.length]
noncomputable def Qv(n:Nat)(den:Den)(dfl:List D)(fs:DA):DE:=λρ=>(fs ρ).bind λr=>if r.ds.length+dfl.length=n then(den (r.ds++dfl)).map λq=>if q.2=true then⟨q.1,true,[]⟩else R.norm ⟨q.1,false,r.M⟩else none
section
variable {X:Cx}{e:Expr}{es:List Expr}{fs:DA}{pos p:Pos}{x:Str}{n k:Nat}{f:Addr}{fd:FuncData}{ps:List Str}{den:Den}{dfl:List D}{dvs:List V}{ds:List Value}
theorem QiS{σ:L2.St}{H H0:Hp}{A0:List Addr}{Q:VK}(hdf:∀H,Rps X.K H dfl dvs []):tV X.K H0 A0 (Qv n den dfl fs) σ H Q->Qnh (spV X.K n den) dvs E0 (tVA X.K H0 A0 fs) σ H Q:=exK λρ hs F r rel e q=>by
 refine Qf e λra e1 e=>?_
 split at e
 ·rename_i hl
  obtain⟨⟨d,fr⟩,e2,e⟩:=Zg.mp e
  refine⟨ρ,hs,F,ra,rel,e1,λvs H1 G p1=>⟨ra.ds++dfl,G++[],d,fr,p1.rp.append (hdf H1),by rw[Zf];exact hl,e2,λv H2 G2 rt=>?_⟩⟩
  subst e
  have src:Src ρ F H ra.M G2:=λa ha=>by
   rcases rt.src a ha with z | z
   ·exact .inl (p1.same.free z)
   ·rw[Zam]at z
    exact p1.src a z
  split at q
  ·rename_i hf
   have hf:fr=true:=hf
   obtain⟨nd,hn,fresh⟩:=rt.cnt hf
   have hH:∀a∈G2,H a=none:=λa ha=>p1.same.free (fresh a ha)
   refine q v H2 G2 ⟨p1.same.trans rt.same,rt.rp,λa ha=> .inl (hH a ha),λ_=>⟨λa=>?_,hn⟩,Qa1.nil⟩
   by_cases ha:a∈G2
   ·rw[QaX (hH a ha)];have:=Zak.mp nd a;omega
   ·rw[ZI.mpr ha];exact Zac _
  ·refine q v H2 G2 (QR.norm ⟨p1.same.trans rt.same,rt.rp,src,λz=>(by cases z),p1.own⟩)
 ·cases e
theorem Qsn(Fk:Qa7 X.prog X.w X.K X.mg X.base CX0 k f fd ps (spV X.K n den))(hr:Qaj k X.A)(hg:Gl X x)(hm:X.mg x=some (.ref f))(hk:PySem.W.keepIn X.K (.ref f)=true)(hb:Binds X.K fd ps ds)(hd:Qq dvs ds)(hdf:∀H,Rps X.K H dfl dvs [])
  (ha:SA X (e::es) fs) (hdb:(x == ("__debug__" :Str))=false) (he:starEach (e::es) X.env=(false,eval e X.env)::starEach es X.env) (hpl:(backTo pos (starEach es X.env)).any (·.1)=false):
  SE X (.Call (.Name x p) (e::es) [] pos) (Qv n den dfl fs):=λH0 A0=>
 (Qst Fk hr hg hm hk hb hd Qqm (ha H0 A0) hdb he hpl).mono λσ H Q h=>QiS hdf h
theorem Qpf(Fk:Qa7 X.prog X.w X.K X.mg X.base CX0 k f fd ps (spV X.K n den))(hr:Qaj k X.A)(hg:Gl X x)(hm:X.mg x=some (.ref f))(hk:PySem.W.keepIn X.K (.ref f)=true)(hb:Binds X.K fd ps ds)(hd:Qq dvs ds)(hdf:∀H,Rps X.K H dfl dvs [])
  (hdb:(x == ("__debug__" :Str))=false):SE X (.Call (.Name x p) [] [] pos) (Qv n den dfl Qe):=λH0 A0=>
 (QpT Fk hr hg hm hk hb hd Qqm hdb).mono λσ H Q h=>by
  have h':=QiS hdf h
  obtain⟨ρ,hs,F,r,rel,e,q⟩:=h'
  cases e
  exact q [] H [] ⟨Qz.refl _,by simp[Rps],Src.nil,λ_=>⟨Cnt.nil,rfl⟩,Qa1.nil⟩
end
structure IR where
 items:List D
 M:List Nat
noncomputable abbrev DI:=En->Option IR
def QjS(K:PySem.W.Frag)(H:Hp)(ts:List (V×D×List Addr)):Prop:=∀t∈ts,Rp K H t.2.1 t.1 t.2.2
structure Walk (K:PySem.W.Frag) (J:It) (ts:List (V×D×List Addr)) (ds:List D):Prop where
 stop:∀H,QjS K H ts->J.stop ds.length H
 go:∀i H,i<ds.length->QjS K H ts->J.go i H
 yld:∀(i:Nat) d H x H',ds[i]? =some d->QjS K H ts->J.yld i H x H'->Qz H H'/\∃G,Rp K H' d x G/\∀a∈G,∃t∈ts,a∈t.2.2
noncomputable def tI(K:PySem.W.Frag)(H0:Hp)(A0:List Addr)(f:DI):TI:=λσ H Rr=>∃ρ hs F ir,Rel K H0 A0 hs ρ F σ H/\f ρ=some ir∧
 ∀J H1 ts,Qz H H1->Walk K J ts ir.items->(∀t∈ts,Rp K H1 t.2.1 t.1 t.2.2/\Src ρ F H ir.M t.2.2)->Qa1 ρ ir.M->ir.items.length<=sizeLine->Rr J H1
def SI(X:Cx)(tg e:Expr)(f:DI):Prop:=∀H0 A0,PI X tg e (tI X.K H0 A0 f)
theorem _root_.L2.PI.mono(h:PI X tg e t)(m:∀σ H Q,t' σ H Q->t σ H Q):PI X tg e t':=λpins s σ H Q I q=>h pins s σ H Q I (m σ H Q q)
section
variable {X:Cx}{tg a b:Expr}{fa fb:DE}{fs:DA}{pos p:Pos}
theorem Rps.nth{K:PySem.W.Frag}{H:Hp}{ds:List D}{vs:List V}{F:List Addr}{i:Nat}{d:D}(h:Rps K H ds vs F)(e:ds[i]? =some d):∃v G,vs[i]? =some v/\Rp K H d v G/\∀a∈G,a∈F:=by
 obtain⟨v,F1,G,F2,h1,h2,h3,_⟩:=h.get e
 exact⟨v,G,h1,h3,λa ha=>by rw[h2];exact Ze _ (Zi _ ha)⟩
noncomputable def QvZ(K:PySem.W.Frag)(tl:TE):TI:=λσ H Rr=>tl σ H λx H1=>(∃a,x= .ref a/\(∃xs,SqL K H1 a xs)/\Rr (Itl K a) H1)∨(∃a,x= .ref a/\(∃xs,SqT K H1 a xs)/\Rr (Itt K a) H1)
theorem QsH(hl:PE X l tl):PI X tg l (QvZ X.K tl):=by
 intro pins s σ H Rr I h
 refine thn (hl pins s σ H _ I h) λv s1=>exJ λx H1 I1 r1 q1=>?_
 rcases q1 with⟨a,e,⟨xs,hq⟩,q⟩ | ⟨a,e,⟨xs,hq⟩,q⟩
 ·subst e
  cases r1
  obtain⟨its,rv,pl,hz⟩:=I1.list hq
  refine wpAny_pyIter_list pl.isList ⟨s1.heap.objs.size,[s1.heap.objs.size],_,_,H1,rfl,I1.kept (t':=s1.toks) λb o e=>Zt _ e,Qod a _,⟨_,ZC _ rfl,rfl,rfl⟩,λb hb=>?_,q⟩
  have e:b=s1.heap.objs.size:=by simpa using hb
  subst e
  exact I1.Qh4 (Zj _) (I1.hok.fresh (Zj _))
 ·subst e
  cases r1
  obtain⟨its,rv,pl,hz⟩:=I1.tuple hq
  refine wpAny_pyIter_tuple (show s1.heap.IsTuple a its.toArray from pl) ⟨s1.heap.objs.size,[s1.heap.objs.size],_,_,H1,rfl,I1.kept (t':=s1.toks) λb o e=>Zt _ e,Qm1 a _,⟨_,ZC _ rfl,rfl,rfl⟩,λb hb=>?_,q⟩
  have e:b=s1.heap.objs.size:=by simpa using hb
  subst e
  exact I1.Qh4 (Zj _) (I1.hok.fresh (Zj _))
noncomputable def QZ(fa:DE):DI:=λρ=>(fa ρ).bind λr=>match r.d with
 | .lst xs=>some ⟨xs,r.M⟩
 | .tup xs=>if xs.length<=sizeLine then some ⟨xs,r.M⟩else none
 | .str x=>if x.cps.size<=sizeLine then some ⟨x.cps.toList.map λc=> .str ⟨#[c]⟩,[]⟩else none
 | _=>none
theorem Qu6{t u:TI}(h1:PI X tg l t)(h2:PI X tg l u):PI X tg l (λσ H R=>t σ H R∨u σ H R):=λpins s σ H R I q=>q.elim (h1 pins s σ H R I) (h2 pins s σ H R I)
theorem QpD{K:PySem.W.Frag}{x:Str}:Walk K (Itx x) [] (x.cps.toList.map λc=> .str ⟨#[c]⟩) where
 stop:=λH h=>by show _=x.cps.size;rw[Zc,Zao]
 go:=λi H hi h=>by rw[Zc,Zao]at hi;exact hi
 yld:=λi d H v H' e h y=>by
  obtain⟨rfl,c,hc,rfl⟩:=y
  rw[Zx,Array.getElem?_toList,hc]at e
  cases e
  exact⟨Qz.refl _,[],.str_mk,λa ha=>by simp at ha⟩
theorem Qob{K:PySem.W.Frag}{c:Addr}{ds:List D}{G:List Addr}:Walk K (Itl K c) [(.ref c,.lst ds,G)] ds where
 stop:=λH h=>by
  obtain⟨l,vs,L,e,hl,rl,zl,el⟩:=(h _ (Zk.mpr rfl)).lst_inv
  cases e
  exact⟨vs,Q1 hl,by rw[rl.length];exact Zj _⟩
 go:=λi H hi h=>by
  obtain⟨l,vs,L,e,hl,rl,zl,el⟩:=(h _ (Zk.mpr rfl)).lst_inv
  cases e
  have:i<vs.length:=by rw[← rl.length];exact hi
  exact⟨vs,vs[i],Q1 hl,by simp[this]⟩
 yld:=λi d H x H' e h y=>by
  obtain⟨l,vs,L,e1,hl,rl,zl,el⟩:=(h _ (Zk.mpr rfl)).lst_inv
  cases e1
  obtain⟨rfl,y⟩:=y
  obtain⟨v,G',h1,h2,h3⟩:=rl.nth e
  have:=y vs (Q1 hl)
  rw[h1]at this
  cases this
  refine⟨Qz.refl _,G',h2,λz hz=>⟨_,Zk.mpr rfl,?_⟩⟩
  have:=h3 z hz
  rcases el with rfl | rfl
  ·exact Zb _ this
  ·exact this
theorem QpG{K:PySem.W.Frag}{c:Addr}{ds:List D}{G:List Addr}:Walk K (Itt K c) [(.ref c,.tup ds,G)] ds where
 stop:=λH h=>by
  obtain⟨l,vs,e,hl,rl⟩:=(h _ (Zk.mpr rfl)).QaW
  cases e
  exact⟨vs,hl,by rw[rl.length];exact Zj _⟩
 go:=λi H hi h=>by
  obtain⟨l,vs,e,hl,rl⟩:=(h _ (Zk.mpr rfl)).QaW
  cases e
  have:i<vs.length:=by rw[← rl.length];exact hi
  exact⟨vs,vs[i],hl,by simp[this]⟩
 yld:=λi d H x H' e h y=>by
  obtain⟨l,vs,e1,hl,rl⟩:=(h _ (Zk.mpr rfl)).QaW
  cases e1
  obtain⟨rfl,y⟩:=y
  obtain⟨v,G',h1,h2,h3⟩:=rl.nth e
  have:=y vs hl
  rw[h1]at this
  cases this
  exact⟨Qz.refl _,G',h2,λz hz=>⟨_,Zk.mpr rfl,h3 z hz⟩⟩
theorem Qte(ha:SE X a fa):SI X tg a (QZ fa):=λH0 A0=>
 (Qu6 (QsH (ha H0 A0)) (QsM (ha H0 A0))).mono λσ H Rr=>exK λρ hs F ir rel e q=>by
 refine Qf e λr e1 e=>?_
 by_cases hx:∃x,r.d= .str x
 ·obtain⟨x,hx⟩:=hx
  rw[hx]at e
  dsimp only at e
  split at e
  ·rename_i hz
   cases e
   refine .inr ⟨ρ,hs,F,r,rel,e1,λv H1 G p=>?_⟩
   have rp:=p.rp
   rw[hx]at rp
   exact⟨x,rp.str_inv,q _ H1 [] p.same QpD (λt ht=>by simp at ht) Qa1.nil (by rw[Zc,Zao];exact hz)⟩
  ·cases e
 left
 refine⟨ρ,hs,F,r,rel,e1,λv H1 G p=>?_⟩
 have rp:=p.rp
 cases hr:r.d with
 | lst xs=>
  rw[hr]at e rp
  cases e
  obtain⟨c,vs,L,rfl,hl,rl,zl,el⟩:=rp.lst_inv
  refine .inl ⟨c,rfl,⟨vs,Q1 hl⟩,q _ H1 [(.ref c,.lst xs,G)] p.same Qob (λt ht=>?_) p.own zl⟩
  rw[Zk.mp ht]
  exact⟨rp,p.src⟩
 | tup xs=>
  rw[hr]at e rp
  dsimp only at e
  split at e
  ·rename_i hz
   cases e
   obtain⟨c,vs,rfl,hl,rl⟩:=rp.QaW
   refine .inr ⟨c,rfl,⟨vs,hl⟩,q _ H1 [(.ref c,.tup xs,G)] p.same QpG (λt ht=>?_) p.own hz⟩
   rw[Zk.mp ht]
   exact⟨rp,p.src⟩
  ·cases e
 | str x=>exact absurd ⟨x,hr⟩ hx
 | _=>rw[hr]at e;cases e
noncomputable def QgK(lo:Int)(n:Nat):List D:=(List.range n).map λ(k:Nat)=> .int (lo+(k:Int))
theorem Qgv:(QgK lo n).length=n:=by simp[QgK]
theorem Qpy(h:(QgK lo n)[i]? =some d):i<n/\d= .int (lo+i):=by
 unfold QgK at h
 rw[Zx]at h
 cases q:(List.range n)[i]? with
 | none=>rw[q]at h;cases h
 | some k=>
  rw[q]at h
  obtain⟨h1,h2⟩:=Zd.mp q
  simp at h1 h2
  subst h2
  exact⟨h1,(Option.some.inj h).symm⟩
theorem Qmx:Walk K (Itr lo n) [] (QgK lo n) where
 stop:=λH _=>by rw[Qgv];exact Zj _
 go:=λi H hi _=>by rw[Qgv]at hi;exact hi
 yld:=λi d H x H' e _ y=>by
  obtain⟨h1,rfl⟩:=Qpy e
  obtain⟨rfl,rfl⟩:=y
  exact⟨Qz.refl _,[],.int_mk,λz hz=>by simp at hz⟩
noncomputable def Qc6(fa:DE):DI:=λρ=>(fa ρ).bind λr=>match r.d with
 | .int j=>if j<=16777216/\ -(2^62)<=j then some ⟨QgK 0 j.toNat,[]⟩else none
 | _=>none
theorem QaJ:(sizeLine:Nat)=16777216:=sizeLine_eq
theorem QnE(hg:Gl X "range")(hm:X.mg "range" =none)(ha:SE X a fa)(hs:starEach [a] X.env=[(false,eval a X.env)]):SI X tg (.Call (.Name "range" p) [a] [] pos) (Qc6 fa):=λH0 A0=>
 (Qop hg hm (Qcp (ha H0 A0) QdN hs) hs).mono λσ H Rr=>exK λρ hs F ir rel e q=>by
  refine Qf e λr e1 e=>?_
  refine⟨ρ,hs,F,r,rel,e1,λv H1 G pp=>?_⟩
  have rp:=pp.rp
  cases hr:r.d with
  | int j=>
   rw[hr]at e rp
   dsimp only at e
   split at e
   ·rename_i hz
    cases e
    rw[rp.int_inv]
    refine⟨j,rfl,hz.2,by omega,q _ H1 [] pp.same Qmx (λt ht=>by simp at ht) Qa1.nil ?_⟩
    rw[Qgv,QaJ];omega
   ·cases e
  | _=>rw[hr]at e;cases e
noncomputable def QcE(ds:List D):List D:=ds.zipIdx.map λq=> .tup [.int q.2,q.1]
theorem QfH:(QcE ds).length=ds.length:=by simp[QcE]
theorem QnU{ds:List D}{i:Nat}{d:D}(h:(QcE ds)[i]? =some d):∃e,ds[i]? =some e/\d= .tup [.int i,e]:=by
 unfold QcE at h
 rw[Zx,ZaA]at h
 cases q:ds[i]? with
 | none=>rw[q]at h;cases h
 | some e=>rw[q]at h;simp at h;exact⟨e,rfl,h.symm⟩
theorem Qnn{K:PySem.W.Frag}{c:Addr}{ds:List D}{G:List Addr}:Walk K (Ite K c) [(.ref c,.lst ds,G)] (QcE ds) where
 stop:=λH h=>by
  obtain⟨l,vs,L,e,hl,rl,zl,el⟩:=(h _ (Zk.mpr rfl)).lst_inv
  cases e
  exact⟨vs,Q1 hl,by rw[QfH,rl.length];exact Zj _⟩
 go:=λi H hi h=>by
  obtain⟨l,vs,L,e,hl,rl,zl,el⟩:=(h _ (Zk.mpr rfl)).lst_inv
  cases e
  rw[QfH]at hi
  have:i<vs.length:=by rw[← rl.length];exact hi
  exact⟨vs,vs[i],Q1 hl,by simp[this]⟩
 yld:=λi d H x H' e h y=>by
  obtain⟨l,vs,L,e1,hl,rl,zl,el⟩:=(h _ (Zk.mpr rfl)).lst_inv
  cases e1
  obtain⟨d',e',rfl⟩:=QnU e
  obtain⟨pp,u,rfl,hp,rfl,y⟩:=y
  obtain⟨v,G',h1,h2,h3⟩:=rl.nth e'
  have:=y vs (Q1 hl)
  rw[h1]at this
  cases this
  have s:=QbI (o:= .tup [.int i,u]) hp
  refine⟨s,G',Rp.Qhe Qaz ?_,λz hz=>⟨_,Zk.mpr rfl,?_⟩⟩
  ·simp only[Rps]
   exact⟨.int i,[u],[],G',rfl,rfl,.int_mk,u,[],G',[],rfl,by simp,h2.same s,rfl,rfl⟩
  ·have:=h3 z hz
   rcases el with rfl | rfl
   ·exact Zb _ this
   ·exact this
noncomputable def Qfx(fa:DE):DI:=λρ=>(fa ρ).bind λr=>match r.d with
 | .lst xs=>some ⟨QcE xs,r.M⟩
 | _=>none
theorem QrM(hg:Gl X "enumerate")(hm:X.mg "enumerate" =none)(ha:SE X a fa)(hs:starEach [a] X.env=[(false,eval a X.env)]):SI X (.Tuple es tk tpos) (.Call (.Name "enumerate" p) [a] [] pos) (Qfx fa):=λH0 A0=>
 (Qra hg hm (Qcp (ha H0 A0) QdN hs) hs).mono λσ H Rr=>exK λρ hs F ir rel e q=>by
  refine Qf e λr e1 e=>?_
  refine⟨ρ,hs,F,r,rel,e1,λv H1 G pp=>?_⟩
  have rp:=pp.rp
  cases hr:r.d with
  | lst xs=>
   rw[hr]at e rp
   cases e
   obtain⟨c,vs,L,rfl,hl,rl,zl,el⟩:=rp.lst_inv
   refine⟨c,rfl,⟨vs,Q1 hl⟩,q _ H1 [(.ref c,.lst xs,G)] pp.same Qnn (λt ht=>?_) pp.own (by rw[QfH];exact zl)⟩
   rw[Zk.mp ht]
   exact⟨rp,pp.src⟩
  | _=>rw[hr]at e;cases e
noncomputable def Qff(xs ys:List D):List D:=(xs.zip ys).map λq=> .tup [q.1,q.2]
theorem Qg1:(Qff xs ys).length=min xs.length ys.length:=by simp[Qff]
theorem QpU{xs ys:List D}{i:Nat}{d:D}(h:(Qff xs ys)[i]? =some d):∃e f,xs[i]? =some e/\ys[i]? =some f/\d= .tup [e,f]:=by
 unfold Qff at h
 rw[Zx]at h
 cases q:(xs.zip ys)[i]? with
 | none=>rw[q]at h;cases h
 | some e=>
  rw[q]at h
  obtain⟨h1,h2⟩:=List.getElem?_zip_eq_some.mp q
  exact⟨e.1,e.2,h1,h2,(Option.some.inj h).symm⟩
theorem QoZ{K:PySem.W.Frag}{c c':Addr}{xs ys:List D}{G G':List Addr}:Walk K (Itz K c c') [(.ref c,.lst xs,G),(.ref c',.lst ys,G')] (Qff xs ys) where
 stop:=λH h=>by
  obtain⟨l,vs,L,e,hl,rl,zl,el⟩:=(h _ (Zm)).lst_inv
  obtain⟨l',vs',L',e',hl',rl',zl',el'⟩:=(h _ (Zb _ Zm)).lst_inv
  cases e
  cases e'
  refine⟨vs,vs',Q1 hl,Q1 hl',?_⟩
  rw[Qg1,← rl.length,← rl'.length];omega
 go:=λi H hi h=>by
  obtain⟨l,vs,L,e,hl,rl,zl,el⟩:=(h _ (Zm)).lst_inv
  obtain⟨l',vs',L',e',hl',rl',zl',el'⟩:=(h _ (Zb _ Zm)).lst_inv
  cases e
  cases e'
  rw[Qg1]at hi
  have h1:i<vs.length:=by rw[← rl.length];omega
  have h2:i<vs'.length:=by rw[← rl'.length];omega
  exact⟨vs,vs',vs[i],vs'[i],Q1 hl,Q1 hl',by simp[h1],by simp[h2]⟩
 yld:=λi d H x H' e h y=>by
  obtain⟨l,vs,L,e1,hl,rl,zl,el⟩:=(h _ (Zm)).lst_inv
  obtain⟨l',vs',L',e1',hl',rl',zl',el'⟩:=(h _ (Zb _ Zm)).lst_inv
  cases e1
  cases e1'
  obtain⟨d1,d2,ea,eb,rfl⟩:=QpU e
  obtain⟨pp,u,u',rfl,hp,rfl,y,y'⟩:=y
  obtain⟨v,G1,h1,h2,h3⟩:=rl.nth ea
  obtain⟨v',G2,h1',h2',h3'⟩:=rl'.nth eb
  have:=y vs (Q1 hl)
  rw[h1]at this
  cases this
  have:=y' vs' (Q1 hl')
  rw[h1']at this
  cases this
  have s:=QbI (o:= .tup [u,u']) hp
  refine⟨s,G1++G2,Rp.Qhe Qaz ?_,λz hz=>?_⟩
  ·simp only[Rps]
   exact⟨u,[u'],G1,G2,rfl,rfl,h2.same s,u',[],G2,[],rfl,by simp,h2'.same s,rfl,rfl⟩
  ·rcases Zy.mp hz with hz | hz
   ·refine⟨_,Zm,?_⟩
    have:=h3 z hz
    rcases el with rfl | rfl
    ·exact Zb _ this
    ·exact this
   ·refine⟨_,Zb _ Zm,?_⟩
    have:=h3' z hz
    rcases el' with rfl | rfl
    ·exact Zb _ this
    ·exact this
noncomputable def Qm2(fa fb:DE):DI:=λρ=>(fa ρ).bind λr=>(fb ρ).bind λr'=>match r.d,r'.d with
 | .lst xs,.lst ys=>some ⟨Qff xs ys,r.M++r'.M⟩
 | _,_=>none
theorem QsQ(hg:Gl X "zip")(hm:X.mg "zip" =none)(ha:SE X a fa)(hb:SE X b fb)(hs:starEach [a,b] X.env=[(false,eval a X.env),(false,eval b X.env)])(hs2:starEach [b] X.env=[(false,eval b X.env)]):
  SI X (.Tuple es tk tpos) (.Call (.Name "zip" p) [a,b] [] pos) (Qm2 fa fb):=λH0 A0=>
 (QtN hg hm (Qcp (ha H0 A0) (Qcp (hb H0 A0) QdN hs2) (by rw[hs,hs2])) hs hs2).mono λσ H Rr=>exK λρ hs F ir rel e q=>by
  refine Qf e λr e1 e=>?_
  refine Qf e λr' e2 e=>?_
  refine⟨ρ,hs,F,r,rel,e1,λv H1 G pp=>⟨ρ,hs,F,r',rel.ext pp.same,e2,λv' H2 G' pp'=>?_⟩⟩
  have rp:=pp.rp.same pp'.same
  have rp':=pp'.rp
  cases hr:r.d with
  | lst xs=>
   cases hr':r'.d with
   | lst ys=>
    rw[hr,hr']at e
    rw[hr]at rp
    rw[hr']at rp'
    cases e
    obtain⟨c,vs,L,rfl,hl,rl,zl,el⟩:=rp.lst_inv
    obtain⟨c',vs',L',rfl,hl',rl',zl',el'⟩:=rp'.lst_inv
    refine⟨c,c',rfl,⟨vs,Q1 hl⟩,⟨vs',Q1 hl'⟩,q _ H2 [(.ref c,.lst xs,G),(.ref c',.lst ys,G')] (pp.same.trans pp'.same) QoZ (λt ht=>?_) (pp.own.append pp'.own) (by rw[Qg1];omega)⟩
    have sa:=pp.src.append pp'.src pp.same
    rcases Zn.mp ht with rfl | ht
    ·exact⟨rp,λz hz=>sa z (Zi _ hz)⟩
    ·rw[Zk.mp ht]
     exact⟨rp',λz hz=>sa z (Ze _ hz)⟩
   | _=>rw[hr,hr']at e;cases e
  | _=>rw[hr]at e;cases e
end
end HS
namespace HS
open PySem L2
section
end
end HS
namespace HS
open PySem PySem.Spec L2
inductive Tg where
 | nm (i:Nat)
 | tp (is:List Nat)
noncomputable def Tg.slots:Tg->List Nat
 | .nm i=>[i]
 | .tp is=>is
noncomputable def QcW:List Nat->List D->En->En
 | i::is,d::ds,ρ=>QcW is ds (ρ.set i (some (d,d.flat)))
 | _,_,ρ=>ρ
noncomputable def Qbm:Tg->D->En->Option En
 | .nm i,d,ρ=>some (ρ.set i (some (d,d.flat)))
 | .tp is,.tup xs,ρ=>if xs.length=is.length then some (QcW is xs ρ)else none
 | .tp is,.lst xs,ρ=>if xs.length=is.length then some (QcW is xs ρ)else none
 | .tp _,_,_=>none
noncomputable def tG(K:PySem.W.Frag)(H0:Hp)(A0:List Addr)(t:Tg):TG:=λv σ H Q=>∃ρ hs F d G ρ',Rel K H0 A0 hs ρ F σ H/\Rp K H d v G/\Shr H0 A0 ρ F G/\Qbm t d ρ=some ρ'∧
 ∀σ' F',Rel K H0 A0 hs ρ' F' σ' H->(∀j,j∉t.slots->σ'[j]? =σ[j]?)->(∀j a,a∈F' j->a∈F j∨a∈G)->Q σ' H
def SG(X:Cx)(tg:Expr)(t:Tg):Prop:=∀H0 A0,PG X tg (tG X.K H0 A0 t)
theorem _root_.L2.PG.mono{X:Cx}{tg:Expr}{t t':TG}(h:PG X tg t)(m:∀v σ H Q,t' v σ H Q->t v σ H Q):PG X tg t':=λpins s σ H v u Q I r q=>h pins s σ H v u Q I r (m v σ H Q q)
noncomputable def Qhq:List Nat->TGs
 | []=>QtE
 | i::is=>QqE (Qei i) (Qhq is)
theorem Shr.set{H0:Hp}{A0:List Addr}{ρ:En}{F:Nat->List Addr}{G G1:List Addr}{i:Nat}{d:D}(h:Shr H0 A0 ρ F G)(hf:d.flat=true->G1=[]):Shr H0 A0 (ρ.set i (some (d,d.flat))) (λj=>if j=i then G1 else F j) G:=λa ha=>by
 refine⟨(h a ha).1,λj d' e=>?_⟩
 by_cases hj:j=i
 ·subst hj
  show ¬a∈(if j=j then G1 else F j)
  rw[if_pos rfl]
  have hl:j<ρ.length:=by
   by_cases hl:j<ρ.length
   ·exact hl
   ·rw[ZD (by simp;omega)]at e;cases e
  rw[Zv hl]at e
  have e1:=Option.some.inj (Option.some.inj e)
  rw[hf (congrArg Prod.snd e1)]
  simp
 ·rw[Zl (Ne.symm hj)]at e
  show ¬a∈(if j=i then G1 else F j)
  rw[if_neg hj]
  exact(h a ha).2 j d' e
theorem Qgu{K:PySem.W.Frag}{H0:Hp}{A0:List Addr}{hs:List (V×D×List Addr)}:∀(is:List Nat) (ds:List D) (vs:List V) (ρ:En) (F:Nat->List Addr) (σ:L2.St) (H:Hp) (G:List Addr) (Q:L2.St->Hp->Prop),
  Rel K H0 A0 hs ρ F σ H->Rps K H ds vs G->Shr H0 A0 ρ F G->ds.length=is.length→
  (∀σ' F',Rel K H0 A0 hs (QcW is ds ρ) F' σ' H->(∀j,j∉is->σ'[j]? =σ[j]?)->(∀j a,a∈F' j->a∈F j∨a∈G)->Q σ' H)->Qhq is vs σ H Q
 | [],ds,vs,ρ,F,σ,H,G,Q,rel,rp,sh,hl,q=>by
  have:ds=[]:=by simpa using hl
  subst this
  simp only[Rps]at rp
  exact⟨rp.1,q σ F rel (λ_ _=>rfl) λ_ _ h=> .inl h⟩
 | i::is,[],vs,ρ,F,σ,H,G,Q,rel,rp,sh,hl,q=>by simp at hl
 | i::is,d::ds,vs,ρ,F,σ,H,G,Q,rel,rp,sh,hl,q=>by
  simp only[Rps]at rp
  obtain⟨v,ws,G1,G2,rfl,rfl,r1,r2⟩:=rp
  refine⟨v,ws,rfl,?_⟩
  have sh1:Shr H0 A0 ρ F G1:=λa ha=>sh a (Zi _ ha)
  have sh2:Shr H0 A0 ρ F G2:=λa ha=>sh a (Ze _ ha)
  refine Qgu is ds ws _ _ _ H G2 Q (rel.QmZ r1 sh1) r2 (sh2.set r1.Qbi) (by simpa using hl) λσ' F' rel' k m=>q σ' F' rel' (λj hj=>?_) λj a ha=>?_
  ·have h1:j≠i:=λz=>hj (by rw[z];exact Zm)
   rw[k j λz=>hj (Zb _ z),Zl (Ne.symm h1)]
  ·rcases m j a ha with z | z
   ·by_cases hj:j=i
    ·rw[if_pos hj]at z;exact .inr (Zi _ z)
    ·rw[if_neg hj]at z;exact .inl z
   ·exact .inr (Ze _ z)
section
variable {X:Cx}{tg:Expr}{pos:Pos}
theorem Qri{i:Nat}{x:Str}(h:PG X (.Name x pos) (Qei i)):SG X (.Name x pos) (.nm i):=λH0 A0=>h.mono λv σ H Q hpt=>by
 obtain⟨ρ,hs,F,d,G,ρ',rel,rp,sh,e,q⟩:=hpt
 cases e
 refine q _ _ (rel.QmZ rp sh) (λj hj=>?_) λj a ha=>?_
 ·have:j≠i:=λz=>hj (by simp[Tg.slots,z])
  rw[Zl (Ne.symm this)]
 ·by_cases hj:j=i
  ·rw[if_pos hj]at ha;exact .inr ha
  ·rw[if_neg hj]at ha;exact .inl ha
theorem Qsq{es:List Expr}{k:Nat}{t:TGs}{n:Nat}(hc:X.calm=true)(h:PGs X es t)
  (hn:(assignEach es X.env).length=n) (hst:(assignEach es X.env).findIdx? (·.1)=none):PG X (.Tuple es k pos) (λv σ H Q=>∃a xs,v= .ref a/\SqL X.K H a xs/\xs.length=n/\t xs σ H Q):=by
 intro pins s σ H v u Q I r hw
 obtain⟨a,xs,e1,hq,hl,hw⟩:=hw
 subst e1
 cases r
 obtain⟨its,rv,ht,hz⟩:=I.list hq
 rw[PyProof.Rows.assign_Tuple]
 refine wpAny_bind (wpAny_standAt ?_)
 unfold unpack
 rw[hn,hst,show n=its.toArray.size by simp[← hl,rv.length]]
 refine wpAny_bind (wpAny_holding (PySem.W.kun_itemsOf (I.ok.hd hc) ht.isList λh' hx=>?_))
 have I1:Inv X pins σ H {s with heap:=h'}:=I.kept (t':=s.toks) λb o e=>hx b o (ZJ (Zw e)) e
 exact h pins _ σ H xs _ Q I1 (by simpa using rv) hw
theorem QuK{es:List Expr}{k:Nat}{is:List Nat}(hc:X.calm=true)(h:PGs X es (Qhq is))(hn:(assignEach es X.env).length=is.length)(hst:(assignEach es X.env).findIdx? (·.1)=none):SG X (.Tuple es k pos) (.tp is):=λH0 A0=>
 λpins s σ H v u Q I r hpt=>by
  obtain⟨ρ,hs,F,d,G,ρ',rel,rp,sh,e,q⟩:=hpt
  cases d with
  | tup xs=>
   simp only[Qbm]at e
   split at e
   ·rename_i hl
    cases e
    obtain⟨a,vs,rfl,hq,rs⟩:=rp.QaW
    exact Qus hc h hn hst pins s σ H _ u Q I r ⟨a,vs,rfl,hq,by rw[← rs.length];exact hl,Qgu is xs vs ρ F σ H G Q rel rs sh hl q⟩
   ·cases e
  | lst xs=>
   simp only[Qbm]at e
   split at e
   ·rename_i hl
    cases e
    obtain⟨a,vs,L,rfl,hq,rs,_,eG⟩:=rp.lst_inv
    have sub:∀b∈L,b∈G:=λb hb=>by
     rcases eG with rfl | rfl
     ·exact Zb _ hb
     ·exact hb
    exact Qsq hc h hn hst pins s σ H _ u Q I r ⟨a,vs,rfl,Q1 hq,by rw[← rs.length];exact hl,Qgu is xs vs ρ F σ H L Q rel rs (λb hb=>sh b (sub b hb)) hl λσ' F' rel' k m=>q σ' F' rel' k λj b hb=>(m j b hb).imp id (sub b)⟩
   ·cases e
  | _=>simp only[Qbm]at e;cases e
end
noncomputable def Qdz(cap:List (Option Nat))(ρ:En):En:=cap.map λo=>o.bind λi=>match ρ[i]? with
 | some (some (d,_))=>some (d,d.flat)
 | _=>none
noncomputable def Qmz(cap:List (Option Nat))(ρ:En):List Nat:=cap.filterMap λo=>o.bind λi=>match ρ[i]? with
 | some (some (d,b))=>if b && !d.flat then some i else none
 | _=>none
noncomputable def Qd8(t:Tg)(ft:DT)(fe:DE)(ρc:En)(acc:List D×Bool)(d:D):Option (List D×Bool):=
 (Qbm t d ρc).bind λρ1=>(ft ρ1).bind λc=>if c=true then(fe ρ1).map λr=>(acc.1++[r.d],acc.2 && r.norm.fr)else some acc
noncomputable def Qax(fi:DI)(t:Tg)(cap:List (Option Nat))(ft:DT)(fe:DE):DE:=λρ=>(fi ρ).bind λir=>
 (ir.items.foldlM (Qd8 t ft fe (Qdz cap ρ)) ([],true)).map λq=>if q.2=true then⟨.lst q.1,true,[]⟩else⟨.lst q.1,false,ir.M++Qmz cap ρ⟩
def Qcx(ρ:En):Prop:=∀(j:Nat) d,ρ[j]? =some (some (d,true))->d.flat=true
theorem Qcx.set{ρ:En}(h:Qcx ρ)(i:Nat)(d:D):Qcx (ρ.set i (some (d,d.flat))):=λj d' e=>by
 by_cases hj:j=i
 ·subst hj
  have hl:j<ρ.length:=by
   by_cases hl:j<ρ.length
   ·exact hl
   ·rw[ZD (by simp;omega)]at e;cases e
  rw[Zv hl]at e
  have e1:=Option.some.inj (Option.some.inj e)
  have h1:d=d':=congrArg Prod.fst e1
  have h2:d.flat=true:=congrArg Prod.snd e1
  rw[← h1];exact h2
 ·rw[Zl (Ne.symm hj)]at e
  exact h j d' e
theorem Qcx.QcW:∀(is:List Nat) (ds:List D) {ρ:En},Qcx ρ->Qcx (QcW is ds ρ)
 | [],_,_,h=>h
 | _::_,[],_,h=>h
 | i::is,d::ds,_,h=>Qcx.QcW is ds (h.set i d)
theorem Qcx.bind{t:Tg}{d:D}{ρ ρ':En}(h:Qcx ρ)(e:Qbm t d ρ=some ρ'):Qcx ρ':=by
 cases t with
 | nm i=>cases e;exact h.set i d
 | tp is=>
  cases d with
  | tup xs=>
   simp only[Qbm]at e
   split at e
   ·cases e;exact h.QcW is xs
   ·cases e
  | lst xs=>
   simp only[Qbm]at e
   split at e
   ·cases e;exact h.QcW is xs
   ·cases e
  | _=>simp only[Qbm]at e;cases e
theorem QgU(cap:List (Option Nat))(ρ:En):Qcx (Qdz cap ρ):=λj d e=>by
 unfold Qdz at e
 rw[Zx]at e
 cases q:cap[j]? with
 | none=>rw[q]at e;cases e
 | some o=>
  rw[q]at e
  cases o with
  | none=>cases e
  | some i=>
   simp only[ZV,Za,Option.some.injEq]at e
   split at e
   ·have e1:=Option.some.inj e
    have h1:=congrArg Prod.fst e1
    have h2:=congrArg Prod.snd e1
    dsimp only at h1 h2
    rw[← h1];exact h2
   ·cases e
theorem QiL{cap:List (Option Nat)}{ρ:En}{j:Nat}{d:D}{b:Bool}(e:(Qdz cap ρ)[j]? =some (some (d,b))):∃i b',cap[j]? =some (some i)/\ρ[i]? =some (some (d,b')):=by
 unfold Qdz at e
 rw[Zx]at e
 cases q:cap[j]? with
 | none=>rw[q]at e;cases e
 | some o=>
  rw[q]at e
  cases o with
  | none=>cases e
  | some i=>
   simp only[ZV,Za,Option.some.injEq]at e
   split at e
   ·rename_i d' b' hi
    have e1:=Option.some.inj e
    have h1:d'=d:=congrArg Prod.fst e1
    subst h1
    exact⟨i,b',rfl,hi⟩
   ·cases e
def Qj6(X:Cx)(ifs:List Expr)(f:DT):Prop:=∀H0 A0,PTs X ifs (tVT X.K H0 A0 f)
noncomputable def Qb3:DT:=λ_=>some true
theorem QpJ{X:Cx}:Qj6 X [] Qb3:=λH0 A0 pins s σ H Q I=>exK λρ hs F b rel e q=>by
 cases e
 exact QrE pins s σ H Q I (q H (Qz.refl _))
theorem QpE{X:Cx}{c:Expr}{f:DT}(h:ST X c f):Qj6 X [c] f:=λH0 A0=>Qr0 (h H0 A0)
structure QjC (X:Cx) (N':List Str) (scope:Scope) (cap:List (Option Nat)) (tgs:List Nat):Prop where
 len:cap.length=N'.length
 get:∀(j i:Nat),cap[j]? =some (some i)->∃x,N'[j]? =some x/\scope.names.lookup x=some .free/\X.N[i]? =some x/\(X.env.kindOf x=some .cell∨X.env.kindOf x=some .free)
 apart:∀(j i:Nat),cap[j]? =some (some i)->j∉tgs
theorem join_some{α:Type}{o:Option (Option α)}{v:α}(h:o.join=some v):o=some (some v):=by
 cases o with
 | none=>cases h
 | some p=>cases p with
  | none=>cases h
  | some x=>exact h▸rfl
theorem QiP{X:Cx}{N':List Str}{scope:Scope}{fi:DI}{t:Tg}{cap:List (Option Nat)}{ft:DT}{fe:DE}{H0:Hp}{A0:List Addr}{σ:L2.St}{H:Hp}{Q:VK}(hc:QjC X N' scope cap t.slots):
  tV X.K H0 A0 (Qax fi t cap ft fe) σ H Q->Qjw (tI X.K H0 A0 fi) (QhP X N' scope) (tG X.K (λ_=>none) [] t) (tVT X.K (λ_=>none) [] ft) (tV X.K (λ_=>none) [] fe) σ H Q:=exK λρ hs F r rel e q=>by
 refine Qf e λir e1 e=>?_
 obtain⟨⟨xs,f⟩,ef,e⟩:=Zg.mp e
 subst e
 refine⟨ρ,hs,F,ir,rel,e1,λJ H1 ts s1 wk hts ow hz=>?_⟩
 refine⟨cap.map λo=>o.bind λi=>σ[i]?.join,⟨by simp[hc.len],λj x v hN hv=>?_⟩,λDl hD=>?_⟩
 ·rw[Zx]at hv
  cases qc:cap[j]? with
  | none=>rw[qc]at hv;cases hv
  | some o=>
   rw[qc]at hv
   cases o with
   | none=>cases hv
   | some i=>
    simp only[ZV,Za,Option.some.injEq]at hv
    obtain⟨y,h1,h2,h3,h4⟩:=hc.get j i qc
    rw[hN]at h1;cases h1
    exact⟨h2,i,h3,join_some hv,h4⟩
 generalize hσc:(cap.map λo=>o.bind λi=>σ[i]?.join)=σc
 generalize hρc:Qdz cap ρ=ρc at ef
 have hF0:∃Fc:Nat->List Addr,Fc=λj=>match cap[j]? with
  | some (some i)=>(match ρ[i]? with
   | some (some _)=>F i
   | _=>[])
  | _=>[]:=⟨_,rfl⟩
 obtain⟨Fc,hFc⟩:=hF0
 have rel1:=rel.ext s1
 have relC:∀H2,Qz H1 H2->Rel X.K (λ_=>none) [] [] ρc Fc σc H2:=λH2 s2=>by
  refine⟨by rw[← hρc,← hσc];simp[Qdz],λj d b e=>?_,λj d e=>?_,λj d b e a ha=> .inl rfl,λt ht=>(by simp at ht),λb o z=>(by cases z)⟩
  ·rw[← hρc]at e
   obtain⟨i,b',h1,h2⟩:=QiL e
   obtain⟨v,h3,h4⟩:=(rel1.ext s2).val i d b' h2
   refine⟨v,?_,?_⟩
   ·rw[← hσc,Zx,h1]
    simp only[ZV,Za,h3,Option.join_some]
   ·rw[hFc];simp only[h1,h2];exact h4
  ·have hf:d.flat=true:=QgU cap ρ j d (by rw[hρc];exact e)
   have:Fc j=[]:=by
    rw[← hρc]at e
    obtain⟨i,b',h1,h2⟩:=QiL e
    obtain⟨v,h3,h4⟩:=rel1.val i d b' h2
    rw[hFc];simp only[h1,h2];exact h4.Qbi hf
   rw[this]
   exact⟨(Qc9 d hf).symm,Zas,λa ha=>(by simp at ha),λ_ _ _ _ _ a ha=>(by simp at ha),λt ht=>(by simp at ht)⟩
 have shC:∀G,Shr (λ_=>none) [] ρc Fc G:=λG a ha=>⟨.inl rfl,λj d e hj=>by
  have h0:=(relC H1 (Qz.refl _)).own j d e
  have hf:d.flat=true:=QgU cap ρ j d (by rw[hρc];exact e)
  have:(Fc j).length=0:=by rw[h0.1,Qc9 d hf]
  rw[List.eq_nil_of_length_eq_zero this]at hj
  simp at hj⟩
 have hSh:Qcx ρc:=by rw[← hρc];exact QgU cap ρ
 have heldOf:∀H2,Qz H1 H2->QjS X.K H2 ts:=λH2 s2 t ht=>(hts t ht).1.same s2
 have oldOf:∀a,((∃t∈ts,a∈t.2.2)∨∃j,a∈Fc j)->(∃u,H1 a=some u)/\(H a=none∨∃(i:Nat) (d:D) (b:Bool),ρ[i]? =some (some (d,b))/\a∈F i/\(b=true->i∈ir.M++Qmz cap ρ)):=λa ha=>by
  rcases ha with⟨t,ht,ha⟩ | ⟨j,ha⟩
  ·refine⟨(hts t ht).1.mem a ha,?_⟩
   rcases(hts t ht).2 a ha with z | ⟨i,d,b,e,m,w⟩
   ·exact .inl z
   ·exact .inr ⟨i,d,b,e,m,λhb=>Zi _ (w hb)⟩
  ·have ha0:=ha
   rw[hFc]at ha
   dsimp only at ha
   split at ha
   ·rename_i i hi
    split at ha
    ·rename_i db hdb
     obtain⟨d,b⟩:=db
     obtain⟨v,h3,h4⟩:=rel1.val i d b hdb
     refine⟨h4.mem a ha,.inr ⟨i,d,b,hdb,ha,λhb=>Ze _ ?_⟩⟩
     unfold Qmz
     refine ZaF.mpr ⟨some i,ZF hi,?_⟩
     simp only[Za,hdb]
     have hnf:d.flat=false:=by
      cases hf:d.flat with
      | false=>rfl
      | true=>rw[h4.Qbi hf]at ha;simp at ha
     rw[hb,hnf];rfl
    ·simp at ha
   ·simp at ha
 have fresh5:∀H2,Qz H1 H2->∀a,H2 a=none->H1 a=none:=λH2 s2 a h=>s2.free h
 refine⟨λi m acc H2=>m=ir.items.length-i/\i<=ir.items.length/\Qz H1 H2/\H2 Dl=some (.lst acc)/\∃(ys:List D) (g:Bool) (G:List Addr),(ir.items.drop i).foldlM (Qd8 t ft fe ρc) (ys,g)=some (xs,f)/\Rps X.K H2 ys acc G/\ys.length<=i∧
  (∀a∈G,a≠Dl/\(H1 a=none∨(∃t∈ts,a∈t.2.2)∨∃j,a∈Fc j))/\(g=true->G.length=nls ys/\∀a,G.count a<=nw H1 a),⟨ir.items.length,rfl,Zac _,QbI hD,Qaz,[],true,[],by simpa using ef,by simp[Rps],Zj _,λa ha=>(by simp at ha),λ_=>⟨rfl,λa=>by simp⟩⟩,?_⟩
 rintro i m acc H2 ⟨rfl,hi,s2,eD,ys,g,G,hfold,rps,hlen,hG,hcnt⟩
 by_cases hlt:i<ir.items.length
 ·refine .inr ⟨wk.go i H2 hlt (heldOf H2 s2),λx H3 hy=>?_⟩
  obtain⟨s3,G0,rp0,hG0⟩:=wk.yld i ir.items[i] H2 x H3 (by simp[hlt]) (heldOf H2 s2) hy
  rw[ZL hlt,Zbe]at hfold
  refine Qf hfold λacc1 hstep hrest=>?_
  unfold Qd8 at hstep
  refine Qf hstep λρ1 eb hstep=>?_
  refine Qf hstep λc ec hstep=>?_
  have sh1:Qcx ρ1:=hSh.bind eb
  refine⟨ρc,[],Fc,ir.items[i],G0,ρ1,relC H3 (s2.trans s3),rp0,shC G0,eb,λσ2 F2 rel2 keep mem2=>⟨λj v hv=>?_,ρ1,[],F2,c,rel2,ec,λH5 s5=>?_⟩⟩
  ·have hj:j∉t.slots:=λhj=>by
    rw[← hσc,Zx]at hv
    cases qc:cap[j]? with
    | none=>rw[qc]at hv;cases hv
    | some o=>
     cases o with
     | none=>rw[qc]at hv;cases hv
     | some k=>exact hc.apart j k qc hj
   rw[keep j hj];exact hv
  have s15:Qz H1 H5:=(s2.trans s3).trans s5
  have eD5:H5 Dl=some (.lst acc):=s5 _ _ (s3 _ _ eD)
  cases c with
  | false=>
   rw[if_neg ZH]at hstep
   refine Qo8 ?_
   cases hstep
   exact⟨_,by omega,rfl,hlt,s15,eD5,ys,g,G,hrest,rps.same (s3.trans s5),by omega,hG,hcnt⟩
  | true=>
   rw[if_pos rfl]at hstep
   refine Qqc ?_
   obtain⟨rr,er,hstep⟩:=Zg.mp hstep
   subst hstep
   refine⟨ρ1,[],F2,rr,rel2.ext s5,er,λy H6 Ge pe=>?_⟩
   have eD6:H6 Dl=some (.lst acc):=pe.same _ _ eD5
   have s16:=s15.trans pe.same
   refine⟨eD6,?_,_,by omega,rfl,hlt,?_⟩
   ·rw[← rps.length];exact Nat.lt_of_le_of_lt hlen (Zs hlt hz)
   have hGe:∀a∈Ge,a≠Dl/\(H1 a=none∨(∃t∈ts,a∈t.2.2)∨∃j,a∈Fc j):=λa ha=>by
    rcases pe.src a ha with z | ⟨j,d,b,ej,hj,_⟩
    ·exact⟨λw=>(by rw[w,eD5]at z;cases z),.inl (s15.free z)⟩
    ·have h1:(∃t∈ts,a∈t.2.2)∨∃j,a∈Fc j:=by
      rcases mem2 j a hj with w | w
      ·exact .inr ⟨j,w⟩
      ·exact .inl (hG0 a w)
     obtain⟨⟨vs,w⟩,_⟩:=oldOf a h1
     exact⟨λw'=>(by rw[w',hD]at w;cases w),.inr h1⟩
   have nD:Dl∉G:=λh=>(hG _ h).1 rfl
   have nDe:Dl∉Ge:=λh=>(hGe _ h).1 rfl
   have sU:Qz H1 (L2.upd H6 Dl (.lst (acc++[y]))):=λb o hb=>by rw[QE (Qbh hb hD)];exact s16 b o hb
   refine⟨sU,Qaz,ys++[rr.d],g && rr.norm.fr,G++Ge,hrest,?_,by rw[Zf,ZaJ];omega,λa ha=>?_,λhg=>?_⟩
   ·refine Rps.append ((rps.same ((s3.trans s5).trans pe.same)).upd eD6 nD) ?_
    simp only[Rps]
    exact⟨y,[],Ge,[],rfl,by simp,pe.rp.upd eD6 nDe,rfl,rfl⟩
   ·rcases Zy.mp ha with h | h
    ·exact hG a h
    ·exact hGe a h
   ·simp only[Zh]at hg
    obtain⟨l1,c1⟩:=hcnt hg.1
    have pn:=pe.norm
    obtain⟨c2,l2⟩:=pn.cnt hg.2
    rw[rr.Qdn]at l2
    have nlapp:∀(as bs:List D),nls (as++bs)=nls as+nls bs:=λas bs=>by
     induction as with
     | nil=>simp[nls]
     | cons a as ih=>simp only[ZaC,nls,ih];omega
    refine⟨by rw[Zf,l1,l2,nlapp];simp[nls],λa=>?_⟩
    have fl:((rr.norm.M.map F2).flatten).count a=0:=by
     rw[ZI]
     intro hm
     obtain⟨l,hl,hal⟩:=ZaL.mp hm
     obtain⟨j,hj,rfl⟩:=ZA.mp hl
     obtain⟨d,ej⟩:=pn.own j hj
     have hf:=sh1 j d ej
     obtain⟨v,_,rv⟩:=rel2.val j d true ej
     rw[rv.Qbi hf]at hal
     simp at hal
    have h1:=c1 a
    have h2:=c2 a
    rw[fl]at h2
    rw[Zaa]
    cases q5:H5 a with
    | some o=>rw[Qc2 q5]at h2;omega
    | none=>
     rw[QaX q5]at h2
     have h0:G.count a=0:=ZI.mpr λhm=>by
      obtain⟨vs,w⟩:=rps.mem a hm
      rw[s5 _ _ (s3 _ _ w)]at q5;cases q5
     rw[QaX (s15.free q5)]
     omega
 ·have hn:i=ir.items.length:=by omega
  subst hn
  refine .inl ⟨wk.stop H2 (heldOf H2 s2),?_⟩
  rw[List.drop_length]at hfold
  have:(ys,g)=(xs,f):=Option.some.inj hfold
  cases this
  have rp:Rp X.K H2 (.lst xs) (.ref Dl) (Dl::G):=Rp.QeT eD rps (Zu hlen hz)
  have hHD:H Dl=none:=s1.free hD
  split at q
  ·rename_i hg
   have hg:f=true:=hg
   obtain⟨l1,c1⟩:=hcnt hg
   have hn:∀a∈G,H1 a=none:=λa ha=>by
    have:=c1 a
    have h2:0<G.count a:=Zaj.mpr ha
    cases w:H1 a with
    | none=>rfl
    | some o=>rw[Qc2 w]at this;omega
   refine q _ H2 (Dl::G) ⟨s1.trans s2,rp,λa ha=>?_,λ_=>⟨λa=>?_,by simp only[D.nl,Zr,l1]⟩,Qa1.nil⟩
   ·rcases Zn.mp ha with rfl | h
    ·exact .inl hHD
    ·exact .inl (s1.free (hn a h))
   ·rw[Zav]
    have h1:=c1 a
    split
    ·rename_i w
     have w:Dl=a:=by simpa using w
     subst w
     have h0:G.count Dl=0:=ZI.mpr λh=>(hG _ h).1 rfl
     rw[QaX hHD];omega
    ·cases w:H1 a with
     | none=>rw[QaX w]at h1;rw[QaX (s1.free w)];omega
     | some o=>rw[Qc2 w]at h1;omega
  ·refine q _ H2 (Dl::G) ⟨s1.trans s2,rp,λa ha=>?_,λz=>(by cases z),?_⟩
   ·rcases Zn.mp ha with rfl | h
    ·exact .inl hHD
    ·rcases(hG a h).2 with z | z
     ·exact .inl (s1.free z)
     ·exact(oldOf a z).2
   ·refine ow.append λi hi=>?_
    unfold Qmz at hi
    obtain⟨o,_,ho⟩:=ZaF.mp hi
    cases o with
    | none=>cases ho
    | some k=>
     simp only[Za]at ho
     split at ho
     ·rename_i d b hk
      split at ho
      ·rename_i hb
       cases ho
       simp only[Zh]at hb
       rw[hb.1]at hk
       exact⟨d,hk⟩
      ·cases ho
     ·cases ho
section
variable {X:Cx}{tg iter elt:Expr}{ifs:List Expr}{scope:Scope}{N':List Str}{pos:Pos}{fi:DI}{t:Tg}{cap:List (Option Nat)}{ft:DT}{fe:DE}
theorem Qsu(hcalm:X.calm=true)(S:Qdm X N' scope)(hi:SI X tg iter fi)(hcap:QjC X N' scope cap t.slots)
  (hin:∀cl C fp s3 H3,SG (cxc X N' scope cl C fp s3 H3) tg t/\Qj6 (cxc X N' scope cl C fp s3 H3) ifs ft/\SE (cxc X N' scope cl C fp s3 H3) elt fe) (hs:∀x,foldedSetIterable iter X.env x=pure x):
  SE X (.ListComp elt [⟨tg,iter,ifs,0⟩] scope pos) (Qax fi t cap ft fe):=λH0 A0=>
 (Ql1 hcalm S (hi H0 A0) (λcl C fp s3 H3=>⟨(hin cl C fp s3 H3).1 _ _,(hin cl C fp s3 H3).2.1 _ _,(hin cl C fp s3 H3).2.2 _ _⟩) hs).mono λσ H Q h=>QiP hcap h
end
end HS
namespace HS
open PySem PySem.Spec L2
inductive Out where
 | nx (ρ:En)
 | bk (ρ:En)
 | ct (ρ:En)
 | rt (d:D) (fr:Bool)
noncomputable abbrev DS:=En->Option Out
noncomputable def Fits(K:PySem.W.Frag)(H0:Hp)(A0:List Addr)(hs:List (V×D×List Addr))(E:Ends):Out->Prop
 | .nx ρ=>∀σ H F,Rel K H0 A0 hs ρ F σ H->E.nx σ H
 | .bk ρ=>∀σ H F,Rel K H0 A0 hs ρ F σ H->E.bk σ H
 | .ct ρ=>∀σ H F,Rel K H0 A0 hs ρ F σ H->E.ct σ H
 | .rt d fr=>∀v H G,Ret K H0 A0 d fr v H G->E.rt v H
noncomputable def tS(K:PySem.W.Frag)(H0:Hp)(A0:List Addr)(f:DS):TS:=λE σ H=>∃ρ hs F o,Rel K H0 A0 hs ρ F σ H/\f ρ=some o/\Fits K H0 A0 hs E o
def S1(X:Cx)(st:Stmt)(f:DS):Prop:=∀H0 A0,PS X st (tS X.K H0 A0 f)
def SS(X:Cx)(sts:List Stmt)(f:DS):Prop:=∀H0 A0,PSs X sts (tS X.K H0 A0 f)
theorem _root_.L2.PS.mono(h:PS X st t)(m:∀D σ H,t' D σ H->t D σ H):PS X st t':=λpins s σ H D I q=>h pins s σ H D I (m D σ H q)
theorem _root_.L2.PSs.mono(h:PSs X st t)(m:∀D σ H,t' D σ H->t D σ H):PSs X st t':=λpins s σ H D I q=>h pins s σ H D I (m D σ H q)
noncomputable def Qg:DS:=λρ=>some (.nx ρ)
noncomputable def Qd(f g:DS):DS:=λρ=>(f ρ).bind λo=>match o with
 | .nx ρ'=>g ρ'
 | .bk ρ'=>some (.bk ρ')
 | .ct ρ'=>some (.ct ρ')
 | .rt d fr=>some (.rt d fr)
noncomputable def QpP:DS:=λρ=>some (.bk ρ)
noncomputable def QoS:DS:=λρ=>some (.ct ρ)
noncomputable def Qu(i:Nat)(fa:DE):DS:=λρ=>(fa ρ).bind λr=>some (.nx (asg i r ρ))
noncomputable def Qb8(fa:DE):DE:=λρ=>(fa ρ).map λr=>⟨r.d,false,r.M⟩
noncomputable def QX(fa:DE):DS:=λρ=>(fa ρ).bind λr=>some (.rt r.d (r.norm.fr && decide r.norm.M.Nodup))
noncomputable def QjG:DS:=λ_=>some (.rt .non true)
noncomputable def Qef(fa:DE):DS:=λρ=>(fa ρ).bind λ_=>some (.nx ρ)
noncomputable def sIf(g:DT)(f1 f2:DS):DS:=λρ=>(g ρ).bind λb=>if b=true then f1 ρ else f2 ρ
noncomputable def QcF(t:Tg)(fb:DS):List D->DS
 | [],ρ=>some (.nx ρ)
 | d::ds,ρ=>(Qbm t d ρ).bind λρ1=>(fb ρ1).bind λo=>match o with
  | .nx ρ2=>QcF t fb ds ρ2
  | .ct ρ2=>QcF t fb ds ρ2
  | .bk ρ2=>some (.nx ρ2)
  | .rt d fr=>some (.rt d fr)
noncomputable def Qa6(fi:DI)(t:Tg)(fb:DS):DS:=λρ=>(fi ρ).bind λir=>QcF t fb ir.items (QcC ir.M ρ)
noncomputable def QaE(g:DT)(fb:DS):Nat->DS
 | 0,_=>none
 | n+1,ρ=>(g ρ).bind λb=>if b=true then(fb ρ).bind λo=>match o with
  | .nx ρ2=>QaE g fb n ρ2
  | .ct ρ2=>QaE g fb n ρ2
  | .bk ρ2=>some (.nx ρ2)
  | .rt d fr=>some (.rt d fr)
  else some (.nx ρ)
noncomputable def QgA(g:D->D->Option D)(i:Nat)(fa:DE):DS:=λρ=>match ρ[i]? with
 | some (some (d,_))=>(fa ρ).bind λr=>(g d r.d).map λd'=> .nx (ρ.set i (some (d',true)))
 | _=>none
section
theorem QuD:SS X [] Qg:=λH0 A0=>QrP.mono λE σ H=>exK λρ hs F o rel e q=>by
 cases e
 exact q σ H F rel
theorem QqY(h1:S1 X st f)(h2:SS X sts g):SS X (st::sts) (Qd f g):=λH0 A0=>(QgJ (h1 H0 A0) (h2 H0 A0)).mono λE σ H=>exK λρ hs F o rel e q=>by
 refine Qf e λo1 e1 e=>?_
 refine⟨ρ,hs,F,o1,rel,e1,?_⟩
 cases o1 with
 | nx ρ'=>exact λσ' H' F' rel'=>⟨ρ',hs,F',o,rel',e,q⟩
 | bk ρ'=>cases e;exact q
 | ct ρ'=>cases e;exact q
 | rt d fr=>cases e;exact q
theorem QsF:S1 X (.Pass pos) Qg:=λH0 A0=>QrT.mono λE σ H=>exK λρ hs F o rel e q=>by
 cases e
 exact q σ H F rel
theorem QpL:S1 X (.Break pos) QpP:=λH0 A0=>Qqa.mono λE σ H=>exK λρ hs F o rel e q=>by
 cases e
 exact q σ H F rel
theorem QqT:S1 X (.Continue pos) QoS:=λH0 A0=>Qlv.mono λE σ H=>exK λρ hs F o rel e q=>by
 cases e
 exact q σ H F rel
theorem Qpv(h:SE X e fa):SE X e (Qb8 fa):=λH0 A0=>(h H0 A0).mono λσ H Q=>exK λρ hs F r rel e q=>by
 obtain⟨r',e1,rfl⟩:=Zg.mp e
 exact⟨ρ,hs,F,r',rel,e1,λv H' G p=>q v H' G ⟨p.same,p.rp,p.src,λz=>(by cases z),p.own⟩⟩
theorem QkK(h:∀H0 A0,PS X st (Qix (tV X.K H0 A0 fa) (Qei i))):S1 X st (Qu i fa):=λH0 A0=>(h H0 A0).mono λE σ H=>exK λρ hs F o rel e q=>by
 refine Qf e λr e1 e=>?_
 cases e
 refine⟨ρ,hs,F,r,rel,e1,λv H' G p=>?_⟩
 obtain⟨F',rel'⟩:=rel.asg (i:=i) p
 exact q _ _ F' rel'
theorem QqL(h:PS X st (Qe8 (tV X.K H0 A0 fa))):PS X st (tS X.K H0 A0 (Qef fa)):=h.mono λE σ H=>exK λρ hs F o rel e q=>by
 refine Qf e λr e1 e=>?_
 cases e
 exact⟨ρ,hs,F,r,rel,e1,λv H' G p=>q σ H' F (rel.ext p.same)⟩
theorem Rel.ret(rel:Rel K H0 A0 hs ρ F σ H)(p:QR K ρ F H H' r v G):Ret K H0 A0 r.d (r.norm.fr && decide r.norm.M.Nodup) v H' G where
 same:=rel.same.trans p.same
 rp:=p.rp
 src:=λa ha=>by
  rcases p.src a ha with z | ⟨i,d,b,e,m,_⟩
  ·exact .inl (rel.same.free z)
  ·exact rel.src i d b e a m
 cnt:=λh=>by
  simp only[Zh,decide_eq_true_eq]at h
  have p':=p.norm
  obtain⟨h1,h2⟩:=p'.fresh rel h.1 h.2
  have h3:=(p'.cnt h.1).2
  rw[r.Qdn]at h3
  exact⟨h1,h3,λa ha=>(h2 a ha).1⟩
theorem QsJ(he:SE X e fa):S1 X (.Return (some e) pos) (QX fa):=λH0 A0=>(Qty (he H0 A0)).mono λE σ H=>exK λρ hs F o rel e q=>by
 refine Qf e λr e1 e=>?_
 cases e
 exact⟨ρ,hs,F,r,rel,e1,λv H' G p=>q v H' G (rel.ret p)⟩
theorem Qsk:S1 X (.Return none pos) QjG:=λH0 A0=>Qsl.mono λE σ H=>exK λρ hs F o rel e q=>by
 cases e
 exact q .non H [] ⟨rel.same,.QeE,λa ha=>(by simp at ha),λ_=>⟨Zas,rfl,λa ha=>(by simp at ha)⟩⟩
theorem QvJ(hc:ST X c gc)(ha:SS X a f)(hb:SS X b g):S1 X (.If c a b pos) (sIf gc f g):=λH0 A0=>(Qvq (hc H0 A0) (ha H0 A0) (hb H0 A0)).mono λE σ H=>exK λρ hs F o rel e q=>by
 refine Qf e λc e1 e=>?_
 refine⟨ρ,hs,F,c,rel,e1,λH1 s1=>?_⟩
 cases c with
 | true=>exact Qqc ⟨ρ,hs,F,o,rel.ext s1,e,q⟩
 | false=>exact Qo8 ⟨ρ,hs,F,o,rel.ext s1,e,q⟩
theorem Qup(hp:PassesOwn (model X.prog X.w) X.A X.env X.xe)(hc:X.calm=true)(hi:SI X tg iter fi)(hg:SG X tg t)(hb:SS X body f)(hs:∀x,foldedSetIterable iter X.env x=pure x):
  S1 X (.For tg iter body [] pos) (Qa6 fi t f):=λH0 A0=>(QtJ hp hc (hi H0 A0) (hg H0 A0) (hb H0 A0) hs).mono λE σ H=>exK λρ hs F o rel e q=>by
 refine Qf e λir e1 e=>?_
 refine⟨ρ,hs,F,ir,rel,e1,λJ H1 ts s1 wk hts ow hz=>?_⟩
 have rel1:Rel X.K H0 A0 (ts++hs) (QcC ir.M ρ) F σ H1:=((rel.ext s1).weak (QcA ir.M ρ)).hold λt ht=>⟨(hts t ht).1,Shr.of rel (hts t ht).2⟩
 refine⟨λi m σ' H'=>m=ir.items.length-i/\i<=ir.items.length/\∃ρi Fi,Rel X.K H0 A0 (ts++hs) ρi Fi σ' H'/\QcF t f (ir.items.drop i) ρi=some o,⟨_,rfl,Zac _,_,F,rel1,by simpa using e⟩,?_⟩
 rintro i m σ' H' ⟨rfl,hi',ρi,Fi,reli,ei⟩
 have held:QjS X.K H' ts:=λt ht=>(reli.held t (Zi _ ht)).1
 by_cases hlt:i<ir.items.length
 ·rw[ZL hlt]at ei
  unfold QcF at ei
  refine Qf ei λρ1 eb ei=>?_
  refine Qf ei λo1 eo ei=>?_
  refine .inr ⟨wk.go i H' hlt held,λσ2 H2=>∃ρ2 F2,Rel X.K H0 A0 (ts++hs) ρ2 F2 σ2 H2/\QcF t f (ir.items.drop (i+1)) ρ2=some o,λσ2 H2 ⟨ρ2,F2,rel2,e2⟩=>⟨_,by omega,rfl,hlt,ρ2,F2,rel2,e2⟩,λx H2 hy=>?_⟩
  obtain⟨s2,G0,rp0,hG0⟩:=wk.yld i ir.items[i] H' x H2 (by simp[hlt]) held hy
  have shr:Shr H0 A0 ρi Fi G0:=λa ha=>by
   obtain⟨t,ht,hat⟩:=hG0 a ha
   exact⟨(reli.held t (Zi _ ht)).2 a hat,λj d ej hj=>(reli.own j d ej).2.2.2.2 t (Zi _ ht) a hj hat⟩
  refine⟨ρi,ts++hs,Fi,ir.items[i],G0,ρ1,reli.ext s2,rp0,shr,eb,λσ3 F3 rel3 _ _=>⟨ρ1,ts++hs,F3,o1,rel3,eo,?_⟩⟩
  cases o1 with
  | nx ρ2=>exact λσ4 H4 F4 rel4=>⟨ρ2,F4,rel4,ei⟩
  | ct ρ2=>exact λσ4 H4 F4 rel4=>⟨ρ2,F4,rel4,ei⟩
  | bk ρ2=>cases ei;exact λσ4 H4 F4 rel4=>q σ4 H4 F4 rel4.Qkb
  | rt d fr=>cases ei;exact q
 ·have hn:i=ir.items.length:=by omega
  subst hn
  rw[List.drop_length]at ei
  cases ei
  exact .inl ⟨wk.stop H' held,q σ' H' Fi reli.Qkb⟩
theorem Qp6(hp:PassesOwn (model X.prog X.w) X.A X.env X.xe)(hc:ST X c gc)(hb:SS X body f):S1 X (.While c body [] pos) (QaE gc f n):=λH0 A0=>(Qo1 hp (hc H0 A0) (hb H0 A0)).mono λE σ H=>exK λρ hs F o rel e q=>by
 refine⟨λm σ' H'=>∃ρi Fi,Rel X.K H0 A0 hs ρi Fi σ' H'/\QaE gc f m ρi=some o,⟨n,ρ,F,rel,e⟩,?_⟩
 rintro m σ' H' ⟨ρi,Fi,reli,ei⟩
 cases m with
 | zero=>cases ei
 | succ m=>
  unfold QaE at ei
  refine Qf ei λb eb ei=>?_
  refine⟨ρi,hs,Fi,b,reli,eb,λH1 s1=>?_⟩
  cases b with
  | false=>
   rw[if_neg ZH]at ei
   cases ei
   exact Qo8 (q σ' H1 Fi (reli.ext s1))
  | true=>
   rw[if_pos rfl]at ei
   refine Qf ei λo1 eo ei=>?_
   refine Qqc ⟨λσ2 H2=>∃ρ2 F2,Rel X.K H0 A0 hs ρ2 F2 σ2 H2/\QaE gc f m ρ2=some o,λσ2 H2 h=>⟨m,Zbb _,h⟩,ρi,hs,Fi,o1,reli.ext s1,eo,?_⟩
   cases o1 with
   | nx ρ2=>exact λσ4 H4 F4 rel4=>⟨ρ2,F4,rel4,ei⟩
   | ct ρ2=>exact λσ4 H4 F4 rel4=>⟨ρ2,F4,rel4,ei⟩
   | bk ρ2=>cases ei;exact λσ4 H4 F4 rel4=>q σ4 H4 F4 rel4
   | rt d fr=>cases ei;exact q
theorem Rel.QvV(rel:Rel K H0 A0 hs ρ F σ H)(rp:Rp K H d v [])(hf:d.flat=true):
  ∃F',Rel K H0 A0 hs (ρ.set i (some (d,true))) F' (σ.set i (some v)) H:=by
 have:=rel.QmZ (i:=i) rp (λa ha=>by simp at ha)
 rw[hf]at this
 exact⟨_,this⟩
theorem Qti(ho:OpR X (inplaceOp op) r)(hg:Qbj X.K g r)(h:∀te ti,PE X e te->PIp X op ti->PS X (.AugAssign (.Name x pos') op e pos) (QtX i te ti))(he:SE X e fa):S1 X (.AugAssign (.Name x pos') op e pos) (QgA g i fa):=λH0 A0=>
 (h _ _ (he H0 A0) (λpins s σ H x y v u Q I rx ry q=>Qta ho I rx ry q)).mono λE σ H=>exK λρ hs F o rel e q=>by
  unfold QgA at e
  split at e
  ·rename_i d b hd
   refine Qf e λr' e1 e=>?_
   obtain⟨d',e2,e⟩:=Zg.mp e
   subst e
   obtain⟨v,h1,h2⟩:=rel.val i d b hd
   refine⟨v,h1,ρ,hs,F,r',rel,e1,λy H1 G p=>(hg _ _ _ e2).2 H1 v y (F i) G _ (h2.same p.same) p.rp λw hw=>?_⟩
   obtain⟨F',rel'⟩:=(rel.ext p.same).QvV (i:=i) (hw H1) (hg _ _ _ e2).1
   exact q _ _ F' rel'
  ·cases e
end
end HS
namespace HS
open PySem PySem.Spec L2 PyProof.Rows
end HS
namespace HS
open PySem PySem.Spec L2
section
variable {K:PySem.W.Frag}{H H':Hp}
theorem Rps.split:∀{ds:List D}{vs:List V}{F:List Addr}{j:Nat}{d:D},Rps K H ds vs F->ds[j]? =some d→
  ∃F1 G F2 v,F=F1++(G++F2)/\vs[j]? =some v/\Rps K H (ds.take j) (vs.take j) F1/\Rp K H d v G/\Rps K H (ds.drop (j+1)) (vs.drop (j+1)) F2
 | [],_,_,_,_,_,e=>by simp at e
 | d::ds,_,_,0,_,h,e=>by
  simp only[Rps]at h
  obtain⟨v,ws,F1,F2,rfl,rfl,r,q⟩:=h
  simp at e;subst e
  exact⟨[],F1,F2,v,rfl,by simp,by simp[Rps],r,by simpa using q⟩
 | d::ds,_,_,j+1,_,h,e=>by
  simp only[Rps]at h
  obtain⟨v,ws,F1,F2,rfl,rfl,r,q⟩:=h
  obtain⟨G1,G,G2,v',h1,h2,h3,h4,h5⟩:=Rps.split q (by simpa using e)
  refine⟨F1++G1,G,G2,v',by rw[h1,ZT],by simpa using h2,?_,h4,by simpa using h5⟩
  simp only[List.take_succ_cons,Rps]
  exact⟨v,_,F1,G1,rfl,rfl,r,h3⟩
theorem Rps.join{ds:List D}{vs:List V}{F1 G F2:List Addr}{j:Nat}{d:D}{v:V}(h1:Rps K H (ds.take j) (vs.take j) F1)(hd:Rp K H d v G)(h2:Rps K H (ds.drop (j+1)) (vs.drop (j+1)) F2)(hj:j<ds.length)(hv:vs[j]? =some v):
  Rps K H (ds.set j d) vs (F1++(G++F2)):=by
 have e1:ds.set j d=ds.take j++d::ds.drop (j+1):=Zau .. |>.trans (by rw[if_pos hj])
 have hjv:j<vs.length:=(Zd.mp hv).1
 have hve:vs[j]=v:=(Zd.mp hv).2
 have e2:vs=vs.take j++v::vs.drop (j+1):=by
  rw[← hve,← ZL hjv,Zat]
 rw[e1,e2]
 refine h1.append ?_
 simp only[Rps]
 refine⟨v,_,G,F2,rfl,rfl,hd,h2⟩
theorem Rps.Qvk{ds:List D}{vs:List V}{F1 G F2:List Addr}{j:Nat}{d:D}{v:V}(h1:Rps K H (ds.take j) (vs.take j) F1)(hd:Rp K H d v G)(h2:Rps K H (ds.drop (j+1)) (vs.drop (j+1)) F2)(hj:j<ds.length)(hv:j<vs.length):
  Rps K H (ds.set j d) (vs.set j v) (F1++(G++F2)):=by
 have e1:ds.set j d=ds.take j++d::ds.drop (j+1):=Zau .. |>.trans (by rw[if_pos hj])
 have e2:vs.set j v=vs.take j++v::vs.drop (j+1):=Zau .. |>.trans (by rw[if_pos hv])
 rw[e1,e2]
 refine h1.append ?_
 simp only[Rps]
 exact⟨v,_,G,F2,rfl,rfl,hd,h2⟩
noncomputable def Focus(K:PySem.W.Frag)(H:Hp):List Int->D->V->List Addr->D->V->List Addr->Prop
 | [],d,v,F,dm,w,Gm=>dm=d/\w=v/\Gm=F/\Rp K H d v F
 | i::is,d,v,F,dm,w,Gm=>∃(ds:List D) (a:Addr) (vs:List V) (j:Nat) (F1 G F2:List Addr) (d':D) (v':V),v= .ref a/\ixN ds.length i=some j∧
   ((d= .lst ds/\ds.length<=sizeLine/\((F=a::(F1++(G++F2))/\H a=some (.lst vs))∨(F=F1++(G++F2)/\Fix K H a vs)))∨(d= .tup ds/\F=F1++(G++F2)/\SqT K H a vs))∧
   Rps K H (ds.take j) (vs.take j) F1/\Rps K H (ds.drop (j+1)) (vs.drop (j+1)) F2/\ds[j]? =some d'/\vs[j]? =some v'/\ds.length=vs.length/\Focus K H is d' v' G dm w Gm
theorem Focus.same(s:Qz H H'):∀{is:List Int}{d:D}{v:V}{F:List Addr}{dm:D}{w:V}{Gm:List Addr},Focus K H is d v F dm w Gm->Focus K H' is d v F dm w Gm
 | [],_,_,_,_,_,_,h=>⟨h.1,h.2.1,h.2.2.1,h.2.2.2.same s⟩
 | i::is,_,_,_,_,_,_,h=>by
  obtain⟨ds,a,vs,j,F1,G,F2,d',v',h1,h2,h3,h4,h5,h6,h7,h8,h9⟩:=h
  refine⟨ds,a,vs,j,F1,G,F2,d',v',h1,h2,?_,h4.same s,h5.same s,h6,h7,h8,h9.same s⟩
  rcases h3 with⟨e,z,q⟩ | ⟨e,eF,q⟩
  ·refine .inl ⟨e,z,?_⟩
   rcases q with⟨eF,q⟩ | ⟨eF,q⟩
   ·exact .inl ⟨eF,s _ _ q⟩
   ·exact .inr ⟨eF,QkB s q⟩
  ·exact .inr ⟨e,eF,Qj3 s q⟩
theorem Focus.rp:∀{is:List Int}{d:D}{v:V}{F:List Addr}{dm:D}{w:V}{Gm:List Addr},Focus K H is d v F dm w Gm->Rp K H dm w Gm
 | [],_,_,_,_,_,_,h=>by
  obtain⟨rfl,rfl,rfl,r⟩:=h
  exact r
 | i::is,_,_,_,_,_,_,h=>by
  obtain⟨ds,a,vs,j,F1,G,F2,d',v',h1,h2,h3,h4,h5,h6,h7,h8,h9⟩:=h
  exact h9.rp
theorem Focus.QnQ:∀{is:List Int}{d:D}{v:V}{F:List Addr}{dm:D}{w:V}{Gm:List Addr},Focus K H is d v F dm w Gm->Rp K H d v F
 | [],_,_,_,_,_,_,h=>h.2.2.2
 | i::is,_,_,_,_,_,_,h=>by
  obtain⟨ds,a,vs,j,F1,G,F2,d',v',rfl,h2,h3,h4,h5,h6,h7,h8,h9⟩:=h
  have hjl:j<ds.length:=(Zd.mp h6).1
  have hdj:ds[j]=d':=(Zd.mp h6).2
  have j1:=Rps.join h4 h9.QnQ h5 hjl h7
  rw[show ds.set j d'=ds by rw[← hdj];exact List.set_getElem_self hjl]at j1
  rcases h3 with⟨rfl,hz,⟨rfl,q⟩ | ⟨rfl,q⟩⟩ | ⟨rfl,rfl,q⟩
  ·exact Rp.QeT q j1 hz
  ·simp only[Rp]
   exact⟨hz,a,vs,rfl,.inr ⟨q,j1⟩⟩
  ·simp only[Rp]
   exact⟨a,vs,rfl,q,j1⟩
theorem Focus.one(r:Rp K H d v F)(hd:d.items=some ds)(hi:atI ds i=some d'):
  ∃a vs v' G,v= .ref a/\((d= .lst ds/\SqL K H a vs)∨(d= .tup ds/\SqT K H a vs))/\atI vs i=some v'/\Focus K H [i] d v F d' v' G:=by
 unfold atI at hi
 cases hj:ixN ds.length i with
 | none=>rw[hj]at hi;cases hi
 | some j=>
  rw[hj]at hi
  have hdj:ds[j]? =some d':=hi
  have fin:∀(vs:List V) (L:List Addr),Rps K H ds vs L->∃v' G F1 F2,L=F1++(G++F2)/\vs[j]? =some v'/\atI vs i=some v'/\Rps K H (ds.take j) (vs.take j) F1/\Rp K H d' v' G/\Rps K H (ds.drop (j+1)) (vs.drop (j+1)) F2/\ds.length=vs.length:=λvs L rl=>by
   obtain⟨F1,G,F2,v',h1,h2,h3,h4,h5⟩:=rl.split hdj
   refine⟨v',G,F1,F2,h1,h2,?_,h3,h4,h5,rl.length⟩
   unfold atI
   rw[← rl.length,hj]
   exact h2
  cases d with
  | lst xs=>
   cases hd
   simp only[Rp]at r
   obtain⟨hz,a,vs,rfl,⟨L,rfl,q,rl⟩ | ⟨q,rl⟩⟩:=r
   ·obtain⟨v',G,F1,F2,h1,h2,h3,h4,h5,h6,h7⟩:=fin vs L rl
    exact⟨a,vs,v',G,rfl,.inl ⟨rfl,SqL.of q⟩,h3,ds,a,vs,j,F1,G,F2,d',v',rfl,hj,.inl ⟨rfl,hz,.inl ⟨by rw[h1],q⟩⟩,h4,h6,hdj,h2,h7,rfl,rfl,rfl,h5⟩
   ·obtain⟨v',G,F1,F2,h1,h2,h3,h4,h5,h6,h7⟩:=fin vs _ rl
    exact⟨a,vs,v',G,rfl,.inl ⟨rfl,q.sq⟩,h3,ds,a,vs,j,F1,G,F2,d',v',rfl,hj,.inl ⟨rfl,hz,.inr ⟨h1,q⟩⟩,h4,h6,hdj,h2,h7,rfl,rfl,rfl,h5⟩
  | tup xs=>
   cases hd
   obtain⟨a,vs,rfl,q,rl⟩:=r.QaW
   obtain⟨v',G,F1,F2,h1,h2,h3,h4,h5,h6,h7⟩:=fin vs _ rl
   exact⟨a,vs,v',G,rfl,.inr ⟨rfl,q⟩,h3,ds,a,vs,j,F1,G,F2,d',v',rfl,hj,.inr ⟨rfl,h1,q⟩,h4,h6,hdj,h2,h7,rfl,rfl,rfl,h5⟩
  | _=>cases hd
theorem Focus.snoc:∀{is:List Int}{d:D}{v:V}{F:List Addr}{dm:D}{w:V}{Gm:List Addr}{i:Int}{d':D}{v':V}{G:List Addr},Focus K H is d v F dm w Gm->Focus K H [i] dm w Gm d' v' G->Focus K H (is++[i]) d v F d' v' G
 | [],_,_,_,_,_,_,_,_,_,_,h,g=>by
  obtain⟨rfl,rfl,rfl,r⟩:=h
  exact g
 | k::is,_,_,_,_,_,_,_,_,_,_,h,g=>by
  obtain⟨ds,a,vs,j,F1,G,F2,d',v',h1,h2,h3,h4,h5,h6,h7,h8,h9⟩:=h
  exact⟨ds,a,vs,j,F1,G,F2,d',v',h1,h2,h3,h4,h5,h6,h7,h8,h9.snoc g⟩
noncomputable def Qbo:D->List Int->Option D
 | d,[]=>some d
 | d,i::is=>(d.items).bind λds=>(atI ds i).bind λd'=>Qbo d' is
theorem Qhd:∀{is:List Int}{d:D}{i:Int}{d':D},Qbo d (is++[i])=some d'->∃dm ds,Qbo d is=some dm/\dm.items=some ds/\atI ds i=some d'
 | [],d,i,d',h=>by
  refine Qf h λds h1 h=>?_
  refine Qf h λd'' h2 h=>?_
  cases h
  exact⟨d,ds,rfl,h1,h2⟩
 | k::is,d,i,d',h=>by
  refine Qf h λds h1 h=>?_
  refine Qf h λd'' h2 h=>?_
  obtain⟨dm,es,h3,h4,h5⟩:=Qhd h
  refine⟨dm,es,?_,h4,h5⟩
  simp only[Qbo,h1,h2,Za,h3]
noncomputable def QaP:List Int->D->D->D
 | [],_,new=>new
 | i::is,.lst ds,new=>match ixN ds.length i with
  | some j=> .lst (ds.set j (QaP is (ds.getD j .non) new))
  | none=> .lst ds
 | i::is,.tup ds,new=>match ixN ds.length i with
  | some j=> .tup (ds.set j (QaP is (ds.getD j .non) new))
  | none=> .tup ds
 | _::_,d,_=>d
theorem Qf7:∀{ds:List D}{j:Nat}{d e:D},ds[j]? =some d->nls (ds.set j e)+d.nl=nls ds+e.nl
 | [],_,_,_,h=>by simp at h
 | x::ds,0,d,e,h=>by simp at h;subst h;simp only[List.set_cons_zero,nls];omega
 | x::ds,j+1,d,e,h=>by
  have:=Qf7 (e:=e) (by simpa using h)
  simp only[List.set_cons_succ,nls];omega
theorem QcX:∀(as bs:List D),nls (as++bs)=nls as+nls bs
 | [],bs=>by simp[nls]
 | a::as,bs=>by simp only[ZaC,nls,QcX as bs];omega
theorem Focus.mut:∀{is:List Int}{d:D}{v:V}{F:List Addr}{Gm:List Addr},Focus K H is d v F (.lst dsm) (.ref p) Gm->F.Nodup->F.length=d.nl→
  ∃vsm Gp,H p=some (.lst vsm)/\Gm=p::Gp/\Rps K H dsm vsm Gp/\Gp.length=nls dsm/\p∈F/\(∀a∈Gp,a∈F)/\p∉Gp∧
   (Rps K (upd H p (.lst vs')) ds' vs' G'->ds'.length<=sizeLine->G'.length=nls ds'→
    ∃F',Rp K (upd H p (.lst vs')) (QaP is d (.lst ds')) v F'/\F'.length=(QaP is d (.lst ds')).nl/\∀a,F'.count a+Gp.count a=F.count a+G'.count a)
 | [],d,v,F,Gm,h,nd,hl=>by
  obtain⟨rfl,rfl,rfl,r⟩:=h
  simp only[Rp]at r
  obtain⟨hz,a,vs,e,h⟩:=r
  cases e
  rcases h with⟨L,rfl,q,rl⟩ | ⟨q,rl⟩
  ·obtain⟨n1,n2⟩:=Zan.mp nd
   have hl':L.length=nls dsm:=by simp only[D.nl,Zr]at hl;omega
   refine⟨vs,L,q,rfl,rl,hl',Zm,λa ha=>Zb _ ha,n1,λr' hz' hl2=>⟨p::G',Rp.QeT Qaz r' hz',?_,λa=>?_⟩⟩
   ·simp only[QaP,D.nl,Zr,hl2]
   ·rw[Zav,Zav];omega
  ·have:=rl.Qay
   simp only[D.nl]at hl
   omega
 | i::is,d,v,F,Gm,h,nd,hl=>by
  obtain⟨ds,a,vs,j,F1,G,F2,d',v',rfl,hj,h3,h4,h5,h6,h7,h8,h9⟩:=h
  have hjl:j<ds.length:=(Zd.mp h6).1
  have gd:ds.getD j .non=d':=by rw[Zag,h6];rfl
  have l1:=h4.Qay
  have l2:=h5.Qay
  have l3:=h9.QnQ.Qay
  have nlsplit:nls (ds.take j)+(d'.nl+nls (ds.drop (j+1)))=nls ds:=by
   have e1:ds=ds.take j++d'::ds.drop (j+1):=by
    have:ds[j]=d':=(Zd.mp h6).2
    rw[← this,← ZL hjl,Zat]
   have e2:=congrArg nls e1
   rw[QcX]at e2
   simp only[nls]at e2
   exact e2.symm
  have core:(F1++(G++F2)).Nodup->(F1++(G++F2)).length=nls ds->_:=λnd' hl'=>by
   simp only[Zf]at hl'
   have hG:G.length=d'.nl:=by omega
   have ndG:G.Nodup:=(ZaI.mp (ZaI.mp nd').2.1).1
   exact(h9.mut (vs':=vs') (ds':=ds') (G':=G') ndG hG)
  have apart:(F1++(G++F2)).Nodup->p∈G->p∉F1/\p∉F2:=λnd' hp=>by
   have n1:=ZaI.mp nd'
   have n2:=ZaI.mp n1.2.1
   exact⟨λh=>n1.2.2 p h p (Zi _ hp) rfl,λh=>n2.2.2 p hp p h rfl⟩
  have cnt:∀(G'' Gp:List Addr),(∀a,G''.count a+Gp.count a=G.count a+G'.count a)->∀a,(F1++(G''++F2)).count a+Gp.count a=(F1++(G++F2)).count a+G'.count a:=λG'' Gp hc a=>by
   have:=hc a
   simp only[Zaa];omega
  rcases h3 with⟨rfl,hz,⟨rfl,q⟩ | ⟨rfl,q⟩⟩ | ⟨rfl,rfl,q⟩
  ·
   obtain⟨n1,n2⟩:=Zan.mp nd
   have hl':(F1++(G++F2)).length=nls ds:=by simp only[D.nl,Zr]at hl;omega
   obtain⟨vsm,Gp,e1,e2,e3,e4,e5,e6,e7,e8⟩:=core n2 hl'
   have ap:=apart n2 e5
   have hap:a≠p:=λz=>n1 (by rw[z];exact Ze _ (Zi _ e5))
   refine⟨vsm,Gp,e1,e2,e3,e4,Zb _ (Ze _ (Zi _ e5)),λb hb=>Zb _ (Ze _ (Zi _ (e6 b hb))),e7,λr' hz' hl2=>?_⟩
   obtain⟨G'',f1,f2,f3⟩:=e8 r' hz' hl2
   have j1:=Rps.join (h4.upd e1 ap.1) f1 (h5.upd e1 ap.2) hjl h7
   refine⟨a::(F1++(G''++F2)),?_,?_,λb=>?_⟩
   ·simp only[QaP,hj,gd]
    exact Rp.QeT (by rw[QE hap];exact q) j1 (by rw[ZaE];exact hz)
   ·have:=Qf7 (e:=QaP is d' (.lst ds')) h6
    simp only[QaP,hj,gd,D.nl,Zr,Zf,f2]at hl' ⊢
    omega
   ·have:=cnt G'' Gp f3 b
    rw[Zav,Zav];omega
  ·have:(F1++(G++F2)).length<=nls ds:=by simp only[Zf];omega
   simp only[D.nl]at hl
   omega
  ·
   have hl':(F1++(G++F2)).length=nls ds:=by simpa only[D.nl]using hl
   obtain⟨vsm,Gp,e1,e2,e3,e4,e5,e6,e7,e8⟩:=core nd hl'
   have ap:=apart nd e5
   refine⟨vsm,Gp,e1,e2,e3,e4,Ze _ (Zi _ e5),λb hb=>Ze _ (Zi _ (e6 b hb)),e7,λr' hz' hl2=>?_⟩
   obtain⟨G'',f1,f2,f3⟩:=e8 r' hz' hl2
   have j1:=Rps.join (h4.upd e1 ap.1) f1 (h5.upd e1 ap.2) hjl h7
   refine⟨F1++(G''++F2),?_,?_,cnt G'' Gp f3⟩
   ·simp only[QaP,hj,gd,Rp]
    exact⟨a,vs,rfl,QlC e1 q,j1⟩
   ·have:=Qf7 (e:=QaP is d' (.lst ds')) h6
    simp only[QaP,hj,gd,D.nl,Zf,f2]at hl' ⊢
    omega
end
end HS
namespace HS
open PySem PySem.Spec L2
section
theorem Rel.mut(rel:Rel K H0 A0 hs ρ F σ H)(p:QR K ρ F H H1 r vn Gn)(hf:r.fr=true)(nd:r.M.Nodup)(s12:Qz H1 H2)(hx:ρ[x]? =some (some (d,true)))(hxM:x∉r.M)(hv0:σ[x]? =some (some v0))
  {dnew:D}{q:Addr}{F':List Addr}{vsm vs':List V}(e1:H2 q=some (.lst vsm)) (e5:q∈F x) (f1:Rp K (upd H2 q (.lst vs')) dnew v0 F') (f2:F'.length=dnew.nl) (cF:∀a,F'.count a<=(F x).count a+Gn.count a):
  ∃F',Rel K H0 A0 hs ((kill r.M ρ).set x (some (dnew,true))) F' σ (upd H2 q (.lst vs')):=by
 obtain⟨ol,on,o0,oap,oh⟩:=rel.own x d hx
 obtain⟨gn,gs⟩:=p.fresh rel hf nd
 have rel2:=(rel.ext p.same).ext s12
 have relk:=rel2.weak (Qce r.M ρ)
 have apn:∀a∈Gn,a∉F x:=λa ha hax=>by
  rcases(gs a ha).2 with z | ⟨k,d',hk,ek,hak⟩
  ·obtain⟨vs,w⟩:=rel.mem hx hax
   rw[z]at w;cases w
  ·have:k≠x:=λz=>hxM (z▸hk)
   exact oap k d' true this ek a hax hak
 have memF:∀a∈F',a∈F x∨a∈Gn:=λa ha=>by
  have h1:=cF a
  have h2:0<F'.count a:=Zaj.mpr ha
  by_cases h:a∈F x
  ·exact .inl h
  ·rw[ZI.mpr h]at h1
   exact .inr (Zaj.mp (by omega))
 have apart:∀(j:Nat) d' b,j≠x->(kill r.M ρ)[j]? =some (some (d',b))->∀a∈F',a∉F j:=λj d' b hj e a ha haj=>by
  obtain⟨b',e',_⟩:=(Qce r.M ρ).2 j d' b e
  rcases memF a ha with h | h
  ·exact oap j d' b' hj e' a h haj
  ·rcases(gs a h).2 with z | ⟨k,d'',hk,ek,hak⟩
   ·obtain⟨vs,w⟩:=rel.mem e' haj
    rw[z]at w;cases w
   ·have hjk:j≠k:=λz=>by subst z;exact Qfw r.M ρ j d' b hk e
    exact(rel.own k d'' ek).2.2.2.1 j d' b' hjk e' a hak haj
 have apartH:∀t∈hs,∀a∈F',a∉t.2.2:=λt ht a ha hat=>by
  rcases memF a ha with h | h
  ·exact oh t ht a h hat
  ·rcases(gs a h).2 with z | ⟨k,d'',hk,ek,hak⟩
   ·obtain⟨vs,w⟩:=(rel.held t ht).1.mem a hat
    rw[z]at w;cases w
   ·exact(rel.own k d'' ek).2.2.2.2 t ht a hak hat
 have nqj:∀(j:Nat) d' b,j≠x->ρ[j]? =some (some (d',b))->q∉F j:=λj d' b hj e h=>oap j d' b hj e q e5 h
 have nF':F'.Nodup:=Zak.mpr λa=>by
  have h1:=cF a
  have h2:=Zak.mp on a
  have h3:=Zak.mp gn a
  by_cases h:a∈Gn
  ·rw[ZI.mpr (apn a h)]at h1;omega
  ·rw[ZI.mpr h]at h1;omega
 have lt:∀{j:Nat}{z:Option (D×Bool)}{y:D×Bool},((kill r.M ρ).set j z)[j]? =some (some y)->j<(kill r.M ρ).length:=λ{j z y} e=>by
  by_cases hl:j<(kill r.M ρ).length
  ·exact hl
  ·rw[ZD (by simp;omega)]at e;cases e
 refine⟨λj=>if j=x then F' else F j,by simp[relk.len],λj d' b e=>?_,λj d' e=>?_,λj d' b e a ha=>?_,λt ht=>⟨(relk.held t ht).1.upd e1 λh=>oh t ht q e5 h,(relk.held t ht).2⟩,λb o hb=>?_⟩
 ·by_cases hj:j=x
  ·subst hj
   have hl:=lt e
   rw[Zv hl]at e
   cases e
   exact⟨v0,hv0,by rw[if_pos rfl];exact f1⟩
  ·rw[Zl (Ne.symm hj)]at e
   obtain⟨w,h1,h2⟩:=relk.val j d' b e
   obtain⟨b',e',_⟩:=(Qce r.M ρ).2 j d' b e
   exact⟨w,h1,by rw[if_neg hj];exact h2.upd e1 (nqj j d' b' hj e')⟩
 ·by_cases hj:j=x
  ·subst hj
   have hl:=lt e
   rw[Zv hl]at e
   cases e
   rw[if_pos rfl]
   refine⟨f2,nF',λa ha=>?_,λk d'' b hk ek a ha=>?_,apartH⟩
   ·rcases memF a ha with h | h
    ·exact o0 a h
    ·exact(gs a h).1
   ·rw[Zl (Ne.symm hk)]at ek
    rw[if_neg hk]
    exact apart k d'' b hk ek a ha
  ·rw[Zl (Ne.symm hj)]at e
   obtain⟨h1,h2,h3,h4,h5⟩:=relk.own j d' e
   rw[if_neg hj]
   refine⟨h1,h2,h3,λk d'' b hk ek a ha=>?_,h5⟩
   by_cases hki:k=x
   ·subst hki
    rw[if_pos rfl]
    exact λhG=>apart j d' true hj e a hG ha
   ·rw[Zl (Ne.symm hki)]at ek
    rw[if_neg hki]
    exact h4 k d'' b hk ek a ha
 ·by_cases hj:j=x
  ·subst hj
   rw[if_pos rfl]at ha
   rcases memF a ha with h | h
   ·exact .inl (o0 a h)
   ·exact .inl (gs a h).1
  ·rw[Zl (Ne.symm hj)]at e
   rw[if_neg hj]at ha
   exact relk.src j d' b e a ha
 ·have hbq:b≠q:=λz=>by rw[z,o0 q e5]at hb;cases hb
  rw[QE hbq]
  exact relk.same b o hb
end
noncomputable abbrev DP:=En->Option (List Int)
noncomputable def Qai:DP:=λ_=>some []
noncomputable def Qdw(p:DP)(fb:DE):DP:=λρ=>(p ρ).bind λis=>(fb ρ).bind λr=>match r.d with
 | .int i=>some (is++[i])
 | _=>none
noncomputable def tP(K:PySem.W.Frag)(H0:Hp)(A0:List Addr)(x:Nat)(pf:DP):TE:=λσ H Q=>∃ρ hs F d b is dm,Rel K H0 A0 hs ρ F σ H/\ρ[x]? =some (some (d,b))/\pf ρ=some is/\Qbo d is=some dm∧
 ∀v0 v H' Gm,Qz H H'->σ[x]? =some (some v0)->Focus K H' is d v0 (F x) dm v Gm->Q v H'
def SPa(X:Cx)(e:Expr)(x:Nat)(pf:DP):Prop:=∀H0 A0,PE X e (tP X.K H0 A0 x pf)
section
theorem Qo3(h:PE X (.Name y pos) (QeA x)):SPa X (.Name y pos) x Qai:=λH0 A0=>h.mono λσ H Q hpt=>by
 obtain⟨ρ,hs,F,d,b,is,dm,rel,hx,hp,hd,q⟩:=hpt
 cases hp
 cases hd
 obtain⟨v,h1,h2⟩:=rel.val x d b hx
 exact⟨v,h1,q v v H (F x) (Qz.refl _) h1 ⟨rfl,rfl,rfl,h2⟩⟩
theorem Qq9(ha:SPa X a x pf)(hb:SE X b fb)(hs:Qf3 b):SPa X (.Subscript a b pos) x (Qdw pf fb):=λH0 A0=>
 (Qqt (Ql8.or Qoy) (ha H0 A0) (hb H0 A0) hs).mono λσ H Q hpt=>by
  obtain⟨ρ,hs,F,d,b',is,dm,rel,hx,hp,hd,q⟩:=hpt
  refine Qf hp λis' e1 hp=>?_
  refine Qf hp λr e2 hp=>?_
  cases hr:r.d with
  | int i=>
   rw[hr]at hp
   cases hp
   obtain⟨dn,ds,g1,g2,g3⟩:=Qhd hd
   refine⟨ρ,hs,F,d,b',is',dn,rel,hx,e1,g1,λv0 w H1 Gm s1 hv fo=>⟨ρ,hs,F,r,rel.ext s1,e2,λu H2 G p2=>?_⟩⟩
   have rp:=p2.rp
   rw[hr]at rp
   rw[rp.int_inv]
   have fo2:=fo.same p2.same
   obtain⟨c,vs,v',G',rfl,hc,h3,h4⟩:=Focus.one fo2.rp g2 g3
   have fin:=q v0 v' H2 G' (s1.trans p2.same) hv (fo2.snoc h4)
   rcases hc with⟨_,hc⟩ | ⟨_,hc⟩
   ·exact .inl ⟨c,vs,i,v',rfl,rfl,hc,h3,fin⟩
   ·exact .inr ⟨c,vs,i,v',rfl,rfl,hc,h3,fin⟩
  | _=>rw[hr]at hp;cases hp
noncomputable def QdY(x:Nat)(pf:DP)(fi fa:DE):DS:=λρ=>(fa ρ).bind λr0=>match ρ[x]? with
 | some (some (d,true))=>(pf ρ).bind λis=>(fi ρ).bind λri=>match ri.d,Qbo d is with
  | .int k,some (.lst ds)=>(ixN ds.length k).bind λj=>if r0.norm.fr && decide r0.norm.M.Nodup && !r0.norm.M.contains x then some (.nx ((kill r0.norm.M ρ).set x (some (QaP is d (.lst (ds.set j r0.d)),true))))else
   none
  | _,_=>none
 | _=>none
theorem set_mk(hq:H2 q=some (.lst vsm))(rs:Rps K H2 dsm vsm Gp)(hl:Gp.length=nls dsm)(nq:q∉Gp)(nqn:q∉Gn)(hn:Rp K H2 dn vn Gn)(hnl:Gn.length=dn.nl)(hj:j<dsm.length):
  ∃G',Rps K (upd H2 q (.lst (vsm.set j vn))) (dsm.set j dn) (vsm.set j vn) G'/\G'.length=nls (dsm.set j dn)/\∀a,G'.count a<=Gp.count a+Gn.count a:=by
 obtain⟨F1,G,F2,v,e1,e2,h1,h2,h3⟩:=rs.split (j:=j) (d:=dsm[j]) (by simp[hj])
 subst e1
 have hjv:j<vsm.length:=by rw[← rs.length];exact hj
 have n1:q∉F1:=λh=>nq (Zi _ h)
 have n2:q∉F2:=λh=>nq (Ze _ (Ze _ h))
 refine⟨F1++(Gn++F2),Rps.Qvk (h1.upd hq n1) (hn.upd hq nqn) (h3.upd hq n2) hj hjv,?_,λa=>?_⟩
 ·have:=Qf7 (ds:=dsm) (j:=j) (d:=dsm[j]) (e:=dn) (by simp[hj])
  have l1:=h1.Qay
  have l2:=h2.Qay
  have l3:=h3.Qay
  have e1:nls (dsm.take j)+((dsm[j]).nl+nls (dsm.drop (j+1)))=nls dsm:=by
   have e2:=congrArg nls (Zat j dsm)
   rw[QcX,ZL hj]at e2
   simpa only[nls]using e2
  simp only[Zf]at hl ⊢
  omega
 ·simp only[Zaa];omega
theorem QR.Qqq(p:QR K ρ F H H1 r v G)(s:Qz H1 H2):QR K ρ F H H2 r v G:=⟨p.same.trans s,p.rp.same s,p.src,p.cnt,p.own⟩
theorem Quw(hv:SE X e fa)(ho:SPa X a x pf)(hi:SE X i fi)
  (h:∀te to ti,PE X e te->PE X a to->PE X i ti->PS X (.Assign [.Subscript a i pos'] e pos) (Qix te (L2.Qev to ti Qqk))):S1 X (.Assign [.Subscript a i pos'] e pos) (QdY x pf fi fa):=λH0 A0=>
 (h _ _ _ (hv H0 A0) (ho H0 A0) (hi H0 A0)).mono λE σ H=>exK λρ hs F o rel e q=>by
  refine Qf e λr0 e1 e=>?_
  split at e
  ·rename_i d hx
   refine Qf e λis e2 e=>?_
   refine Qf e λri e3 e=>?_
   split at e
   ·rename_i k ds hk hp
    refine Qf e λj e4 e=>?_
    split at e
    ·rename_i hc
     cases e
     simp only[Zh,decide_eq_true_eq,Zah]at hc
     obtain⟨⟨c1,c2⟩,c3⟩:=hc
     have c3:x∉r0.norm.M:=λh=>by rw[List.contains_iff_mem.mpr h]at c3;cases c3
     refine⟨ρ,hs,F,r0,rel,e1,λvn H1 Gn p=>⟨ρ,hs,F,d,true,is,.lst ds,rel.ext p.same,hx,e2,hp,λv0 w H2 Gm s2 hv0 fo=>⟨ρ,hs,F,ri,(rel.ext p.same).ext s2,e3,λu H3 Gi pi=>?_⟩⟩⟩
     have p':=(p.norm.Qqq s2).Qqq pi.same
     have fo3:=fo.same pi.same
     have rpi:=pi.rp
     rw[hk]at rpi
     rw[rpi.int_inv]
     obtain⟨l,ws,L,rfl,_⟩:=fo3.rp.lst_inv
     obtain⟨ol,on,_,oap,_⟩:=rel.own x d hx
     have hjl:=(Qf9 e4).2.1
     obtain⟨gn,gs⟩:=p'.fresh rel c1 c2
     have rn:=p'.rp
     rw[r0.Qdn]at rn
     have hnl:=(p'.cnt c1).2
     rw[r0.Qdn]at hnl
     obtain⟨vsm,_,f1,_⟩:=fo3.mut (vs':=[]) (ds':=[]) (G':=[]) on ol
     obtain⟨_,_,_,_,_,_,zl,_⟩:=fo3.rp.lst_inv
     have key:∃F',Rp X.K (upd H3 l (.lst (vsm.set j vn))) (QaP is d (.lst (ds.set j r0.d))) v0 F'/\F'.length=(QaP is d (.lst (ds.set j r0.d))).nl/\l∈F x/\ds.length=vsm.length/\∀a,F'.count a<=(F x).count a+Gn.count a:=by
      have own5:∀G',_:=λG'=>fo3.mut (vs':=vsm.set j vn) (ds':=ds.set j r0.d) (G':=G') on ol
      obtain⟨vs1,Gp,g1,g2,g3,g4,g5,g6,g7,_⟩:=own5 []
      rw[f1]at g1;cases g1
      have hq:l∉Gn:=λh=>by
       rcases(gs l h).2 with z | ⟨k',d',hk',ek,hak⟩
       ·obtain⟨vs,w⟩:=rel.mem hx g5
        rw[z]at w;cases w
       ·exact oap k' d' true (λz=>c3 (z▸hk')) ek l g5 hak
      obtain⟨G',m1,m2,m3⟩:=set_mk f1 g3 g4 g7 hq rn hnl hjl
      obtain⟨vs2,Gp2,k1,k2,k3,k4,k5,k6,k7,k8⟩:=own5 G'
      have eG:Gp2=Gp:=by rw[g2]at k2;exact(List.cons.inj k2).2.symm
      subst eG
      obtain⟨F',h1,h2,h3⟩:=k8 m1 (by rw[ZaE];exact zl) m2
      exact⟨F',h1,h2,g5,g3.length,λa=>by have:=h3 a;have:=m3 a;omega⟩
     obtain⟨F',k1,k2,k3,k4,k5⟩:=key
     refine⟨l,vsm,k,j,rfl,rfl,f1,by rw[← k4];exact e4,?_⟩
     obtain⟨F'',rel'⟩:=rel.mut p' c1 c2 (Qz.refl _) hx c3 hv0 f1 k3 k1 k2 k5
     exact q _ _ F'' rel'
    ·
      cases e
   ·cases e
  ·cases e
end
section
variable {K:PySem.W.Frag}{H0 H H1 H2 H3:Hp}{A0:List Addr}{hs:List (V×D×List Addr)}{ρ:En}{F:Nat->List Addr}{σ:L2.St}
theorem Rel.write(rel:Rel K H0 A0 hs ρ F σ H)(p:QR K ρ F H H3 r vn Gn)(hf:r.fr=true)(nd:r.M.Nodup)(hx:ρ[x]? =some (some (d,true)))(hxM:x∉r.M)(hv0:σ[x]? =some (some v0))
  {is:List Int}{ds:List D}{Gm:List Addr}(fo:Focus K H3 is d v0 (F x) (.lst ds) w Gm):
  ∃l vsm Gp,w= .ref l/\H3 l=some (.lst vsm)/\Rps K H3 ds vsm Gp/\Gp.length=nls ds/\l∉Gp/\l∉Gn/\ds.length<=sizeLine∧
   ∀ds' vs' G',Rps K (upd H3 l (.lst vs')) ds' vs' G'->ds'.length<=sizeLine->G'.length=nls ds'->(∀a,G'.count a<=Gp.count a+Gn.count a)→
    ∃F',Rel K H0 A0 hs ((kill r.M ρ).set x (some (QaP is d (.lst ds'),true))) F' σ (upd H3 l (.lst vs')):=by
 obtain⟨l,ws,L,rfl,_,_,zl,_⟩:=fo.rp.lst_inv
 obtain⟨ol,on,_,oap,_⟩:=rel.own x d hx
 obtain⟨gn,gs⟩:=p.fresh rel hf nd
 obtain⟨vsm,Gp,g1,g2,g3,g4,g5,g6,g7,_⟩:=fo.mut (vs':=[]) (ds':=[]) (G':=[]) on ol
 have hq:l∉Gn:=λh=>by
  rcases(gs l h).2 with z | ⟨k',d',hk',ek,hak⟩
  ·obtain⟨vs,w⟩:=rel.mem hx g5
   rw[z]at w;cases w
  ·exact oap k' d' true (λz=>hxM (z▸hk')) ek l g5 hak
 refine⟨l,vsm,Gp,rfl,g1,g3,g4,g7,hq,zl,λds' vs' G' m1 m2 m3 m4=>?_⟩
 obtain⟨vs2,Gp2,k1,k2,k3,k4,k5,k6,k7,k8⟩:=fo.mut (vs':=vs') (ds':=ds') (G':=G') on ol
 have eG:Gp2=Gp:=by rw[g2]at k2;exact(List.cons.inj k2).2.symm
 subst eG
 obtain⟨F',h1,h2,h3⟩:=k8 m1 m2 m3
 exact rel.mut p hf nd (Qz.refl _) hx hxM hv0 g1 g5 h1 h2 λa=>by have:=h3 a;have:=m4 a;omega
end
section
variable {X:Cx}{a b e:Expr}{fa fb:DE}{pf:DP}{x:Nat}{pos apos:Pos}
noncomputable def Qhp(r:R)(x:Nat):Bool:=r.norm.fr && decide r.norm.M.Nodup && !r.norm.M.contains x
theorem Qoz(h:Qhp r x=true):r.norm.fr=true/\r.norm.M.Nodup/\x∉r.norm.M:=by
 unfold Qhp at h
 simp only[Zh,decide_eq_true_eq,Zah]at h
 exact⟨h.1.1,h.1.2,λz=>by rw[List.contains_iff_mem.mpr z]at h;cases h.2⟩
noncomputable def QcJ(x:Nat)(pf:DP)(fa:DE):DS:=λρ=>match ρ[x]? with
 | some (some (d,true))=>(pf ρ).bind λis=>(fa ρ).bind λr0=>match Qbo d is with
  | some (.lst ds)=>if Qhp r0 x && decide (ds.length<sizeLine)then some (.nx ((kill r0.norm.M ρ).set x (some (QaP is d (.lst (ds++[r0.d])),true))))else none
  | _=>none
 | _=>none
theorem Qqe{H0:Hp}{A0:List Addr}{E:Ends}{σ:L2.St}{H:Hp}:tS X.K H0 A0 (QcJ x pf fa) E σ H->Qe8 (tBM X.K "list" QlX (tP X.K H0 A0 x pf) (Qgc (tV X.K H0 A0 fa) QgT)) E σ H:=exK λρ hs F o rel e q=>by
 unfold QcJ at e
 split at e
 ·rename_i d hx
  refine Qf e λis e2 e=>?_
  refine Qf e λr0 e1 e=>?_
  split at e
  ·rename_i ds hp
   split at e
   ·rename_i hc
    simp only[Zh,decide_eq_true_eq]at hc
    obtain⟨c1,c2,c3⟩:=Qoz hc.1
    cases e
    refine⟨ρ,hs,F,d,true,is,.lst ds,rel,hx,e2,hp,λv0 w H2 Gm s2 hv0 fo=>?_⟩
    have ty:tyV X.K "list" w H2:=by
     obtain⟨l,ws,L,rfl,hl,_⟩:=fo.rp.lst_inv
     exact .inl ⟨rfl,ws,Q1 hl⟩
    refine⟨ty,ρ,hs,F,r0,rel.ext s2,e1,λvn H3 Gn p=>?_⟩
    have p':=p.norm
    obtain⟨l,vsm,Gp,rfl,g1,g2,g3,g4,g5,g6,g7⟩:=(rel.ext s2).write p' c1 c2 hx c3 hv0 (fo.same p.same)
    refine⟨l,vsm,vn,rfl,rfl,g1,by rw[← g2.length];exact hc.2,?_⟩
    have rn:=p'.rp
    rw[r0.Qdn]at rn
    have hnl:=(p'.cnt c1).2
    rw[r0.Qdn]at hnl
    have rw1:Rps X.K (upd H3 l (.lst (vsm++[vn]))) [r0.d] [vn] Gn:=by
     simp only[Rps]
     exact⟨vn,[],Gn,[],rfl,by simp,rn.upd g1 g5,rfl,rfl⟩
    obtain⟨F',rel'⟩:=g7 (ds++[r0.d]) (vsm++[vn]) (Gp++Gn) ((g2.upd g1 g4).append rw1) (by rw[Zf,ZaJ];omega) (by rw[Zf,QcX,g3,hnl];simp[nls]) (λa=>by rw[Zaa];omega)
    exact q _ _ F' rel'
   ·cases e
  ·cases e
 ·cases e
noncomputable def QgB(x:Nat)(pf:DP)(fa:DE):DS:=λρ=>match ρ[x]? with
 | some (some (d,true))=>(pf ρ).bind λis=>(fa ρ).bind λr0=>match Qbo d is,r0.d with
  | some (.lst ds),.lst es=>if QK es && decide (ds.length+es.length<=sizeLine)then some (.nx (ρ.set x (some (QaP is d (.lst (ds++es)),true))))else none
  | _,_=>none
 | _=>none
noncomputable def QjH(K:PySem.W.Frag):V->List V->Hp->VK->Prop:=λx vs H Q=>∃l b xs zs,x= .ref l/\vs=[.ref b]/\H l=some (.lst xs)/\(H b=some (.lst zs)∨Fix K H b zs)/\xs.length+zs.length<=sizeLine/\Q .non (upd H l (.lst (xs++zs)))
open PyProof.Rows in
theorem Qow:QsO X (Qs8 X.K):=by
 intro pins s σ H o i ov iv Q I ro ri h
 obtain⟨p,xs,k,v,rfl,rfl,hq,ha,q⟩:=h
 cases ro
 obtain⟨t,rfl⟩:=ri
 obtain⟨its,r,pl,hz⟩:=I.list hq
 obtain⟨j,h1,h2,h3,h4,h5⟩:=Qh0 ha
 obtain⟨w,ew,rw'⟩:=r.get h2
 have hl:=r.length
 have hn:=Qd7
 by_cases h0:0<=k
 ·refine wpAny_getItem_list pl.isList h0 (by omega) (x:=w) ?_ ⟨v,H,I,rw',q⟩
  have:k.toNat=j:=by
   rw[seqIndex_of h0 h5]at h1
   exact Option.some.inj h1
  rw[this];simpa using ew
 ·refine wpAny_getItem_list_neg pl.isList (by omega) (by rw[Zp]<;>omega) (by omega) (x:=w) ?_ ⟨v,H,I,rw',q⟩
  have hj:(k+(its.toArray.size:Int)).toNat=j:=by
   rw[seqIndex_neg (by omega) h4]at h1
   rw[Zp,← hl]
   exact Option.some.inj h1
  rw[hj];simpa using ew
noncomputable def Qea(g:D->D->Option D)(x:Nat)(pf:DP)(fi fa:DE):DS:=λρ=>match ρ[x]? with
 | some (some (d,true))=>(pf ρ).bind λis=>(fi ρ).bind λri=>match ri.d,Qbo d is with
  | .int k,some (.lst ds)=>(ixN ds.length k).bind λj=>(ds[j]?).bind λold=>(fa ρ).bind λr=>(g old r.d).map λnew=> .nx (ρ.set x (some (QaP is d (.lst (ds.set j new)),true)))
  | _,_=>none
 | _=>none
theorem Qr9(ho:OpR X (inplaceOp op) r)(hg:Qbj X.K g r)(hv:SE X e fa)(hp:SPa X a x pf)(hi:SE X i fi)
  (ha:∀ov iv new,augStore i ov iv new=(do holding [new,ov,iv] (setItem ov iv new);release [new,ov,iv] [];pure .next)):S1 X (.AugAssign (.Subscript a i pos') op e pos) (Qea g x pf fi fa):=λH0 A0=>
 (Qrh (hp H0 A0) (hi H0 A0) Qow (hv H0 A0) (λpins s σ H x y v u Q I rx ry q=>Qta ho I rx ry q) set_list ha).mono λE σ H=>exK λρ hs F o rel e q=>by
  unfold Qea at e
  split at e
  ·rename_i d hx
   refine Qf e λis e2 e=>?_
   refine Qf e λri e3 e=>?_
   split at e
   ·rename_i k ds hk hp'
    refine Qf e λj e4 e=>?_
    refine Qf e λold e5 e=>?_
    refine Qf e λrv e6 e=>?_
    obtain⟨new,e7,e⟩:=Zg.mp e
    subst e
    have hjl:=(Qf9 e4).2.1
    refine⟨ρ,hs,F,d,true,is,.lst ds,rel,hx,e2,hp',λv0 w H2 Gm s2 hv0 fo=>⟨ρ,hs,F,ri,rel.ext s2,e3,λu H3 Gi pi=>?_⟩⟩
    have fo3:=fo.same pi.same
    have rpi:=pi.rp
    rw[hk]at rpi
    rw[rpi.int_inv]
    have at3:atI ds k=some old:=by unfold atI;rw[e4];exact e5
    obtain⟨l,vs,v',Go,rfl,hc,h3,h4⟩:=Focus.one fo3.rp rfl at3
    have hc:SqL X.K H3 l vs:=by
     rcases hc with⟨_,hc⟩ | ⟨hc,_⟩
     ·exact hc
     ·cases hc
    refine⟨l,vs,k,v',rfl,rfl,hc,h3,ρ,hs,F,rv,(rel.ext s2).ext pi.same,e6,λy H4 G4 p4=>?_⟩
    have fo4:=fo3.same p4.same
    have ro:=h4.rp.same p4.same
    refine(hg _ _ _ e7).2 H4 v' y Go G4 _ ro p4.rp λz hz=>?_
    have rel4:=((rel.ext s2).ext pi.same).ext p4.same
    have pz:QR X.K ρ F H4 H4 ⟨new,true,[]⟩ z []:= .flat (Qz.refl _) (hz H4) (hg _ _ _ e7).1
    obtain⟨l',vsm,Gp,el,g1,g2,g3,g4,g5,g6,g7⟩:=rel4.write pz rfl Zas hx (by simp) hv0 fo4
    cases el
    refine⟨l,vsm,k,j,rfl,rfl,g1,by rw[← g2.length];exact e4,?_⟩
    obtain⟨G',m1,m2,m3⟩:=set_mk g1 g2 g3 g4 g5 (hz H4) (Qc9 new (hg _ _ _ e7).1).symm hjl
    obtain⟨F',rel'⟩:=g7 _ _ G' m1 (by rw[ZaE];exact g6) m2 m3
    exact q _ _ F' rel'
   ·cases e
  ·cases e
end
end HS
namespace HS
open PySem PySem.Spec L2 PyProof.Rows
theorem Rps.ints{K:PySem.W.Frag}{H:Hp}:∀{ns:List Int}{vs:List V}{F:List Addr},Rps K H (ns.map .int) vs F->vs=ns.map .int
 | [],_,_,h=>by simp only[ZaT,Rps]at h;rw[h.1];rfl
 | n::ns,_,_,h=>by
  simp only[Zo,Rps]at h
  obtain⟨v,ws,F1,F2,rfl,rfl,r,q⟩:=h
  rw[r.int_inv,Rps.ints q];rfl
theorem QfO(h:Qq (ns.map V.int) us):IntsAre us ns:=intsAre_of h
noncomputable def Qiy:List D->Option (List Bool)
 | []=>some []
 | d::ds=>(match d with | .bl b=>some b | _=>none).bind λi=>(Qiy ds).map λr=>i::r
theorem QkE:∀{ds:List D}{ns:List Bool},Qiy ds=some ns->ds=ns.map .bl
 | [],_,h=>by cases h;rfl
 | d::ds,ns,h=>by
  unfold Qiy at h
  refine Qf h λi h1 h=>?_
  obtain⟨r,h2,rfl⟩:=Zg.mp h
  cases d with
  | bl j=>cases h1;rw[QkE h2];rfl
  | _=>cases h1
theorem Rps.bls{K:PySem.W.Frag}{H:Hp}:∀{ns:List Bool}{vs:List V}{F:List Addr},Rps K H (ns.map .bl) vs F->vs=ns.map .bl
 | [],_,_,h=>by simp only[ZaT,Rps]at h;rw[h.1];rfl
 | n::ns,_,_,h=>by
  simp only[Zo,Rps]at h
  obtain⟨v,ws,F1,F2,rfl,rfl,r,q⟩:=h
  rw[Rps.bls q]
  simp only[Rp]at r
  rw[r.1];rfl
theorem Qkg:∀{ns:List Bool}{us:List Value},Qq (ns.map V.bl) us->LSm.BoolsAre us ns
 | [],_,.nil=> .nil
 | n::ns,_,.cons r h=>by cases r;exact .cons n (Qkg h)
section
variable {X:Cx}{a b e:Expr}{es:List Expr}{fa fb:DE}{fs:DA}{pos p2:Pos}
theorem Rps.rev{K:PySem.W.Frag}{H:Hp}:∀{ds:List D}{vs:List V}{F:List Addr},Rps K H ds vs F->∃G,Rps K H ds.reverse vs.reverse G/\∀a∈G,a∈F
 | [],_,_,h=>by simp only[Rps]at h;rw[h.1,h.2];exact⟨[],by simp[Rps],λ_ h=>h⟩
 | d::ds,_,_,h=>by
  simp only[Rps]at h
  obtain⟨v,ws,F1,F2,rfl,rfl,r,q⟩:=h
  obtain⟨G,h1,h2⟩:=Rps.rev q
  refine⟨G++F1,?_,λa ha=>?_⟩
  ·rw[Zaz,Zaz]
   refine h1.append ?_
   simp only[Rps]
   exact⟨v,[],F1,[],rfl,by simp,r,rfl,rfl⟩
  ·rcases Zy.mp ha with z | z
   ·exact Ze _ (h2 a z)
   ·exact Zi _ z
theorem Qnz(hc:X.calm=true):QaM X (.builtin "any") (λxs H Q=>∃(p:Addr) (ns:List Bool),xs=[.ref p]/\SqL X.K H p (ns.map V.bl)/\Q (.bl (ns.any id)) H):=by
 intro pins s σ H xs us Q I r h
 obtain⟨p,ns,rfl,hq,q⟩:=h
 obtain⟨u,rfl,rx⟩:=vals1 r
 cases rx
 obtain⟨its,r',pl,hz⟩:=I.list hq
 have hb:=Qkg r'
 have hl:=pl.isList
 have hlt:p<s.heap.objs.size:=by obtain⟨_,e,_⟩:=hl;exact Zw e
 refine call_any_walk (wpAny_pyIter_list hl ?_)
 refine⟨s.heap.objs.size,[s.heap.objs.size,p],[s.heap.objs.size],its.toArray.size,_,_,λi=>(ns[i]?).getD false,rfl,Walks.list (A:=X.A.in1) (I.ok.hd hc) _ p (ZJ hlt) its.toArray,
  ⟨⟨_,ZC _ rfl,rfl,rfl⟩,hl.push _⟩,λi v s' Q' E' hP hQ=>?_,λh' tk hk=>?_⟩
 ·obtain⟨b,e,rfl⟩:=hb.get i v (by simpa using hP)
  simp only[e,Option.getD_some]at hQ
  exact wpAny_truthy_bool hQ
 ·have e:((List.range its.toArray.size).any λi=>(ns[i]?).getD false)=ns.any id:=by
   rw[Zp,hb.length];exact LSm.range_any ns
  rw[e]
  exact⟨.bl (ns.any id),H,I.kept (LSm.kept_iter hk),rfl,q⟩
noncomputable def Qf5:List D->Option D
 | [.lst xs]=>(Qiy xs).map λns=> .bl (ns.any id)
 | _=>none
theorem QrG{K:PySem.W.Frag}:Qdo K Qf5 (λxs H Q=>∃(p:Addr) (ns:List Bool),xs=[.ref p]/\SqL K H p (ns.map V.bl)/\Q (.bl (ns.any id)) H):=λds d e=>by
 unfold Qf5 at e
 split at e
 ·obtain⟨ns,h1,rfl⟩:=Zg.mp e
  refine⟨rfl,λH vs F Q r q=>?_⟩
  obtain⟨v,rfl,rp⟩:=r.one
  obtain⟨l,ws,L,rfl,hl,rl,zl,el⟩:=rp.lst_inv
  rw[QkE h1]at rl
  rw[rl.bls]at hl
  exact⟨l,ns,rfl,Q1 hl,q _ λ_=> .Qa5⟩
 ·cases e
noncomputable def Qes(neg:Bool)(a b:D):Option D:=match a,b with
 | a,.non=>some (.bl (if neg then !a.QmG else a.QmG))
 | .bl x,.bl y=>some (.bl (if neg then !(x == y)else x == y))
 | _,_=>none
theorem Qs0:OpR X (compareOp .Is) (λx y H Q=>∃c d,x= .bl c/\y= .bl d/\Q (.bl (c == d)) H):=by
 intro pins s σ H x y v u Q I rx ry h
 obtain⟨c,d,rfl,rfl,q⟩:=h
 cases rx
 cases ry
 exact PyProof.Rows.is_bool (QeH I q rfl)
theorem Qsc:OpR X (compareOp .IsNot) (λx y H Q=>∃c d,x= .bl c/\y= .bl d/\Q (.bl (!(c == d))) H):=by
 intro pins s σ H x y v u Q I rx ry h
 obtain⟨c,d,rfl,rfl,q⟩:=h
 cases rx
 cases ry
 exact PyProof.Rows.isnot_bool (QeH I q rfl)
theorem QtH{K:PySem.W.Frag}:Qbj K (Qes false) (λx y H Q=>(y= .non/\Q (.bl (decide (x= .non))) H)∨∃c d,x= .bl c/\y= .bl d/\Q (.bl (c == d)) H):=λa b d e=>by
 unfold Qes at e
 split at e
 ·cases e
  exact⟨rfl,λH x y F G Q ha hb q=> .inl ⟨hb.QdK,by rw[QlJ ha];exact q _ λ_=> .Qa5⟩⟩
 ·cases e
  exact⟨rfl,λH x y F G Q ha hb q=> .inr ⟨_,_,ha.Qcc,hb.Qcc,q _ λ_=> .Qa5⟩⟩
 ·cases e
theorem QnI{K:PySem.W.Frag}:Qbj K (Qes true) (λx y H Q=>(y= .non/\Q (.bl (!decide (x= .non))) H)∨∃c d,x= .bl c/\y= .bl d/\Q (.bl (!(c == d))) H):=λa b d e=>by
 unfold Qes at e
 split at e
 ·cases e
  exact⟨rfl,λH x y F G Q ha hb q=> .inl ⟨hb.QdK,by rw[QlJ ha];exact q _ λ_=> .Qa5⟩⟩
 ·cases e
  exact⟨rfl,λH x y F G Q ha hb q=> .inr ⟨_,_,ha.Qcc,hb.Qcc,q _ λ_=> .Qa5⟩⟩
 ·cases e
theorem QlH:∀a b d,Qes neg a b=some d->∃k,d= .bl k:=λa b d h=>by
 unfold Qes at h
 split at h<;>cases h<;>exact⟨_,rfl⟩
noncomputable def Qkk:List D->Option D
 | [.int i]=>some (.int i)
 | [.bl k]=>some (.int (if k then 1 else 0))
 | [.str z]=>if z.length<=640 then(PySem.intText? z).map .int else none
 | _=>none
noncomputable def Qs4:List V->Hp->VK->Prop:=λxs H Q=>(∃i,xs=[.int i]/\Q (.int i) H)∨(∃k,xs=[.bl k]/\Q (.int (if k then 1 else 0)) H)
 ∨∃z n,xs=[.str z]/\PySem.intText? z=some n/\z.length<=640/\Q (.int n) H
theorem Qn3{X:Cx}:QaM X (.type "int") Qs4:=by
 refine λpins s σ H xs us Q I rs q=>?_
 rcases q with q | q | q
 ·exact Qi1 pins s σ H xs us Q I rs (.inl q)
 ·exact Qi1 pins s σ H xs us Q I rs (.inr q)
 ·exact Qkl pins s σ H xs us Q I rs q
theorem QtV{K:PySem.W.Frag}:Qdo K Qkk Qs4:=λds d e=>by
 unfold Qkk at e
 split at e
 ·cases e
  refine⟨rfl,λH vs F Q r q=>?_⟩
  obtain⟨v,rfl,rp⟩:=r.one
  exact .inl ⟨_,by rw[rp.int_inv],q _ λ_=> .int_mk⟩
 ·cases e
  refine⟨rfl,λH vs F Q r q=>?_⟩
  obtain⟨v,rfl,rp⟩:=r.one
  exact .inr (.inl ⟨_,by rw[rp.Qcc],q _ λ_=> .int_mk⟩)
 ·split at e
  ·rename_i hz
   obtain⟨n,hn,rfl⟩:=Zg.mp e
   refine⟨rfl,λH vs F Q r q=>?_⟩
   obtain⟨v,rfl,rp⟩:=r.one
   exact .inr (.inr ⟨_,n,by rw[rp.str_inv],hn,hz,q _ λ_=> .int_mk⟩)
  ·cases e
 ·cases e
noncomputable def Qbl:List D->Option D
 | [.int i]=>if i.natAbs.log2<1920 then some (.str (toString i))else none
 | _=>none
theorem QtW{K:PySem.W.Frag}:Qdo K Qbl (λxs H Q=>∃i,xs=[.int i]/\i.natAbs.log2<1920/\Q (.str (toString i)) H):=λds d e=>by
 unfold Qbl at e
 split at e
 ·split at e
  ·rename_i hz
   cases e
   refine⟨rfl,λH vs F Q r q=>?_⟩
   obtain⟨v,rfl,rp⟩:=r.one
   exact⟨_,by rw[rp.int_inv],hz,q _ λ_=> .str_mk⟩
  ·cases e
 ·cases e
theorem Qom(hc:QaM X (.type T) r)(hk:Qdo X.K g r)(hg:Gl X x)(hm:X.mg x=none)(hv:bootBuiltins x=some (.type T))(ha:SA X (e::es) fs)(hn:x≠ "__name__")(hdb:(x == ("__debug__" :Str))=false)
  (he:starEach (e::es) X.env=(false,eval e X.env)::starEach es X.env) (hpl:(backTo pos (starEach es X.env)).any (·.1)=false):SE X (.Call (.Name x p) (e::es) [] pos) (dBf g fs):=λH0 A0=>
 (Qjd hc hg hm hv (ha H0 A0) hn hdb he hpl).mono λσ H Q=>exK λρ hs F r' rel e q=>by
  refine Qf e λra e1 e=>?_
  obtain⟨d,ed,e⟩:=Zg.mp e
  subst e
  exact⟨ρ,hs,F,ra,rel,e1,λvs H1 G p1=>(hk _ _ ed).2 H1 vs G Q p1.rp λv hv=>q v H1 [] (.flat p1.same (hv _) (hk _ _ ed).1)⟩
end
end HS
namespace HS
open PySem PySem.Spec L2 PyProof.Rows
section
variable {X:Cx}{a b c e tg:Expr}{es:List Expr}{fa fb fc:DE}{fs:DA}{pos p2:Pos}
theorem Qsw:MtR X "int.bit_length" (λx vs H Q=>∃i,x= .int i/\vs=[]/\Q (.int (Builtin.Int.intBits i)) H):=by
 intro pins s σ H x vs v us Q I rx rv h
 obtain⟨i,rfl,rfl,q⟩:=h
 obtain⟨t,rfl⟩:=rx
 have hus:=rv.zero
 subst hus
 exact call_int_bit_length ⟨.int _,H,I.tok _,⟨_,rfl⟩,q⟩
noncomputable def QmW(fa:DE):DE:=λρ=>(fa ρ).bind λr=>match r.d with
 | .int i=>some ⟨.int (Builtin.Int.intBits i),true,[]⟩
 | _=>none
theorem QrQ(ha:SE X a fa)(hb:attributeBase a "bit_length" X.env (eval a X.env)=eval a X.env)(hl:(apos.endLine == cpos.line)=true):SE X (.Call (.Attribute a "bit_length" apos) [] [] cpos) (QmW fa):=λH0 A0=>
 (QtZ PySem.F.plainAttrs_int PySem.F.slot_int_bit_length PySem.F.type_int_bit_length Qsw (ha H0 A0) hb hl).mono λσ H Q=>exK λρ hs F r' rel e q=>by
  refine Qf e λra e1 e=>?_
  refine⟨ρ,hs,F,ra,rel,e1,λv H1 G p1=>?_⟩
  cases hd:ra.d with
  | int i=>
   rw[hd]at e
   cases e
   have rp:=p1.rp
   rw[hd]at rp
   rw[rp.int_inv]
   exact⟨rfl,i,rfl,rfl,q _ _ [] (.flat p1.same .int_mk)⟩
  | _=>rw[hd]at e;cases e
end
end HS
namespace HS
open PySem PySem.Spec L2 PyProof.Rows
noncomputable def QcU:List D->Option (List Str)
 | []=>some []
 | d::ds=>match d with
  | .str x=>(QcU ds).map λr=>x::r
  | _=>none
theorem Qje:∀{ds:List D}{ts:List Str},QcU ds=some ts->ds=ts.map .str
 | [],_,h=>by cases h;rfl
 | d::ds,ts,h=>by
  unfold QcU at h
  split at h
  ·obtain⟨r,h2,rfl⟩:=Zg.mp h
   rw[Qje h2];rfl
  ·cases h
theorem Rps.strs{K:PySem.W.Frag}{H:Hp}:∀{ts:List Str}{vs:List V}{F:List Addr},Rps K H (ts.map .str) vs F->vs=ts.map .str
 | [],_,_,h=>by simp only[ZaT,Rps]at h;rw[h.1];rfl
 | n::ns,_,_,h=>by
  simp only[Zo,Rps]at h
  obtain⟨v,ws,F1,F2,rfl,rfl,r,q⟩:=h
  rw[r.str_inv,Rps.strs q];rfl
theorem Rps.ofStrs{K:PySem.W.Frag}{H:Hp}:∀ts:List Str,Rps K H (ts.map .str) (ts.map .str) []
 | []=>by simp[Rps]
 | n::ns=>by simp only[Zo,Rps];exact⟨_,_,[],[],rfl,rfl,.str_mk,Rps.ofStrs ns⟩
theorem Qhz:∀ts:List Str,QK (ts.map .str)=true
 | []=>rfl
 | n::ns=>by simp[QK,D.flat,Qhz ns]
noncomputable def gSw(a b:D):Option D:=match a with
 | .str z=>match b with
  | .str y=>some (.bl (Txt.startswith z y))
  | _=>none
 | _=>none
noncomputable def Qe6(a b:D):Option D:=match a with
 | .str z=>match b with
  | .lst xs=>(QcU xs).bind λts=>if JoinOk z ts=true then some (.str (Txt.join z ts))else none
  | _=>none
 | _=>none
noncomputable def Qmf(a b:D):Option D:=match a with
 | .str z=>match b with
  | .str y=>if((y.length == 0)=false/\z.length<=16000000)/\(Txt.split z y).length<=16000000 then some (.lst ((Txt.split z y).map .str))else none
  | _=>none
 | _=>none
noncomputable def dM1(g:D->D->Option D)(fa:DE)(fs:DA):DE:=λρ=>(fa ρ).bind λra=>(fs ρ).bind λr=>match r.ds with
 | [b]=>(g ra.d b).map λd=>⟨d,true,[]⟩
 | _=>none
section
variable {X:Cx}{o b:Expr}{fa:DE}{fs:DA}{apos cpos:Pos}
theorem QrS{K:PySem.W.Frag}{H:Hp}{z:Str}:tyV K "str" (.str z) H:=rfl
theorem QjB{m:Str}{id:String}{g:D->D->Option D}{r:V->List V->Hp->VK->Prop}(slot:PySem.Slot "str" m id)(hty:typeOf (.builtin id)=pure (.type "method_descriptor"))(hm:MtR X id r)
  (hg:∀a b d,g a b=some d->∃z,a= .str z/\∀(H0 H:Hp) (ρ:En) (F:Nat->List Addr) (y:V) (G:List Addr) (Q:VK),Qz H0 H->Rp X.K H b y G->(∀v H' G',QR X.K ρ F H0 H' ⟨d,true,[]⟩ v G'->Q v H')->r (.str z) [y] H Q)
  (ho:SE X o fa) (ha:SA X [b] fs) (hb:attributeBase o m X.env (eval o X.env)=eval o X.env) (hl:(apos.endLine == cpos.line)=true) (hs:starEach [b] X.env=[(false,eval b X.env)]):
  SE X (.Call (.Attribute o m apos) [b] [] cpos) (dM1 g fa fs):=λH0 A0=>
 (Qm4 PySem.F.plainAttrs_str slot hty hm (ho H0 A0) (ha H0 A0) hb (by rw[hs];rfl) hl hs (by rfl)).mono λσ H Q=>exK λρ hs F r' rel e q=>by
  refine Qf e λra e1 e=>?_
  refine Qf e λrb e2 e=>?_
  refine⟨ρ,hs,F,ra,rel,e1,λx H1 G1 p1=>?_⟩
  split at e
  ·rename_i b' hds
   obtain⟨d,ed,e⟩:=Zg.mp e
   subst e
   obtain⟨z,ez,k⟩:=hg _ _ _ ed
   have rp:=p1.rp
   rw[ez]at rp
   rw[rp.str_inv]
   refine⟨QrS,ρ,hs,F,rb,rel.ext p1.same,e2,λxs H2 G2 p2=>?_⟩
   have rp2:=p2.rp
   rw[hds]at rp2
   obtain⟨y,rfl,ry⟩:=rp2.one
   exact k H H2 ρ F y G2 Q (p1.same.trans p2.same) ry q
  ·cases e
theorem Qvg(ho:SE X o fa)(ha:SA X [b] fs)(hb:attributeBase o "startswith" X.env (eval o X.env)=eval o X.env)(hl:(apos.endLine == cpos.line)=true)(hs:starEach [b] X.env=[(false,eval b X.env)]):
  SE X (.Call (.Attribute o "startswith" apos) [b] [] cpos) (dM1 gSw fa fs):=
 QjB PySem.F.slot_str_startswith PySem.F.type_str_startswith Qns (λa b d e=>by
  unfold gSw at e
  split at e
  ·split at e
   ·cases e
    exact⟨_,rfl,λH0 H ρ F y G Q s r q=>⟨_,_,rfl,by rw[r.str_inv],q _ _ [] (.flat s .Qa5)⟩⟩
   ·cases e
  ·cases e) ho ha hb hl hs
theorem Qsy(ho:SE X o fa)(ha:SA X [b] fs)(hb:attributeBase o "join" X.env (eval o X.env)=eval o X.env)(hl:(apos.endLine == cpos.line)=true)(hs:starEach [b] X.env=[(false,eval b X.env)]):
  SE X (.Call (.Attribute o "join" apos) [b] [] cpos) (dM1 Qe6 fa fs):=
 QjB PySem.F.slot_str_join PySem.F.type_str_join Qrg (λa b d e=>by
  unfold Qe6 at e
  split at e
  ·split at e
   ·refine Qf e λts e1 e=>?_
    split at e
    ·rename_i hj
     cases e
     refine⟨_,rfl,λH0 H ρ F y G Q s r q=>?_⟩
     obtain⟨l,ws,L,rfl,hl',rl,zl,el⟩:=r.lst_inv
     rw[Qje e1]at rl
     rw[rl.strs]at hl'
     exact⟨_,l,ts,rfl,rfl,Q1 hl',hj,q _ _ [] (.flat s .str_mk)⟩
    ·cases e
   ·cases e
  ·cases e) ho ha hb hl hs
theorem Quq(ho:SE X o fa)(ha:SA X [b] fs)(hb:attributeBase o "split" X.env (eval o X.env)=eval o X.env)(hl:(apos.endLine == cpos.line)=true)(hs:starEach [b] X.env=[(false,eval b X.env)]):
  SE X (.Call (.Attribute o "split" apos) [b] [] cpos) (dM1 Qmf fa fs):=
 QjB PySem.F.slot_str_split PySem.F.type_str_split Qnk (λa b d e=>by
  unfold Qmf at e
  split at e
  ·split at e
   ·split at e
    ·rename_i hc
     cases e
     refine⟨_,rfl,λH0 H ρ F y G Q s r q=>⟨_,_,rfl,by rw[r.str_inv],hc.1.1,by have:=hc.1.2;rw[QaJ];omega,λc hcn=>?_⟩⟩
     have:=QR.Qab (ρ:=ρ) (F:=F) s hcn (Rps.ofStrs (K:=X.K) (Txt.split _ _)) (by rw[Zc,QaJ];exact Zu hc.2 (by decide)) Src.nil Qa1.nil
     unfold Qab at this
     rw[if_pos (Qhz _)]at this
     exact q _ _ _ this
    ·cases e
   ·cases e
  ·cases e) ho ha hb hl hs
end
end HS
namespace HS
open PySem PySem.Spec L2 PyProof.Rows
theorem QsE{X:Cx}:MtR X "str.partition" (λx xs H Q=>∃z y,x= .str z/\xs=[.str y]/\(y.length == 0)=false/\z.length<=sizeLine/\∀l,H l=none->Q (.ref l) (L2.upd H l (.tup [.str (Txt.partition z y).1,.str (Txt.partition z y).2.1,.str (Txt.partition z y).2.2]))):=by
 intro pins s σ H x xs v us Q I rx rs q
 obtain⟨z,y,rfl,rfl,hy,hsz,q⟩:=q
 obtain⟨t,rfl⟩:=(show ∃t,v=Value.str z t from rx)
 obtain⟨u',rfl,ru⟩:=vals1 rs
 obtain⟨u,rfl⟩:=(show ∃t,u'=Value.str y t from ru)
 refine call_meets F.slot_str_partition (typeIs_str _ _ _) F.entry_str_partition (F.args_str_partition_2 _ _) (meets_str_partition z y t u hy hsz) ?_
 have hn:H s.heap.objs.size=none:=I.hok.fresh (Zj _)
 have fin:∀(a b c:Str) (ta tb tc:Tok) (k:Nat),(a,b,c)=Txt.partition z y->EP X pins σ Q (.ref s.heap.objs.size) {s with toks:=k,heap:=s.heap.push {cls:= .type "tuple",data:= .seq [.str a ta,.str b tb,.str c tc].toArray}}:=λa b c ta tb tc k e=>by
  refine⟨.ref s.heap.objs.size,_,?_,rfl,q _ hn⟩
  rw[← e]
  refine I.laid (t':=k) (λb o e=>Zt _ e) (Zj _) ⟨by simp only[Zr,List.length_nil];rw[sizeLine_eq];decide,[.str a ta,.str b tb,.str c tc],.cons ⟨_,rfl⟩ (.cons ⟨_,rfl⟩ (.cons ⟨_,rfl⟩ .nil)),?_⟩
  exact⟨_,ZC s.heap rfl,rfl,0,rfl⟩
 unfold Txt.partition at fin
 revert fin
 cases Builtin.Str.occurrences z y 0 z.length 1 with
 | nil=>intro fin;exact fin _ _ _ _ _ _ _ rfl
 | cons i r=>intro fin;exact fin _ _ _ _ _ _ _ rfl
noncomputable def QjA(a b:D):Option D:=match a with
 | .str z=>match b with
  | .str y=>if(y.length == 0)=false/\z.length<=sizeLine then some (.tup [.str (Txt.partition z y).1,.str (Txt.partition z y).2.1,.str (Txt.partition z y).2.2])else none
  | _=>none
 | _=>none
section
variable {X:Cx}{o b:Expr}{fa:DE}{fs:DA}{apos cpos pos:Pos}{e:Expr}{es:List Expr}
theorem Qrs(ho:SE X o fa)(ha:SA X [b] fs)(hb:attributeBase o "partition" X.env (eval o X.env)=eval o X.env)(hl:(apos.endLine == cpos.line)=true)(hs:starEach [b] X.env=[(false,eval b X.env)]):
  SE X (.Call (.Attribute o "partition" apos) [b] [] cpos) (dM1 QjA fa fs):=
 QjB PySem.F.slot_str_partition PySem.F.type_str_partition QsE (λa b d e=>by
  unfold QjA at e
  split at e
  ·split at e
   ·split at e
    ·rename_i hc
     cases e
     refine⟨_,rfl,λH0 H ρ F y G Q s r q=>⟨_,_,rfl,by rw[r.str_inv],hc.1,hc.2,λp hp=>q _ _ [] (.flat (s.trans (QbI hp)) (Rp.Qhe Qaz ?_) rfl)⟩⟩
     simp only[Rps]
     exact⟨_,_,[],[],rfl,rfl,.str_mk,_,_,[],[],rfl,rfl,.str_mk,_,_,[],[],rfl,rfl,.str_mk,rfl,rfl⟩
    ·cases e
   ·cases e
  ·cases e) ho ha hb hl hs
noncomputable def QcZ(fa:DE):DE:=λρ=>(fa ρ).bind λr=>match r.d with
 | .int i=>if i.natAbs.log2<1920 then some ⟨.str (toString i),true,[]⟩else none
 | .str x=>if x.length<=sizeLine then some ⟨.str x,true,[]⟩else none
 | _=>none
theorem Qt7(ha:SE X e fa):SE X (.FormattedValue e (-1) none pos) (QcZ fa):=λH0 A0 pins s σ H Q I=>exK λρ hs F r' rel h q=>by
 refine Qf h λra e1 h=>?_
 refine FormattedValue_plain (thn (ha H0 A0 pins s σ H (λx H1=>x=x/\∃G,QR X.K ρ F H H1 ra x G) I ⟨ρ,hs,F,ra,rel,e1,λx H1 G p=>⟨rfl,G,p⟩⟩) λu s1=>exJ λx H1 I1 r1 q1=>?_)
 obtain⟨_,G,p⟩:=q1
 have rp:=p.rp
 cases hd:ra.d with
 | int i=>
  rw[hd]at h rp
  dsimp only at h
  split at h
  ·rename_i hz
   cases h
   rw[rp.int_inv]at r1
   obtain⟨t,rfl⟩:=(show ∃t,u=Value.int i t from r1)
   exact formatField_int_small hz ⟨.str _,H1,I1.tok _,⟨_,rfl⟩,q _ H1 [] (.flat p.same .str_mk)⟩
  ·cases h
 | str z=>
  rw[hd]at h rp
  dsimp only at h
  split at h
  ·rename_i hz
   cases h
   rw[rp.str_inv]at r1
   obtain⟨t,rfl⟩:=(show ∃t,u=Value.str z t from r1)
   exact formatField_str (λt' tk=>⟨.str _,H1,I1.tok _,⟨_,rfl⟩,q _ H1 [] (.flat p.same .str_mk)⟩) hz
  ·cases h
 | _=>rw[hd]at h;cases h
noncomputable def QoM(out:Str)(ts:List Str):Str:=ts.foldl (· ++ ·) out
noncomputable def dFs(fs:DA):DE:=λρ=>(fs ρ).bind λr=>(QcU r.ds).bind λts=>if(ts.map (·.length)).sum<=sizeLine then some ⟨.str (QoM Str.empty ts),true,[]⟩else none
def SJ(X:Cx)(es:List Expr)(fs:DA):Prop:=∀(H0:Hp) (A0:List Addr) (out:Str) (pins:List (Addr×Obj)) (s:Shared) (σ:L2.St) (H:Hp) (Q:VK) (ρ:En) (hs:List (V×D×List Addr)) (F:Nat->List Addr) (rs:RA) (ts:List Str),Inv X pins σ H s->Rel X.K H0 A0 hs ρ F σ H->fs ρ=some rs->QcU rs.ds=some ts->out.length+(ts.map (·.length)).sum<=sizeLine->(∀H',Qz H H'->Q (.str (QoM out ts)) H')→
 wpAny (model X.prog X.w) X.A (joinParts out (evalEach es X.env)) (EP X pins σ Q) X.xe s
theorem Qto:SJ X [] Qe:=λH0 A0 out pins s σ H Q ρ hs F rs ts I rel e1 e2 hl q=>by
 cases e1
 cases e2
 exact joinParts_nilE (joinParts_nil ⟨.str _,H,I.tok _,⟨_,rfl⟩,q H (Qz.refl _)⟩ (by simpa using hl))
theorem Qsr(ha:SE X e fa)(hr:SJ X es fs):SJ X (e::es) (Qb fa fs):=λH0 A0 out pins s σ H Q ρ hs F rs ts I rel e1 e2 hl q=>by
 refine Qf e1 λra ea e1=>?_
 refine Qf e1 λrb eb e1=>?_
 cases e1
 have e2:QcU (ra.d::rb.ds)=some ts:=e2
 cases hd:ra.d with
 | str y=>
  rw[hd]at e2
  obtain⟨ts',e3,rfl⟩:=Zg.mp (show(QcU rb.ds).map (λr=>y::r)=some ts from e2)
  simp only[Zo,ZP]at hl
  refine joinParts_consE (joinParts_cons (thn (ha H0 A0 pins s σ H (λx H1=>x= .str y/\Qz H H1) I ⟨ρ,hs,F,ra,rel,ea,λx H1 G p=>⟨by have rp:=p.rp;rw[hd]at rp;exact rp.str_inv,p.same⟩⟩) λu s1=>exJ λx H1 I1 r1 q1=>?_))
  obtain⟨rfl,sm⟩:=q1
  obtain⟨t,rfl⟩:=(show ∃t,u=Value.str y t from r1)
  have hl1:(out++y).length=out.length+y.length:=Str.length_append out y
  refine⟨by rw[hl1];omega,?_⟩
  exact hr H0 A0 (out++y) pins s1 σ H1 Q ρ hs F rb ts' I1 (rel.ext sm) eb e3 (by rw[hl1];omega) λH' s'=>q H' (sm.trans s')
 | _=>rw[hd]at e2;cases e2
theorem Qvs{e':Expr}(h:SJ X (e::e'::es) fs):SE X (.JoinedStr (e::e'::es) pos) (dFs fs):=λH0 A0 pins s σ H Q I=>exK λρ hs F r' rel e q=>by
 refine Qf e λra e1 e=>?_
 refine Qf e λts e2 e=>?_
 split at e
 ·rename_i hz
  cases e
  exact JoinedStr_many (h H0 A0 Str.empty pins s σ H Q ρ hs F ra ts I rel e1 e2 (by show 0+_<=_;omega) λH' sm=>q _ H' [] (.flat sm .str_mk))
 ·cases e
end
end HS
namespace HS
open PySem PySem.Spec L2 PyProof.Rows
section
variable {X:Cx}{e:Expr}{es:List Expr}{fs:DA}{pos:Pos}
theorem Qr2{p:Pos}(hcl:X.calm=true)(hg:Gl X "list")(hm:X.mg "list" =none)(ha:SA X (e::es) fs)(he:starEach (e::es) X.env=(false,eval e X.env)::starEach es X.env)(hpl:(backTo pos (starEach es X.env)).any (·.1)=false):
    SE X (.Call (.Name "list" p) (e::es) [] pos) (dList fs):=λH0 A0=>
 (Qjd Qj5 hg hm Zbj (ha H0 A0) (by decide) (by decide) he hpl).mono λσ H Q=>exK λρ hs F r' rel e q=>by
    refine Qf e λra e1 e=>?_
    refine⟨ρ,hs,F,ra,rel,e1,λvs H1 G p1=>?_⟩
    have rp:=p1.rp
    have src:=p1.src
    split at e
    · rename_i xs hds
      cases e
      rw[hds]at rp
      obtain⟨v,rfl,rq⟩:=rp.one
      obtain⟨l,ws,L,rfl,hl,rl,zl,el⟩:=rq.lst_inv
      refine⟨l,ws,rfl,.inl (Q1 hl),λc hc=>q _ _ (c::L) (QR.Qab p1.same hc rl zl (λz hz=>src z ?_) p1.own)⟩
      rcases el with rfl | rfl
      · exact Zb _ hz
      · exact hz
    · rename_i xs hds
      split at e
      · rename_i hz
        cases e
        rw[hds]at rp
        obtain⟨v,rfl,rq⟩:=rp.one
        obtain⟨l,ws,rfl,hl,rl⟩:=rq.QaW
        exact⟨l,ws,rfl,.inr hl,λc hc=>q _ _ (c::G) (QR.Qab p1.same hc rl hz src p1.own)⟩
      · cases e
    · cases e
end
end HS
namespace HS
open PySem L2
def Inc(xs:Array Nat):Prop:=xs.toList.Pairwise (· < ·)
theorem Inc.get{xs:Array Nat}(h:Inc xs){i j a b:Nat}(hi:xs[i]? =some a)(hj:xs[j]? =some b)(hij:i<j):a<b:=by
 rw[← Array.getElem?_toList]at hi hj
 obtain⟨i1,rfl⟩:=Zd.mp hi
 obtain⟨j1,rfl⟩:=Zd.mp hj
 exact List.pairwise_iff_getElem.mp h i j i1 j1 hij
structure Cut (xs:Array Nat) (j r:Nat):Prop where
 le:r<=xs.size
 lo:∀i a,i<r->xs[i]? =some a->a<j
 hi:∀i a,r<=i->xs[i]? =some a->j<=a
structure TbI (t:SetTable):Prop where
 inc:Inc t.place
 dum:t.dummies= #[]
end HS
namespace HS
open PySem
section
variable {t:SetTable}
end
section
variable {mask:Nat}{owner:Array (Option Nat)}
structure Own (mask:Nat) (owner:Array (Option Nat)) (k:Nat):Prop where
 size:owner.size=mask+1
 perm:(owner.toList.filterMap id).Perm (List.range k)
end
end HS
namespace HS
open PySem L2 PyProof.Rows
section
variable {prog:Program}{w:World}{A:Around}{E:Value->Shared->Prop}{s:Shared}
structure Qu7 (prog:Program) (w:World) (L:Bool) (ob:Obj) (ar:Array (Int×Value)) (tb:SetTable) (S:Int->Bool) (n:Nat):Prop where
 ex:ob.ExactSet
 el:ElemsOf (intKind prog w) ar.toList
 mem:∀k,S k=true↔∃e∈ar.toList,(intKind prog w).is k e.2=true
 lt:ar.size<scanBound
 fit:tb.fits ar.size=true
 num:ar.size=n
 ti:TbI tb
 led:tb.led=L
def Sz(tb:SetTable)(n:Nat):Prop:=tb.plain=true/\(tb.mask=7/\n<=4∨tb.mask=31/\n<=18)
def QiH(prog:Program)(w:World)(L:Bool)(h:Heap)(a:Addr)(S:Int->Bool)(n:Nat):Prop:=∃ob ar en tb,h.get? a=some ob/\ob.data= .set ar en tb/\Qu7 prog w L ob ar tb S n/\Sz tb n
theorem QiH.Qfq{L:Bool}{h h':Heap}{a:Addr}{S:Int->Bool}{n:Nat}(r:QiH prog w L h a S n)(k:∀o,h.get? a=some o->h'.get? a=some o):QiH prog w L h' a S n:=by
 obtain⟨ob,ar,en,tb,h1,h2⟩:=r
 exact⟨ob,ar,en,tb,k _ h1,h2⟩
theorem QiH.cast{L:Bool}{h:Heap}{a:Addr}{S S':Int->Bool}{n n':Nat}(r:QiH prog w L h a S n)(e:∀k,S k=S' k)(en:n=n'):QiH prog w L h a S' n':=by
 have:S=S':=funext e
 subst this;subst en;exact r
end
end HS
namespace HS
open PySem L2 PyProof.Rows
section
variable {prog:Program}{w:World}{A:Around}{R:Result->Shared->Prop}{I:Addr}{fp wr:List Addr}{G:Array GenState->Array GenState->Prop}{n:Nat}{P:Nat->Value->Prop}{St:Nat->Shared->Prop}
end
end HS
namespace HS
open PySem L2 PyProof.Rows
section
variable {prog:Program}{w:World}{A:Around}{E:Value->Shared->Prop}{s:Shared}
noncomputable abbrev Qww(w:World):Bool:= !w.params.followText "set-order"
noncomputable abbrev QuA(w:World):Obj:={cls:= .type "set",dict:=none,data:= .set #[] 0 (.fresh 0 0 (Qww w))}
end
end HS
namespace HS
open PySem L2 PyProof.Rows
section
variable {prog:Program}{w:World}
structure QwR (prog:Program) (w:World) (a:Addr) (ob:Obj) (ep:Nat) (wk:Array (Int×Value)) (sl:Nat->Nat):Prop where
 zero:sl 0=0
 next:∀(A:Around) (E:Value->Shared->Prop) (s:Shared) (Q:Option (Value×Nat)->Shared->Prop) (i:Nat) (e:Int×Value),s.heap.get? a=some ob->wk[i]? =some e->Q (some (e.2,sl (i+1))) s->wpAny (model prog w) A (setNext a (sl i) i ep) Q E s
 stop:∀(A:Around) (E:Value->Shared->Prop) (s:Shared) (Q:Option (Value×Nat)->Shared->Prop),s.heap.get? a=some ob->Q none s->wpAny (model prog w) A (setNext a (sl wk.size) wk.size ep) Q E s
end
end HS
namespace HS
open PySem L2 PyProof.Rows
section
variable {prog:Program}{w:World}{A:Around}{E:Value->Shared->Prop}{s:Shared}
end
end HS
namespace HS
open PySem L2 PyProof.Rows
section
variable {prog:Program}{w:World}{A:Around}{E:Value->Shared->Prop}{s:Shared}
end
end HS
namespace HS
open PySem L2 PyProof.Rows
section
variable {prog:Program}{w:World}{A:Around}{E:Value->Shared->Prop}{s:Shared}
end
end HS
namespace HS
open PySem PySem.Spec L2 PyProof.Rows
section
variable {X:Cx}{a:Expr}{fa:DE}{pos:Pos}
end
end HS
namespace HS
open PySem PySem.Spec PyProof.Rows L2
section
variable {X:Cx}{a b c:Expr}{fa fb fc:DE}{pos:Pos}
end
end HS
namespace HS
open PySem PySem.Spec L2
noncomputable abbrev Cn:=Int ⊕ Str
noncomputable def cnD:Cn->D
 | .inl i=> .int i
 | .inr x=> .str x
noncomputable def cnV:Cn->Tok->Value
 | .inl i,t=> .int i t
 | .inr x,t=> .str x t
structure FnR where
 n:Nat
 dfl:List D
 den:Den
structure Th where
 N:List Str
 sc:List (Str×NameKind)
 Γ:List (Str×FnR)
 cs:List (Str×Cn)
 tr:Stmt->Option DS:=λ_=>none
noncomputable def posOf(x:Str):List Str->Option Nat
 | []=>none
 | y::ys=>if x=y then some 0 else(posOf x ys).map (· +1)
theorem Qeb:∀{x:Str}{ys:List Str}{i:Nat},posOf x ys=some i->ys[i]? =some x
 | x,[],i,h=>by cases h
 | x,y::ys,i,h=>by
  unfold posOf at h
  split at h
  ·rename_i e;cases h;subst e;rfl
  ·obtain⟨j,hj,rfl⟩:=Zg.mp h
   simpa using Qeb hj
noncomputable def look{α:Type}(x:Str):List (Str×α)->Option α
 | []=>none
 | (y,a)::r=>if x=y then some a else look x r
theorem Qbb{α:Type}:∀{x:Str}{l:List (Str×α)},look x l=l.lookup x
 | x,[]=>rfl
 | x,(y,a)::r=>by
  unfold look
  rw[Zq]
  by_cases h:x=y
  ·subst h;simp
  ·rw[if_neg h,Qbb]
   have:(x == y)=false:=by simpa using h
   rw[this]
noncomputable def Qqy:NameKind->Bool
 | .local =>true | .cell=>true | .free=>true | _=>false
noncomputable def QqC:NameKind->Bool
 | .local =>true | .cell=>true | _=>false
noncomputable def Qwr:NameKind->Bool
 | .globalImplicit=>true | _=>false
noncomputable def isFree:NameKind->Bool
 | .free=>true | _=>false
noncomputable def odd(x:Str):Bool:=decide (x= "__debug__") || decide (x= "__classdict__") || decide (x= "__name__")
noncomputable def Th.slot(Θ:Th)(x:Str):Option Nat:=if((look x Θ.sc).map Qqy).getD false && !odd x then posOf x Θ.N else none
noncomputable def Th.Qb5(Θ:Th)(x:Str):Option Nat:=if((look x Θ.sc).map QqC).getD false && !odd x then posOf x Θ.N else none
noncomputable def Th.gl(Θ:Th)(x:Str):Bool:=((look x Θ.sc).map Qwr).getD false && !odd x
def Qrr(X:Cx)(x:Str)(r:FnR):Prop:=∃k f fd ps,Qa7 X.prog X.w X.K X.mg X.base CX0 k f fd ps (spV X.K r.n r.den)/\Qaj k X.A/\X.mg x=some (.ref f)/\PySem.W.keepIn X.K (.ref f)=true∧
 ∀m,m<=r.dfl.length->∃ds dvs,Binds X.K fd ps ds/\Qq dvs ds/\∀H,Rps X.K H (r.dfl.drop (r.dfl.length-m)) dvs []
noncomputable def QjT:List Str:=["range","enumerate","zip","len","list","min","max","sum","abs","isinstance","int","bool","tuple","str","divmod","sorted","any","all","set"]
structure CtxB (X:Cx) (Θ:Th):Prop where
 N:X.N=Θ.N
 nd:Θ.N.Nodup
 lc:∀x,look x Θ.sc=some .local ->X.env.scope.names.lookup x=some .local
 ce:∀x,look x Θ.sc=some .cell->X.env.scope.names.lookup x=some .cell/\X.fn x=true
 fe:∀x,look x Θ.sc=some .free->X.env.scope.names.lookup x=some .cell∨X.env.scope.names.lookup x=some .free
 gl:∀x,look x Θ.sc=some .globalImplicit->X.env.scope.names.lookup x=some .globalImplicit
 units:X.A.units+64<cLine
 mg:∀x∈QjT,X.mg x=none
 cs:∀x i,look x Θ.cs=some i->∃t,X.mg x=some (cnV i t)
structure Q5 (X:Cx) (Θ:Th):Prop extends CtxB X Θ where
 calm:X.calm=true
 pass:PassesOwn (model X.prog X.w) X.A X.env X.xe
 fns:∀x r,look x Θ.Γ=some r->Qrr X x r
 tr:∀st f,Θ.tr st=some f->S1 X st f
section
theorem Ql7(h:odd x=false):(x == ("__debug__" :Str))=false/\(x == ("__classdict__" :Str))=false/\x≠ "__name__" :=by
 unfold odd at h
 simp only[Bool.or_eq_false_iff,decide_eq_false_iff_not]at h
 exact⟨by simpa using h.1.1,by simpa using h.1.2,h.2⟩
theorem QeG(ok:CtxB X Θ)(h:Θ.slot x=some i):PE X (.Name x pos) (QeA i):=by
 unfold Th.slot at h
 split at h
 ·rename_i hc
  simp only[Zh,Zah]at hc
  obtain⟨h1,h2,_⟩:=Ql7 hc.2
  refine Qtm (by rw[ok.N];exact Qeb h) ?_ h1 h2
  cases q:look x Θ.sc with
  | none=>rw[q]at hc;cases hc.1
  | some k=>
   rw[q]at hc
   cases k with
   | «local» =>exact .inl (ok.lc x q)
   | cell=>exact .inr (.inl (ok.ce x q).1)
   | free=>exact .inr (ok.fe x q)
   | _=>cases hc.1
 ·cases h
theorem Qdb(ok:CtxB X Θ)(h:Θ.Qb5 x=some i):X.N[i]? =some x/\Loc X.env.scope x/\(X.fn x=true∨X.env.scope.names.lookup x=some .local):=by
 unfold Th.Qb5 at h
 split at h
 ·rename_i hc
  simp only[Zh,Zah]at hc
  refine⟨by rw[ok.N];exact Qeb h,?_⟩
  cases q:look x Θ.sc with
  | none=>rw[q]at hc;cases hc.1
  | some k=>
   rw[q]at hc
   cases k with
   | «local» =>exact⟨.inl (ok.lc x q),.inr (ok.lc x q)⟩
   | cell=>exact⟨.inr (ok.ce x q).1,.inl (ok.ce x q).2⟩
   | _=>cases hc.1
 ·cases h
theorem Qg7(ok:CtxB X Θ)(h:Θ.gl x=true):Gl X x/\(x == ("__debug__" :Str))=false/\x≠ "__name__" :=by
 unfold Th.gl at h
 simp only[Zh,Zah]at h
 obtain⟨h1,h2,h3⟩:=Ql7 h.2
 refine⟨?_,h1,h3⟩
 cases q:look x Θ.sc with
 | none=>rw[q]at h;cases h.1
 | some k=>
  rw[q]at h
  cases k with
  | globalImplicit=>exact ok.gl x q
  | _=>cases h.1
end
noncomputable def isTup:Expr->Bool
 | .Tuple .. =>true
 | _=>false
noncomputable def QbO:Expr->Option Str
 | .Name x _=>some x
 | _=>none
noncomputable def Qiv(Θ:Th):Expr->Option Tg
 | .Name x _=>(Θ.Qb5 x).map .nm
 | .Tuple es _ _=>((es.mapM QbO).bind λxs=>xs.mapM Θ.Qb5).map .tp
 | _=>none
noncomputable def Qna:CmpOp->Option (D->D->Option D)
 | .Eq=>some gEq | .NotEq=>some gNe | .Lt=>some gLt | .LtE=>some gLe | .Gt=>some gGt | .GtE=>some gGe
 | .Is=>some (Qes false) | .IsNot=>some (Qes true)
 | .In=>some (gIn false) | .NotIn=>some (gIn true)
noncomputable def Qpn(x:Str):Option String:=
 if x= "int" then some "int" else if x= "bool" then some "bool" else if x= "list" then some "list" else if x= "tuple" then some "tuple" else if x= "str" then some "str" else none
noncomputable def inner(Θ:Th)(scope:Scope):Th:={N:=(scope.names.filter λy=>Qqy y.2).map (·.1),sc:=scope.names,Γ:=Θ.Γ,cs:=Θ.cs}
noncomputable def Qgd(Θ:Th)(scope:Scope):List (Option Nat):=(inner Θ scope).N.map λx=>if((look x scope.names).map isFree).getD false then posOf x Θ.N else none
noncomputable def Qhv(Θ:Th)(scope:Scope)(t:Tg):Bool:=(scope.kind == .function) && decide (inner Θ scope).N.Nodup &&
 (scope.names.all λy=>match y.2 with
  | .cell=>decide (look y.1 scope.names=some .cell)
  | .local =>decide (look y.1 scope.names=some .local)
  | .free=>match look y.1 Θ.sc with
   | some .cell=>true
   | some .free=>true
   | _=>false
  | _=>true) &&
 t.slots.all λj=>match (Qgd Θ scope)[j]? with
  | some (some _)=>false
  | _=>true
noncomputable def QuW:List Expr->Bool
 | []=>true | [_]=>true | _=>false
noncomputable def bf1(x:Str)(fa:DE):Option DE:=
 if x= "len" then some (dBf Qau (Qb fa Qe))else
 if x= "list" then some (dList (Qb fa Qe))else
 if x= "int" then some (dBf Qkk (Qb fa Qe))else
 if x= "str" then some (dBf Qbl (Qb fa Qe))else
 if x= "any" then some (dBf Qf5 (Qb fa Qe))else
 none
noncomputable def bf2(x:Str)(fa fb:DE):Option DE:=
 if x= "min" then some (dBf Qb6 (Qb fa (Qb fb Qe)))else
 if x= "max" then some (dBf Qcr (Qb fa (Qb fb Qe)))else
 none
noncomputable def Qhc:Expr->Bool
 | .Name .. =>true
 | .Constant .. =>true
 | _=>false
noncomputable def tm1(m:Str)(fa fb:DE):Option DE:=
 if m= "split" then some (dM1 Qmf fa (Qb fb Qe))else
 if m= "join" then some (dM1 Qe6 fa (Qb fb Qe))else
 if m= "startswith" then some (dM1 gSw fa (Qb fb Qe))else
 if m= "partition" then some (dM1 QjA fa (Qb fb Qe))else
 none
mutual
noncomputable def Qj(n:Nat)(Θ:Th)(e:Expr):Option DE:=match n with
 | 0=>none
 | n+1=>match e with
  | .Name x _=>match Θ.slot x with
   | some i=>some (Qa i)
   | none=>if Θ.gl x then(look x Θ.cs).map λi=>dC (cnD i)else none
  | .Constant (.int i) _ _=>some (dC (.int i))
  | .Constant (.bool b) _ _=>some (dC (.bl b))
  | .Constant .none _ _=>some (dC .non)
  | .Constant (.str x) _ _=>some (dC (.str x))
  | .BinOp a op b _=>(Qj n Θ a).bind λfa=>(Qj n Θ b).bind λfb=>match op with
   | .Add=>some (Qt fa fb)
   | .Mult=>some (Qaq fa fb)
   | .Sub=>some (dOp Qev fa fb)
   | .FloorDiv=>some (dOp QdO fa fb)
   | .Mod=>some (dOp QaH fa fb)
   | _=>none
  | .UnaryOp .USub a _=>(Qj n Θ a).map QtP
  | .UnaryOp .Not a _=>(Qj n Θ a).map QpN
  | .BoolOp .And [a] _=>Qj n Θ a
  | .BoolOp .And (a::b::r) p=>(Qj n Θ a).bind λfa=>(Qj n Θ (.BoolOp .And (b::r) p)).map λfb=>Qdv fa fb
  | .BoolOp .Or [a] _=>Qj n Θ a
  | .BoolOp .Or (a::b::r) p=>(Qj n Θ a).bind λfa=>(Qj n Θ (.BoolOp .Or (b::r) p)).map λfb=>dOr fa fb
  | .Compare a [op] [b] _=>(Qj n Θ a).bind λfa=>(Qj n Θ b).bind λfb=>(Qna op).map λg=>dOp g fa fb
  | .IfExp c a b _=>(Qat n Θ c).bind λg=>(Qj n Θ a).bind λfa=>(Qj n Θ b).map λfb=>dIf g fa fb
  | .Tuple es _ _=>(Qaw n Θ es).map QaI
  | .List es _=>(Qaw n Θ es).map Qaa
  | .Subscript a (.Slice lo hi none _) _=>(Qj n Θ a).bind λfa=>(QhE n Θ lo).bind λfl=>(QhE n Θ hi).map λfh=>Qa8 fa fl fh
  | .Subscript a b _=>(Qj n Θ a).bind λfa=>(Qj n Θ b).map λfb=>Qo fa fb
  | .Call (.Name x _) args [] _=>if Θ.gl x then(match look x Θ.Γ with
    | some r=>if r.n<=args.length+r.dfl.length/\args.length<=r.n then(Qaw n Θ args).map λfs=>Qv r.n r.den (r.dfl.drop (r.dfl.length-(r.n-args.length))) fs else none
    | none=>QjK n Θ x args)else none
  | .Call (.Attribute (.Name x p) m apos) [] [] cpos=>if m= "bit_length" /\(apos.endLine == cpos.line)=true then(Qj n Θ (.Name x p)).map QmW else none
  | .Call (.Attribute o m apos) [b] [] cpos=>if Qhc o=true/\(apos.endLine == cpos.line)=true then(Qj n Θ o).bind λfo=>(Qj n Θ b).bind λfb=>tm1 m fo fb else none
  | .FormattedValue v c none _=>if c= -1 then(Qj n Θ v).map QcZ else none
  | .JoinedStr (v::v'::es) _=>(Qaw n Θ (v::v'::es)).map dFs
  | .ListComp elt [⟨tg,iter,ifs,0⟩] scope _=>(Qiv (inner Θ scope) tg).bind λt=>if Qhv Θ scope t && QuW ifs then
    (Qfg n Θ tg iter).bind λfi=>(QeW n (inner Θ scope) ifs).bind λft=>(Qj n (inner Θ scope) elt).map λfe=>Qax fi t (Qgd Θ scope) ft fe else none
  | _=>none
noncomputable def QjK(n:Nat)(Θ:Th)(x:Str)(args:List Expr):Option DE:=match n with
  | 0=>none
  | n+1=>match args with
    | [a]=>
         (Qj n Θ a).bind λfa=>bf1 x fa
    | [a,b]=>if x= "isinstance" then(Qj n Θ a).bind λfa=>match b with
        | .Name y _=>if Θ.gl y then(Qpn y).map λT=>QcT T fa else none
        | _=>none
      else(Qj n Θ a).bind λfa=>(Qj n Θ b).bind λfb=>bf2 x fa fb
    | _=>none
noncomputable def Qat(n:Nat)(Θ:Th)(e:Expr):Option DT:=match n with
 | 0=>none
 | n+1=>match e with
  | .UnaryOp .Not a _=>(Qat n Θ a).map QbK
  | .BoolOp .And [a] _=>Qat n Θ a
  | .BoolOp .And (a::b::r) p=>(Qat n Θ a).bind λfa=>(Qat n Θ (.BoolOp .And (b::r) p)).map λfb=>QcV fa fb
  | .BoolOp .Or [a] _=>Qat n Θ a
  | .BoolOp .Or (a::b::r) p=>(Qat n Θ a).bind λfa=>(Qat n Θ (.BoolOp .Or (b::r) p)).map λfb=>bOr fa fb
  | .Compare a [op] [b] _=>(Qj n Θ a).bind λfa=>(Qj n Θ b).bind λfb=>(Qna op).map λg=>Qm (dOp g fa fb)
  | .BoolOp _ _ _=>none
  | .IfExp _ _ _ _=>none
  | .Compare _ _ _ _=>none
  | e=>(Qj n Θ e).map Qm
noncomputable def QeW(n:Nat)(Θ:Th)(es:List Expr):Option DT:=match n with
 | 0=>none
 | n+1=>match es with
  | []=>some Qb3
  | [c]=>Qat n Θ c
  | _=>none
noncomputable def Qaw(n:Nat)(Θ:Th)(es:List Expr):Option DA:=match n with
 | 0=>none
 | n+1=>match es with
  | []=>some Qe
  | e::es=>(Qj n Θ e).bind λfa=>(Qaw n Θ es).map λfs=>Qb fa fs
noncomputable def QhE(n:Nat)(Θ:Th)(e:Option Expr):Option DO:=match n with
 | 0=>none
 | n+1=>match e with
  | none=>some Qcu
  | some e=>(Qj n Θ e).map Q4
noncomputable def Qfg(n:Nat)(Θ:Th)(tg e:Expr):Option DI:=match n with
 | 0=>none
 | n+1=>match e with
  | .Call (.Name x _) args [] _=>if Θ.gl x && (look x Θ.Γ).isNone then(match args with
    | [a]=>if x= "range" then(Qj n Θ a).map Qc6 else
     if x= "enumerate" then(if isTup tg then(Qj n Θ a).map Qfx else none)else
     (Qj n Θ e).map QZ
    | [a,b,c]=>
     (Qj n Θ e).map QZ
    | [a,b]=>
     if x= "zip" then(if isTup tg then(Qj n Θ a).bind λfa=>(Qj n Θ b).map λfb=>Qm2 fa fb else none)else
     (Qj n Θ e).map QZ
    | _=>(Qj n Θ e).map QZ)else(Qj n Θ e).map QZ
  | e=>(Qj n Θ e).map QZ
end
theorem Qbp{α β γ:Type}{x:Option α}{y:α->Option β}{k:α->β->γ}{r:γ}(e:(x.bind λa=>(y a).map λb=>k a b)=some r):∃a b,x=some a/\y a=some b/\k a b=r:=by
 refine Qf e λa h1 e=>?_
 obtain⟨b,h2,e⟩:=Zg.mp e
 exact⟨a,b,h1,h2,e⟩
theorem bindR{α β γ:Type}{x:Option α}{y:α->Option β}{k:α->β->γ}{r:γ}{M:γ->Prop}(e:(x.bind λa=>(y a).map λb=>k a b)=some r)(g:∀a b,x=some a->y a=some b->M (k a b)):M r:=by
 obtain⟨a,b,h1,h2,rfl⟩:=Qbp e
 exact g a b h1 h2
theorem Qbe(h:Qj n Θ e=some f)(es:List Expr)(env:Env):starEach (e::es) env=(false,eval e env)::starEach es env:=by
 cases n with
 | zero=>exact nomatch (show(none:Option DE)=some _ from h)
 | succ n=>cases e<;>first | rfl | (exact nomatch (show(none:Option DE)=some _ from h))
theorem QlR:∀{n:Nat}{Θ:Th}{es:List Expr}{f:DA},Qaw n Θ es=some f->∀(pos:Pos) (env:Env),(backTo pos (starEach es env)).any (·.1)=false
 | 0,_,_,_,h,_,_=>by simp[Qaw]at h
 | n+1,_,[],_,h,_,_=>rfl
 | n+1,_,e::es,_,h,pos,env=>by
  simp only[Qaw]at h
  obtain⟨fa,fs,h1,h2,_⟩:=Qbp h
  rw[Qbe h1]
  have:=QlR h2 pos env
  simpa[backTo]using this
theorem Ql0(h:Qj n Θ b=some f):Qf3 b:=by
 cases n with
 | zero=>exact nomatch (show(none:Option DE)=some _ from h)
 | succ n=>cases b<;>first | (intro o i;rfl) | (exact nomatch (show(none:Option DE)=some _ from h))
theorem QuC(h:Qj n Θ e=some f)(env:Env):∀x,foldedSetIterable e env x=pure x:=by
 cases n with
 | zero=>exact nomatch (show(none:Option DE)=some _ from h)
 | succ n=>cases e<;>first | (intro x;rfl) | (exact nomatch (show(none:Option DE)=some _ from h))
theorem Qox(h:Qj n Θ e=some f)(op:CmpOp):behindInMarks op e=false:=by
 cases n with
 | zero=>exact nomatch (show(none:Option DE)=some _ from h)
 | succ n=>cases e<;>first | rfl | (exact nomatch (show(none:Option DE)=some _ from h))
theorem Qc1{env:Env}:∀{names:List (Str×NameKind)}{x:Str},names.lookup x=some .cell→
  (names.map λ(n,k)=>if(k == NameKind.free && env.scope.kind == .function && env.kindOf n == some .cell)then(n,NameKind.cell)else(n,k)).lookup x=some .cell
 | [],_,h=>by simp at h
 | (n,k)::r,x,h=>by
  have ih:= @Qc1 env r x
  rw[Zo]
  cases hx:x == n with
  | true=>
   simp only[Zq,hx]at h
   cases h
   dsimp only
   split<;>simp[Zq,hx]
  | false=>
   simp only[Zq,hx]at h
   dsimp only
   split<;>(simp only[Zq,hx];exact ih h)
theorem Qj0{X:Cx}{Θ:Th}{scope:Scope}{t:Tg}(ok:Q5 X Θ)(h:Qhv Θ scope t=true):Qdm X (inner Θ scope).N scope/\QjC X (inner Θ scope).N scope (Qgd Θ scope) t.slots/\∀cl C fp s3 H3,Q5 (cxc X (inner Θ scope).N scope cl C fp s3 H3) (inner Θ scope):=by
 unfold Qhv at h
 simp only[Zh,decide_eq_true_eq]at h
 obtain⟨⟨⟨h1,h2⟩,h3⟩,h4⟩:=h
 have hk:scope.kind= .function:=by simpa using h1
 have each:∀y∈scope.names,(y.2= .cell->scope.names.lookup y.1=some .cell)/\(y.2= .local ->scope.names.lookup y.1=some .local)/\(y.2= .free->X.env.kindOf y.1=some .cell∨X.env.kindOf y.1=some .free):=λy hy=>by
  have:=Zad.mp h3 y hy
  obtain⟨y,k⟩:=y
  cases k with
  | cell=>exact⟨λ_=>(by rw[← Qbb];simpa using this),λz=>(by cases z),λz=>(by cases z)⟩
  | «local» =>exact⟨λz=>(by cases z),λ_=>by rw[← Qbb];simpa using this,λz=>by cases z⟩
  | free=>
   refine⟨λz=>(by cases z),λz=>(by cases z),λ_=>?_⟩
   dsimp only at this
   split at this
   ·rename_i q;exact .inl (ok.ce _ q).1
   ·rename_i q;exact ok.fe _ q
   ·cases this
  | _=>exact⟨λz=>(by cases z),λz=>(by cases z),λz=>(by cases z)⟩
 have S:Qdm X (inner Θ scope).N scope:=⟨hk,λy hy=>(each y hy).1,λy hy=>(each y hy).2.1,λy hy=>(each y hy).2.2⟩
 refine⟨S,⟨by unfold Qgd;simp,λj i e=>?_,λj i e hj=>?_⟩,λcl C fp s3 H3=>⟨⟨rfl,h2,λx e=>?_,λx e=>?_,λx e=>?_,λx e=>?_,ok.units,ok.mg,ok.cs⟩,ok.calm,PassesOwn.never,ok.fns,λ_ _ e=>nomatch e⟩⟩
 ·unfold Qgd at e
  rw[Zx]at e
  cases q:(inner Θ scope).N[j]? with
  | none=>rw[q]at e;cases e
  | some x=>
   rw[q]at e
   simp only[ZV,Option.some.injEq]at e
   split at e
   ·rename_i hf
    cases hl:look x scope.names with
    | none=>rw[hl]at hf;cases hf
    | some k=>
     rw[hl]at hf
     cases k with
     | free=>
      rw[Qbb]at hl
      exact⟨x,rfl,hl,by rw[ok.N];exact Qeb e,(each (x,.free) (ZR hl)).2.2 rfl⟩
     | _=>cases hf
   ·cases e
 ·have:=Zad.mp h4 j hj
  rw[e]at this
  cases this
 ·have e':scope.names.lookup x=some .local :=by rw[← Qbb];exact e
  exact lookup_relabel_local e'
 ·have e':scope.names.lookup x=some .cell:=by rw[← Qbb];exact e
  exact⟨Qc1 e',decide_eq_true e'⟩
 ·have e':scope.names.lookup x=some .free:=by rw[← Qbb];exact e
  exact Qb2 e'
 ·have e':scope.names.lookup x=some .globalImplicit:=by rw[← Qbb];exact e
  show(relabel scope X.env).names.lookup x=some .globalImplicit
  unfold relabel
  have gen:∀{names:List (Str×NameKind)},names.lookup x=some .globalImplicit→
    (names.map λ(n,k)=>if(k == NameKind.free && X.env.scope.kind == .function && X.env.kindOf n == some .cell)then(n,NameKind.cell)else(n,k)).lookup x=some .globalImplicit:=by
   intro names
   induction names with
   | nil=>intro z;simp at z
   | cons y r ih=>
    intro z
    obtain⟨n,k⟩:=y
    rw[Zo]
    cases hx:x == n with
    | true=>
     simp only[Zq,hx]at z
     cases z
     simp[Zq,hx]
    | false=>
     simp only[Zq,hx]at z
     dsimp only
     split<;>(simp only[Zq,hx];exact ih z)
  exact gen e'
theorem Qm8(ok:Q5 X Θ)(h:Qiv Θ tg=some t):SG X tg t:=by
 have hN:X.N.Nodup:=by rw[ok.N];exact ok.nd
 cases tg with
 | Name x pos=>
  change Option.map _ _=_ at h
  refine mapR h λi hi=>?_
  obtain⟨h1,h2,h3⟩:=Qdb ok.toCtxB hi
  exact Qri (QlU hN h1 h2 h3)
 | Tuple es k pos=>
  change Option.map _ _=_ at h
  refine mapR h λis hi=>?_
  refine Qf hi λxs h1 h2=>?_
  have key:∀(es:List Expr) (xs:List Str) (is:List Nat),es.mapM QbO=some xs->xs.mapM Θ.Qb5=some is->PGs X es (Qhq is)/\(assignEach es X.env).length=is.length/\(assignEach es X.env).findIdx? (·.1)=none:=by
   intro es
   induction es with
   | nil=>
    intro xs is h1 h2
    cases h1
    cases h2
    exact⟨QqO,rfl,rfl⟩
   | cons e es ih=>
    intro xs is h1 h2
    rw[List.mapM_cons]at h1
    refine Qf h1 λx hx h1=>?_
    refine Qf h1 λys hy h1=>?_
    cases h1
    rw[List.mapM_cons]at h2
    refine Qf h2 λi hi h2=>?_
    refine Qf h2 λjs hj h2=>?_
    cases h2
    obtain⟨a1,a2,a3⟩:=ih ys js hy hj
    cases e with
    | Name y p=>
     cases hx
     obtain⟨g1,g2,g3⟩:=Qdb ok.toCtxB hi
     refine⟨Qo4 (QlU hN g1 g2 g3) a1 rfl,?_,?_⟩
     ·show(assignEach es X.env).length+1=_
      rw[a2];rfl
     ·show List.findIdx? (·.1) ((false,assign (.Name x p) X.env)::assignEach es X.env)=none
      rw[List.findIdx?_cons]
      simp only[a3];rfl
    | _=>cases hx
  obtain⟨a1,a2,a3⟩:=key es xs is h1 h2
  exact QuK ok.calm a1 a2 a3
 | _=>exact nomatch (show(none:Option Tg)=some _ from h)
theorem QmX{f:Int->Int->Bool}:∀a b d,gI (λi j=>some (.bl (f i j))) a b=some d->∃k,d= .bl k:=λa b d h=>by
 obtain⟨i,j,_,_,e⟩:=QnL h
 cases e
 exact⟨_,rfl⟩
theorem Qoa(ok:Q5 X Θ)(h:Qna op=some g):∃r,OpR X (compareOp op) r/\Qbj X.K g r/\∀a b d,g a b=some d->∃k,d= .bl k:=by
 cases op<;>cases h
 ·exact⟨_,QsX ok.units,QvM,λa b d h=>by unfold gEq at h;split at h<;>cases h;exact⟨_,rfl⟩⟩
 ·exact⟨_,Qt8 ok.units,Qvh,λa b d h=>by unfold gNe at h;split at h<;>cases h;exact⟨_,rfl⟩⟩
 ·exact⟨_,QuX,Qvn,QmX⟩
 ·exact⟨_,QuU,QvG,QmX⟩
 ·exact⟨_,Qvz,Qvt,QmX⟩
 ·exact⟨_,QvL,QvB,QmX⟩
 ·exact⟨_,QsS.or Qs0,QtH,QlH⟩
 ·exact⟨_,QrW.or Qsc,QnI,QlH⟩
 ·exact⟨_,Qtl ok.units,Qqx,Qnr⟩
 ·exact⟨_,QnK ok.units,Qqx,Qnr⟩
structure Qhm (n:Nat):Prop where
 E:∀X Θ e f,Q5 X Θ->Qj n Θ e=some f->SE X e f
 B:∀X Θ x args f p pos,Q5 X Θ->Θ.gl x=true->QjK n Θ x args=some f->SE X (.Call (.Name x p) args [] pos) f
 T:∀X Θ e f,Q5 X Θ->Qat n Θ e=some f->ST X e f
 Ts:∀X Θ e f,Q5 X Θ->QeW n Θ e=some f->Qj6 X e f
 A:∀X Θ e f,Q5 X Θ->Qaw n Θ e=some f->SA X e f
 J:∀X Θ e f,Q5 X Θ->Qaw n Θ e=some f->SJ X e f
 O:∀X Θ e f,Q5 X Θ->QhE n Θ e=some f->SO X e f
 I:∀X Θ tg e f,Q5 X Θ->Qfg n Θ tg e=some f->SI X tg e f/\∀x,foldedSetIterable e X.env x=pure x
theorem callArgs{X:Cx}{n:Nat}{Θ:Th}{es:List Expr}{fs:DA}(h:Qaw n Θ es=some fs){e:Expr}{es':List Expr}(he:es=e::es')(pos:Pos):starEach (e::es') X.env=(false,eval e X.env)::starEach es' X.env/\(backTo pos (starEach es' X.env)).any (·.1)=false:=by
 subst he
 cases n with
 | zero=>simp[Qaw]at h
 | succ n=>
  simp only[Qaw]at h
  obtain⟨fa,fs',h1,h2,_⟩:=Qbp h
  exact⟨Qbe h1 es' X.env,QlR h2 pos X.env⟩
theorem Qek{X:Cx}{o:Expr}{m:Str}(h:Qhc o=true):attributeBase o m X.env (eval o X.env)=eval o X.env:=by
 cases o<;>first | rfl | cases h
theorem Qtv{X:Cx}{o b:Expr}{m:Str}{fo fb f:DE}{apos pos:Pos}(h1:SE X o fo)(h2:SE X b fb)(ht:Qhc o=true)(hl:(apos.endLine == pos.line)=true)(hs:starEach [b] X.env=[(false,eval b X.env)])(h:tm1 m fo fb=some f):SE X (.Call (.Attribute o m apos) [b] [] pos) f:=by
 unfold tm1 at h
 by_cases e:m= "split"
 ·rw[if_pos e]at h;cases h;subst e;exact Quq h1 (QcL h2 QdS hs) (Qek ht) hl hs
 rw[if_neg e]at h;clear e
 by_cases e:m= "join"
 ·rw[if_pos e]at h;cases h;subst e;exact Qsy h1 (QcL h2 QdS hs) (Qek ht) hl hs
 rw[if_neg e]at h;clear e
 by_cases e:m= "startswith"
 ·rw[if_pos e]at h;cases h;subst e;exact Qvg h1 (QcL h2 QdS hs) (Qek ht) hl hs
 rw[if_neg e]at h;clear e
 by_cases e:m= "partition"
 ·rw[if_pos e]at h;cases h;subst e;exact Qrs h1 (QcL h2 QdS hs) (Qek ht) hl hs
 rw[if_neg e]at h;cases h
theorem QvQ(ih:Qhm n):∀X Θ e f,Q5 X Θ->Qj (n+1) Θ e=some f->SE X e f:=by
  intro X Θ e f ok h
  cases e with
  | Name x pos=>
    (conv at h=>lhs;whnf)
    cases q:Θ.slot x with
    | some i=>rw[q]at h;cases h;exact Qth (QeG ok.toCtxB q)
    | none=>
      rw[q]at h
      dsimp only at h
      split at h
      · rename_i hg
        refine mapR h λi hi=>?_
        obtain⟨g1,g2,g3⟩:=Qg7 ok.toCtxB hg
        obtain⟨t,hm⟩:=ok.cs x i hi
        cases i with
        | inl i=>exact Qh7 (v:= .int i) (QlQ g1 hm ⟨t,rfl⟩ g2) (λ_ _=> .int_mk) rfl
        | inr i=>exact Qh7 (v:= .str i) (QlQ g1 hm ⟨t,rfl⟩ g2) (λ_ _=> .str_mk) rfl
      · cases h
  | Constant c k pos=>
    cases c with
    | int i=>(conv at h=>lhs;whnf);cases h;exact Qh7 QtA (λ_ _=> .int_mk) rfl
    | bool b=>(conv at h=>lhs;whnf);cases h;exact Qh7 Qvr (λ_ _=> .Qa5) rfl
    | none=>(conv at h=>lhs;whnf);cases h;exact Qh7 QuI (λ_ _=> .QeE) rfl
    | str x=>(conv at h=>lhs;whnf);cases h;exact Qh7 QtG (λ_ _=> .str_mk) rfl
    | _=>exact nomatch (show(none:Option DE)=some _ from h)
  | BinOp a op b pos=>
    (conv at h=>lhs;whnf)
    refine Qf h λfa h1 h=>?_
    refine Qf h λfb h2 h=>?_
    have ha:=ih.E X Θ a fa ok h1
    have hb:=ih.E X Θ b fb ok h2
    cases op with
    | Add=>cases h;exact QsK ha hb
    | Mult=>cases h;exact QsU ha hb
    | Sub=>cases h;exact Qni Qul Qnx ha hb
    | FloorDiv=>cases h;exact Qni Qq1 Quf ha hb
    | Mod=>cases h;exact Qni QrO Qut ha hb
    | _=>cases h
  | UnaryOp op a pos=>
    cases op with
    | USub=>
      (conv at h=>lhs;whnf)
      refine mapR h λfa h1=>?_
      exact QtB (ih.E X Θ a fa ok h1)
    | Not=>
      (conv at h=>lhs;whnf)
      refine mapR h λfa h1=>?_
      exact QtY (ih.E X Θ a fa ok h1)
    | _=>exact nomatch (show(none:Option DE)=some _ from h)
  | BoolOp op es pos=>
    cases op with
    | And=>
      match es,h with
      | [],h=>exact nomatch (show(none:Option DE)=some _ from h)
      | [a],h=>(conv at h=>lhs;whnf);exact QnP (ih.E X Θ a f ok h)
      | a::b::r,h=>
        (conv at h=>lhs;whnf)
        refine bindR h λfa fb h1 h2=>?_
        exact Qtc (ih.E X Θ a fa ok h1) (ih.E X Θ _ fb ok h2)
    | Or=>
      match es,h with
      | [],h=>exact nomatch (show(none:Option DE)=some _ from h)
      | [a],h=>(conv at h=>lhs;whnf);exact QnP (ih.E X Θ a f ok h)
      | a::b::r,h=>
        (conv at h=>lhs;whnf)
        refine bindR h λfa fb h1 h2=>?_
        exact Qvj (ih.E X Θ a fa ok h1) (ih.E X Θ _ fb ok h2)
  | Compare a ops bs pos=>
    match ops,bs,h with
    | [op],[b],h=>
      (conv at h=>lhs;whnf)
      refine Qf h λfa h1 h=>?_
      refine bindR h λfb g h2 h3=>?_
      obtain⟨r,o1,o2,_⟩:=Qoa ok h3
      exact Quu o1 o2 (ih.E X Θ a fa ok h1) (ih.E X Θ b fb ok h2) (Qox h2 op)
    | [],_,h=>exact nomatch (show(none:Option DE)=some _ from h)
    | [_],[],h=>exact nomatch (show(none:Option DE)=some _ from h)
    | [_],_::_::_,h=>exact nomatch (show(none:Option DE)=some _ from h)
    | _::_::_,_,h=>exact nomatch (show(none:Option DE)=some _ from h)
  | IfExp c a b pos=>
    (conv at h=>lhs;whnf)
    refine Qf h λg h1 h=>?_
    refine bindR h λfa fb h2 h3=>?_
    exact QvI (ih.T X Θ c g ok h1) (ih.E X Θ a fa ok h2) (ih.E X Θ b fb ok h3)
  | Tuple es k pos=>
    (conv at h=>lhs;whnf)
    refine mapR h λfs h1=>?_
    exact Qt9 (ih.A X Θ es fs ok h1)
  | List es pos=>
    (conv at h=>lhs;whnf)
    refine mapR h λfs h1=>?_
    exact Quj (ih.A X Θ es fs ok h1)
  | Subscript a b pos=>
    by_cases hb:∃lo hi p2,b= .Slice lo hi none p2
    · obtain⟨lo,hi,p2,rfl⟩:=hb
      (conv at h=>lhs;whnf)
      refine Qf h λfa h1 h=>?_
      refine bindR h λfl fh h2 h3=>?_
      exact QtL (ih.E X Θ a fa ok h1) (ih.O X Θ lo fl ok h2) (ih.O X Θ hi fh ok h3)
    · have h':((Qj n Θ a).bind λfa=>(Qj n Θ b).map λfb=>Qo fa fb)=some f:=by
        cases b<;>first
          | (exact h)
          | (rename_i lo hi st p2;cases lo<;>cases hi<;>cases st<;>first | (exact absurd ⟨_,_,_,rfl⟩ hb) | (exact h))
      refine bindR h' λfa fb h1 h2=>?_
      exact Qtf (ih.E X Θ a fa ok h1) (ih.E X Θ b fb ok h2) (Ql0 h2)
  | Call fn args kws pos=>
    cases fn with
    | Name x p=>
     cases kws with
     | cons k ks=>exact nomatch (show(none:Option DE)=some _ from h)
     | nil=>
      have h:(if Θ.gl x then(match look x Θ.Γ with | some r=>if r.n<=args.length+r.dfl.length/\args.length<=r.n then(Qaw n Θ args).map λfs=>Qv r.n r.den (r.dfl.drop (r.dfl.length-(r.n-args.length))) fs else none | none=>QjK n Θ x args)else none)=some f:=h
      split at h
      · rename_i hg
        obtain⟨g1,g2,g3⟩:=Qg7 ok.toCtxB hg
        split at h
        · rename_i r hr
          split at h
          · rename_i hn
            refine mapR h λfs h1=>?_
            obtain⟨k,fa,fd,ps,F1,F2,F3,F4,F5⟩:=ok.fns x r hr
            obtain⟨ds,dvs,b1,b2,b3⟩:=F5 (r.n-args.length) (by omega)
            cases args with
            | nil=>
              cases n with
              | zero=>simp[Qaw]at h1
              | succ n=>
                simp only[Qaw]at h1
                cases h1
                exact Qpf F1 F2 g1 F3 F4 b1 b2 b3 g2
            | cons e es=>
              obtain⟨s1,s2⟩:=callArgs (X:=X) h1 rfl pos
              exact Qsn F1 F2 g1 F3 F4 b1 b2 b3 (ih.A X Θ _ fs ok h1) g2 s1 s2
          · cases h
        · exact ih.B X Θ x args f p pos ok hg h
      · cases h
    | Attribute o m apos=>
      match args,kws,h with
      | [b],[],h=>
        have h:(if Qhc o=true/\(apos.endLine == pos.line)=true then(Qj n Θ o).bind λfo=>(Qj n Θ b).bind λfb=>tm1 m fo fb else none)=some f:=by
          cases o<;>exact h
        split at h
        · rename_i hc
          refine Qf h λfo h1 h=>?_
          refine Qf h λfb h2 h=>?_
          exact Qtv (ih.E X Θ o fo ok h1) (ih.E X Θ b fb ok h2) hc.1 hc.2 (Qbe h2 [] X.env) h
        · cases h
      | [],[],h=>
        cases o with
        | Name x p=>
            have h:(if m= "bit_length" /\(apos.endLine == pos.line)=true then(Qj n Θ (.Name x p)).map QmW else none)=some f:=h
            split at h
            · rename_i hc
              refine mapR h λfa h1=>?_
              obtain⟨rfl,hl⟩:=hc
              exact QrQ (ih.E X Θ _ fa ok h1) rfl hl
            · cases h
        | _=>exact nomatch (show(none:Option DE)=some _ from h)
      | _::_::_,[],h=>exact nomatch (show(none:Option DE)=some _ from(by cases o<;>exact h))
      | [],_::_,h=>exact nomatch (show(none:Option DE)=some _ from(by cases o<;>exact h))
      | [_],_::_,h=>exact nomatch (show(none:Option DE)=some _ from(by cases o<;>exact h))
      | _::_::_,_::_,h=>exact nomatch (show(none:Option DE)=some _ from(by cases o<;>exact h))
    | _=>exact nomatch (show(none:Option DE)=some _ from h)
  | FormattedValue v c sp pos=>
    cases sp with
    | some q=>exact nomatch (show(none:Option DE)=some _ from h)
    | none=>
      have h:(if c= -1 then(Qj n Θ v).map QcZ else none)=some f:=h
      split at h
      · rename_i hc
        subst hc
        refine mapR h λfa h1=>?_
        exact Qt7 (ih.E X Θ v fa ok h1)
      · cases h
  | JoinedStr es pos=>
    match es,h with
    | v::v'::es,h=>
      (conv at h=>lhs;whnf)
      refine mapR h λfs h1=>?_
      exact Qvs (ih.J X Θ _ fs ok h1)
    | [],h=>exact nomatch (show(none:Option DE)=some _ from h)
    | [_],h=>exact nomatch (show(none:Option DE)=some _ from h)
  | ListComp elt gens scope pos=>
    match gens,h with
    | [⟨tg,iter,ifs,k⟩],h=>
      by_cases hk:k=0
      · subst hk
        (conv at h=>lhs;whnf)
        refine Qf h λt ht h=>?_
        split at h
        · rename_i hc
          simp only[Zh]at hc
          refine Qf h λfi h1 h=>?_
          refine bindR h λft fe h2 h3=>?_
          obtain⟨S,cap,inn⟩:=Qj0 ok hc.1
          obtain⟨i1,i2⟩:=ih.I X Θ tg iter fi ok h1
          exact Qsu ok.calm S i1 cap (λcl C fp s3 H3=>⟨Qm8 (inn cl C fp s3 H3) ht,ih.Ts _ _ ifs ft (inn cl C fp s3 H3) h2,ih.E _ _ elt fe (inn cl C fp s3 H3) h3⟩) i2
        · cases h
      · exfalso
        cases k with
        | ofNat k=>
          cases k with
          | zero=>exact hk rfl
          | succ k=>exact nomatch (show(none:Option DE)=some _ from h)
        | negSucc k=>exact nomatch (show(none:Option DE)=some _ from h)
    | [],h=>exact nomatch (show(none:Option DE)=some _ from h)
    | ⟨_,_,_,.ofNat 0⟩::_::_,h=>exact nomatch (show(none:Option DE)=some _ from h)
    | ⟨_,_,_,.ofNat (k+1)⟩::_::_,h=>exact nomatch (show(none:Option DE)=some _ from h)
    | ⟨_,_,_,.negSucc k⟩::_::_,h=>exact nomatch (show(none:Option DE)=some _ from h)
  | _=>exact nomatch (show(none:Option DE)=some _ from h)
theorem Qtt(ok:Q5 X Θ)(g1:Gl X x)(sa:SA X [a] (Qb fa Qe))(st:starEach [a] X.env=(false,eval a X.env)::starEach [] X.env)(h:bf1 x fa=some f):SE X (.Call (.Name x p) [a] [] pos) f:=by
 unfold bf1 at h
 by_cases e:x= "len"
 ·rw[if_pos e]at h;cases h;subst e;have hm:=ok.mg "len" (by decide+kernel)
  exact Qjx Qol QsG g1 hm PySem.boot_len sa (by decide) (by decide) st rfl
 rw[if_neg e]at h;clear e
 by_cases e:x= "list"
 ·rw[if_pos e]at h;cases h;subst e;have hm:=ok.mg "list" (by decide+kernel)
  exact Qr2 ok.calm g1 hm sa st rfl
 rw[if_neg e]at h;clear e
 by_cases e:x= "int"
 ·rw[if_pos e]at h;cases h;subst e;have hm:=ok.mg "int" (by decide+kernel)
  exact Qom Qn3 QtV g1 hm PyProof.Rows.boot_int sa (by decide) (by decide) st rfl
 rw[if_neg e]at h;clear e
 by_cases e:x= "str"
 ·rw[if_pos e]at h;cases h;subst e;have hm:=ok.mg "str" (by decide+kernel)
  exact Qom Qkr QtW g1 hm PyProof.Rows.boot_str sa (by decide) (by decide) st rfl
 rw[if_neg e]at h;clear e
 by_cases e:x= "any"
 ·rw[if_pos e]at h;cases h;subst e;have hm:=ok.mg "any" (by decide+kernel)
  exact Qjx (Qnz ok.calm) QrG g1 hm PyProof.Rows.boot_any sa (by decide) (by decide) st rfl
 rw[if_neg e]at h;clear e
 cases h
theorem Qum(ok:Q5 X Θ)(g1:Gl X x)(sa:SA X [a,b] (Qb fa (Qb fb Qe)))(st:starEach [a,b] X.env=(false,eval a X.env)::starEach [b] X.env)(pl:(backTo pos (starEach [b] X.env)).any (·.1)=false)(h:bf2 x fa fb=some f):SE X (.Call (.Name x p) [a,b] [] pos) f:=by
 unfold bf2 at h
 by_cases e:x= "min"
 ·rw[if_pos e]at h;cases h;subst e;have hm:=ok.mg "min" (by decide+kernel)
  exact Qjx (QnW ok.calm) Qsp g1 hm PyProof.Rows.boot_min sa (by decide) (by decide) st pl
 rw[if_neg e]at h;clear e
 by_cases e:x= "max"
 ·rw[if_pos e]at h;cases h;subst e;have hm:=ok.mg "max" (by decide+kernel)
  exact Qjx (QnN ok.calm) Qq0 g1 hm PyProof.Rows.boot_max sa (by decide) (by decide) st pl
 rw[if_neg e]at h;clear e
 cases h
theorem QuP(ih:Qhm n):∀X Θ x args f p pos,Q5 X Θ->Θ.gl x=true->QjK (n+1) Θ x args=some f->SE X (.Call (.Name x p) args [] pos) f:=by
 intro X Θ x args f p pos ok hg h
 obtain⟨g1,g2,g3⟩:=Qg7 ok.toCtxB hg
 match args,h with
 | [],h=>exact nomatch (show(none:Option DE)=some _ from h)
 | [a],h=>
  change((Qj n Θ a).bind λfa=>bf1 x fa)=some f at h
  refine Qf h λfa h1 h=>?_
  have ha:=ih.E X Θ a fa ok h1
  have st:=Qbe h1 [] X.env
  exact Qtt ok g1 (QcL ha QdS st) st h
 | [a,b],h=>
  change(if x= "isinstance" then(Qj n Θ a).bind λfa=>(match b with | .Name y _=>if Θ.gl y then(Qpn y).map λT=>QcT T fa else none | _=>none)else(Qj n Θ a).bind λfa=>(Qj n Θ b).bind λfb=>bf2 x fa fb)=some f at h
  split at h
  ·rename_i e
   refine Qf h λfa h1 h=>?_
   have ha:=ih.E X Θ a fa ok h1
   split at h
   ·rename_i y p2
    split at h
    ·rename_i hy
     refine mapR h λT hT=>?_
     obtain⟨y1,y2,y3⟩:=Qg7 ok.toCtxB hy
     clear h
     subst e
     refine QuL g1 (ok.mg _ (by decide+kernel)) ha ?_ (Qbe h1 _ X.env)
     unfold Qpn at hT
     split at hT
     ·rename_i e;cases hT;subst e
      exact QeD y1 (ok.mg _ (by decide+kernel)) PyProof.Rows.boot_int rfl
     ·split at hT
      ·rename_i e;cases hT;subst e
       exact QeD y1 (ok.mg _ (by decide+kernel)) PyProof.Rows.boot_bool rfl
      ·split at hT
       ·rename_i e;cases hT;subst e
        exact QeD y1 (ok.mg _ (by decide+kernel)) Zbj rfl
       ·split at hT
        ·rename_i e;cases hT;subst e
         exact QeD y1 (ok.mg _ (by decide+kernel)) PyProof.Rows.boot_tuple rfl
        ·split at hT
         ·rename_i e;cases hT;subst e
          exact QeD y1 (ok.mg _ (by decide+kernel)) PyProof.Rows.boot_str rfl
         ·cases hT
    ·cases h
   ·cases h
  ·refine Qf h λfa h1 h=>?_
   refine Qf h λfb h2 h=>?_
   have ha:=ih.E X Θ a fa ok h1
   have hb:=ih.E X Θ b fb ok h2
   have sb:SA X [b] (Qb fb Qe):=QcL hb QdS (Qbe h2 [] X.env)
   have sa:SA X [a,b] (Qb fa (Qb fb Qe)):=QcL ha sb (Qbe h1 [b] X.env)
   have pl:(backTo pos (starEach [b] X.env)).any (·.1)=false:=by rw[Qbe h2 [] X.env];rfl
   exact Qum ok g1 sa (Qbe h1 [b] X.env) pl h
 | _::_::_::_,h=>exact nomatch (show(none:Option DE)=some _ from h)
theorem Qvp{n:Nat}(ih:Qhm n):∀X Θ e f,Q5 X Θ->Qat (n+1) Θ e=some f->ST X e f:=by
 intro X Θ e f ok h
 have dflt:(Qj n Θ e).map Qm=some f->(∀whole,isTrue e X.env whole=(do let v ← whole;standAt e.pos;holding [v] (truthy v)))->ST X e f:=λh he=>by
  refine mapR h λfa h1=>?_
  exact QsV (ih.E X Θ e fa ok h1) he
 cases e with
 | UnaryOp op a pos=>
  cases op with
  | Not=>
   change(Qat n Θ a).map QbK=some f at h
   refine mapR h λfa h1=>?_
   exact Quc (ih.T X Θ a fa ok h1)
  | _=>exact dflt h λ_=>rfl
 | BoolOp op es pos=>
  cases op with
  | And=>
   match es,h with
   | [],h=>exact nomatch (show(none:Option DT)=some _ from h)
   | [a],h=>exact(QrB (ih.T X Θ a f ok h)).st
   | a::b::r,h=>
    change((Qat n Θ a).bind λfa=>(Qat n Θ (.BoolOp .And (b::r) pos)).map λfb=>QcV fa fb)=some f at h
    refine bindR h λfa fb h1 h2=>?_
    have hb:=ih.T X Θ _ fb ok h2
    exact(QtK (ih.T X Θ a fa ok h1) (λH0 A0 wh pins s σ H Q I q=>by have:=hb H0 A0 pins s σ H Q I q;exact this)).st
  | Or=>
   match es,h with
   | [],h=>exact nomatch (show(none:Option DT)=some _ from h)
   | [a],h=>exact(Quh (ih.T X Θ a f ok h)).st
   | a::b::r,h=>
    change((Qat n Θ a).bind λfa=>(Qat n Θ (.BoolOp .Or (b::r) pos)).map λfb=>bOr fa fb)=some f at h
    refine bindR h λfa fb h1 h2=>?_
    have hb:=ih.T X Θ _ fb ok h2
    exact(Qu0 (ih.T X Θ a fa ok h1) (λH0 A0 wh pins s σ H Q I q=>by have:=hb H0 A0 pins s σ H Q I q;exact this)).st
 | Compare a ops bs pos=>
  match ops,bs,h with
  | [op],[b],h=>
   change((Qj n Θ a).bind λfa=>(Qj n Θ b).bind λfb=>(Qna op).map λg=>Qm (dOp g fa fb))=some f at h
   refine Qf h λfa h1 h=>?_
   refine bindR h λfb g h2 h3=>?_
   obtain⟨r,o1,o2,o3⟩:=Qoa ok h3
   exact QtF o1 o2 o3 (ih.E X Θ a fa ok h1) (ih.E X Θ b fb ok h2) (Qox h2 op)
  | [],_,h=>exact nomatch (show(none:Option DT)=some _ from h)
  | [_],[],h=>exact nomatch (show(none:Option DT)=some _ from h)
  | [_],_::_::_,h=>exact nomatch (show(none:Option DT)=some _ from h)
  | _::_::_,_,h=>exact nomatch (show(none:Option DT)=some _ from h)
 | IfExp c a b pos=>exact nomatch (show(none:Option DT)=some _ from h)
 | _=>exact dflt h λ_=>rfl
theorem Qu8(ih:Qhm n):∀X Θ tg e f,Q5 X Θ->Qfg (n+1) Θ tg e=some f->SI X tg e f/\∀x,foldedSetIterable e X.env x=pure x:=by
 intro X Θ tg e f ok h
 have dflt:(Qj n Θ e).map QZ=some f->SI X tg e f/\∀x,foldedSetIterable e X.env x=pure x:=λh=>by
  obtain⟨fa,h1,rfl⟩:=Zg.mp h
  exact⟨Qte (ih.E X Θ e fa ok h1),QuC h1 X.env⟩
 cases e with
 | Call fn args kws pos=>
  cases fn with
  | Name x p=>
   cases kws with
   | cons k ks=>exact dflt h
   | nil=>
    change @ite _ _ _ _ _=_ at h
    split at h
    ·rename_i hg
     simp only[Zh]at hg
     obtain⟨g1,g2,g3⟩:=Qg7 ok.toCtxB hg.1
     match args,h with
     | [],h=>exact dflt h
     | [a],h=>
      dsimp only at h
      by_cases er:x= "range"
      ·rw[if_pos er]at h
       obtain⟨fa,h1,rfl⟩:=Zg.mp h
       subst er
       exact⟨QnE g1 (ok.mg _ (by decide+kernel)) (ih.E X Θ a fa ok h1) (Qbe h1 [] X.env),λ_=>rfl⟩
      rw[if_neg er]at h
      by_cases ez:x= "enumerate"
      ·rw[if_pos ez]at h
       split at h
       ·rename_i ht
        obtain⟨fa,h1,rfl⟩:=Zg.mp h
        subst ez
        cases tg with
        | Tuple es k tp=>exact⟨QrM g1 (ok.mg _ (by decide+kernel)) (ih.E X Θ a fa ok h1) (Qbe h1 [] X.env),λ_=>rfl⟩
        | _=>exact nomatch (show false=true from ht)
       ·cases h
      rw[if_neg ez]at h
      exact dflt h
     | [a,b],h=>
      dsimp only at h
      by_cases ez:x= "zip"
      ·rw[if_pos ez]at h
       split at h
       ·rename_i ht
        obtain⟨fa,fb,h1,h2,rfl⟩:=Qbp h
        subst ez
        cases tg with
        | Tuple es k tp=>exact⟨QsQ g1 (ok.mg _ (by decide+kernel)) (ih.E X Θ a fa ok h1) (ih.E X Θ b fb ok h2) (by rw[Qbe h1 [b] X.env,Qbe h2 [] X.env];rfl) (Qbe h2 [] X.env),λ_=>rfl⟩
        | _=>exact nomatch (show false=true from ht)
       ·cases h
      rw[if_neg ez]at h
      exact dflt h
     | [a,b,c],h=>
      dsimp only at h
      exact dflt h
     | _::_::_::_::_,h=>exact dflt h
    ·exact dflt h
  | _=>exact dflt h
 | _=>exact dflt h
theorem QcB:∀n,Qhm n
 | 0=>⟨λ_ _ _ _ _ h=>(nomatch (show(none:Option DE)=some _ from h)),λ_ _ _ _ _ _ _ _ _ h=>(nomatch (show(none:Option _)=some _ from h)),λ_ _ _ _ _ h=>(nomatch (show(none:Option _)=some _ from h)),λ_ _ _ _ _ h=>(nomatch (show(none:Option _)=some _ from h)),λ_ _ _ _ _ h=>(nomatch (show(none:Option _)=some _ from h)),
  λ_ _ _ _ _ h=>(nomatch (show(none:Option _)=some _ from h)),
  λ_ _ _ _ _ h=>(nomatch (show(none:Option _)=some _ from h)),λ_ _ _ _ _ _ h=>(nomatch (show(none:Option _)=some _ from h))⟩
 | n+1=>by
  have ih:=QcB n
  refine⟨QvQ ih,QuP ih,Qvp ih,λX Θ e f ok h=>?_,λX Θ e f ok h=>?_,
   λX Θ e f ok h=>?_,
   λX Θ e f ok h=>?_,Qu8 ih⟩
  ·match e,h with
   | [],h=>simp only[QeW]at h;cases h;exact QpJ
   | [c],h=>simp only[QeW]at h;exact QpE (ih.T X Θ c f ok h)
   | _::_::_,h=>simp only[QeW]at h;cases h
  ·match e,h with
   | [],h=>simp only[Qaw]at h;cases h;exact QdS
   | e::es,h=>
    simp only[Qaw]at h
    refine bindR h λfa fs h1 h2=>?_
    exact QcL (ih.E X Θ e fa ok h1) (ih.A X Θ es fs ok h2) (Qbe h1 es X.env)
  ·match e,h with
   | [],h=>simp only[Qaw]at h;cases h;exact Qto
   | e::es,h=>
    simp only[Qaw]at h
    refine bindR h λfa fs h1 h2=>?_
    exact Qsr (ih.E X Θ e fa ok h1) (ih.J X Θ es fs ok h2)
  ·match e,h with
   | none,h=>simp only[QhE]at h;cases h;exact Qsj
   | some e,h=>
    simp only[QhE]at h
    refine mapR h λfa h1=>?_
    exact QqR (ih.E X Θ e fa ok h1)
section
noncomputable def Qw:DS:=λ_=>none
theorem QoI:S1 X st Qw:=λH0 A0=>QpC.mono λE σ H ⟨ρ,hs,F,o,rel,e,q⟩=>by cases e
theorem Qfc:∀{n:Nat}{ρ:En}{o:Out},QaE g fb n ρ=some o->QaE g fb (n+1) ρ=some o
 | 0,_,_,h=>by cases h
 | n+1,ρ,o,h=>by
  unfold QaE at h ⊢
  refine Qf h λb hb h=>?_
  rw[hb]
  cases b with
  | false=>exact h
  | true=>
   rw[if_pos rfl]at h
   refine Qf h λo1 ho h=>?_
   rw[Za,if_pos rfl,ho]
   cases o1 with
   | nx ρ2=>exact Qfc h
   | ct ρ2=>exact Qfc h
   | bk ρ2=>exact h
   | rt d fr=>exact h
theorem QjN(h:QaE g fb n ρ=some o)(hm:n<=m):QaE g fb m ρ=some o:=by
 induction hm with
 | refl=>exact h
 | step _ ih=>exact Qfc ih
open Classical in
noncomputable def Qcf(g:DT)(fb:DS):DS:=λρ=>if h:∃n,(QaE g fb n ρ).isSome=true then QaE g fb h.choose ρ else none
theorem Qcj:Qcf g fb ρ=some o↔∃n,QaE g fb n ρ=some o:=by
 unfold Qcf
 constructor
 ·intro h
  split at h
  ·exact⟨_,h⟩
  ·cases h
 ·rintro⟨n,h⟩
  have hx:∃n,(QaE g fb n ρ).isSome=true:=⟨n,by rw[h];rfl⟩
  rw[dif_pos hx]
  obtain⟨o',ho'⟩:=Zba.mp hx.choose_spec
  have h1:=QjN h (Nat.le_max_left n hx.choose)
  have h2:=QjN ho' (Nat.le_max_right n hx.choose)
  rw[h1]at h2
  rw[ho',← h2]
theorem Qn9(hp:PassesOwn (model X.prog X.w) X.A X.env X.xe)(hc:ST X c gc)(hb:SS X body f):S1 X (.While c body [] pos) (Qcf gc f):=λH0 A0 pins s σ H D I h=>by
 obtain⟨ρ,hs,F,o,rel,e,q⟩:=h
 obtain⟨n,hn⟩:=Qcj.mp e
 exact Qp6 (n:=n) hp hc hb H0 A0 pins s σ H D I ⟨ρ,hs,F,o,rel,hn,q⟩
theorem Qof(g:DT)(fb:DS)(ρ:En):Qcf g fb ρ=(g ρ).bind λb=>if b=true then(fb ρ).bind λo=>match o with
  | .nx ρ2=>Qcf g fb ρ2
  | .ct ρ2=>Qcf g fb ρ2
  | .bk ρ2=>some (.nx ρ2)
  | .rt d fr=>some (.rt d fr)
  else some (.nx ρ):=by
 apply Option.ext
 intro o
 rw[Qcj]
 constructor
 ·rintro⟨n,h⟩
  cases n with
  | zero=>cases h
  | succ n=>
   unfold QaE at h
   refine Qf h λb hb h=>?_
   rw[hb]
   cases b with
   | false=>exact h
   | true=>
    rw[if_pos rfl]at h
    refine Qf h λo1 ho h=>?_
    rw[Za,if_pos rfl,ho]
    cases o1 with
    | nx ρ2=>exact Qcj.mpr ⟨n,h⟩
    | ct ρ2=>exact Qcj.mpr ⟨n,h⟩
    | bk ρ2=>exact h
    | rt d fr=>exact h
 ·intro h
  refine Qf h λb hb h=>?_
  cases b with
  | false=>exact⟨1,by unfold QaE;rw[hb];exact h⟩
  | true=>
   rw[if_pos rfl]at h
   refine Qf h λo1 ho h=>?_
   cases o1 with
   | nx ρ2=>
    obtain⟨n,hn⟩:=Qcj.mp h
    exact⟨n+1,by unfold QaE;rw[hb];rw[Za,if_pos rfl,ho];exact hn⟩
   | ct ρ2=>
    obtain⟨n,hn⟩:=Qcj.mp h
    exact⟨n+1,by unfold QaE;rw[hb];rw[Za,if_pos rfl,ho];exact hn⟩
   | bk ρ2=>exact⟨1,by unfold QaE;rw[hb];rw[Za,if_pos rfl,ho];exact h⟩
   | rt d fr=>exact⟨1,by unfold QaE;rw[hb];rw[Za,if_pos rfl,ho];exact h⟩
theorem QqW(hN:X.N.Nodup)(hx1:X.N[i]? =some x)(hx:Loc X.env.scope x)(hf:X.fn x=true∨X.env.scope.names.lookup x=some .local)
  (hcalm:X.calm=true) (S:Qdm X N' scope) (hi:SI X tg iter fi) (hcap:QjC X N' scope cap t.slots)
  (hin:∀cl C fp s3 H3,SG (cxc X N' scope cl C fp s3 H3) tg t/\Qj6 (cxc X N' scope cl C fp s3 H3) ifs ft/\SE (cxc X N' scope cl C fp s3 H3) elt fe) (hs:∀x,foldedSetIterable iter X.env x=pure x):
  S1 X (.Assign [.Name x pos'] (.ListComp elt [⟨tg,iter,ifs,0⟩] scope pos) spos) (Qu i (Qax fi t cap ft fe)):=
 QkK λH0 A0=>(QrZ hN hx1 hx hf hcalm S (hi H0 A0) (λcl C fp s3 H3=>⟨(hin cl C fp s3 H3).1 _ _,(hin cl C fp s3 H3).2.1 _ _,(hin cl C fp s3 H3).2.2 _ _⟩) hs).mono λE σ H h=>QiP hcap h
end
end HS
namespace HS
open PySem PySem.Spec L2 PyProof.Rows
section
variable {X:Cx}{a b e:Expr}{fa fb:DE}{pf:DP}{x:Nat}{pos apos:Pos}
theorem QrA{X:Cx}{H:Hp}{ds:List D}{w:V}{Gm:List Addr}(h:Rp X.K H (.lst ds) w Gm):tyV X.K "list" w H:=by
 obtain⟨l,ws,L,rfl,hl,_⟩:=h.lst_inv
 exact .inl ⟨rfl,ws,Q1 hl⟩
theorem QR.unit{K:PySem.W.Frag}{ρ:En}{F:Nat->List Addr}{H:Hp}:QR K ρ F H H ⟨.non,true,[]⟩ .non []:= .flat (Qz.refl _) .QeE
theorem Qrz:MtM X "list.extend" (QjH X.K):=by
 intro pins s σ H x vs v us Q I rx rv h
 obtain⟨l,b,xs,zs,rfl,rfl,hH,hb,hz,q⟩:=h
 cases rx
 obtain⟨u,rfl,ru⟩:=rv.one
 cases ru
 obtain⟨z,its,n,r,hl,e⟩:=I.Qo0 hH
 obtain⟨z2,its2,n2,r2,hl2,e2⟩:=I.Qiq hb
 have hsz:its.toArray.size+its2.toArray.size<=sizeLine:=by rw[Zp,Zp];omega
 have hlong:¬(!its.toArray.isEmpty && Builtin.List.listTooLong (its.toArray.size+its2.toArray.size))=true:=by
  rw[QjX hsz,Zbv]
  exact ZH
 refine call_meets F.slot_list_extend ⟨_,e,rfl⟩ F.entry_list_extend (F.args_list_extend_2 _ _)
  (AutoSeq1.list_extend_list_list_0 l its.toArray n b its2.toArray n2 hlong (by rw[Zp];omega) (by omega)) ⟨e,e2,?_⟩
 refine⟨.non,_,I.QsN (its':=its++its2) hH e (by simp) (r.append r2) ?_,rfl,q⟩
 rw[Zf]
 omega
theorem QoQ{H0:Hp}{A0:List Addr}{E:Ends}{σ:L2.St}{H:Hp}:tS X.K H0 A0 (QgB x pf fa) E σ H->Qe8 (tBM X.K "list" (QjH X.K) (tP X.K H0 A0 x pf) (Qgc (tV X.K H0 A0 fa) QgT)) E σ H:=exK λρ hs F o rel e q=>by
 unfold QgB at e
 split at e
 ·rename_i d hx
  refine Qf e λis e2 e=>?_
  refine Qf e λr0 e1 e=>?_
  split at e
  ·rename_i ds es hp hr
   split at e
   ·rename_i hc
    simp only[Zh,decide_eq_true_eq]at hc
    cases e
    refine⟨ρ,hs,F,d,true,is,.lst ds,rel,hx,e2,hp,λv0 w H2 Gm s2 hv0 fo=>⟨QrA fo.rp,ρ,hs,F,r0,rel.ext s2,e1,λvn H3 Gn p=>?_⟩⟩
    have rel3:=(rel.ext s2).ext p.same
    obtain⟨l,vsm,Gp,rfl,g1,g2,g3,g4,g5,g6,g7⟩:=rel3.write .unit rfl Zas hx (by simp) hv0 (fo.same p.same)
    have rn:=p.rp
    rw[hr]at rn
    obtain⟨b,zs,L,rfl,hb,rl,zl,el⟩:=rn.lst_inv
    have eL:=rl.Qbi hc.1
    subst eL
    have n1:=g2.length
    have n2:=rl.length
    refine⟨l,b,vsm,zs,rfl,rfl,g1,hb,by omega,?_⟩
    obtain⟨F',rel'⟩:=g7 (ds++es) (vsm++zs) (Gp++[]) ((g2.upd g1 g4).append (rl.upd g1 (by simp))) (by rw[Zf];exact hc.2) (by rw[Zam,QcX,g3,Qe0 es hc.1];rfl) (λa=>by rw[Zam];omega)
    exact q _ _ F' rel'
   ·cases e
  ·cases e
 ·cases e
theorem Rps.erase{K:PySem.W.Frag}{H:Hp}:∀{ds:List D}{vs:List V}{F:List Addr}(k:Nat),QK ds=true->Rps K H ds vs F->Rps K H (ds.eraseIdx k) (vs.eraseIdx k) []
 | [],vs,F,k,_,h=>by
  simp only[Rps]at h
  obtain⟨rfl,rfl⟩:=h
  simp[Rps]
 | d::ds,vs,F,0,hf,h=>by
  have hF:=h.Qbi hf
  subst hF
  simp only[Rps]at h
  obtain⟨w,ws,F1,F2,rfl,eF,r,q⟩:=h
  have:F2=[]:=(Zbk.mp eF.symm).2
  subst this
  simpa using q
 | d::ds,vs,F,k+1,hf,h=>by
  have hF:=h.Qbi hf
  subst hF
  simp only[Rps]at h
  obtain⟨w,ws,F1,F2,rfl,eF,r,q⟩:=h
  obtain⟨rfl,rfl⟩:=Zbk.mp eF.symm
  simp only[QK,Zh]at hf
  have ih:=Rps.erase k hf.2 q
  simp only[List.eraseIdx_cons_succ,Rps]
  exact⟨w,_,[],[],rfl,rfl,r,ih⟩
end
noncomputable def Qh1:Expr->Bool
 | .ListComp .. =>false
 | .SetComp .. =>false
 | .DictComp .. =>false
 | _=>true
theorem QfE(h:Qh1 e=true):swapsWith e t l env=pure false:=by
 cases e<;>first | rfl | cases h
noncomputable def Qdi(n:Nat)(Θ:Th)(e:Expr):Option (Nat×DP):=match n with
 | 0=>none
 | n+1=>match e with
  | .Name x _=>(Θ.slot x).map λi=>(i,Qai)
  | .Subscript a b _=>(Qdi n Θ a).bind λq=>(Qj n Θ b).map λfb=>(q.1,Qdw q.2 fb)
  | _=>none
theorem Qe3:∀(n:Nat) (X:Cx) (Θ:Th) (e:Expr) (q:Nat×DP),Q5 X Θ->Qdi n Θ e=some q->SPa X e q.1 q.2/\attributeBase e=λ_ env w=>w
 | 0,_,_,_,_,_,h=>(nomatch (show(none:Option _)=some _ from h))
 | n+1,X,Θ,e,q,ok,h=>by
  cases e with
  | Name x pos=>
   change Option.map _ _=_ at h
   obtain⟨i,hi,rfl⟩:=Zg.mp h
   exact⟨Qo3 (QeG ok.toCtxB hi),by funext a b c;rfl⟩
  | Subscript a b pos=>
   change Option.bind _ _=_ at h
   obtain⟨q',fb,h1,h2,rfl⟩:=Qbp h
   exact⟨Qq9 (Qe3 n X Θ a q' ok h1).1 ((QcB n).E X Θ b fb ok h2) (Ql0 h2),by funext a b c;rfl⟩
  | _=>exact nomatch (show(none:Option _)=some _ from h)
noncomputable def Qic:Expr->Bool
 | .Name .. =>true
 | .Subscript _ (.Slice ..) _=>false
 | .Subscript (.Call ..) _ _=>false
 | .Subscript .. =>true
 | _=>false
noncomputable def Qkf:Operator->Option (D->D->Option D)
 | .Add=>some (gI λi j=>some (.int (i+j)))
 | .Sub=>some Qev
 | _=>none
theorem Qnm(h:Qkf op=some g):∃r,OpR X (inplaceOp op) r/\Qbj X.K g r:=by
 cases op<;>cases h
 ·exact⟨_,QqS,QfP (λi j d e=>by cases e;rfl) λi j d e H Q q=>by cases e;exact⟨i,j,rfl,rfl,q _ λ_=> .int_mk⟩⟩
 ·exact⟨_,Qr8,Qnx⟩
noncomputable def QqG:Expr->Bool
 | .Slice .. =>true
 | _=>false
noncomputable def Qht(n:Nat)(Θ:Th)(o:Expr)(m:Str)(args:List Expr):Option DS:=match args with
  | []=>(Qdi n Θ o).bind λq=>
    none
  | [e]=>if m= "append" then
     ((Qdi n Θ o).bind λq=>(Qj n Θ e).map λfa=>QcJ q.1 q.2 fa)
    else
    none
  | _=>none
theorem Qo5(ok:Q5 X Θ)(h:Qht n Θ o m args=some f)(hl:(apos.endLine == cpos.line)=true):
  S1 X (.Expr (.Call (.Attribute o m apos) args [] cpos) pos) f:=by
 have base:∀{q:Nat×DP},Qdi n Θ o=some q->SPa X o q.1 q.2/\attributeBase o m X.env (eval o X.env)=eval o X.env:=λ{q} h1=>by
  obtain⟨sp,ab⟩:=Qe3 n X Θ o _ ok h1
  exact⟨sp,by rw[ab]⟩
 have app:∀{e:Expr}{f:DS},m= "append" ->((Qdi n Θ o).bind λq=>(Qj n Θ e).map λfa=>QcJ q.1 q.2 fa)=some f->S1 X (.Expr (.Call (.Attribute o m apos) [e] [] cpos) pos) f:=λ{e f} em h=>by
  obtain⟨q,fa,h1,h2,rfl⟩:=Qbp h
  obtain⟨sp,hb⟩:=base h1
  subst em
  have he:=(QcB n).E X Θ e fa ok h2
  have st:=Qbe h2 [] X.env
  have sa:∀H0 A0,PA X [e] (Qgc (tV X.K H0 A0 fa) QgT):=λH0 A0=>Qcp (he H0 A0) QdN st
  exact λH0 A0=>(Qib (Qm4 Zbf PySem.F.slot_list_append PySem.F.type_list_append Qi5 (sp H0 A0) (sa H0 A0) hb (by rw[st];rfl) hl st rfl) rfl).mono λE σ H q=>Qqe q
 match args,h with
 | [],h=>
  unfold Qht at h
  dsimp only at h
  obtain⟨⟨x,pf⟩,h1,h⟩:=bind1 h
  obtain⟨sp,hb⟩:=base h1
  cases h
 | [e],h=>
  unfold Qht at h
  dsimp only at h
  by_cases em:m= "append"
  ·rw[if_pos em]at h
   exact app em h
  rw[if_neg em]at h
  clear em
  clear app
  cases h
 | _::_::_,h=>exact nomatch (show(none:Option DS)=some _ from h)
end HS
namespace HS
open PySem PySem.Spec L2
section
variable {X:Cx}{K:PySem.W.Frag}{H0 H H':Hp}{A0:List Addr}{hs:List (V×D×List Addr)}{ρ:En}{F:Nat->List Addr}{σ:L2.St}{st1 st2:Stmt}{sts:List Stmt}{g:DS}{gc:DT}{fe:DE}{w a b:Nat}
theorem Rel.Qwu(rel:Rel K H0 A0 hs ρ F σ H){i:Nat}{v:V}(hi:∀d b,ρ[i]? ≠some (some (d,b))):Rel K H0 A0 hs ρ F (σ.set i (some v)) H:=
 ⟨by rw[ZaE];exact rel.len,λj d b e=>by
  have hj:i≠j:=λz=>by subst z;exact hi d b e
  rw[Zl hj];exact rel.val j d b e,rel.own,rel.src,rel.held,rel.same⟩
noncomputable def Qin(w a b:Nat)(gc:DT)(fe:DE):DS:=λρ=>(gc ρ).bind λc=>if w<ρ.length/\w≠(if c=true then a else b)then QgB (if c=true then a else b) Qai fe (ρ.set w none)else none
theorem Qt2{x:Nat}{Q:VK}(h:tP K H0 A0 x Qai σ H Q)(hw:σ[w]? =σ[x]?):QeA w σ H Q:=by
 obtain⟨ρ,hs,F,d,b,is,dm,rel,hx,hp,hd,q⟩:=h
 cases hp
 cases hd
 obtain⟨v,h1,h2⟩:=rel.val x d b hx
 exact⟨v,by rw[hw];exact h1,q v v H (F x) (Qz.refl _) h1 ⟨rfl,rfl,rfl,h2⟩⟩
theorem Qm6{x:Nat}{o:Out}(h:QgB x Qai fe ρ=some o):(∃d,ρ[x]? =some (some (d,true)))/\∃ρ',o= .nx ρ':=by
 unfold QgB at h
 split at h
 ·rename_i d hx
  refine⟨⟨d,hx⟩,?_⟩
  refine Qf h λis _ h=>?_
  refine Qf h λr _ h=>?_
  split at h
  ·split at h
   ·cases h;exact⟨_,rfl⟩
   ·cases h
  ·cases h
 ·cases h
theorem Qtj(p1:∀H0 A0,PS X st1 (Qix (tIf (tVT X.K H0 A0 gc) (QeA a) (QeA b)) (Qei w)))(p2:∀H0 A0,PS X st2 (Qe8 (tBM X.K "list" (QjH X.K) (QeA w) (Qgc (tV X.K H0 A0 fe) QgT))))(h:SS X sts g):
  SS X (st1::st2::sts) (Qd (Qin w a b gc fe) g):=λH0 A0=>
 (QgJ (p1 H0 A0) (QgJ (p2 H0 A0) (h H0 A0))).mono λE σ H=>exK λρ hs F o rel e q=>by
 refine Qf e λo1 e1 e=>?_
 refine Qf e1 λc ec e1=>?_
 have e1:(if w<ρ.length/\w≠(if c=true then a else b)then QgB (if c=true then a else b) Qai fe (ρ.set w none)else none)=some o1:=e1
 by_cases hw:w<ρ.length/\w≠(if c=true then a else b)
 case neg=>rw[if_neg hw]at e1;cases e1
 rw[if_pos hw]at e1
 obtain⟨hwl,hwx⟩:=hw
 refine⟨ρ,hs,F,c,rel,ec,λH1 s1=>?_⟩
 have hr0:∀d b,(ρ.set w none)[w]? ≠some (some (d,b)):=λd b z=>by
  rw[Zv hwl]at z
  cases z
 have rel0:=(rel.ext s1).weak (QiO (ρ:=ρ) w)
 obtain⟨⟨d,hd⟩,ρ',rfl⟩:=Qm6 e1
 obtain⟨v,hv,_⟩:=rel0.val _ d true hd
 have rel1:=rel0.Qwu (i:=w) (v:=v) hr0
 have key:QeA (if c=true then a else b) σ H1 λv' H'=>Qei w v' σ H' λσ' H'=>Qe8 (tBM X.K "list" (QjH X.K) (QeA w) (Qgc (tV X.K H0 A0 fe) QgT)) {E with nx:=tS X.K H0 A0 g E} σ' H':=by
  refine⟨v,hv,?_⟩
  have hσw:(σ.set w (some v))[w]? =some (some v):=Zv (by rw[← rel.len];exact hwl)
  have hσx:(σ.set w (some v))[if c=true then a else b]? =some (some v):=by rw[Zl hwx];exact hv
  show Qe8 _ _ (σ.set w (some v)) H1
  have:=QoQ (X:=X) (H0:=H0) (A0:=A0) (E:={E with nx:=tS X.K H0 A0 g E}) (σ:=σ.set w (some v)) (H:=H1) (x:=if c=true then a else b) (pf:=Qai) (fa:=fe) ⟨ρ.set w none,hs,F,.nx ρ',rel1,e1,λσ' H' F' rel'=>⟨ρ',hs,F',o,rel',e,q⟩⟩
  exact Qt2 this (hσw.trans hσx.symm)
 cases c with
 | true=>exact key
 | false=>exact key
end
structure Alx where
 w:Str
 c:Expr
 a:Str
 b:Str
 e:Expr
 r:List Stmt
noncomputable def QoL:Stmt->Option (Str×Expr)
 | .Assign ts e _=>match ts with
  | [t]=>(QbO t).map λx=>(x,e)
  | _=>none
 | _=>none
noncomputable def Qp2:Expr->Option (Expr×Str×Str)
 | .IfExp c a b _=>(QbO a).bind λx=>(QbO b).map λy=>(c,x,y)
 | _=>none
noncomputable def Qtg:Expr->Option (Expr×Str×Pos)
 | .Attribute o m p=>some (o,m,p)
 | _=>none
noncomputable def QoH:Expr->Option (Str×Expr)
 | .Call f args kws cpos=>match args with
  | [e]=>match kws with
   | []=>(Qtg f).bind λz=>if z.2.1= "extend" /\(z.2.2.endLine == cpos.line)=true then(QbO z.1).map λw=>(w,e)else none
   | _=>none
  | _=>none
 | _=>none
noncomputable def QsL:Stmt->Option Expr
 | .Expr e _=>some e
 | _=>none
noncomputable def QmL:List Stmt->Option Alx
 | a::b::r=>(QoL a).bind λz=>(Qp2 z.2).bind λy=>(QsL b).bind λf=>(QoH f).bind λu=>if u.1=z.1 then some ⟨z.1,y.1,y.2.1,y.2.2,u.2,r⟩else none
 | _=>none
theorem Qdh{e:Expr}{x:Str}(h:QbO e=some x):∃p,e= .Name x p:=by
 unfold QbO at h
 split at h
 ·cases h;exact⟨_,rfl⟩
 ·cases h
theorem Qp5{st:Stmt}{x:Str}{e:Expr}(h:QoL st=some (x,e)):∃p q,st= .Assign [.Name x p] e q:=by
 unfold QoL at h
 split at h
 ·split at h
  ·obtain⟨y,hy,h⟩:=Zg.mp h
   cases h
   obtain⟨p,rfl⟩:=Qdh hy
   exact⟨p,_,rfl⟩
  ·cases h
 ·cases h
theorem Qpw{e c:Expr}{x y:Str}(h:Qp2 e=some (c,x,y)):∃p q r,e= .IfExp c (.Name x p) (.Name y q) r:=by
 unfold Qp2 at h
 split at h
 ·refine Qf h λx' h1 h=>?_
  obtain⟨y',h2,h⟩:=Zg.mp h
  cases h
  obtain⟨p,rfl⟩:=Qdh h1
  obtain⟨q,rfl⟩:=Qdh h2
  exact⟨p,q,_,rfl⟩
 ·cases h
theorem Qqh{f e:Expr}{w:Str}(h:QoH f=some (w,e)):∃p apos cpos,f= .Call (.Attribute (.Name w p) "extend" apos) [e] [] cpos/\(apos.endLine == cpos.line)=true:=by
 unfold QoH at h
 split at h
 ·split at h
  ·split at h
   ·refine Qf h λz h1 h=>?_
    split at h
    ·rename_i hc
     obtain⟨w',h2,h⟩:=Zg.mp h
     cases h
     unfold Qtg at h1
     split at h1
     ·cases h1
      obtain⟨p,rfl⟩:=Qdh h2
      obtain⟨rfl,hl⟩:=hc
      exact⟨p,_,_,rfl,hl⟩
     ·cases h1
    ·cases h
   ·cases h
  ·cases h
 ·cases h
theorem Qp4{sts:List Stmt}{q:Alx}(h:QmL sts=some q):∃p1 p2 p3 p4 p5 p6 apos cpos p7,sts= .Assign [.Name q.w p1] (.IfExp q.c (.Name q.a p2) (.Name q.b p3) p4) p5:: .Expr (.Call (.Attribute (.Name q.w p6) "extend" apos) [q.e] [] cpos) p7::q.r/\(apos.endLine == cpos.line)=true:=by
 unfold QmL at h
 split at h
 ·refine Qf h λz h1 h=>?_
  refine Qf h λy h2 h=>?_
  refine Qf h λf h3 h=>?_
  refine Qf h λu h4 h=>?_
  split at h
  ·rename_i hc
   cases h
   obtain⟨z1,z2⟩:=z
   obtain⟨y1,y2,y3⟩:=y
   obtain⟨u1,u2⟩:=u
   cases hc
   obtain⟨p1,p5,rfl⟩:=Qp5 h1
   obtain⟨p2,p3,p4,rfl⟩:=Qpw h2
   obtain⟨p6,apos,cpos,rfl,hl⟩:=Qqh h4
   unfold QsL at h3
   split at h3
   ·cases h3;exact⟨p1,p2,p3,p4,p5,p6,apos,cpos,_,rfl,hl⟩
   ·cases h3
  ·cases h
 ·cases h
end HS
namespace HS
open PySem PySem.Spec L2 PyProof.Rows
section
variable {K:PySem.W.Frag}{H0 H H':Hp}{A0:List Addr}{hs:List (V×D×List Addr)}{ρ:En}{F:Nat->List Addr}{σ:L2.St}{x i j:Nat}{ds es:List D}{a:Addr}{vs:List V}{v vn:V}{dn:D}
end
end HS
namespace HS
open PySem PySem.Spec L2 PyProof.Rows
mutual
noncomputable def Qhu(n:Nat)(Θ:Th)(st:Stmt):Option DS:=match n with
 | 0=>none
 | n+1=>match st with
  | .Pass _=>some Qg
  | .Break _=>some QpP
  | .Continue _=>some QoS
  | .Raise _ _ _=>some Qw
  | .Return none _=>some QjG
  | .Return (some e) _=>(Qj n Θ e).map QX
  | .Expr (.Constant (.str _) _ _) _=>some Qg
  | .Expr (.Call (.Attribute o m apos) args [] cpos) _=>if(apos.endLine == cpos.line)=true then Qht n Θ o m args else none
  | .Expr (.Call (.Name x p) args [] cpos) _=>(Qj n Θ (.Call (.Name x p) args [] cpos)).map Qef
  | .Assign [.Name x _] e _=>(Θ.Qb5 x).bind λi=>(Qj n Θ e).map λfa=>Qu i (if Qic e=true then Qb8 fa else fa)
  | .Assign [.Subscript a i _] e _=>(Qdi n Θ a).bind λq=>(Qj n Θ i).bind λfi=>(Qj n Θ e).map λfa=>QdY q.1 q.2 fi fa
  | .AugAssign (.Name x _) op e _=>(Θ.Qb5 x).bind λi=>(Qkf op).bind λg=>(Qj n Θ e).map λfa=>QgA g i fa
  | .AugAssign (.Subscript a i _) op e _=>(Qdi n Θ a).bind λq=>(Qj n Θ i).bind λfi=>(Qkf op).bind λg=>(Qj n Θ e).map λfa=>Qea g q.1 q.2 fi fa
  | .If c a b _=>(Qat n Θ c).bind λg=>(Qav n Θ a).bind λf1=>(Qav n Θ b).map λf2=>sIf g f1 f2
  | .For tg iter body [] _=>(Qiv Θ tg).bind λt=>(Qfg n Θ tg iter).bind λfi=>(Qav n Θ body).map λfb=>Qa6 fi t fb
  | .While c body [] _=>(Qat n Θ c).bind λg=>(Qav n Θ body).map λfb=>Qcf g fb
  | .Try a b c d p=>Θ.tr (.Try a b c d p)
  | _=>none
noncomputable def Qav(n:Nat)(Θ:Th)(sts:List Stmt):Option DS:=match n with
  | 0=>none
  | n+1=>match sts with
    | []=>some Qg
    | st::r=>
       match QmL (st::r)with
       | some q=>(Θ.Qb5 q.w).bind λw=>(Θ.slot q.w).bind λw'=>(Θ.slot q.a).bind λa=>(Θ.slot q.b).bind λb=>if w'=w then(Qat n Θ q.c).bind λgc=>(Qj n Θ q.e).bind λfe=>(Qav n Θ q.r).map λg=>Qd (Qin w a b gc fe) g else none
       | none=>
       (Qhu n Θ st).bind λf=>(Qav n Θ r).map λg=>Qd f g
end
theorem Ql9(h:Qj n Θ e=some f):QqG e=false:=by
 cases n with
 | zero=>exact nomatch (show(none:Option DE)=some _ from h)
 | succ n=>cases e<;>first | rfl | (exact nomatch (show(none:Option DE)=some _ from h))
theorem QrY(h:Qj n Θ (.ListComp elt gens scope pos)=some f):∃m tg iter ifs t fi ft fe,n=m+1/\gens=[⟨tg,iter,ifs,0⟩]/\Qiv (inner Θ scope) tg=some t/\Qhv Θ scope t=true∧
  Qfg m Θ tg iter=some fi/\QeW m (inner Θ scope) ifs=some ft/\Qj m (inner Θ scope) elt=some fe/\f=Qax fi t (Qgd Θ scope) ft fe:=by
 cases n with
 | zero=>exact nomatch (show(none:Option DE)=some _ from h)
 | succ n=>
  match gens,h with
  | [⟨tg,iter,ifs,k⟩],h=>
   by_cases hk:k=0
   ·subst hk
    (conv at h=>lhs;whnf)
    refine Qf h λt ht h=>?_
    split at h
    ·rename_i hc
     simp only[Zh]at hc
     refine Qf h λfi h1 h=>?_
     obtain⟨ft,fe,h2,h3,rfl⟩:=Qbp h
     exact⟨n,tg,iter,ifs,t,fi,ft,fe,rfl,rfl,ht,hc.1,h1,h2,h3,rfl⟩
    ·cases h
   ·exfalso
    cases k with
    | ofNat k=>
     cases k with
     | zero=>exact hk rfl
     | succ k=>exact nomatch (show(none:Option DE)=some _ from h)
    | negSucc k=>exact nomatch (show(none:Option DE)=some _ from h)
  | [],h=>exact nomatch (show(none:Option DE)=some _ from h)
  | ⟨_,_,_,.ofNat 0⟩::_::_,h=>exact nomatch (show(none:Option DE)=some _ from h)
  | ⟨_,_,_,.ofNat (k+1)⟩::_::_,h=>exact nomatch (show(none:Option DE)=some _ from h)
  | ⟨_,_,_,.negSucc k⟩::_::_,h=>exact nomatch (show(none:Option DE)=some _ from h)
theorem Qrj(ok:Q5 X Θ)(hx:Θ.Qb5 x=some i)(h:Qj n Θ e=some fa):S1 X (.Assign [.Name x p] e pos) (Qu i fa):=by
 have hN:X.N.Nodup:=by rw[ok.N];exact ok.nd
 obtain⟨h1,h2,h3⟩:=Qdb ok.toCtxB hx
 by_cases hc:Qh1 e=true
 ·have he:=(QcB n).E X Θ e fa ok h
  exact QkK λH0 A0=>Qhk hN h1 h2 (he H0 A0) (QfE hc) h3
 ·cases e with
  | ListComp elt gens scope cpos=>
   obtain⟨m,tg,iter,ifs,t,fi,ft,fe,rfl,rfl,ht,hco,g1,g2,g3,rfl⟩:=QrY h
   obtain⟨S,cap,inn⟩:=Qj0 ok hco
   obtain⟨i1,i2⟩:=(QcB m).I X Θ tg iter fi ok g1
   exact QqW hN h1 h2 h3 ok.calm S i1 cap (λcl C fp s3 H3=>⟨Qm8 (inn cl C fp s3 H3) ht,(QcB m).Ts _ _ ifs ft (inn cl C fp s3 H3) g2,(QcB m).E _ _ elt fe (inn cl C fp s3 H3) g3⟩) i2
  | SetComp _ _ _ _=>cases n<;>exact nomatch (show(none:Option DE)=some _ from h)
  | DictComp _ _ _ _ _=>cases n<;>exact nomatch (show(none:Option DE)=some _ from h)
  | _=>exact absurd rfl hc
theorem QoV(ok:Q5 X Θ)(hx:Θ.Qb5 x=some i)(h:Qj n Θ e=some fa)(ha:Qic e=true):S1 X (.Assign [.Name x p] e pos) (Qu i (Qb8 fa)):=by
 have hN:X.N.Nodup:=by rw[ok.N];exact ok.nd
 obtain⟨h1,h2,h3⟩:=Qdb ok.toCtxB hx
 have hc:Qh1 e=true:=by cases e<;>first | rfl | cases ha
 have he:=Qpv ((QcB n).E X Θ e fa ok h)
 exact QkK λH0 A0=>Qhk hN h1 h2 (he H0 A0) (QfE hc) h3
theorem QnH:swapsWithSole [.Subscript a i p] e l env=pure false:=by
 cases e<;>rfl
structure QsT (n:Nat):Prop where
 S:∀X Θ st f,Q5 X Θ->Qhu n Θ st=some f->S1 X st f
 Ss:∀X Θ sts f,Q5 X Θ->Qav n Θ sts=some f->SS X sts f
theorem QsP(ih:QsT n):∀X Θ st f,Q5 X Θ->Qhu (n+1) Θ st=some f->S1 X st f:=by
 intro X Θ st f ok h
 have hN:X.N.Nodup:=by rw[ok.N];exact ok.nd
 have E:=QcB n
 cases st with
 | Pass pos=>change some Qg=some f at h;cases h;exact QsF
 | Break pos=>change some QpP=some f at h;cases h;exact QpL
 | Continue pos=>change some QoS=some f at h;cases h;exact QqT
 | Raise a b pos=>change some Qw=some f at h;cases h;exact QoI
 | Return e pos=>
  cases e with
  | none=>change some QjG=some f at h;cases h;exact Qsk
  | some e=>
   change(Qj n Θ e).map QX=some f at h
   obtain⟨fa,h1,rfl⟩:=Zg.mp h
   exact QsJ (E.E X Θ e fa ok h1)
 | Expr e pos=>
  cases e with
  | Constant c k p=>
   cases c with
   | str x=>
    change some Qg=some f at h
    cases h
    exact λH0 A0=>Quy.mono λE σ H ⟨ρ,hs,F,o,rel,e,q⟩=>by cases e;exact q σ H F rel
   | _=>exact nomatch (show(none:Option DS)=some _ from h)
  | Call fn args kws cpos=>
   cases fn with
   | Attribute o m apos=>
    cases kws with
    | nil=>
     change(if(apos.endLine == cpos.line)=true then Qht n Θ o m args else none)=some f at h
     split at h
     ·rename_i hl
      exact Qo5 ok h hl
     ·cases h
    | cons _ _=>exact nomatch (show(none:Option DS)=some _ from h)
   | Name x p=>
    cases kws with
    | nil=>
     change(Qj n Θ (.Call (.Name x p) args [] cpos)).map Qef=some f at h
     obtain⟨fa,h1,rfl⟩:=Zg.mp h
     exact λH0 A0=>QqL (Qib (E.E X Θ _ fa ok h1 H0 A0) rfl)
    | cons _ _=>exact nomatch (show(none:Option DS)=some _ from h)
   | _=>exact nomatch (show(none:Option DS)=some _ from h)
  | _=>exact nomatch (show(none:Option DS)=some _ from h)
 | Assign ts e pos=>
  match ts,h with
  | [t],h=>
   cases t with
   | Name x p=>
    change((Θ.Qb5 x).bind λi=>(Qj n Θ e).map λfa=>Qu i (if Qic e=true then Qb8 fa else fa))=some f at h
    obtain⟨i,fa,h1,h2,rfl⟩:=Qbp h
    split
    ·rename_i ha;exact QoV ok h1 h2 ha
    ·exact Qrj ok h1 h2
   | Subscript a i p=>
    change((Qdi n Θ a).bind λq=>(Qj n Θ i).bind λfi=>(Qj n Θ e).map λfa=>QdY q.1 q.2 fi fa)=some f at h
    refine Qf h λq h1 h=>?_
    obtain⟨fi,fa,h2,h3,rfl⟩:=Qbp h
    obtain⟨sp,_⟩:=Qe3 n X Θ a q ok h1
    have ns:=Ql9 h2
    refine Quw (E.E X Θ e fa ok h3) sp (E.E X Θ i fi ok h2) λte to ti he ho hi=>QtD he (QuN ho hi set_list ?_) QnH ?_ rfl
    ·intro v;cases i<;>first | rfl | (cases ns)
    ·cases e<;>rfl
   | _=>exact nomatch (show(none:Option DS)=some _ from h)
  | [],h=>exact nomatch (show(none:Option DS)=some _ from h)
  | t::_::_,h=>cases t<;>exact nomatch (show(none:Option DS)=some _ from h)
 | AugAssign t op e pos=>
  cases t with
  | Name x p=>
   change((Θ.Qb5 x).bind λi=>(Qkf op).bind λg=>(Qj n Θ e).map λfa=>QgA g i fa)=some f at h
   refine Qf h λi h1 h=>?_
   obtain⟨g,fa,h2,h3,rfl⟩:=Qbp h
   obtain⟨r,o1,o2⟩:=Qnm (X:=X) h2
   obtain⟨g1,g2,g3⟩:=Qdb ok.toCtxB h1
   exact Qti o1 o2 (λte ti he hp=>Qs3 hN g1 g2 he hp g3) (E.E X Θ e fa ok h3)
  | Subscript a i p=>
   change((Qdi n Θ a).bind λq=>(Qj n Θ i).bind λfi=>(Qkf op).bind λg=>(Qj n Θ e).map λfa=>Qea g q.1 q.2 fi fa)=some f at h
   refine Qf h λq h1 h=>?_
   refine Qf h λfi h2 h=>?_
   obtain⟨g,fa,h3,h4,rfl⟩:=Qbp h
   obtain⟨r,o1,o2⟩:=Qnm (X:=X) h3
   obtain⟨sp,_⟩:=Qe3 n X Θ a q ok h1
   have ns:=Ql9 h2
   exact Qr9 o1 o2 (E.E X Θ e fa ok h4) sp (E.E X Θ i fi ok h2) λov iv new=>by cases i<;>first | rfl | (cases ns)
  | _=>exact nomatch (show(none:Option DS)=some _ from h)
 | If c a b pos=>
  change((Qat n Θ c).bind λg=>(Qav n Θ a).bind λf1=>(Qav n Θ b).map λf2=>sIf g f1 f2)=some f at h
  refine Qf h λg h1 h=>?_
  obtain⟨f1,f2,h2,h3,rfl⟩:=Qbp h
  exact QvJ (E.T X Θ c g ok h1) (ih.Ss X Θ a f1 ok h2) (ih.Ss X Θ b f2 ok h3)
 | For tg iter body els pos=>
  cases els with
  | nil=>
   change((Qiv Θ tg).bind λt=>(Qfg n Θ tg iter).bind λfi=>(Qav n Θ body).map λfb=>Qa6 fi t fb)=some f at h
   refine Qf h λt h1 h=>?_
   obtain⟨fi,fb,h2,h3,rfl⟩:=Qbp h
   obtain⟨i1,i2⟩:=E.I X Θ tg iter fi ok h2
   exact Qup ok.pass ok.calm i1 (Qm8 ok h1) (ih.Ss X Θ body fb ok h3) i2
  | cons _ _=>exact nomatch (show(none:Option DS)=some _ from h)
 | While c body els pos=>
  cases els with
  | nil=>
   change((Qat n Θ c).bind λg=>(Qav n Θ body).map λfb=>Qcf g fb)=some f at h
   obtain⟨g,fb,h1,h2,rfl⟩:=Qbp h
   exact Qn9 ok.pass (E.T X Θ c g ok h1) (ih.Ss X Θ body fb ok h2)
  | cons _ _=>exact nomatch (show(none:Option DS)=some _ from h)
 | Try a b c d pos=>exact ok.tr _ _ h
 | _=>exact nomatch (show(none:Option DS)=some _ from h)
theorem Qnd:∀n,QsT n
 | 0=>⟨λ_ _ _ _ _ h=>(nomatch (show(none:Option DS)=some _ from h)),λ_ _ _ _ _ h=>(nomatch (show(none:Option DS)=some _ from h))⟩
 | n+1=>by
  have ih:=Qnd n
  refine⟨QsP ih,λX Θ sts f ok h=>?_⟩
  match sts,h with
  | [],h=>change some Qg=some f at h;cases h;exact QuD
  | st::r,h=>
   change(match QmL (st::r)with
    | some q=>(Θ.Qb5 q.w).bind λw=>(Θ.slot q.w).bind λw'=>(Θ.slot q.a).bind λa=>(Θ.slot q.b).bind λb=>if w'=w then(Qat n Θ q.c).bind λgc=>(Qj n Θ q.e).bind λfe=>(Qav n Θ q.r).map λg=>Qd (Qin w a b gc fe) g else none
    | none=>_)=some f at h
   split at h
   ·rename_i q hq
    refine Qf h λw hw h=>?_
    refine Qf h λw' hw' h=>?_
    refine Qf h λa ha h=>?_
    refine Qf h λb hb h=>?_
    split at h
    case isFalse=>cases h
    rename_i hww
    subst hww
    refine Qf h λgc h1 h=>?_
    obtain⟨fe,g,h2,h3,rfl⟩:=Qbp h
    obtain⟨p1,p2,p3,p4,p5,p6,apos,cpos,p7,hs,hl⟩:=Qp4 hq
    rw[hs]
    have E:=QcB n
    have B:=ok.toCtxB
    have hN:X.N.Nodup:=by rw[ok.N];exact ok.nd
    obtain⟨l1,l2,l3⟩:=Qdb B hw
    have st:=Qbe h2 [] X.env
    exact Qtj (λH0 A0=>Qhk hN l1 l2 (QkM (E.T X Θ q.c gc ok h1 H0 A0) (QeG B ha) (QeG B hb)) (QfE rfl) l3) (λH0 A0=>Qib (Qm4 Zbf PySem.F.slot_list_extend PySem.F.type_list_extend Qrz (QeG B hw') (Qcp (E.E X Θ q.e fe ok h2 H0 A0) QdN st) rfl (by rw[st];rfl) hl st rfl) rfl) (ih.Ss X Θ q.r g ok h3)
   change((Qhu n Θ st).bind λf=>(Qav n Θ r).map λg=>Qd f g)=some f at h
   obtain⟨fs,fr,h1,h2,rfl⟩:=Qbp h
   exact QqY (ih.S X Θ st fs ok h1) (ih.Ss X Θ r fr ok h2)
noncomputable def Qbc(k:Nat)(ds:List D):En:=ds.map (λd=>some (d,d.flat))++List.replicate (k-ds.length) none
noncomputable def outD:Out->Option (D×Bool)
 | .rt d fr=>some (d,fr)
 | .nx _=>some (.non,true)
 | _=>none
noncomputable def Qr(k:Nat)(f:DS):Den:=λds=>(f (Qbc k ds)).bind outD
theorem Rps.parts{K:PySem.W.Frag}{H:Hp}:∀{ds:List D}{vs:List V}{F:List Addr},Rps K H ds vs F→
  ∃Fs:List (List Addr),(∀L∈Fs,∀a∈L,a∈F)/\∀(i:Nat) (d:D),ds[i]? =some d->∃v,vs[i]? =some v/\Rp K H d v (Fs.getD i [])
 | [],_,_,h=>⟨[],λL hL=>by simp at hL,λi d e=>by simp at e⟩
 | d::ds,_,_,h=>by
  simp only[Rps]at h
  obtain⟨v,ws,F1,F2,rfl,rfl,r,q⟩:=h
  obtain⟨Fs,h1,h2⟩:=Rps.parts q
  refine⟨F1::Fs,λL hL a ha=>?_,λi d' e=>?_⟩
  ·rcases Zn.mp hL with rfl | hL
   ·exact Zi _ ha
   ·exact Ze _ (h1 L hL a ha)
  ·cases i with
   | zero=>simp at e;subst e;exact⟨v,by simp,by simpa using r⟩
   | succ i=>obtain⟨w,hw,hr⟩:=h2 i d' (by simpa using e);exact⟨w,by simpa using hw,by simpa using hr⟩
theorem Qgf{k:Nat}{ds:List D}{i:Nat}{d:D}{b:Bool}(h:(Qbc k ds)[i]? =some (some (d,b))):ds[i]? =some d/\b=d.flat:=by
 unfold Qbc at h
 by_cases hi:i<ds.length
 ·rw[ZY (by simpa using hi),Zx]at h
  cases e:ds[i]? with
  | none=>rw[e]at h;cases h
  | some a=>rw[e]at h;cases h;exact⟨rfl,rfl⟩
 ·rw[ZaU (by simpa using hi),Zbc]at h
  split at h<;>cases h
theorem Qi0{K:PySem.W.Frag}{H:Hp}{ds:List D}{vs:List V}{F:List Addr}{N:List Str}(r:Rps K H ds vs F):∃F0,Rel K H F [] (Qbc N.length ds) F0 (start N vs) H:=by
 obtain⟨Fs,h1,h2⟩:=r.parts
 have hl:=r.length
 have src:∀i a,a∈Fs.getD i []->a∈F:=λi a ha=>by
  by_cases hi:i<Fs.length
  ·have:Fs.getD i []∈Fs:=by rw[Zag,ZQ hi];exact List.getElem_mem hi
   exact h1 _ this a ha
  ·rw[Zag,ZD (by omega)]at ha;simp at ha
 refine⟨λi=>Fs.getD i [],?_,λi d b e=>?_,λi d e=>?_,λi d b e a ha=> .inr (src i a ha),λt ht=>absurd ht (by simp),Qz.refl _⟩
 ·unfold Qbc L2.start;simp[hl]
 ·obtain⟨e1,_⟩:=Qgf e
  obtain⟨v,hv,hr⟩:=h2 i d e1
  refine⟨v,?_,hr⟩
  have hi:i<vs.length:=(Zd.mp hv).1
  unfold L2.start
  rw[ZY (by simpa using hi),Zx,hv];rfl
 ·obtain⟨e1,e2⟩:=Qgf e
  obtain⟨v,hv,hr⟩:=h2 i d e1
  have z:Fs.getD i []=[]:=hr.Qbi e2.symm
  simp only[z]
  exact⟨(Qc9 d e2.symm).symm,Zas,λa ha=>by simp at ha,λ_ _ _ _ _ a ha=>by simp at ha,λ_ _ a ha=>by simp at ha⟩
section
variable (P:Program) (w:World) (K:PySem.W.Frag) (mg:Str->Option Value) (base:Heap)
def Known(k:Nat)(x:Str)(r:FnR):Prop:=∃f fd ps,Qa7 P w K mg base CX0 k f fd ps (spV K r.n r.den)/\mg x=some (.ref f)/\PySem.W.keepIn K (.ref f)=true∧
 ∀m,m<=r.dfl.length->∃ds dvs,Binds K fd ps ds/\Qq dvs ds/\∀H,Rps K H (r.dfl.drop (r.dfl.length-m)) dvs []
def Qbn(k:Nat)(Γ:List (Str×FnR)):Prop:=∀x r,look x Γ=some r->Known P w K mg base k x r
structure Qec (cs:List (Str×Cn)):Prop where
 bn:∀x∈QjT,mg x=none
 cs:∀x i,look x cs=some i->∃t,mg x=some (cnV i t)
end
section
variable {P:Program}{w:World}{K:PySem.W.Frag}{mg:Str->Option Value}{base:Heap}
theorem Qbn.nil{k:Nat}:Qbn P w K mg base k []:=λx r h=>by cases h
theorem Known.mono{j k:Nat}{x:Str}{r:FnR}(h:Known P w K mg base j x r)(hk:j<=k):Known P w K mg base k x r:=by
 obtain⟨f,fd,ps,h1,h2⟩:=h
 exact⟨f,fd,ps,h1.mono hk,h2⟩
theorem Qbn.cons{k:Nat}{Γ:List (Str×FnR)}{x:Str}{r:FnR}(t:Qbn P w K mg base k Γ)(h:Known P w K mg base (k+1) x r):Qbn P w K mg base (k+1) ((x,r)::Γ):=λy q e=>by
 unfold look at e
 split at e
 ·rename_i z;cases e;subst z;exact h
 ·exact(t y q e).mono (ZaG _)
noncomputable def namesOf(sc:Scope):List Str:=(sc.names.filter λy=>QqC y.2).map (·.1)
noncomputable def Qgt(st:Stmt)(Γ:List (Str×FnR))(cs:List (Str×Cn)):Th:=⟨namesOf (Qk st),(Qk st).names,Γ,cs,λ_=>none⟩
theorem QqV{CX:CXT}{xe:Value->Shared->Prop}{st:Stmt}{ps:List Str}{qual:Str}{f:Addr}{cdv:Value}{A:Around}{outer:List Env}{s:Shared}{H:Hp}{E:XK}{k:Nat}{Γ:List (Str×FnR)}{cs:List (Str×Cn)}(S:QbZ (namesOf (Qk st)) ps (Qk st))(M:Qec mg cs)(tab:Qbn P w K mg base k Γ)
  (hr:Qaj k (A.deeper (envOfC qual (Qk st) s.heap.objs.size f cdv))) (hp:PassesOwn (model P w) (A.deeper (envOfC qual (Qk st) s.heap.objs.size f cdv)) (envOfC qual (Qk st) s.heap.objs.size f cdv) xe):
  Q5 ((QfF CX P w K mg base (namesOf (Qk st)) qual (Qk st) f cdv A outer s H E).Qc5 xe) (Qgt st Γ cs) where
 N:=rfl
 nd:=S.nd
 lc:=λx h=>by rw[Qbb]at h;exact h
 ce:=λx h=>by rw[Qbb]at h;exact⟨h,rfl⟩
 fe:=λx h=>by rw[Qbb]at h;exact absurd rfl (S.nofree _ (ZR h))
 gl:=λx h=>by rw[Qbb]at h;exact h
 calm:=decide_eq_true hr.hd
 pass:=hp
 tr:=λ_ _ h=>by cases h
 units:=hr.units
 mg:=M.bn
 fns:=λx r h=>by
  obtain⟨f',fd,ps',h1,h2,h3,h4⟩:=tab x r h
  exact⟨k,f',fd,ps',h1,hr,h2,h3,h4⟩
 cs:=M.cs
theorem QnO{st:Stmt}{ps:List Str}{qual:Str}{f:Addr}{cdv:Value}{A:Around}{outer:List Env}{s:Shared}{H:Hp}{E:XK}{k:Nat}{Γ:List (Str×FnR)}{cs:List (Str×Cn)}(S:QbZ (namesOf (Qk st)) ps (Qk st))(M:Qec mg cs)(tab:Qbn P w K mg base k Γ)
  (hr:Qaj k (A.deeper (envOfC qual (Qk st) s.heap.objs.size f cdv))):Q5 (QfF CX0 P w K mg base (namesOf (Qk st)) qual (Qk st) f cdv A outer s H E).nox (Qgt st Γ cs):=QqV S M tab hr PassesOwn.never
theorem QnY{x qual:Str}{st:Stmt}{f:Addr}{fd:FuncData}{ps:List Str}{k n:Nat}{Γ:List (Str×FnR)}{cs:List (Str×Cn)}{g:DS}(F:Fun K x qual st f fd)(S:QbZ (namesOf (Qk st)) ps (Qk st))(M:Qec mg cs)(tab:Qbn P w K mg base k Γ)
  (hc:Qav n (Qgt st Γ cs) (Qak st)=some g):Qa7 P w K mg base CX0 (k+1) f fd ps (spV K ps.length (Qr (namesOf (Qk st)).length g)):=by
 refine F.ok S (QlM rfl) λcdv A outer s H vs Q E hr h=>?_
 obtain⟨ds,L,d,fr,rps,hl,hd,q⟩:=h
 refine⟨_,(Qnd n).Ss _ _ _ g (QnO S M tab hr) hc H L,?_⟩
 obtain⟨F0,rel⟩:=Qi0 (N:=namesOf (Qk st)) rps
 unfold Qr at hd
 refine Qf hd λo ho hd=>?_
 refine⟨_,[],F0,o,rel,ho,?_⟩
 cases o with
 | nx ρ=>
  cases hd
  exact λσ H' F' rel'=>q .non H' [] ⟨rel'.same,.QeE,λa ha=>by simp at ha,λ_=>⟨Zas,rfl,λa ha=>by simp at ha⟩⟩
 | bk ρ=>cases hd
 | ct ρ=>cases hd
 | rt d' fr'=>
  cases hd
  exact λv H' G r=>q v H' G r
structure Fact (K:PySem.W.Frag) (x:Str) (st:Stmt):Prop where
 ex:∃f fd,Fun K x x st f fd/\PySem.W.nsIn K mainGlobals x=some (some (.ref f))
theorem fact_mk{x:Str}{st:Stmt}{f:Addr}{oc:Value}{od an:Option Addr}{osl:Array (Option Value)}{kV doc pm cdv ct:Value}(a:PySem.W.nsIn K mainGlobals x=some (some (.ref f)))(l:K.lookup f=some ⟨oc,od,.func (PySem.W.fnOf x x (Qbz st) (Qak st) (Qk st) .none kV doc pm an cdv ct),osl⟩)
  (c:PySem.W.codeIn K cdv x=true) (k:PySem.W.keepIn K (.ref f)=true):Fact K x st:=⟨f,_,Qs5 l c k,a⟩
theorem l0{α:Type}{P:List α->Prop}(h:P []):∀l:List α,l.length=0->P l:=λl e=>(List.length_eq_zero_iff.mp e).symm▸h
theorem lc{α:Type}{n:Nat}{P:List α->Prop}(h:∀a,∀l:List α,l.length=n->P (a::l)):∀l:List α,l.length=n+1->P l
 | a::l,e=>h a l (Nat.succ.inj e)
def QB(x:Str)(st:Stmt)(ps:List Str):Prop:=∀(kV doc pm:Value) (an:Option Addr) (cdv ct:Value) (us:List Value),us.length=ps.length->bindArgs (PySem.W.fnOf x x (Qbz st) (Qak st) (Qk st) .none kV doc pm an cdv ct) ⟨us,[]⟩=pure (ps.zip us)
theorem QD{h:Heap}{x:Str}{st:Stmt}{ps:List Str}{k n:Nat}{Γ:List (Str×FnR)}{cs:List (Str×Cn)}{g:DS}(X:K.In h)(G:h.Ns mainGlobals mg)(F:Fact K x st)(S:QbZ (namesOf (Qk st)) ps (Qk st))(B:QB x st ps)(M:Qec mg cs)(tab:Qbn P w K mg base k Γ)
  (hc:Qav n (Qgt st Γ cs) (Qak st)=some g):Known P w K mg base (k+1) x ⟨ps.length,[],Qr (namesOf (Qk st)).length g⟩:=by
 obtain⟨f,fd,Fn,a⟩:=F.ex
 refine⟨f,fd,ps,QnY Fn S M tab hc,ZaO X G a,Fn.kp,λm hm=>⟨[],[],Fn.binds (B ·),.nil,λH=>by simp[Rps]⟩⟩
end
end HS
namespace HS
open PySem PySem.Spec L2 PyProof.Rows
theorem QpY{l:PySem.W.OpenLaw}{k:Nat}{q:Program}{loose:List Str}{XP:(Str->Option Value)->Heap->Prop}{YP:World->Heap->Prop}{d:DefRec}{K:Params->PySem.W.Frag}{den:Den}{x:Str}
  (hn:l.most=some 63) (hdf:d.params.defaults=[]) (hr:Qaj k callerA) (hY:∀(w:World) (h:Heap),YP w h->(K w.params).In h)
  (hden:∀ns:List Int,ns.length<=63->∃fr,den [.lst (ns.map .int)]=some (.bl true,fr))
  (F:∀(w:World) (mg:Str->Option Value) (fa:Addr) (h:Heap),(K w.params).In h->h.Ns mainGlobals mg->mg d.name=some (.ref fa)→
   ∃fd:FuncData,(∀(s:Shared) (u:Value),BindsTo s fd ⟨[u],[]⟩ [(x,u)])∧
    ∀base:Heap,(K w.params).In base->base.Ns mainGlobals mg->Qa7 l.prog w (K w.params) mg base CX0 k fa fd [x] (spV (K w.params) 1 den)):
  PySem.W.WalkO q loose XP YP l.row.toRowW d [] (λf vs=>PySem.call f vs):=by
 refine Att.Qgr hn hdf λw s₀ s₁ mg mb fa o pm cd doc a vs ns G Y ho hd hcd hmg hobj hints hlen hg=>?_
 have KX:=hY w _ Y
 obtain⟨fd,hb,hF⟩:=F w mg fa _ KX G.T.g hmg
 have h63:(63:Nat)<=sizeLine:=by decide
 refine Qk2 KX G.T.g G.T.b G.T.builtins G.T.nolimit hg hobj hints (Zu hlen h63) hr hF hb (λH hO hS=>?_) λH e s' z=>z
 have fx:Fix (K w.params) H a (ns.map V.int):=by
  rcases hS with(h | ⟨o,h⟩) | ⟨o,its,n,hk,hc,hdn,hda,hz,rv⟩
  ·rcases hO a with z | ⟨o,xs,z⟩<;>rw[h]at z<;>cases z
  ·exact .inl ⟨o,h⟩
  ·have e:=KX a o hk
   rw[hobj]at e
   cases e
   cases hda
   exact .inr ⟨vs,_,hk,by rw[Zc];exact Zu hlen h63,by simpa using rv⟩
 obtain⟨fr,hfr⟩:=hden ns hlen
 have rp:Rp (K w.params) H (.lst (ns.map .int)) (.ref a) []:=by
  simp only[Rp]
  refine⟨by rw[Zc];exact Zu hlen h63,a,_,rfl,.inr ⟨fx,?_⟩⟩
  have gen:∀ns:List Int,Rps (K w.params) H (ns.map .int) (ns.map .int) []:=by
   intro ns
   induction ns with
   | nil=>simp[Rps]
   | cons n ns ih=>simp only[Zo,Rps];exact⟨_,_,[],[],rfl,rfl,.int_mk,ih⟩
  exact gen ns
 refine⟨[.lst (ns.map .int)],[],.bl true,fr,?_,rfl,hfr,λv H' G r=>r.rp.Qcc⟩
 simp only[Rps]
 exact⟨_,_,[],[],rfl,rfl,rp,rfl,rfl⟩
theorem QvD{P:Program}{w:World}{K:PySem.W.Frag}{mg:Str->Option Value}{h:Heap}{x y:Str}{st:Stmt}{fa:Addr}{k n:Nat}{Γ:List (Str×FnR)}{cs:List (Str×Cn)}{g:DS}(X:K.In h)(G:h.Ns mainGlobals mg)(hmg:mg x=some (.ref fa))
  (F:Fact K x st) (S:QbZ (namesOf (Qk st)) [y] (Qk st)) (B:QB x st [y]) (M:Qec mg cs) (tab:∀base:Heap,Qbn P w K mg base k Γ) (hc:Qav n (Qgt st Γ cs) (Qak st)=some g):
  ∃fd:FuncData,(∀(s:Shared) (u:Value),BindsTo s fd ⟨[u],[]⟩ [(y,u)])∧
    ∀base:Heap,K.In base->base.Ns mainGlobals mg->Qa7 P w K mg base CX0 (k+1) fa fd [y] (spV K 1 (Qr (namesOf (Qk st)).length g)):=by
 obtain⟨f,fd,Fn,a⟩:=F.ex
 have e:=hmg.symm.trans (ZaO X G a)
 cases e
 refine⟨fd,λs u=>?_,λbase _ _=>QnY Fn S M (tab base) hc⟩
 obtain⟨oc,od,kV,doc,pm,an,cdv,ct,osl,rfl,lk,hcd⟩:=Fn.ex
 exact .of_eq (B kV doc pm an cdv ct [u] rfl)
end HS
namespace HS
open PySem PySem.Spec PyProof.Rows L2
section
variable {P:Program}{w:World}{K:PySem.W.Frag}{mg:Str->Option Value}{base:Heap}
end
end HS
namespace HS
open PySem L2
noncomputable def pairD(p:Int×Int):D:= .tup [.int p.1,.int p.2]
noncomputable def Qcd(p:Int×Int×Bool):D:= .tup [.int p.1,.int p.2.1,.bl p.2.2]
noncomputable def QaF(ns:List Int):D:= .lst (ns.map .int)
noncomputable def Qc(ps:List (Int×Int)):D:= .lst (ps.map pairD)
noncomputable def Ql(m:Int)(R L:List (Int×Int)):D:= .tup [.int m,Qc R,Qc L]
theorem QaG{α:Type}{f:α->D}(h:∀a,(f a).flat=true):∀l:List α,QK (l.map f)=true
 | []=>rfl
 | a::l=>by simp[QK,h a,QaG h l]
@[simp] theorem Qwp(i:Int):(D.int i).flat=true:=rfl
@[simp] theorem QwM(i:Bool):(D.bl i).flat=true:=rfl
@[simp] theorem Qv1:D.non.flat=true:=rfl
@[simp] theorem Qwg(x:Str):(D.str x).flat=true:=rfl
@[simp] theorem QwC(xs:List D):(D.lst xs).flat=false:=rfl
@[simp] theorem Qv5(xs:List D):(D.tup xs).flat=QK xs:=rfl
@[simp] theorem QvU:QK []=true:=rfl
@[simp] theorem Qvb(d:D)(ds:List D):QK (d::ds)=(d.flat && QK ds):=rfl
@[simp] theorem QvT(p:Int×Int):(pairD p).flat=true:=rfl
@[simp] theorem QwF(p:Int×Int×Bool):(Qcd p).flat=true:=rfl
@[simp] theorem QvS(ns:List Int):(QaF ns).flat=false:=rfl
@[simp] theorem QvF(ns:List (Int×Int)):(Qc ns).flat=false:=rfl
@[simp] theorem QuO(ps:List (Int×Int)):QK (ps.map pairD)=true:=QaG (λ_=>rfl) _
@[simp] theorem QvK(ps:List (Int×Int×Bool)):QK (ps.map Qcd)=true:=QaG (λ_=>rfl) _
@[simp] theorem QmT(ns:List Int):QK (ns.map .int)=true:=QaG (λ_=>rfl) _
@[simp] theorem Qoq(xs ys:List D):QK (xs++ys)=(QK xs && QK ys):=Qd3 xs ys
def Run(f:DS)(ρ:En)(Q:Out->Prop):Prop:=∃o,f ρ=some o/\Q o
noncomputable def Nx(Q:En->Prop):Out->Prop
 | .nx ρ=>Q ρ
 | _=>False
noncomputable def Rt(Q:D->Bool->Prop):Out->Prop
 | .rt d fr=>Q d fr
 | _=>False
theorem Run.mono(h:Run f ρ Q)(m:∀o,Q o->Q' o):Run f ρ Q':=let ⟨o,h1,h2⟩:=h;⟨o,h1,m o h2⟩
theorem Qh(h:Q (.nx ρ)):Run Qg ρ Q:=⟨_,rfl,h⟩
theorem run_seq(h:Run f ρ (Nx λρ'=>Run g ρ' Q)):Run (Qd f g) ρ Q:=by
 obtain⟨o,h1,h2⟩:=h
 cases o with
 | nx ρ'=>
  obtain⟨o',h3,h4⟩:=h2
  exact⟨o',by simp[Qd,h1,h3],h4⟩
 | _=>exact False.elim h2
theorem QC(h:Run f ρ λo=>match o with | .nx ρ'=>Run g ρ' Q | o=>Q o):Run (Qd f g) ρ Q:=by
 obtain⟨o,h1,h2⟩:=h
 cases o with
 | nx ρ'=>
  obtain⟨o',h3,h4⟩:=h2
  exact⟨o',by simp[Qd,h1,h3],h4⟩
 | bk ρ'=>exact⟨_,by simp[Qd,h1],h2⟩
 | ct ρ'=>exact⟨_,by simp[Qd,h1],h2⟩
 | rt d fr=>exact⟨_,by simp[Qd,h1],h2⟩
theorem Qi(h:fa ρ=some r)(q:Q (.nx (asg i r ρ))):Run (Qu i fa) ρ Q:=⟨_,by simp[Qu,h],q⟩
theorem Qia(h:fa ρ=some r)(q:Q (.rt r.d (r.norm.fr && decide r.norm.M.Nodup))):Run (QX fa) ρ Q:=⟨_,by simp[QX,h],q⟩
theorem QA(h:g ρ=some b)(q1:b=true->Run f1 ρ Q)(q2:b=false->Run f2 ρ Q):Run (sIf g f1 f2) ρ Q:=by
 cases b with
 | true=>obtain⟨o,h1,h2⟩:=q1 rfl;exact⟨o,by simp[sIf,h,h1],h2⟩
 | false=>obtain⟨o,h1,h2⟩:=q2 rfl;exact⟨o,by simp[sIf,h,h1],h2⟩
theorem Q7(h:Run f (Qbc k ds) (Rt λd' fr'=>d'=d/\fr'=fr)):Qr k f ds=some (d,fr):=by
 obtain⟨o,h1,h2⟩:=h
 unfold Qr
 cases o with
 | rt d' fr'=>obtain⟨rfl,rfl⟩:=h2;rw[h1];rfl
 | _=>exact False.elim h2
theorem QjR{α:Type}{t:Tg}{fb:DS}{toD:α->D}{Q:Out->Prop}(I:Nat->En->Prop):∀(xs ys:List α) (ρ:En),I ys.length ρ→
  (∀i x ρ,(ys++xs)[i]? =some x->ys.length<=i->I i ρ->∃ρ1,Qbm t (toD x) ρ=some ρ1/\Run fb ρ1 λo=>match o with | .nx ρ2=>I (i+1) ρ2 | .ct ρ2=>I (i+1) ρ2 | .bk ρ2=>Q (.nx ρ2) | .rt d fr=>Q (.rt d fr))→
  (∀ρ,I (ys++xs).length ρ->Q (.nx ρ))->Run (QcF t fb (xs.map toD)) ρ Q
 | [],ys,ρ,h0,_,fin=>⟨_,rfl,fin ρ (by simpa using h0)⟩
 | x::xs,ys,ρ,h0,turn,fin=>by
  obtain⟨ρ1,h1,o,h2,h3⟩:=turn ys.length x ρ (by simp) (Zj _) h0
  have next:∀ρ2,I (ys.length+1) ρ2->Run (QcF t fb (xs.map toD)) ρ2 Q:=λρ2 hi=>
   QjR I xs (ys++[x]) ρ2 (by simpa using hi) (λi y ρ' e hl=>turn i y ρ' (by simpa using e) (by simp at hl;omega)) (λρ' h=>fin ρ' (by simpa using h))
  cases o with
  | nx ρ2=>obtain⟨o',e1,e2⟩:=next ρ2 h3;exact⟨o',by simp[QcF,h1,h2,e1],e2⟩
  | ct ρ2=>obtain⟨o',e1,e2⟩:=next ρ2 h3;exact⟨o',by simp[QcF,h1,h2,e1],e2⟩
  | bk ρ2=>exact⟨_,by simp[QcF,h1,h2],h3⟩
  | rt d fr=>exact⟨_,by simp[QcF,h1,h2],h3⟩
theorem QaA{α:Type}{fi:DI}{t:Tg}{fb:DS}{toD:α->D}{ρ:En}{ir:IR}{Q:Out->Prop}(xs:List α)(I:Nat->En->Prop)(h:fi ρ=some ir)(hx:ir.items=xs.map toD)(h0:I 0 (QcC ir.M ρ))
  (turn:∀i x ρ,xs[i]? =some x->I i ρ->∃ρ1,Qbm t (toD x) ρ=some ρ1/\Run fb ρ1 λo=>match o with | .nx ρ2=>I (i+1) ρ2 | .ct ρ2=>I (i+1) ρ2 | .bk ρ2=>Q (.nx ρ2) | .rt d fr=>Q (.rt d fr))
  (fin:∀ρ,I xs.length ρ->Q (.nx ρ)):Run (Qa6 fi t fb) ρ Q:=by
 obtain⟨o,h1,h2⟩:=QjR (t:=t) (fb:=fb) (toD:=toD) (Q:=Q) I xs [] (QcC ir.M ρ) h0 (λi x ρ e _=>turn i x ρ (by simpa using e)) (λρ h=>fin ρ (by simpa using h))
 exact⟨o,by simp[Qa6,h,hx,h1],h2⟩
theorem Qi9{α:Type}{t:Tg}{ft:DT}{fe:DE}{ρc:En}{toD:α->D}{keep:α->Bool}{out:α->D}:∀(xs:List α) (acc:List D),
  (∀x∈xs,∃ρ1,Qbm t (toD x) ρc=some ρ1/\ft ρ1=some (keep x)/\(keep x=true->∃r,fe ρ1=some r/\r.d=out x/\r.norm.fr=true))→
  (xs.map toD).foldlM (Qd8 t ft fe ρc) (acc,true)=some (acc++(xs.filter keep).map out,true)
 | [],acc,_=>by simp
 | x::xs,acc,h=>by
  obtain⟨ρ1,h1,h2,h3⟩:=h x Zm
  have ih:=λacc=>Qi9 xs acc (λy hy=>h y (Zb _ hy))
  cases hk:keep x with
  | false=>
   have e:Qd8 t ft fe ρc (acc,true) (toD x)=some (acc,true):=by simp[Qd8,h1,h2,hk]
   simp[Zbe,e,ih,hk]
  | true=>
   obtain⟨r,h4,h5,h6⟩:=h3 hk
   have e:Qd8 t ft fe ρc (acc,true) (toD x)=some (acc++[out x],true):=by simp[Qd8,h1,h2,hk,h4,h5,h6]
   simp[Zbe,e,ih,hk]
theorem Qiz{α:Type}{fi:DI}{t:Tg}{cap:List (Option Nat)}{ft:DT}{fe:DE}{ρ:En}{ir:IR}{toD:α->D}{keep:α->Bool}{out:α->D}(xs:List α)(h:fi ρ=some ir)(hx:ir.items=xs.map toD)
  (turn:∀x∈xs,∃ρ1,Qbm t (toD x) (Qdz cap ρ)=some ρ1/\ft ρ1=some (keep x)/\(keep x=true->∃r,fe ρ1=some r/\r.d=out x/\r.norm.fr=true)):
  Qax fi t cap ft fe ρ=some ⟨.lst ((xs.filter keep).map out),true,[]⟩:=by
 unfold Qax
 rw[h,Za,hx,Qi9 xs [] turn]
 simp
theorem Qcg{α:Type}{fi:DI}{t:Tg}{cap:List (Option Nat)}{fe:DE}{ρ:En}{ir:IR}{toD:α->D}{out:α->D}(xs:List α)(h:fi ρ=some ir)(hx:ir.items=xs.map toD)
  (turn:∀x∈xs,∃ρ1,Qbm t (toD x) (Qdz cap ρ)=some ρ1/\∃r,fe ρ1=some r/\r.d=out x/\r.norm.fr=true):
  Qax fi t cap Qb3 fe ρ=some ⟨.lst (xs.map out),true,[]⟩:=by
 have:=Qiz (keep:=λ_=>true) (ft:=Qb3) xs h hx (cap:=cap) (t:=t) (fe:=fe) (out:=out) λx hx=>by
  obtain⟨ρ1,h1,h2⟩:=turn x hx
  exact⟨ρ1,h1,rfl,λ_=>h2⟩
 rw[this,List.filter_eq_self.mpr λ_ _=>rfl]
@[simp] theorem Qwx(d:D):R.norm ⟨d,true,[]⟩=⟨d,true,[]⟩:=by unfold R.norm;split<;>rfl
@[simp] theorem QaL(i:Nat)(d:D)(ρ:En):asg i ⟨d,true,[]⟩ ρ=ρ.set i (some (d,true)):=by unfold asg;simp[kill]
theorem Qk0{i:Nat}{d:D}{fr:Bool}{M:List Nat}{ρ:En}(h:d.flat=true):asg i ⟨d,fr,M⟩ ρ=ρ.set i (some (d,true)):=by
 unfold asg R.norm;simp[h,kill]
theorem Qa3{i:Nat}{ρ:En}{d:D}{b:Bool}(h:ρ[i]? =some (some (d,b))):Qa i ρ=some (if d.flat then⟨d,true,[]⟩else if b then⟨d,true,[i]⟩else⟨d,false,[]⟩):=by
 unfold Qa
 rw[h]
 dsimp only
 split
 ·simp_all
 ·split<;>simp_all
theorem Qs2{i:Nat}{ρ:En}{n:Int}{b:Bool}(h:ρ[i]? =some (some (.int n,b))):Qa i ρ=some ⟨.int n,true,[]⟩:=by rw[Qa3 h];rfl
@[simp] theorem QcK(d:D)(ρ:En):dC d ρ=some ⟨d,true,[]⟩:=rfl
theorem QN{g:D->D->Option D}{fa fb:DE}{ρ:En}{ra rb:R}{d:D}(ha:fa ρ=some ra)(hb:fb ρ=some rb)(h:g ra.d rb.d=some d):dOp g fa fb ρ=some ⟨d,true,[]⟩:=by simp[dOp,ha,hb,h]
theorem Qn{fa:DE}{fs:DA}{ρ:En}{r:R}{rs:RA}(ha:fa ρ=some r)(hs:fs ρ=some rs):Qb fa fs ρ=some ⟨r.d::rs.ds,r.fr && rs.fr,r.M++rs.M⟩:=by simp[Qb,ha,hs]
@[simp] theorem QJ(ρ:En):Qe ρ=some ⟨[],true,[]⟩:=rfl
noncomputable def vf(d:D)(b:Bool)(i:Nat):R:=if d.flat then⟨d,true,[]⟩else if b then⟨d,true,[i]⟩else⟨d,false,[]⟩
@[simp] theorem QwV(d:D)(b:Bool)(i:Nat):(vf d b i).d=d:=by unfold vf;split;rfl;split<;>rfl
@[simp] theorem Qpo(i j:Int)(h:0<=j):QfI i j=i % j:=by unfold QfI;rw[if_pos h]
@[simp] theorem QpK(i j:Int)(h:0<=j):QfJ i j=i / j:=by unfold QfJ;rw[if_pos h]
theorem Qf6{i j:Int}(h:i.natAbs<2^64):Qdx i j=true:=by unfold Qdx;simp[h]
theorem QeQ{i j:Int}(h:j.natAbs<2^64):Qdx i j=true:=by unfold Qdx;simp[h]
theorem Qdf:(sizeLine:Nat)=16777216:=sizeLine_eq
noncomputable def Qas(m:Nat)(f:Nat->Int):D:= .lst ((List.range m).map λi=> .int (f i))
noncomputable def Qc3(m n:Nat)(f:Nat->Nat->Int):D:= .lst ((List.range m).map λi=>Qas n (f i))
@[simp] theorem QwA(m:Nat)(f:Nat->Int):(Qas m f).flat=false:=rfl
@[simp] theorem Qwd(m n:Nat)(f:Nat->Nat->Int):(Qc3 m n f).flat=false:=rfl
@[simp] theorem Qn4(m:Nat)(f:Nat->Int):QK ((List.range m).map λi=>D.int (f i))=true:=QaG (f:=λi=>D.int (f i)) (λ_=>rfl) _
noncomputable def up(f:Nat->Int)(i:Nat)(v:Int):Nat->Int:=λj=>if j=i then v else f j
noncomputable def up2(f:Nat->Nat->Int)(i j:Nat)(v:Int):Nat->Nat->Int:=λk=>if k=i then up (f k) j v else f k
theorem QeK{n:Nat}{i:Int}(h0:0<=i)(h:i<n):ixN n i=some i.toNat:=by
 unfold ixN;rw[if_pos (by omega),if_pos (by omega)]
theorem QdD{α:Type}{xs:List α}{i:Int}(h0:0<=i)(h:i<xs.length):atI xs i=xs[i.toNat]? :=by
 unfold atI;rw[QeK h0 h];rfl
theorem Qds{α:Type}{m:Nat}{f:Nat->α}{i:Nat}{v:α}:((List.range m).map f).set i v=(List.range m).map λj=>if j=i then v else f j:=by
 apply ZaX
 intro k
 rw[List.getElem?_set]
 simp only[Zc,ZG,Zx]
 by_cases hk:k<m
 ·rw[Zap hk]
  by_cases e:i=k
  ·subst e;simp[hk]
  ·simp[e,Ne.symm e]
 ·rw[ZD (by simp;omega)]
  by_cases e:i=k
  ·subst e;simp[hk]
  ·simp[e]
theorem Qmb{m:Nat}{f:Nat->Int}{i:Nat}{v:Int}:((List.range m).map λj=>D.int (f j)).set i (.int v)=(List.range m).map λj=>D.int (up f i v j):=by
 rw[Qds]
 congr 1;funext j;unfold up;split<;>rfl
theorem QlO{m:Nat}{f:Nat->Int}{i:Int}(h0:0<=i)(h:i<m):atI ((List.range m).map λj=>D.int (f j)) i=some (.int (f i.toNat)):=by
 rw[QdD h0 (by simpa using h),Zx,Zap (by omega)];rfl
theorem Qr7{m n:Nat}{f:Nat->Nat->Int}{i:Int}(h0:0<=i)(h:i<m):atI ((List.range m).map λj=>Qas n (f j)) i=some (Qas n (f i.toNat)):=by
 rw[QdD h0 (by simpa using h),Zx,Zap (by omega)];rfl
theorem Qp0{x m:Nat}{f:Nat->Int}{fi fa:DE}{ρ:En}{i:Int}{v:Int}{ri ra:R}{Q:Out->Prop}(hx:ρ[x]? =some (some (Qas m f,true)))(hi:fi ρ=some ri)(ei:ri.d= .int i)(ha:fa ρ=some ra)(ea:ra.d= .int v)(h0:0<=i)(h:i<m)
  (q:Q (.nx (ρ.set x (some (Qas m (up f i.toNat v),true))))):Run (QdY x Qai fi fa) ρ Q:=by
 refine⟨_,?_,q⟩
 have hn:ra.norm=⟨.int v,true,[]⟩:=by unfold R.norm;rw[ea];rfl
 unfold QdY
 rw[ha,Za,hx]
 simp only[Qai,Za,hi,ei,Qbo,Qas,Zc,ZG,QeK h0 h,hn,ea,QaP,Qmb]
 simp[kill]
theorem QjQ{g:D->D->Option D}{x m n:Nat}{f:Nat->Nat->Int}{fp fi fa:DE}{ρ:En}{i j w:Int}{rp ri ra:R}{Q:Out->Prop}(hx:ρ[x]? =some (some (Qc3 m n f,true)))(hp:fp ρ=some rp)(ep:rp.d= .int i)(hi:fi ρ=some ri)(ei:ri.d= .int j)(ha:fa ρ=some ra)
  (h0:0<=i) (h:i<m) (k0:0<=j) (k:j<n) (hg:g (.int (f i.toNat j.toNat)) ra.d=some (.int w)) (q:Q (.nx (ρ.set x (some (Qc3 m n (up2 f i.toNat j.toNat w),true))))):Run (Qea g x (Qdw Qai fp) fi fa) ρ Q:=by
 refine⟨_,?_,q⟩
 have hj:((List.range n).map λk=>D.int (f i.toNat k))[j.toNat]? =some (.int (f i.toNat j.toNat)):=by rw[Zx,Zap (by omega)];rfl
 have hd:Qbo (Qc3 m n f) [i]=some (Qas n (f i.toNat)):=by
  simp only[Qbo,Qc3,D.items,Za,Qr7 h0 h]
 have hu:QaP [i] (Qc3 m n f) (.lst (((List.range n).map λk=>D.int (f i.toNat k)).set j.toNat (.int w)))=Qc3 m n (up2 f i.toNat j.toNat w):=by
  simp only[QaP,Qc3,Zc,ZG,QeK h0 h,Qmb]
  rw[Qds]
  congr 2;funext k
  unfold up2
  split
  ·rename_i e;subst e;rfl
  ·rfl
 unfold Qea
 rw[hx]
 simp only[Qdw,Qai,Za,hp,ep,Zbr,hi,ei,hd,Qas,Zc,ZG,QeK k0 k,hj,ha,hg,ZV]
 rw[hu]
theorem Qgy{n:Nat}(h:fa ρ=some r)(e:r.d= .int n)(hn:n<=16777216):Qc6 fa ρ=some ⟨(List.range n).map λ(k:Nat)=> .int (k:Int),[]⟩:=by
 unfold Qc6
 rw[h,Za,e]
 dsimp only
 rw[if_pos ⟨by omega,by omega⟩]
 simp[QgK]
theorem QdI{α:Type}(x:α):∀n:Nat,(List.replicate n [x]).flatten=(List.range n).map λ_=>x
 | 0=>rfl
 | n+1=>by
  rw[ZK,ZZ,QdI x n,List.range_succ_eq_map,Zo,Zaf];rfl
theorem QnR{n:Nat}(h:fb ρ=some r)(e:r.d= .int n)(hn:n<=16777216):Qaq (Qaa (Qb (dC (.int z)) Qe)) fb ρ=some ⟨Qas n (λ_=>z),true,[]⟩:=by
 have h1:Qaa (Qb (dC (.int z)) Qe) ρ=some ⟨.lst [.int z],true,[]⟩:=rfl
 unfold Qaq
 rw[h1,Za,h,Za,e]
 dsimp only
 rw[if_pos ⟨by simp[Qdf];omega,by omega,by omega,rfl⟩]
 simp only[ZE,QdI]
 rfl
noncomputable def Qih:DS:=(Qd (Qu 2 (Qax (QZ (Qa 0)) (.tp [1,2]) [none,none,none] Qb3 (QaI (Qb (Qa 1) (Qb (Qa 2) Qe))))) (Qd (Qu 3 (Qax (QZ (Qa 0)) (.tp [1,2]) [none,none,none] Qb3 (QaI (Qb (Qa 2) (Qb (Qa 1) Qe))))) (Qd (QX (Qt (Qt (Qa 2) (Qa 3)) (dList (Qb (Qa 1) Qe)))) Qg)))
theorem QlZ(ha:fa ρ=some ra)(ea:ra.d=Qc A)(hb:fb ρ=some rb)(eb:rb.d=Qc B)(hl:A.length+B.length<=16777216):Qt fa fb ρ=some ⟨Qc (A++B),true,[]⟩:=by
 unfold Qt
 rw[ha,Za,hb,Za,ea,eb]
 simp only[Qc,Zc,Qdf,if_pos hl,Qab]
 simp
theorem Qgx(h:fs ρ=some rs)(e:rs.ds=[Qc A])(_:True=True):dList fs ρ=some ⟨Qc A,true,[]⟩:=by
 unfold dList
 rw[h,Za,e]
 simp[Qc,Qab]
theorem QF(h:fa ρ=some r)(q:Q r.d (r.norm.fr && decide r.norm.M.Nodup)):Run (Qd (QX fa) g) ρ (Rt Q):=QC (Qia h q)
theorem QiX{R L:List (Int×Int)}(hl:R.length+R.length+L.length<=16777216):Qr 4 Qih [Qc R,Qc L]=some (Qc (R++R.map Prod.swap++L),true):=by
 refine Q7 ?_
 refine run_seq (Qi (Qcg R rfl rfl λx _=>⟨[none,some (.int x.1,true),some (.int x.2,true)],rfl,⟨pairD x,true,[]⟩,rfl,rfl,rfl⟩) ?_)
 refine run_seq (Qi (Qcg R rfl rfl λx _=>⟨[none,some (.int x.1,true),some (.int x.2,true)],rfl,⟨pairD x.swap,true,[]⟩,rfl,rfl,rfl⟩) ?_)
 have e1:(R.map λx=>pairD x.swap)=(R.map Prod.swap).map pairD:=by simp[Zaf,Function.comp_def]
 rw[e1]
 exact QF (QlZ (QlZ rfl rfl rfl rfl (by simpa using(by omega:R.length+R.length<=16777216))) rfl (Qgx rfl rfl rfl) rfl (by simpa using hl)) ⟨rfl,rfl⟩
theorem Qy(h:fs ρ=some r)(hd:den (r.ds++dfl)=some (d,true))(hl:r.ds.length+dfl.length=n):Qv n den dfl fs ρ=some ⟨d,true,[]⟩:=by
 unfold Qv
 rw[h,Za,if_pos hl,hd]
 simp
theorem Qal(h:fa ρ=some r)(e:r.d= .lst xs):QZ fa ρ=some ⟨xs,r.M⟩:=by
 unfold QZ
 rw[h,Za,e]
noncomputable def stepT(m:Nat)(f:Nat->Nat->Int)(s:Int×Int):Nat->Nat->Int:=
 let f1:=if s.1<m then up2 f s.1.toNat s.1.toNat (f s.1.toNat s.1.toNat-1)else f
 if s.1<m/\s.2<m then up2 f1 s.1.toNat s.2.toNat (f1 s.1.toNat s.2.toNat+1)else f1
noncomputable def Q3(m:Nat)(S:List (Int×Int)):Nat->Nat->Int:=S.foldl (stepT m) λ_ _=>0
noncomputable def QdM(Qbt:Den):DS:=(Qd (Qu 1 (Qb8 (Qo (Qa 0) (dC (.int 0))))) (Qd (Qu 2 (Qax (Qc6 (Qa 1)) (.nm 1) [none,none,some 1] Qb3 (Qaq (Qaa (Qb (dC (.int 0)) Qe)) (Qa 2)))) (Qd (Qa6 (QZ (Qv 2 Qbt [] (Qb (Qo (Qa 0) (dC (.int 1))) (Qb (Qo (Qa 0) (dC (.int 2))) Qe)))) (.tp [3,4]) (Qd (sIf (Qm (dOp gLt (Qa 3) (Qa 1))) (Qd (Qea Qev 2 (Qdw Qai (Qa 3)) (Qa 3) (dC (.int 1))) Qg) Qg) (Qd (sIf (QcV (Qm (dOp gLt (Qa 3) (Qa 1))) (Qm (dOp gLt (Qa 4) (Qa 1)))) (Qd (Qea (gI λi j=>some (.int (i+j))) 2 (Qdw Qai (Qa 3)) (Qa 4) (dC (.int 1))) Qg) Qg) Qg))) (Qd (QX (Qa 2)) Qg))))
theorem QpH{Qbt:Den}{m:Nat}{R L S:List (Int×Int)}(hm:m<=16777216)(hs:Qbt [Qc R,Qc L]=some (Qc S,true))(hS:∀s∈S,0<=s.1/\0<=s.2):Qr 5 (QdM Qbt) [Ql m R L]=some (Qc3 m m (Q3 m S),true):=by
 refine Q7 ?_
 refine run_seq (Qi rfl ?_)
 refine run_seq (Qi (Qcg (List.range m) (Qgy rfl rfl hm) rfl λx _=>⟨[none,some (.int x,true),some (.int m,true)],rfl,_,QnR rfl rfl hm,rfl,rfl⟩) ?_)
 refine run_seq (QaA S (λi ρ=>∃j1 j2,ρ=[some (Ql m R L,false),some (.int m,true),some (Qc3 m m (Q3 m (S.take i)),true),j1,j2]) (ir:=⟨S.map pairD,[]⟩) ?_ rfl ⟨none,none,rfl⟩ ?_ ?_)
 ·exact Qal (Qy (r:=⟨[Qc R,Qc L],false,[]⟩) rfl hs rfl) rfl
 ·rintro i s ρ hi ⟨j1,j2,rfl⟩
  refine⟨_,rfl,?_⟩
  obtain⟨s1,s2⟩:=hS s (ZF hi)
  refine run_seq (Run.mono (Q:=Nx λρ=>ρ=[some (Ql m R L,false),some (.int m,true),some (Qc3 m m (if s.1<m then up2 (Q3 m (S.take i)) s.1.toNat s.1.toNat (Q3 m (S.take i) s.1.toNat s.1.toNat-1)else Q3 m (S.take i)),true),some (.int s.1,true),some (.int s.2,true)]) ?_ ?_)
  ·refine QA rfl (λh=>?_) (λh=>?_)
   ·have h:=of_decide_eq_true h
    rw[if_pos h]
    exact run_seq (QjQ rfl rfl rfl rfl rfl rfl s1 h s1 h rfl (Qh rfl))
   ·have h:=of_decide_eq_false h
    rw[if_neg h]
    exact Qh rfl
  ·intro o ho
   cases o with
   | nx ρ=>
    subst ho
    have fin:Q3 m (S.take (i+1))=stepT m (Q3 m (S.take i)) s:=by
     unfold Q3
     rw[ZaY,hi,List.foldl_append];rfl
    refine run_seq (Run.mono (Q:=Nx λρ=>ρ=[some (Ql m R L,false),some (.int m,true),some (Qc3 m m (stepT m (Q3 m (S.take i)) s),true),some (.int s.1,true),some (.int s.2,true)]) ?_ ?_)
    ·refine QA (b:=decide (s.1<m/\s.2<m)) ?_ (λh=>?_) (λh=>?_)
     ·by_cases h:s.1<(m:Int)
      ·simp[QcV,Qm,dOp,Qa,gLt,gI,D.tru,h]
      ·simp[QcV,Qm,dOp,Qa,gLt,gI,D.tru,h]
     ·have h:=of_decide_eq_true h
      refine run_seq (QjQ rfl rfl rfl rfl rfl rfl s1 h.1 s2 h.2 rfl (Qh ?_))
      unfold stepT
      rw[if_pos h];rfl
     ·have h:=of_decide_eq_false h
      refine Qh ?_
      unfold stepT
      rw[if_neg h];rfl
    ·intro o ho
     cases o with
     | nx ρ=>
      subst ho
      exact Qh ⟨_,_,by rw[fin]⟩
     | _=>exact False.elim ho
   | _=>exact False.elim ho
 ·rintro ρ ⟨j1,j2,rfl⟩
  rw[Zar]
  exact QF rfl ⟨rfl,rfl⟩
noncomputable def hit(i j:Nat)(s:Int×Int):Int:=(if s.1=i/\s.2=j then 1 else 0)-(if s.1=i/\i=j then 1 else 0)
theorem QlG:up2 f a b v i j=if i=a/\j=b then v else f i j:=by
 unfold up2 up
 by_cases h1:i=a
 ·by_cases h2:j=b
  ·simp[h1,h2]
  ·simp[h1,h2]
 ·simp[h1]
theorem QoD(hi:i<m)(hj:j<m)(h1:0<=s.1)(h2:0<=s.2):stepT m f s i j=f i j+hit i j s:=by
 unfold stepT hit
 have e1:(s.1=(i:Int))↔(i=s.1.toNat):=by omega
 have e2:(s.2=(j:Int))↔(j=s.2.toNat):=by omega
 simp only[e1,e2]
 by_cases c1:s.1<(m:Int)
 ·by_cases c2:s.2<(m:Int)
  ·simp only[c1,c2,and_self,if_true,QlG]
   generalize s.1.toNat=a
   generalize s.2.toNat=b
   by_cases d1:i=a
   ·subst d1
    by_cases d2:j=b
    ·subst d2
     by_cases d3:i=j
     ·subst d3;simp
     ·have d4:¬j=i:=λz=>d3 z.symm
      simp[d3,d4]
    ·by_cases d3:i=j
     ·subst d3;simp[d2];omega
     ·have d4:¬j=i:=λz=>d3 z.symm
      simp[d2,d3,d4]
   ·simp[d1]
  ·have d2:¬(j=s.2.toNat):=by omega
   simp only[c1,c2,and_false,if_false,if_true,QlG,d2]
   generalize s.1.toNat=a
   by_cases d1:i=a
   ·subst d1
    by_cases d3:i=j
    ·subst d3;simp;omega
    ·have d4:¬j=i:=λz=>d3 z.symm
     simp[d3,d4]
   ·simp[d1]
 ·have d1:¬(i=s.1.toNat):=by omega
  simp[c1,d1]
theorem QiU(hi:i<m)(hj:j<m):∀(S:List (Int×Int)) (f:Nat->Nat->Int),(∀s∈S,0<=s.1/\0<=s.2)->S.foldl (stepT m) f i j=f i j+(S.map (hit i j)).sum
 | [],f,_=>by simp
 | s::S,f,h=>by
  obtain⟨h1,h2⟩:=h s Zm
  rw[Zbp,QiU hi hj S _ (λt ht=>h t (Zb _ ht)),QoD hi hj h1 h2,Zo,ZP]
  omega
theorem Qd2(hi:i<m)(hj:j<m)(h:∀s∈S,0<=s.1/\0<=s.2):Q3 m S i j=(S.map (hit i j)).sum:=by
 unfold Q3
 rw[QiU hi hj S _ h];simp
noncomputable def isI(i:Nat)(a:Int):Int:=if a=i then 1 else 0
noncomputable def Qac(R L:List (Int×Int))(i:Nat):Int:=(R.map λr=>isI i r.1+isI i r.2).sum+(L.map λl=>isI i l.1).sum
theorem sum_neg(S:List (Int×Int))(i:Nat)(h:∀s∈S,s.1≠s.2):(S.map (hit i i)).sum= -(S.map λs=>isI i s.1).sum:=by
 induction S with
 | nil=>rfl
 | cons s S ih=>
  rw[Zo,ZP,ih λt ht=>h t (Zb _ ht),Zo,ZP]
  have hn:=h s Zm
  unfold hit isI
  by_cases e:s.1=(i:Int)
  ·have:¬(s.2=(i:Int)):=λz=>hn (e.trans z.symm)
   simp[e,this];omega
  ·simp[e]
noncomputable def Qx(R L:List (Int×Int)):List (Int×Int):=R++R.map Prod.swap++L
theorem Qi8(R L:List (Int×Int))(i:Nat):((Qx R L).map λs=>isI i s.1).sum=Qac R L i:=by
 unfold Qx Qac
 rw[Zz,Zz,ZaD,ZaD]
 have:(R.map λr=>isI i r.1+isI i r.2).sum=(R.map λs=>isI i s.1).sum+((R.map Prod.swap).map λs=>isI i s.1).sum:=by
  induction R with
  | nil=>rfl
  | cons r R ih=>simp only[Zo,ZP,ih,Prod.fst_swap];omega
 omega
def Good(m:Nat)(s:Int×Int):Prop:=0<=s.1/\0<=s.2/\s.1<=m/\s.2<=m/\s.1≠s.2
theorem Qcv{m:Nat}{R L:List (Int×Int)}(hR:∀s∈R,Good m s)(hL:∀s∈L,Good m s):∀s∈Qx R L,Good m s:=λs hs=>by
 unfold Qx at hs
 rcases Zy.mp hs with hs | hs
 ·rcases Zy.mp hs with hs | hs
  ·exact hR s hs
  ·obtain⟨t,ht,rfl⟩:=ZA.mp hs
   obtain⟨h1,h2,h3,h4,h5⟩:=hR t ht
   exact⟨h2,h1,h4,h3,λz=>h5 z.symm⟩
 ·exact hL s hs
def Qha(d:Den):Prop:=∀(m:Nat) (R L:List (Int×Int)),m<=1000->R.length+R.length+L.length<=1000000->(∀s∈R,Good m s)->(∀s∈L,Good m s)->d [Ql m R L]=some (Qc3 m m (Q3 m (Qx R L)),true)
theorem Qsi:Qha (Qr 5 (QdM (Qr 4 Qih))):=λm R L hm hl hR hL=>by
 refine QpH (by omega) (QiX (by omega)) λs hs=>?_
 obtain⟨h1,h2,_⟩:=Qcv hR hL s hs
 exact⟨h1,h2⟩
noncomputable def Qer(Qby:Den):DS:=(Qd (QX (Qax (Qfx (Qv 1 Qby [] (Qb (Qa 0) Qe))) (.tp [1,2]) [none,none,none] Qb3 (dOp Qev (dC (.int 0)) (Qo (Qa 2) (Qa 1))))) Qg)
theorem Qmk{α:Type}(m:Nat)(f:Nat->D):QcE ((List.range m).map f)=(List.range m).map λi=> .tup [.int i,f i]:=by
 apply ZaX
 intro k
 unfold QcE
 simp only[Zx,ZaA,Nat.zero_add]
 by_cases hk:k<m
 ·rw[Zap hk];rfl
 ·rw[ZD (by simp;omega)];rfl
theorem QoJ{d:Den}(hd:Qha d){m:Nat}{R L:List (Int×Int)}(hm:m<=1000)(hl:R.length+R.length+L.length<=1000000)(hR:∀s∈R,Good m s)(hL:∀s∈L,Good m s):Qr 1 (Qer d) [Ql m R L]=some (Qas m (Qac R L),true):=by
 refine Q7 ?_
 refine QF (Qcg (toD:=λ(i:Nat)=> .tup [.int i,Qas m (Q3 m (Qx R L) i)]) (out:=λ(i:Nat)=> .int (Qac R L i)) (ir:=⟨QcE ((List.range m).map λi=>Qas m (Q3 m (Qx R L) i)),[]⟩) (List.range m) ?_ ?_ λi hi=>?_) ⟨rfl,rfl⟩
 ·unfold Qfx
  rw[Qy (n:=1) (fs:=Qb (Qa 0) Qe) (ρ:=Qbc 1 [Ql m R L]) (dfl:=[]) (r:=⟨[Ql m R L],false,[]⟩) rfl (hd m R L hm hl hR hL) rfl];rfl
 ·exact Qmk (α:=Nat) m _
 ·have hi:=ZU.mp hi
  refine⟨[none,some (.int i,true),some (Qas m (Q3 m (Qx R L) i),false)],rfl,⟨.int (0-Q3 m (Qx R L) i i),true,[]⟩,?_,?_,rfl⟩
  ·have e:Qo (Qa 2) (Qa 1) [none,some (.int (i:Int),true),some (Qas m (Q3 m (Qx R L) i),false)]=some ⟨.int (Q3 m (Qx R L) i i),true,[]⟩:=by
    show((D.items (Qas m (Q3 m (Qx R L) i))).bind λxs=>(atI xs (i:Int)).map λd=>(HS.R.norm ⟨d,false,[]⟩))=_
    unfold Qas
    rw[show D.items (.lst ((List.range m).map λj=>D.int (Q3 m (Qx R L) i j)))=some ((List.range m).map λj=>D.int (Q3 m (Qx R L) i j))from rfl,Za,QlO (by omega) (by omega)]
    rfl
   exact QN (rfl) e rfl
  ·have g:=Qcv hR hL
   rw[Qd2 hi hi λs hs=>⟨(g s hs).1,(g s hs).2.1⟩,sum_neg _ i λs hs=>(g s hs).2.2.2.2,Qi8]
   show D.int (0- -(Qac R L i))=_
   rw[show(0:Int)- -(Qac R L i)=Qac R L i by omega]
theorem QhX(a b:Int):deq (.int a) (.int b)=decide (a=b):=by
 show PyData.eqv (.int a) (.int b)=_
 unfold PyData.eqv
 exact Bool.beq_eq_decide_eq a b
theorem QbD(ha:fa ρ=some ra)(ea:ra.d= .int a)(hb:fb ρ=some rb)(eb:rb.d= .int b):dOp gEq fa fb ρ=some ⟨.bl (decide (a=b)),true,[]⟩:=by
 refine QN ha hb ?_
 rw[ea,eb]
 show some (D.bl (deq (.int a) (.int b)))=_
 rw[QhX]
theorem QfB(ha:fa ρ=some ra)(ea:ra.d= .int a)(hb:fb ρ=some rb)(eb:rb.d= .int b):dOp gNe fa fb ρ=some ⟨.bl (!decide (a=b)),true,[]⟩:=by
 refine QN ha hb ?_
 rw[ea,eb]
 show some (D.bl (!deq (.int a) (.int b)))=_
 rw[QhX]
theorem Qql(ha:fa ρ=some ⟨.bl a,true,[]⟩)(hb:fb ρ=some ⟨.bl b,true,[]⟩):dOr fa fb ρ=some ⟨.bl (a || b),true,[]⟩:=by
 unfold dOr
 rw[ha]
 cases a<;>simp[D.tru,hb]
theorem Qd0(ha:fa ρ=some ⟨.bl a,true,[]⟩)(hb:fb ρ=some ⟨.bl b,true,[]⟩):Qdv fa fb ρ=some ⟨.bl (a && b),true,[]⟩:=by
 unfold Qdv
 rw[ha]
 cases a<;>simp[D.tru,hb]
theorem Qp(ha:fa ρ=some r)(e:r.d= .bl b):Qm fa ρ=some b:=by
 unfold Qm
 rw[ha,Za,e];rfl
theorem Qbx(h:g ρ=some b):QbK g ρ=some (!b):=by unfold QbK;rw[h];rfl
theorem Qa2(ha:g1 ρ=some a)(hb:g2 ρ=some b):bOr g1 g2 ρ=some (a || b):=by
 unfold bOr;rw[ha];cases a<;>simp[hb]
theorem QeF(ha:g1 ρ=some a)(hb:g2 ρ=some b):QcV g1 g2 ρ=some (a && b):=by
 unfold QcV;rw[ha];cases a<;>simp[hb]
theorem QcY(ha:fa ρ=some ra)(ea:ra.d= .int a)(hb:fb ρ=some rb)(eb:rb.d= .int b)(h:Qdx a b=true):Qaq fa fb ρ=some ⟨.int (a*b),true,[]⟩:=by
 unfold Qaq
 rw[ha,Za,hb,Za,ea,eb]
 simp[h]
theorem Qar(ha:fa ρ=some ra)(ea:ra.d= .int a)(hb:fb ρ=some rb)(eb:rb.d= .int b):Qt fa fb ρ=some ⟨.int (a+b),true,[]⟩:=by
 unfold Qt
 rw[ha,Za,hb,Za,ea,eb]
theorem Qan(ha:fa ρ=some ra)(ea:ra.d= .int a)(hb:fb ρ=some rb)(eb:rb.d= .int b)(h:0<b):dOp QaH fa fb ρ=some ⟨.int (a % b),true,[]⟩:=by
 refine QN ha hb ?_
 rw[ea,eb]
 show(if b≠0 then some (D.int (QfI a b))else none)=_
 rw[if_pos (by omega),Qpo _ _ (by omega)]
theorem Qdj(ha:fa ρ=some ra)(ea:ra.d= .int a)(hb:fb ρ=some rb)(eb:rb.d= .int b)(h:0<b)(h2:b<2^64):dOp QdO fa fb ρ=some ⟨.int (a / b),true,[]⟩:=by
 refine QN ha hb ?_
 rw[ea,eb]
 have:Qe1 b=true:=by
  unfold Qe1
  have h3:b.natAbs<2^8000:=Zs (by omega:b.natAbs<2^64) (Zae (by decide) (by decide))
  simp only[Zh,decide_eq_true_eq]
  exact⟨by omega,h3⟩
 show(if Qe1 b=true then some (D.int (QfJ a b))else none)=_
 rw[if_pos this,QpK _ _ (by omega)]
theorem QpB(h:fa ρ=some r):Qb8 fa ρ=some ⟨r.d,false,r.M⟩:=by unfold Qb8;rw[h];rfl
theorem QrJ{fa fb:DE}{ρ:En}{ra rb:R}{m:Nat}{f:Nat->Int}{i:Int}(ha:fa ρ=some ra)(ea:ra.d=Qas m f)(hb:fb ρ=some rb)(eb:rb.d= .int i)(h0:0<=i)(h:i<m):Qo fa fb ρ=some ⟨.int (f i.toNat),true,[]⟩:=by
 unfold Qo
 rw[ha,Za,hb,Za,ea,eb]
 simp only[Qas,D.items,Za,QlO h0 h,ZV]
 rfl
theorem Ql6{fa fb:DE}{ρ:En}{ra rb:R}{ns:List Int}{i:Int}{v:Int}(ha:fa ρ=some ra)(ea:ra.d= .lst (ns.map .int))(hb:fb ρ=some rb)(eb:rb.d= .int i)(h0:0<=i)(h:ns[i.toNat]? =some v):Qo fa fb ρ=some ⟨.int v,true,[]⟩:=by
 have hl:i<ns.length:=by have:=(Zd.mp h).1;omega
 unfold Qo
 rw[ha,Za,hb,Za,ea,eb]
 simp only[D.items,Za]
 rw[QdD h0 (by simpa using hl),Zx,h]
 rfl
theorem QoC{m n:Nat}{f:Nat->Int}(h:n<=m):cutD ((List.range m).map λi=>D.int (f i)) none (some (n:Int))=(List.range n).map λi=>D.int (f i):=by
 unfold cutD
 simp only[Zc,ZG,HT.QgP,HT.QeL,List.drop_zero,Nat.sub_zero,Zaw h]
 rw[← ZaP,List.take_range,Zaw h]
theorem QrN{fa fb:DE}{ρ:En}{ra rb:R}{m n:Nat}{f:Nat->Int}(ha:fa ρ=some ra)(ea:ra.d=Qas m f)(hb:fb ρ=some rb)(eb:rb.d= .int n)(h:n<=m):Qa8 fa Qcu (Q4 fb) ρ=some ⟨Qas n f,true,[]⟩:=by
 unfold Qa8 Qcu Q4
 rw[ha,Za,hb,ea]
 simp only[Za,eb,Qas,QoC h,Qab,Qn4,if_true]
noncomputable def QeV:DS:=(Qd (sIf (Qm (dOp gLt (Qa 1) (dBf Qau (Qb (Qa 0) Qe)))) (Qd (QX (Qo (Qa 0) (Qa 1))) Qg) Qg) (Qd (QX (dC (.int 0))) Qg))
def Qhw(d:Den):Prop:=∀(ns:List Int) (k:Nat),d [.lst (ns.map .int),.int k]=some (.int (ns.getD k 0),true)
theorem QrV:Qhw (Qr 2 QeV):=λns k=>by
 refine Q7 ?_
 refine QC (QA (b:=decide ((k:Int)<ns.length)) ?_ (λh=>?_) (λh=>?_))
 ·refine Qp (QN (rb:=⟨.int ns.length,true,[]⟩) rfl ?_ rfl) rfl
  show some (HS.R.mk (.int ((ns.map D.int).length:Int)) true [])=_
  rw[Zc]
 ·have h:=of_decide_eq_true h
  have hk:k<ns.length:=by omega
  have e:ns[k]? =some (ns.getD k 0):=by rw[Zag,ZQ hk];rfl
  exact QC (Qia (Ql6 rfl rfl rfl rfl (by omega) (by simpa using e)) ⟨rfl,rfl⟩)
 ·have h:=of_decide_eq_false h
  have e:ns.getD k 0=0:=by rw[Zag,ZD (by omega)];rfl
  rw[e]
  exact Qh (QF rfl ⟨rfl,rfl⟩)
noncomputable def QaR(t k:Int):Int:=(t+17)*(k*k+7*k+11)*69621 % 2147483647
noncomputable def Qda(m t k:Int):Int:=if QaR t k % (k+1)<k then(QaR t k % (k+1)+t) % m else m
noncomputable def Qc7(m t kind:Int)(k:Int):Int×Int×Bool:=((k+t) % m,Qda m t k,decide (kind=2) || (decide (kind=3) && decide (QaR t k / 64 % 2=1)))
noncomputable def QaK(m:Nat)(t kind:Int):List (Int×Int×Bool):=(List.range m).map λ(k:Nat)=>Qc7 m t kind k
def GoodW(m:Nat)(w:Int×Int×Bool):Prop:=Good m (w.1,w.2.1)/\(w.2.2=true->w.1<m)
noncomputable def QM(W:List (Int×Int×Bool)):D:= .lst (W.map Qcd)
@[simp] theorem QvP(W:List (Int×Int×Bool)):(QM W).flat=false:=rfl
theorem QoA{a x n:Int}(h1:0<x)(h2:x<n):(a+x) % n≠a % n:=λh=>by
 have h3:(a+x-a) % n=0:=Int.emod_eq_emod_iff_emod_sub_eq_zero.mp h
 rw[show a+x-a=x by omega,ZaZ (by omega) h2]at h3
 omega
theorem QnG{m:Nat}{t kind:Int}{k:Nat}(hk:k<m):GoodW m (Qc7 m t kind k):=by
 have hm:(0:Int)<m:=by omega
 have h1:=ZW ((k:Int)+t) (by omega:(m:Int)≠0)
 have h2:=Zab ((k:Int)+t) hm
 unfold Qc7 Qda
 split
 ·rename_i hlt
  have h3:=ZW (QaR t k) (by omega:((k:Int)+1)≠0)
  have h4:=ZW (QaR t k % (k+1)+t) (by omega:(m:Int)≠0)
  have h5:=Zab (QaR t k % (k+1)+t) hm
  refine⟨⟨h1,h4,by dsimp only;omega,by dsimp only;omega,?_⟩,λ_=>by dsimp only;omega⟩
  dsimp only
  have h6:=QoA (a:=QaR t k % (k+1)+t) (x:=k-QaR t k % (k+1)) (n:=m) (by omega) (by omega)
  rw[show QaR t k % (k+1)+t+(k-QaR t k % (k+1))=k+t by omega]at h6
  exact h6
 ·exact⟨⟨h1,by dsimp only;omega,by dsimp only;omega,by dsimp only;omega,by dsimp only;omega⟩,λ_=>by dsimp only;omega⟩
noncomputable def Qgi:DS:=(Qd (Qu 3 (Qaa Qe)) (Qd (Qa6 (Qc6 (Qa 0)) (.nm 4) (Qd (Qu 5 (dOp QaH (Qaq (Qaq (Qt (Qa 1) (dC (.int 17))) (Qt (Qt (Qaq (Qa 4) (Qa 4)) (Qaq (dC (.int 7)) (Qa 4))) (dC (.int 11)))) (dC (.int 69621))) (dC (.int 2147483647)))) (Qd (Qu 6 (Qb8 (Qa 0))) (Qd (sIf (Qm (dOp gLt (dOp QaH (Qa 5) (Qt (Qa 4) (dC (.int 1)))) (Qa 4))) (Qd (Qu 6 (dOp QaH (Qt (dOp QaH (Qa 5) (Qt (Qa 4) (dC (.int 1)))) (Qa 1)) (Qa 0))) Qg) Qg) (Qd (QcJ 3 Qai (QaI (Qb (dOp QaH (Qt (Qa 4) (Qa 1)) (Qa 0)) (Qb (Qa 6) (Qb (dOr (dOp gEq (Qa 2) (dC (.int 2))) (Qdv (dOp gEq (Qa 2) (dC (.int 3))) (dOp gEq (dOp QaH (dOp QdO (Qa 5) (dC (.int 64))) (dC (.int 2))) (dC (.int 1))))) Qe))))) Qg))))) (Qd (QX (Qa 3)) Qg)))
theorem Qf4(hx:ρ[x]? =some (some (.lst xs,true)))(ha:fa ρ=some r)(hf:r.d.flat=true)(hl:xs.length<16777216)(q:Q (.nx (ρ.set x (some (.lst (xs++[r.d]),true))))):Run (QcJ x Qai fa) ρ Q:=by
 refine⟨_,?_,q⟩
 have hn:r.norm=⟨r.d,true,[]⟩:=by unfold HS.R.norm;rw[if_pos hf]
 unfold QcJ
 rw[hx]
 simp only[Qai,Za,ha,Qbo,Qhp,hn,QaP,kill,Qdf]
 simp[hl]
def QkD(d:Den):Prop:=∀(m:Nat) (t kind:Int),0<m->m<=1000->0<=t->t<2000000->d [.int m,.int t,.int kind]=some (QM (QaK m t kind),true)
theorem Qrw:QkD (Qr 7 Qgi):=λm t kind h0 hm ht ht2=>by
 refine Q7 ?_
 refine run_seq (Qi (r:=⟨.lst [],true,[]⟩) rfl ?_)
 rw[QaL]
 refine run_seq (QaA (List.range m) (λi ρ=>∃j4 j5 j6,ρ=[some (.int m,true),some (.int t,true),some (.int kind,true),some (.lst (((List.range i).map λ(k:Nat)=>Qc7 m t kind k).map Qcd),true),j4,j5,j6]) (Qgy (n:=m) (r:=⟨.int m,true,[]⟩) rfl rfl (by omega)) rfl ⟨none,none,none,rfl⟩ ?_ ?_)
 ·rintro i k ρ hi ⟨j4,j5,j6,rfl⟩
  have hk:i<m/\i=k:=by
   obtain⟨h1,h2⟩:=Zd.mp hi
   simp at h1 h2;exact⟨h1,h2⟩
  obtain⟨hk,rfl⟩:=hk
  refine⟨_,rfl,?_⟩
  have n1:(t+17).natAbs<2^64:=by omega
  have n2:(69621:Int).natAbs<2^64:=by decide
  refine run_seq (Qi (r:=⟨.int (QaR t i),true,[]⟩) ?_ ?_)
  ·exact Qan (QcY (QcY (Qar (a:=t) (b:=17) rfl rfl rfl rfl) rfl (Qar (Qar (QcY (a:=(i:Int)) (b:=i) rfl rfl rfl rfl (Qf6 (by omega))) rfl (QcY (a:=7) (b:=(i:Int)) rfl rfl rfl rfl (Qf6 (by decide))) rfl) rfl (QcK (.int 11) _) rfl) rfl (Qf6 n1)) rfl (QcK (.int 69621) _) rfl (QeQ n2)) rfl (QcK (.int 2147483647) _) rfl (by decide)
  ·rw[QaL]
   refine run_seq (Qi (r:=⟨.int m,false,[]⟩) rfl ?_)
   rw[Qk0 rfl]
   refine run_seq (f:=sIf _ _ _) (Run.mono (Q:=Nx λρ=>ρ=[some (.int m,true),some (.int t,true),some (.int kind,true),some (.lst (((List.range i).map λ(k:Nat)=>Qc7 m t kind k).map Qcd),true),some (.int i,true),some (.int (QaR t i),true),some (.int (Qda m t i),true)]) ?_ ?_)
   ·have e1:∀(ρ:En),ρ=[some (.int m,true),some (.int t,true),some (.int kind,true),some (.lst (((List.range i).map λ(k:Nat)=>Qc7 m t kind k).map Qcd),true),some (.int i,true),some (.int (QaR t i),true),some (.int m,true)]->dOp QaH (Qa 5) (Qt (Qa 4) (dC (.int 1))) ρ=some ⟨.int (QaR t i % (i+1)),true,[]⟩:=by
     rintro ρ rfl
     exact Qan (a:=QaR t i) (b:=(i:Int)+1) rfl rfl (Qar (a:=(i:Int)) (b:=1) rfl rfl rfl rfl) rfl (by omega)
    refine QA (b:=decide (QaR t i % (i+1)<i)) (Qp (QN (e1 _ rfl) rfl rfl) rfl) (λh=>?_) (λh=>?_)
    ·have h:=of_decide_eq_true h
     refine run_seq (Qi (Qan (a:=QaR t i % (i+1)+t) (b:=m) (Qar (a:=QaR t i % (i+1)) (b:=t) (e1 _ rfl) rfl rfl rfl) rfl rfl rfl (by omega)) (Qh ?_))
     rw[QaL]
     unfold Qda
     rw[if_pos h];rfl
    ·have h:=of_decide_eq_false h
     refine Qh ?_
     unfold Qda
     rw[if_neg h];rfl
   ·intro o ho
    cases o with
    | nx ρ=>
     subst ho
     refine run_seq (Qf4 (r:=⟨Qcd (Qc7 m t kind i),true,[]⟩) rfl ?_ rfl (by simp;omega) ?_)
     ·have e:=Qql (QbD (a:=kind) (b:=2) (fa:=Qa 2) (fb:=dC (.int 2)) (ρ:=[some (.int m,true),some (.int t,true),some (.int kind,true),some (.lst (((List.range i).map λ(k:Nat)=>Qc7 m t kind k).map Qcd),true),some (.int i,true),some (.int (QaR t i),true),some (.int (Qda m t i),true)]) rfl rfl rfl rfl)
       (Qd0 (QbD (fa:=Qa 2) (fb:=dC (.int 3)) rfl rfl rfl rfl) (QbD (fb:=dC (.int 1)) (Qan (fb:=dC (.int 2)) (Qdj (fa:=Qa 5) (fb:=dC (.int 64)) rfl rfl rfl rfl (by decide) (by decide)) rfl rfl rfl (by decide)) rfl rfl rfl))
      have e2:dOp QaH (Qt (Qa 4) (Qa 1)) (Qa 0) [some (.int m,true),some (.int t,true),some (.int kind,true),some (.lst (((List.range i).map λ(k:Nat)=>Qc7 m t kind k).map Qcd),true),some (.int i,true),some (.int (QaR t i),true),some (.int (Qda m t i),true)]=some ⟨.int ((i+t) % m),true,[]⟩:=
       Qan (Qar rfl rfl rfl rfl) rfl rfl rfl (by omega)
      unfold QaI
      rw[Qn e2 (Qn rfl (Qn e (QJ _)))]
      rfl
     ·refine Qh ⟨some (.int i,true),some (.int (QaR t i),true),some (.int (Qda m t i),true),?_⟩
      show [some (D.int m,true),some (D.int t,true),some (D.int kind,true),some (D.lst (((List.range i).map λ(k:Nat)=>Qc7 m t kind k).map Qcd++[Qcd (Qc7 m t kind i)]),true),_,_,_]=_
      rw[Zbs,Zz,Zz];rfl
    | _=>exact False.elim ho
 ·rintro ρ ⟨j4,j5,j6,rfl⟩
  rw[ZG]
  exact QF rfl ⟨rfl,rfl⟩
theorem QlB{x y m:Nat}{f:Nat->Int}{ρ:En}{i:Int}{b:Bool}{Q:Out->Prop}(hx:ρ[x]? =some (some (Qas m f,true)))(hy:ρ[y]? =some (some (.int i,b)))(h0:0<=i)(h:i<m)
  (q:Q (.nx (ρ.set x (some (Qas m (up f i.toNat (f i.toNat+1)),true))))):Run (QdY x Qai (Qa y) (Qt (Qo (Qa x) (Qa y)) (dC (.int 1)))) ρ Q:=by
 have e1:Qa y ρ=some ⟨.int i,true,[]⟩:=Qs2 hy
 have e2:=Qa3 hx
 exact Qp0 hx e1 rfl (Qar (QrJ e2 (by simp) e1 rfl h0 h) rfl (QcK (.int 1) _) rfl) rfl h0 h q
theorem Run.nx(h:Run f ρ (Nx Q))(m:∀ρ,Q ρ->Q' ρ):Run f ρ (Nx Q'):=h.mono λo ho=>by
 cases o with
 | nx ρ=>exact m ρ ho
 | _=>exact ho.elim
theorem Qah(h:Run f ρ (Nx P))(k:∀ρ',P ρ'->Run g ρ' Q):Run (Qd f g) ρ Q:=run_seq (h.nx k)
noncomputable def QI(c:Int):Int:=c*48271 % 2147483647
noncomputable def mStart(m c:Int):Int:=QI c % (m+1)
noncomputable def Qdu(m c:Int):Int:=(mStart m c+1+QI c / 9 % m) % (m+1)
noncomputable def QaB(m kind c:Int):Int×Int×Bool:=(mStart m c,Qdu m c,decide (mStart m c<m) && (decide (kind=2) || (decide (kind=3) && decide (QI c / 72 % 3=1))))
theorem Qny{m:Nat}(hm:0<m)(kind c:Int):GoodW m (QaB m kind c):=by
 have h1:=ZW (QI c) (by omega:(m:Int)+1≠0)
 have h2:=Zab (QI c) (by omega:(0:Int)<m+1)
 have h3:=ZW (QI c / 9) (by omega:(m:Int)≠0)
 have h4:=Zab (QI c / 9) (by omega:(0:Int)<m)
 have h5:=ZW (mStart m c+1+QI c / 9 % m) (by omega:(m:Int)+1≠0)
 have h6:=Zab (mStart m c+1+QI c / 9 % m) (by omega:(0:Int)<m+1)
 have h7:=QoA (a:=mStart m c) (x:=1+QI c / 9 % m) (n:=(m:Int)+1) (by omega) (by omega)
 rw[← Int.add_assoc,show mStart m c % ((m:Int)+1)=mStart m c from ZaZ h1 h2]at h7
 refine⟨⟨h1,h5,?_,?_,λz=>h7 z.symm⟩,λh=>?_⟩
 ·show mStart m c<=m;unfold mStart;omega
 ·show Qdu m c<=m;unfold Qdu;omega
 ·have:(QaB m kind c).2.2=(decide (mStart m c<m) && (decide (kind=2) || (decide (kind=3) && decide (QI c / 72 % 3=1)))):=rfl
  rw[this,Zh,decide_eq_true_eq]at h
  exact h.1
theorem Qq8{fa fb:DE}{ρ:En}{ra rb:R}{A B:List (Int×Int×Bool)}(ha:fa ρ=some ra)(ea:ra.d=QM A)(hb:fb ρ=some rb)(eb:rb.d=QM B)(hl:A.length+B.length<=16777216):Qt fa fb ρ=some ⟨QM (A++B),true,[]⟩:=by
 unfold Qt
 rw[ha,Za,hb,Za,ea,eb]
 simp only[QM,Zc,Qdf,if_pos hl,Qab]
 simp
noncomputable def QbN(w:Int×Int×Bool):Int×Int:=(if w.2.1<w.1 then w.2.1 else w.1,if w.2.1>w.1 then w.2.1 else w.1)
noncomputable def Qd1(w:Int×Int×Bool):Int×Int:=(w.1,w.2.1)
noncomputable def QO(W:List (Int×Int×Bool)):List (Int×Int):=(W.filter λw=> !w.2.2).map QbN
noncomputable def QP(W:List (Int×Int×Bool)):List (Int×Int):=(W.filter λw=>w.2.2).map Qd1
theorem QbG{m:Nat}{W:List (Int×Int×Bool)}(h:∀w∈W,GoodW m w):∀s∈QO W,Good m s/\s.1<s.2:=λs hs=>by
 obtain⟨w,hw,rfl⟩:=ZA.mp hs
 obtain⟨⟨h1,h2,h3,h4,h5⟩,_⟩:=h w (Zal.mp hw).1
 simp only at h1 h2 h3 h4 h5
 unfold QbN Good
 simp only
 split<;>split<;>omega
theorem QbL{m:Nat}{W:List (Int×Int×Bool)}(h:∀w∈W,GoodW m w):∀s∈QP W,Good m s/\s.1<m:=λs hs=>by
 obtain⟨w,hw,rfl⟩:=ZA.mp hs
 obtain⟨h1,h2⟩:=h w (Zal.mp hw).1
 exact⟨h1,h2 (by simpa using(Zal.mp hw).2)⟩
theorem QiK(W:List (Int×Int×Bool)):(QO W).length<=W.length:=by unfold QO;rw[Zc];exact List.length_filter_le _ _
theorem Qi2(W:List (Int×Int×Bool)):(QP W).length<=W.length:=by unfold QP;rw[Zc];exact List.length_filter_le _ _
structure Qtx (m:Nat) (t kind:Int) (R L:List (Int×Int)):Prop where
 ex:∃W,(∀w∈QaK m t kind,w∈W)/\(∀w∈W,GoodW m w)/\W.length<=100/\R=QO W/\L=QP W
theorem Qtx.good{m:Nat}{t kind:Int}{R L:List (Int×Int)}(h:Qtx m t kind R L):(∀s∈R,Good m s)/\(∀s∈L,Good m s)/\R.length<=100/\L.length<=100:=by
 obtain⟨W,_,h2,h3,rfl,rfl⟩:=h.ex
 exact⟨λs hs=>(QbG h2 s hs).1,λs hs=>(QbL h2 s hs).1,Zu (QiK W) h3,Zu (Qi2 W) h3⟩
theorem QpA{fa:DE}{ρ:En}{r:R}{W:List (Int×Int×Bool)}(h:fa ρ=some r)(e:r.d=QM W):Qax (QZ fa) (.tp [1,2,3]) [none,none,none,none] (QbK (Qm (Qa 3))) (QaI (Qb (dBf Qb6 (Qb (Qa 1) (Qb (Qa 2) Qe))) (Qb (dBf Qcr (Qb (Qa 1) (Qb (Qa 2) Qe))) Qe))) ρ=some ⟨Qc (QO W),true,[]⟩:=by
 rw[Qiz W (Qal h e) rfl λw _=>⟨[none,some (.int w.1,true),some (.int w.2.1,true),some (.bl w.2.2,true)],rfl,Qbx (Qp rfl rfl),λ_=>⟨⟨pairD (QbN w),true,[]⟩,rfl,rfl,rfl⟩⟩]
 unfold Qc QO
 rw[Zaf];rfl
theorem QoY{fa:DE}{ρ:En}{r:R}{W:List (Int×Int×Bool)}(h:fa ρ=some r)(e:r.d=QM W):Qax (QZ fa) (.tp [1,2,3]) [none,none,none,none] (Qm (Qa 3)) (QaI (Qb (Qa 1) (Qb (Qa 2) Qe))) ρ=some ⟨Qc (QP W),true,[]⟩:=by
 rw[Qiz W (Qal h e) rfl λw _=>⟨[none,some (.int w.1,true),some (.int w.2.1,true),some (.bl w.2.2,true)],rfl,Qp rfl rfl,λ_=>⟨⟨pairD (Qd1 w),true,[]⟩,rfl,rfl,rfl⟩⟩]
 unfold Qc QP
 rw[Zaf];rfl
theorem Qpq{m:Nat}{t kind:Int}:∀w∈QaK m t kind,GoodW m w:=λw hw=>by
 obtain⟨k,hk,rfl⟩:=ZA.mp hw
 exact QnG (ZU.mp hk)
theorem QgV(m:Nat)(t kind:Int):(QaK m t kind).length=m:=by simp[QaK]
theorem Qcy{fa:DE}{ρ:En}{r:R}{m:Int}{R L:List (Int×Int)}(h:fa ρ=some r)(e:r.d=Ql m R L):
  Qo fa (dC (.int 0)) ρ=some ⟨.int m,true,[]⟩/\Qo fa (dC (.int 1)) ρ=some ⟨Qc R,r.fr,r.M⟩/\Qo fa (dC (.int 2)) ρ=some ⟨Qc L,r.fr,r.M⟩:=by
 unfold Qo
 rw[h]
 simp only[Za,e,QcK]
 exact⟨rfl,rfl,rfl⟩
theorem Qd5(h:fa ρ=some r)(e:r.d= .lst xs):dBf Qau (Qb fa Qe) ρ=some ⟨.int xs.length,true,[]⟩:=by
 unfold dBf
 rw[Qn h (QJ _),Za]
 simp[e,Qau]
theorem Qd9(n:Nat)(ps:List (Int×Int)):(Qc ps).sim (n+2)=true:=by
 unfold Qc
 simp only[D.sim,List.all_map,Zad]
 intro p _
 cases n<;>rfl
theorem Qrn(m:Int)(R L:List (Int×Int)):(Ql m R L).sim 8=true:=by
 unfold Ql
 simp only[D.sim,List.all_cons,List.all_nil,Bool.and_true,Zbz,Zh]
 exact⟨Qd9 5 R,Qd9 5 L⟩
theorem Qk6(ha:fa ρ=some ra)(ea:ra.d=d)(hb:fb ρ=some rb)(eb:rb.d=d)(hs:d.sim 8=true):dOp gNe fa fb ρ=some ⟨.bl false,true,[]⟩:=by
 refine QN ha hb ?_
 rw[ea,eb]
 unfold gNe
 rw[hs,Qpj hs];rfl
theorem QsR(ha:fa ρ=some ra)(hb:fb ρ=some rb)(h1:ra.d.sim 8=true)(h2:rb.d.sim 8=true):dOp gEq fa fb ρ=some ⟨.bl (deq ra.d rb.d),true,[]⟩:=by
 refine QN ha hb ?_
 unfold gEq
 rw[h1,h2];rfl
def Qg3(d:Den):Prop:=∀(m:Nat) (R L:List (Int×Int)),m<=1000->R.length+R.length+L.length<=1000000->(∀s∈R,Good m s)->(∀s∈L,Good m s)->d [Ql m R L]=some (Qas m (Qac R L),true)
theorem Qr5(h:Qha d):Qg3 (Qr 1 (Qer d)):=λm R L h1 h2 h3 h4=>QoJ h h1 h2 h3 h4
def Esc(m:Nat)(W:List (Int×Int×Bool)):Prop:=∀A:Nat->Prop,(∃p,p<m/\A p)->∃w∈W,w.1<m/\A w.1.toNat/\(w.2.1=m∨¬A w.2.1.toNat)
theorem Esc.mono{m:Nat}{W W':List (Int×Int×Bool)}(h:Esc m W)(s:∀w∈W,w∈W'):Esc m W':=λA hA=>let ⟨w,hw,r⟩:=h A hA;⟨w,s w hw,r⟩
def Qpl(m:Nat)(O:List Int)(w:Int×Int×Bool)(j:Nat):Prop:=O[j]? =some w.1/\(w.2.1=m∨∃i,i<j/\O[i]? =some w.2.1)
theorem Qpl.app{m:Nat}{O O':List Int}{w:Int×Int×Bool}{j:Nat}(h:Qpl m O w j):Qpl m (O++O') w j:=by
 obtain⟨h1,h2⟩:=h
 have hj:j<O.length:=(Zd.mp h1).1
 refine⟨by rw[ZY hj];exact h1,?_⟩
 rcases h2 with h2 | ⟨i,hi,h2⟩
 ·exact .inl h2
 ·exact .inr ⟨i,hi,by rw[ZY (by omega)];exact h2⟩
noncomputable def Qfh:DS:=(Qd (Qu 3 (Qaq (Qaa (Qb (dC (.int 0)) Qe)) (Qt (Qa 0) (dC (.int 1))))) (Qd (Qa6 (QZ (Qa 1)) (.tp [4,5,6]) (Qd (QdY 3 Qai (Qa 4) (Qt (Qo (Qa 3) (Qa 4)) (dC (.int 1)))) (Qd (sIf (QbK (Qm (Qa 6))) (Qd (QdY 3 Qai (Qa 5) (Qt (Qo (Qa 3) (Qa 5)) (dC (.int 1)))) Qg) Qg) Qg))) (Qd (Qu 7 (dC (.int 1))) (Qd (Qa6 (QZ (Qa8 (Qa 3) Qcu (Q4 (Qa 0)))) (.nm 8) (Qd (Qu 7 (Qaq (Qa 7) (Qa 8))) Qg)) (Qd (QX (dOp gLe (Qa 7) (Qa 2))) Qg)))))
noncomputable def QL(m:Nat)(g:Nat->Int):Int:=((List.range m).map g).sum
theorem QaS(m:Nat)(g:Nat->Int):QL (m+1) g=QL m g+g m:=by
 unfold QL;rw[Zbs,Zz,ZaD];simp
theorem QaQ(h:∀i,i<m->f i=g i):QL m f=QL m g:=by
 unfold QL;rw[Zax λi hi=>h i (ZU.mp hi)]
theorem QdL(m:Nat)(f g:Nat->Int):QL m (λi=>f i+g i)=QL m f+QL m g:=by
 induction m with
 | zero=>rfl
 | succ m ih=>rw[QaS,QaS,QaS,ih];omega
theorem QcP(m:Nat):QL m (λ_=>0)=0:=by
 induction m with
 | zero=>rfl
 | succ m ih=>rw[QaS,ih];rfl
theorem Qex(hp:p<m)(v:Int)(f:Nat->Int):QL m (λi=>(if i=p then v else 0)*f i)=v*f p:=by
 induction m with
 | zero=>omega
 | succ m ih=>
  rw[QaS]
  by_cases h:p=m
  ·subst h
   rw[if_pos rfl,QaQ (g:=λ_=>0) λi hi=>by rw[if_neg (by omega)];simp,QcP];simp
  ·rw[ih (by omega),if_neg (λz=>h z.symm)];simp
noncomputable def QgH(m:Nat)(T:Nat->Nat->Int)(f c:Nat->Int):Nat->Int:=λj=>f j+QL m λi=>c i*T i j
theorem QgG(h:fa ρ=some r)(q:Q (.nx ρ)):Run (Qef fa) ρ Q:=⟨_,by simp[Qef,h],q⟩
theorem QqM(i j:Nat)(s:Int×Int):(hit i j s).natAbs<=1:=by unfold hit;split<;>split<;>decide
theorem Qgh(i j:Nat):∀S:List (Int×Int),((S.map (hit i j)).sum).natAbs<=S.length
 | []=>by simp
 | s::S=>by
  have:=Qgh i j S
  have:=QqM i j s
  rw[Zo,ZP,Zr]
  omega
theorem QqZ{a b:Nat}(ha:fa ρ=some ra)(ea:ra.d=QaF cs)(hl:fl ρ=some rl)(el:rl.d= .int a)(hh:fh ρ=some rh)(eh:rh.d= .int b):Qa8 fa (Q4 fl) (Q4 fh) ρ=some ⟨QaF ((cs.drop (min a cs.length)).take (min b cs.length-min a cs.length)),true,[]⟩:=by
 unfold Qa8 Q4
 simp only[ha,hl,hh,Za,ea,el,eh,QaF,cutD,Zc,HT.QeL,← ZbA,← ZaP,Qab,QmT,if_true]
structure QhT (m:Nat) (R L:List (Int×Int)):Prop where
 ex:∃W,Esc m W/\(∀w∈W,GoodW m w)/\W.length<=200/\R=QO W/\L=QP W
theorem QhT.good{m:Nat}{R L:List (Int×Int)}(h:QhT m R L):(∀s∈R,Good m s)/\(∀s∈L,Good m s)/\R.length<=200/\L.length<=200/\(∀s∈R,s.1<s.2)/\∀s∈L,s.1<m:=by
 obtain⟨W,_,h2,h3,rfl,rfl⟩:=h.ex
 exact⟨λs hs=>(QbG h2 s hs).1,λs hs=>(QbL h2 s hs).1,Zu (QiK W) h3,Zu (Qi2 W) h3,λs hs=>(QbG h2 s hs).2,λs hs=>(QbL h2 s hs).2⟩
theorem Qi4{α:Type}(m:Nat)(g:Nat->α->Int):∀S:List α,QL m (λj=>(S.map (g j)).sum)=(S.map λs=>QL m λj=>g j s).sum
 | []=>by simp[QcP]
 | s::S=>by
  simp only[Zo,ZP]
  rw[QdL,Qi4 m g S]
theorem QlD{α:Type}(c:Int)(f:α->Int):∀S:List α,c*(S.map f).sum=(S.map λs=>c*f s).sum
 | []=>by simp
 | s::S=>by simp only[Zo,ZP,Int.mul_add,QlD c f S]
structure TP (m:Nat) (T:Nat->Nat->Int):Prop where
 neg:∀p,p<m->T p p<0
 pos:∀i j,i<m->j<m->i≠j->0<=T i j
 bnd:∀i j,i<m->j<m->(T i j).natAbs<2^64
 wt:∃w:Nat->Int,(∀j,0<=w j)/\∀i,i<m->QL m (λj=>T i j*w j)<= -1
inductive Leg (m:Nat) (T:Nat->Nat->Int) (f:Nat->Int):(Nat->Int)->Prop where
 | nil:Leg m T f λ_=>0
 | step {c:Nat->Int}{p:Nat}{t:Int}:Leg m T f c->p<m->0<=t->t*(0-T p p)<=QgH m T f c p->Leg m T f (up c p (c p+t))
def Stb(m:Nat)(T:Nat->Nat->Int)(g:Nat->Int):Prop:=∀p,p<m->g p<0-T p p
theorem Ql2(h:∀i,i<m->f i<=g i):QL m f<=QL m g:=by
 induction m with
 | zero=>exact Int.le_refl _
 | succ m ih=>
  rw[QaS,QaS]
  have:=ih λi hi=>h i (by omega)
  have:=h m (by omega)
  omega
theorem Leg.least(tp:TP m T)(h:Leg m T f c)(h0:∀i,i<m->0<=c' i)(hs:Stb m T (QgH m T f c')):∀i,i<m->c i<=c' i:=by
 induction h with
 | nil=>exact h0
 | @step c p t _ hp ht hle ih=>
  intro i hi
  unfold up
  split
  ·rename_i e
   subst e
   have key:QgH m T f c i+(c' i-c i)*T i i<=QgH m T f c' i:=by
    unfold QgH
    have e1:QL m (λk=>c k*T k i)+(c' i-c i)*T i i=QL m (λk=>c k*T k i+(if k=i then c' i-c i else 0)*T k i):=by rw[QdL,Qex hi]
    have e2:QL m (λk=>c k*T k i+(if k=i then c' i-c i else 0)*T k i)<=QL m (λk=>c' k*T k i):=by
     refine Ql2 λk hk=>?_
     by_cases hki:k=i
     ·subst hki;rw[if_pos rfl,← ZaR];rw[show c k+(c' k-c k)=c' k by omega];exact Int.le_refl _
     ·rw[if_neg hki,Zbl,Int.add_zero]
      exact ZaN (ih k hk) (tp.pos k i hk hi hki)
    omega
   have h1:=hs i hi
   have h2:=tp.neg i hi
   by_cases hlt:c i+t<=c' i
   ·exact hlt
   ·exfalso
    have h3:(c' i-c i+1)<=t:=by omega
    have h4:(c' i-c i+1)*(0-T i i)<=t*(0-T i i):=ZaN h3 (by omega)
    have h5:(c' i-c i+1)*(0-T i i)=(0-T i i)-(c' i-c i)*T i i:=by rw[ZaR,Int.one_mul,Int.mul_sub,Int.mul_zero];omega
    omega
  ·exact ih i hi
theorem Leg.cast(h:Leg m T f c)(e:∀i,c i=d i):Leg m T f d:=by
 have:c=d:=funext e
 rw[← this];exact h
theorem QiZ(I:Nat->En->Prop)(step:∀n ρ,I n ρ->∃b,g ρ=some b/\(b=false->Q (.nx ρ))/\(b=true->Run fb ρ λo=>match o with | .nx ρ2=>∃n',n'<n/\I n' ρ2 | .ct ρ2=>∃n',n'<n/\I n' ρ2 | .bk ρ2=>Q (.nx ρ2) | .rt d fr=>Q (.rt d fr))):
  ∀(n:Nat) (ρ:En),I n ρ->Run (Qcf g fb) ρ Q:=by
 intro n
 induction n using Nat.strongRecOn with
 | _ n ih=>
  intro ρ h
  obtain⟨b,hb,hf,ht⟩:=step n ρ h
  unfold Run
  rw[Qof,hb,Za]
  cases b with
  | false=>exact⟨_,by simp,hf rfl⟩
  | true=>
   obtain⟨o,ho,hq⟩:=ht rfl
   rw[if_pos rfl,ho,Za]
   cases o with
   | nx ρ2=>obtain⟨n',hn,hI⟩:=hq;exact ih n' hn ρ2 hI
   | ct ρ2=>obtain⟨n',hn,hI⟩:=hq;exact ih n' hn ρ2 hI
   | bk ρ2=>exact⟨_,rfl,hq⟩
   | rt d fr=>exact⟨_,rfl,hq⟩
def QkX(m:Nat)(S:List (Int×Int)):Prop:=∀A:Nat->Prop,(∃p,p<m/\A p)->∃s∈S,s.1<m/\A s.1.toNat/\(s.2=m∨¬A s.2.toNat)
theorem QiV(h:Esc m W):QkX m (Qx (QO W) (QP W)):=λA hA=>by
 obtain⟨w,hw,h1,h2,h3⟩:=h A hA
 refine⟨(w.1,w.2.1),?_,h1,h2,h3⟩
 unfold Qx
 cases e:w.2.2 with
 | true=>exact Ze _ (ZA.mpr ⟨w,Zal.mpr ⟨hw,e⟩,rfl⟩)
 | false=>
  have hr:QbN w∈QO W:=ZA.mpr ⟨w,Zal.mpr ⟨hw,by simp[e]⟩,rfl⟩
  by_cases hlt:w.2.1<w.1
  ·refine Zi _ (Ze _ (ZA.mpr ⟨QbN w,hr,?_⟩))
   unfold QbN
   rw[if_pos hlt,if_neg (by omega)];rfl
  ·refine Zi _ (Zi _ ?_)
   have:QbN w=(w.1,w.2.1):=by
    unfold QbN
    rw[if_neg hlt]
    by_cases hgt:w.2.1>w.1
    ·rw[if_pos hgt]
    ·rw[if_neg hgt];rw[show w.2.1=w.1 by omega]
   rw[← this];exact hr
inductive Rk (m:Nat) (S:List (Int×Int)):Nat->Nat->Prop where
 | pit {s:Int×Int}{n:Nat}:s∈S->s.2=m->Rk m S (n+1) s.1.toNat
 | step {s:Int×Int}{k n:Nat}:s∈S->s.2≠m->Rk m S k s.2.toNat->k<n->Rk m S n s.1.toNat
theorem QkN{P:Nat->Prop}(h:∃n,P n):∃n,P n/\∀k,k<n->¬P k:=by
 obtain⟨n,hn⟩:=h
 induction n using Nat.strongRecOn with
 | _ n ih=>
  by_cases h:∃k,k<n/\P k
  ·obtain⟨k,hk,h⟩:=h;exact ih k hk h
  ·exact⟨n,hn,λk hk hx=>h ⟨k,hk,hx⟩⟩
theorem QvC(he:QkX m S):∀p,p<m->∃n,Rk m S n p:=λp hp=>by
 by_cases h:∃n,Rk m S n p
 ·exact h
 ·exfalso
  obtain⟨s,hs,h1,h2,h3⟩:=he (λp=>¬ ∃n,Rk m S n p) ⟨p,hp,h⟩
  by_cases e:s.2=m
  ·exact h2 ⟨1,.pit hs e⟩
  ·rcases h3 with h3 | h3
   ·exact e h3
   ·have:∃n,Rk m S n s.2.toNat:=Classical.byContradiction λz=>h3 z
    obtain⟨k,hk⟩:=this
    exact h2 ⟨k+1,.step hs e hk (by omega)⟩
theorem Qsd{m:Nat}{S:List (Int×Int)}(hg:∀s∈S,Good m s)(he:QkX m S):∃r:Nat->Nat,r m=0/\∀p,p<m->∃s∈S,s.1=p/\r s.2.toNat<r p:=by
 have h:∀p,∃n,(p<m->Rk m S n p/\∀k,k<n->¬Rk m S k p)/\(p=m->n=0):=λp=>by
  by_cases hp:p<m
  ·obtain⟨n,hn⟩:=QkN (QvC he p hp)
   exact⟨n,λ_=>hn,λz=>by omega⟩
  ·exact⟨0,λz=>absurd z hp,λ_=>rfl⟩
 obtain⟨r,hr⟩:=Zbg h
 refine⟨r,(hr m).2 rfl,λp hp=>?_⟩
 have h1:=((hr p).1 hp).1
 generalize r p=n at h1
 cases h1 with
 | @pit s n hs e=>
  obtain⟨g1,g2,g3,g4,g5⟩:=hg s hs
  exact⟨s,hs,by omega,by rw[e,ZE,(hr m).2 rfl];omega⟩
 | @step s k n hs e hk hkn=>
  obtain⟨g1,g2,g3,g4,g5⟩:=hg s hs
  refine⟨s,hs,by omega,?_⟩
  have hl:s.2.toNat<m:=by omega
  have:=((hr s.2.toNat).1 hl).2 k
  have:¬k<r s.2.toNat:=λz=>this z hk
  omega
theorem Qj4(r:Nat->Nat):∀m:Nat,∃N,∀p,p<=m->r p<=N
 | 0=>⟨r 0,λp hp=>by rw[show p=0 by omega];exact Zj _⟩
 | m+1=>by
  obtain⟨N,hN⟩:=Qj4 r m
  refine⟨N+r (m+1),λp hp=>?_⟩
  by_cases e:p=m+1
  ·subst e;omega
  ·have:=hN p (by omega);omega
theorem Qoc(hi:i<m)(g:Good m s)(w:Nat->Int)(hw:w m=0):QL m (λj=>hit i j s*w j)=if s.1=i then w s.2.toNat-w i else 0:=by
 obtain⟨g1,g2,g3,g4,g5⟩:=g
 by_cases h:s.1=i
 ·rw[if_pos h]
  have e:QL m (λj=>hit i j s*w j)=QL m (λj=>(if j=s.2.toNat then 1 else 0)*w j+(if j=i then-1 else 0)*w j):=QaQ λj _=>by
   have:hit i j s=(if j=s.2.toNat then 1 else 0)+(if j=i then-1 else 0):=by
    unfold hit
    by_cases a:s.2=j
    ·by_cases b:i=j
     ·rw[if_pos ⟨h,a⟩,if_pos ⟨h,b⟩,if_pos (by omega),if_pos b.symm];omega
     ·rw[if_pos ⟨h,a⟩,if_neg (λz=>b z.2),if_pos (by omega),if_neg (λz=>b z.symm)];omega
    ·by_cases b:i=j
     ·rw[if_neg (λz=>a z.2),if_pos ⟨h,b⟩,if_neg (by omega),if_pos b.symm];omega
     ·rw[if_neg (λz=>a z.2),if_neg (λz=>b z.2),if_neg (by omega),if_neg (λz=>b z.symm)];omega
   rw[this,ZaR]
  rw[e,QdL,Qex hi]
  by_cases hm:s.2.toNat<m
  ·rw[Qex hm];omega
  ·have e2:QL m (λj=>(if j=s.2.toNat then 1 else 0)*w j)=0:=by
    rw[QaQ λj hj=>by rw[if_neg (by omega),Zbl],QcP]
   rw[e2,show s.2.toNat=m by omega,hw];omega
 ·rw[if_neg h]
  rw[QaQ (g:=λ_=>0) λj hj=>by
   unfold hit
   rw[if_neg (λz=>h z.1),if_neg (λz=>h z.1)];rw[Int.sub_self,Zbl],QcP]
theorem Qdy{α:Type}{g:α->Int}{X:Int}:∀S:List α,(∀s∈S,g s<=X)->(S.map g).sum<=S.length*X
 | [],_=>by simp
 | a::S,h=>by
  have h1:=h a (by simp)
  have h2:=Qdy S λs hs=>h s (by simp[hs])
  simp only[Zo,ZP,Zr,Int.natCast_add,ZaR]
  rw[show((1:Nat):Int)*X=X by simp]
  omega
theorem QhM{α:Type}{g:α->Int}{X Y:Int}:∀(S:List α),(∀s∈S,g s<=X)->(∃s∈S,g s<=Y)->(S.map g).sum<=S.length*X-X+Y
 | [],_,h=>by obtain⟨s,hs,_⟩:=h;exact absurd hs (by simp)
 | a::S,h,h2=>by
  obtain⟨s,hs,hy⟩:=h2
  have hb:∀s∈S,g s<=X:=λs hs=>h s (by simp[hs])
  simp only[Zo,ZP,Zr,Int.natCast_add,ZaR]
  rw[show((1:Nat):Int)*X=X by simp]
  rcases Zn.mp hs with e | hs
  ·subst e
   have:=Qdy S hb
   omega
  ·have:=QhM S hb ⟨s,hs,hy⟩
   have:=h a (by simp)
   omega
theorem QdC{α:Type}{g:α->Int}:∀S:List α,(∀s∈S,0<=g s)->0<=(S.map g).sum
 | [],_=>by simp
 | a::S,h=>by
  have h1:=h a (by simp)
  have h2:=QdC S λs hs=>h s (by simp[hs])
  simp only[Zo,ZP]
  omega
theorem Qqd{m:Nat}{S:List (Int×Int)}(hg:∀s∈S,Good m s)(he:QkX m S)(hl:S.length<2^60):TP m (Q3 m S):=by
 have hn:∀s∈S,0<=s.1/\0<=s.2:=λs hs=>⟨(hg s hs).1,(hg s hs).2.1⟩
 have pos:∀i j,i<m->j<m->i≠j->0<=Q3 m S i j:=λi j hi hj hij=>by
  rw[Qd2 hi hj hn]
  refine QdC S λs _=>?_
  unfold hit
  rw[if_neg (λz=>hij z.2) (c:=s.1=i/\i=j)]
  split<;>omega
 obtain⟨r,r0,hr⟩:=Qsd hg he
 obtain⟨N,hN⟩:=Qj4 r m
 have M1:1<=S.length+1:=by omega
 have wt:∃w:Nat->Int,(∀j,0<=w j)/\∀i,i<m->QL m (λj=>Q3 m S i j*w j)<= -1:=by
  refine⟨λv=>(((S.length+1)^N:Nat):Int)-(((S.length+1)^(N-r v):Nat):Int),λj=>?_,λi hi=>?_⟩
  ·have:=Zae M1 (Nat.sub_le N (r j))
   show(0:Int)<=(((S.length+1)^N:Nat):Int)-(((S.length+1)^(N-r j):Nat):Int)
   omega
  ·generalize hw:(λv=>(((S.length+1)^N:Nat):Int)-(((S.length+1)^(N-r v):Nat):Int))=w
   have hw':∀v,w v=(((S.length+1)^N:Nat):Int)-(((S.length+1)^(N-r v):Nat):Int):=λv=>by rw[← hw]
   have wm:w m=0:=by rw[hw',r0,Nat.sub_zero];omega
   have e:QL m (λj=>Q3 m S i j*w j)=(S.map λs=>if s.1=(i:Int)then w s.2.toNat-w i else 0).sum:=by
    rw[QaQ (g:=λj=>(S.map λs=>hit i j s*w j).sum) λj hj=>by
     rw[Qd2 hi hj hn,Int.mul_comm,QlD]
     congr 1
     exact Zax λs _=>Int.mul_comm _ _]
    rw[Qi4 m (λj s=>hit i j s*w j) S]
    congr 1
    exact Zax λs hs=>Qoc hi (hg s hs) w wm
   rw[e]
   obtain⟨s0,hs0,e0,hlt⟩:=hr i hi
   generalize hX:(((S.length+1)^(N-r i):Nat):Int)=X
   have X1:1<=X:=by
    have:0<(S.length+1)^(N-r i):=Nat.pow_pos (by omega)
    omega
   have key:=QhM (Y:=X-(S.length+1)*X) S (λs _=>by
    show(if s.1=i then w s.2.toNat-w i else 0)<=X
    split
    ·rw[hw',hw' i,hX]
     have:0<=(((S.length+1)^(N-r s.2.toNat):Nat):Int):=Int.natCast_nonneg _
     omega
    ·omega) ⟨s0,hs0,by
    show(if s0.1=i then w s0.2.toNat-w i else 0)<=_
    rw[if_pos e0,hw',hw' i,hX]
    have hb:=hN i (by omega)
    have h1:(S.length+1)^(N-r i+1)<=(S.length+1)^(N-r s0.2.toNat):=Zae M1 (by omega)
    rw[Nat.pow_succ]at h1
    have h2:((((S.length+1)^(N-r i)*(S.length+1):Nat)):Int)<=(((S.length+1)^(N-r s0.2.toNat):Nat):Int):=by exact_mod_cast h1
    rw[Int.natCast_mul,hX,Int.mul_comm]at h2
    rw[show((S.length+1:Nat):Int)=(S.length:Int)+1 by omega]at h2
    omega⟩
   have:((S.length:Int)+1)*X=S.length*X+X:=by rw[ZaR,Int.one_mul]
   omega
 refine⟨λp hp=>?_,pos,λi j hi hj=>?_,wt⟩
 ·obtain⟨w,w0,hw⟩:=wt
  have h1:=hw p hp
  by_cases hneg:Q3 m S p p<0
  ·exact hneg
  ·exfalso
   have:0<=QL m (λj=>Q3 m S p j*w j):=by
    have:=Ql2 (f:=λ_=>0) (g:=λj=>Q3 m S p j*w j) λj hj=>by
     by_cases e:p=j
     ·subst e;exact Zbw (by omega) (w0 _)
     ·exact Zbw (pos p j hp hj e) (w0 _)
    rw[QcP]at this
    exact this
   omega
 ·rw[Qd2 hi hj hn]
  have:=Qgh i j S
  omega
theorem QhT.tp{m:Nat}{R L:List (Int×Int)}(h:QhT m R L):TP m (Q3 m (Qx R L)):=by
 have hg:=h.good
 refine Qqd (Qcv hg.1 hg.2.1) ?_ ?_
 ·obtain⟨W,h1,_,_,rfl,rfl⟩:=h.ex
  exact QiV h1
 ·unfold Qx
  simp only[Zf,Zc]
  omega
theorem QhT.neg{m:Nat}{R L:List (Int×Int)}(h:QhT m R L){i:Nat}(hi:i<m):0-Q3 m (Qx R L) i i=Qac R L i:=by
 have hg:=h.good
 have hs:=Qcv hg.1 hg.2.1
 rw[Qd2 hi hi (λs z=>⟨(hs s z).1,(hs s z).2.1⟩),sum_neg _ _ (λs z=>(hs s z).2.2.2.2),Qi8]
 omega
structure Told (m:Nat) (T:Nat->Nat->Int) (f c:Nat->Int):Prop where
 leg:Leg m T f c
 pos:∀j,j<m->0<=QgH m T f c j
 stb:Stb m T (QgH m T f c)
theorem QoT{m:Nat}{t kind:Int}:Esc m (QaK m t kind):=λA hpt=>by
 obtain⟨p,hp,hA⟩:=hpt
 have ex:∃j:Nat,j<m/\A (((j:Int)+t) % m).toNat:=by
  have h1:=ZW ((p:Int)-t) (by omega:(m:Int)≠0)
  have h2:=Zab ((p:Int)-t) (by omega:(0:Int)<m)
  refine⟨(((p:Int)-t) % m).toNat,by omega,?_⟩
  have e:(((((p:Int)-t) % m).toNat:Int)+t) % m=p:=by
   rw[ZS h1,Int.emod_add_emod,Int.sub_add_cancel]
   exact ZaZ (by omega) (by omega)
  rw[e,ZE];exact hA
 obtain⟨j,⟨hj,hAj⟩,hmin⟩:=QkN ex
 have s1:=ZW ((j:Int)+t) (by omega:(m:Int)≠0)
 have s2:=Zab ((j:Int)+t) (by omega:(0:Int)<m)
 refine⟨Qc7 m t kind j,ZA.mpr ⟨j,ZU.mpr hj,rfl⟩,?_,hAj,?_⟩
 ·exact s2
 ·show Qda m t j=m∨¬A (Qda m t j).toNat
  unfold Qda
  split
  ·rename_i h
   have n1:=ZW (QaR t j) (by omega:(j:Int)+1≠0)
   right
   intro z
   refine hmin (QaR t j % ((j:Int)+1)).toNat (by omega) ⟨by omega,?_⟩
   rw[ZS n1]
   exact z
  ·exact .inl rfl
end HS
namespace HS
open PySem PySem.Spec L2 PyProof.Rows PySem.NumText
noncomputable def cp(x:Str):List Nat:=x.cps.toList
noncomputable def tx(l:List Nat):Str:=⟨l.toArray⟩
theorem QaO(l:List Nat):cp (tx l)=l:=rfl
theorem Qqz(x:Str):tx (cp x)=x:=by cases x;rfl
theorem QcR{x y:Str}(h:cp x=cp y):x=y:=by rw[← Qqz x,← Qqz y,h]
theorem QbM(x:Str):x.length=(cp x).length:=by unfold cp Str.length;exact Zao.symm
theorem QeO(x y:Str):cp (x++y)=cp x++cp y:=cps_toList_append x y
noncomputable def dig(n:Nat):List Nat:=(Nat.toDigits 10 n).map Char.toNat
theorem QlL:∀d:Nat,d<10->(Nat.digitChar d).toNat=48+d:=by decide
theorem QfZ{n:Nat}(h:n<10):dig n=[48+n]:=by
 unfold dig
 rw[Nat.toDigits_of_lt_base h,Zo,QlL n h];rfl
theorem Qgb{n:Nat}(h:10<=n):dig n=dig (n / 10)++[48+n % 10]:=by
 have e:n=10*(n / 10)+n % 10:=by omega
 have:=Nat.toDigits_append_toDigits (b:=10) (n:=n / 10) (d:=n % 10) (by decide) (by omega) (by omega)
 rw[← e]at this
 unfold dig
 rw[← this,Zz,Nat.toDigits_of_lt_base (show n % 10<10 by omega),Zo,QlL _ (by omega)];rfl
theorem Qf2{P:Nat->Prop}(h1:∀n,n<10->P n)(h2:∀n,10<=n->P (n / 10)->P n)(n:Nat):P n:=by
 induction n using Nat.strongRecOn with
 | ind n ih=>
  by_cases h:n<10
  ·exact h1 n h
  ·exact h2 n (by omega) (ih _ (by omega))
theorem QcQ(n:Nat):AllDigits (dig n):=by
 refine Qf2 (P:=λn=>AllDigits (dig n)) (λn h=>?_) (λn h ih=>?_) n
 ·rw[QfZ h];intro c hc;rw[Zk]at hc;omega
 ·rw[Qgb h];intro c hc
  rcases Zy.mp hc with hc | hc
  ·exact ih c hc
  ·rw[Zk]at hc;omega
theorem QlT(n:Nat):digitsVal (dig n)=n:=by
 refine Qf2 (P:=λn=>digitsVal (dig n)=n) (λn h=>?_) (λn h ih=>?_) n
 ·rw[QfZ h];show 0*10+(48+n-48)=n;omega
 ·rw[Qgb h,digitsVal_snoc,ih];omega
theorem Qpi{n:Nat}(h0:0<n):∃c r,dig n=c::r/\49<=c:=by
 revert h0
 refine Qf2 (P:=λn=>0<n->∃c r,dig n=c::r/\49<=c) (λn h h0=>?_) (λn h ih h0=>?_) n
 ·exact⟨_,[],QfZ h,by omega⟩
 ·obtain⟨c,r,e,hc⟩:=ih (by omega)
  exact⟨c,r++[48+n % 10],by rw[Qgb h,e];rfl,hc⟩
theorem QeI(n:Nat):dig n≠[]:=by
 refine Qf2 (P:=λn=>dig n≠[]) (λn h=>?_) (λn h ih=>?_) n
 ·rw[QfZ h];simp
 ·rw[Qgb h];simp
theorem QdJ{n k:Nat}(hk:0<k)(h:n<10^k):(dig n).length<=k:=by
 unfold dig
 rw[Zc,← Nat.toList_repr,String.length_toList]
 exact(Nat.length_repr_le_iff hk).mpr h
noncomputable def QH(i:Int):Str:=Str.ofString (toString i)
theorem Qc4(i:Int):cp (QH i)=if i<0 then 45::dig i.natAbs else dig i.natAbs:=by
 show(Str.ofString (toString i)).cps.toList=_
 rw[signs_ofString]
 cases i with
 | ofNat m=>
  rw[if_neg (by simp)]
  show(Nat.repr m).toList.map Char.toNat=_
  rw[Nat.toList_repr];rfl
 | negSucc m=>
  rw[if_pos (Int.negSucc_lt_zero m)]
  show("-" ++Nat.repr (m+1)).toList.map Char.toNat=_
  rw[String.toList_append,Zz,Nat.toList_repr];rfl
theorem Qou(i:Int):32∉cp (QH i):=by
 rw[Qc4]
 intro h
 split at h
 ·rcases Zn.mp h with h | h
  ·omega
  ·have:=QcQ _ _ h;omega
 ·have:=QcQ _ _ h;omega
theorem QrK(i:Int):cp (QH i)≠[]:=by
 rw[Qc4]
 split
 ·simp
 ·exact QeI _
theorem Qkt{i:Int}{k:Nat}(hk:0<k)(h:i.natAbs<10^k):(QH i).length<=k+1:=by
 rw[QbM,Qc4]
 have:=QdJ hk h
 split<;>simp<;>omega
theorem QgX{i:Int}{k:Nat}(hk:0<k)(h:i.natAbs<10^k)(hk':k<=4000):intText? (QH i)=some i:=by
 have hl:=Qkt hk h
 have hc:=Qc4 i
 by_cases hi:i<0
 ·rw[if_pos hi]at hc
  rw[intText_neg (x:=QH i) (cs:=dig i.natAbs) hc (QcQ _) (QeI _) (by omega),QlT]
  congr 1;omega
 ·rw[if_neg hi]at hc
  have hc':(QH i).cps.toList=dig i.natAbs:=hc
  rw[intText_digits (x:=QH i) (by rw[hc'];exact QcQ _) (by rw[hc'];exact QeI _) (by omega),hc',QlT]
  congr 1;omega
noncomputable def jn(c:Nat):List (List Nat)->List Nat
 | []=>[]
 | [x]=>x
 | x::y::r=>x++c::jn c (y::r)
theorem QeM(c:Nat):∀ts:List Str,cp (Str.join (tx [c]) ts)=jn c (ts.map cp)
 | []=>rfl
 | [x]=>rfl
 | x::y::r=>by
  rw[join_cons_cons,QeO,QeO,QeM c (y::r)]
  show(cp x++[c])++_=cp x++c::_
  rw[ZT];rfl
theorem QkI{c:Nat}:∀{a b r s:List Nat},c∉a->c∉b->a++c::r=b++c::s->a=b/\r=s
 | [],[],r,s,_,_,h=>⟨rfl,by simpa using h⟩
 | [],y::b,r,s,_,hb,h=>by simp at h;exact absurd (by simp[h.1]) hb
 | x::a,[],r,s,ha,_,h=>by simp at h;exact absurd (by simp[h.1]) ha
 | x::a,y::b,r,s,ha,hb,h=>by
  simp only[ZaC,List.cons.injEq]at h
  obtain⟨e1,e2⟩:=QkI (λm=>ha (Zb _ m)) (λm=>hb (Zb _ m)) h.2
  exact⟨by rw[h.1,e1],e2⟩
theorem Qnl{c:Nat}:∀{a b:List (List Nat)},a≠[]->b≠[]->(∀x∈a,c∉x)->(∀x∈b,c∉x)->jn c a=jn c b->a=b
 | [],_,h,_,_,_,_=>absurd rfl h
 | _,[],_,h,_,_,_=>absurd rfl h
 | [x],[y],_,_,_,_,h=>by rw[show x=y from h]
 | [x],y::z::r,_,_,hx,_,h=>absurd (show c∈x from by rw[show x=y++c::jn c (z::r)from h];simp) (hx x (by simp))
 | y::z::r,[x],_,_,_,hx,h=>absurd (show c∈x from by rw[show x=y++c::jn c (z::r)from h.symm];simp) (hx x (by simp))
 | x::z::r,y::w::s,_,_,ha,hb,h=>by
  obtain⟨e1,e2⟩:=QkI (ha x (by simp)) (hb y (by simp)) (show x++c::jn c (z::r)=y++c::jn c (w::s)from h)
  rw[e1,Qnl (by simp) (by simp) (λu hu=>ha u (Zb _ hu)) (λu hu=>hb u (Zb _ hu)) e2]
theorem Qqg(x y:Str)(hy:y≠x->True):Txt.split x y=[]->x=Str.empty:=λh=>by
 have:=StrLaws.join_split x y
 rw[h]at this
 exact this.symm
theorem Qhs:∀{a b:List Str},a.map cp=b.map cp->a=b
 | [],[],_=>rfl
 | [],_::_,h=>by simp at h
 | _::_,[],h=>by simp at h
 | x::a,y::b,h=>by
  simp only[Zo,List.cons.injEq]at h
  rw[QcR h.1,Qhs h.2]
theorem Qmy{c:Nat}{ts:List Str}(h0:∀t∈ts,c∉cp t)(h1:ts≠[])(h2:Txt.split (Str.join (tx [c]) ts) (tx [c])≠[]):Txt.split (Str.join (tx [c]) ts) (tx [c])=ts:=by
 refine Qhs (Qnl (c:=c) ?_ ?_ ?_ ?_ ?_)
 ·simpa using h2
 ·simpa using h1
 ·intro x hx
  obtain⟨t,ht,rfl⟩:=ZA.mp hx
  exact StrLaws.split_free _ c t ht
 ·intro x hx
  obtain⟨t,ht,rfl⟩:=ZA.mp hx
  exact h0 t ht
 ·rw[← QeM,← QeM,StrLaws.join_split]
theorem Qfy:Str.ofString "-" =tx [45]:=by decide
theorem Ql5:Str.ofString " " =tx [32]:=by decide
theorem Qs1:Str.ofString "0123456789" =tx [48,49,50,51,52,53,54,55,56,57]:=by decide
theorem Qno:Str.ofString "0" =tx [48]:=by decide
section
variable {fa fb:DE}{ρ:En}{ra rb r:R}
theorem QjD{g:D->D->Option D}{d:D}(ha:fa ρ=some ra)(hb:fb ρ=some rb)(h:g ra.d rb.d=some d):dM1 g fa (Qb fb Qe) ρ=some ⟨d,true,[]⟩:=by
 unfold dM1
 rw[ha,Za,Qn hb (QJ _),Za]
 show(g ra.d rb.d).map _=_
 rw[h];rfl
theorem Qfs{g:List D->Option D}{d:D}(h:fa ρ=some r)(e:g [r.d]=some d):dBf g (Qb fa Qe) ρ=some ⟨d,true,[]⟩:=by
 unfold dBf
 rw[Qn h (QJ _),Za]
 show(g [r.d]).map _=_
 rw[e];rfl
theorem Qss{x:Str}(h:fa ρ=some r)(e:r.d= .str x)(hl:x.length<=16000000):QZ fa ρ=some ⟨(cp x).map λc=> .str (tx [c]),[]⟩:=by
 unfold QZ
 rw[h,Za,e]
 exact if_pos (by rw[QaJ];exact Zu hl (by decide))
theorem Qga{x:Str}(h:fa ρ=some r)(e:r.d= .str x)(hl:x.length<=16000000):dBf Qau (Qb fa Qe) ρ=some ⟨.int x.length,true,[]⟩:=
 Qfs h (by rw[e];exact if_pos (by rw[QaJ];exact Zu hl (by decide)))
theorem QcO{x y:Str}(ha:fa ρ=some ra)(ea:ra.d= .str x)(hb:fb ρ=some rb)(eb:rb.d= .str y)(hl:x.length+y.length<=16000000):Qt fa fb ρ=some ⟨.str (x++y),true,[]⟩:=by
 unfold Qt
 rw[ha,Za,hb,Za,ea,eb]
 exact if_pos (by rw[QaJ];exact Zu hl (by decide))
theorem QeJ{x:Str}{n:Nat}(h:∀c∈cp x,c<200):(D.str x).sim n=true:=by
 have:(D.str x).sim n=x.cps.all (· <0x110000):=by cases n<;>rfl
 rw[this,← Array.all_toList,Zad]
 intro c hc
 have:=h c hc
 exact decide_eq_true (by omega)
theorem QnA(x y:Str):deq (.str x) (.str y)=(x == y):=rfl
theorem Qnt{x y:Str}(ha:fa ρ=some ra)(ea:ra.d= .str x)(hb:fb ρ=some rb)(eb:rb.d= .str y)(hx:∀c∈cp x,c<200)(hy:∀c∈cp y,c<200):dOp gEq fa fb ρ=some ⟨.bl (x == y),true,[]⟩:=
 QN ha hb (by rw[ea,eb];unfold gEq;rw[QeJ hx,QeJ hy,QnA];rfl)
theorem Qt6{x y:Str}(ha:fa ρ=some ra)(ea:ra.d= .str x)(hb:fb ρ=some rb)(eb:rb.d= .str y)(hx:∀c∈cp x,c<200)(hy:∀c∈cp y,c<200):dOp gNe fa fb ρ=some ⟨.bl (!(x == y)),true,[]⟩:=
 QN ha hb (by rw[ea,eb];unfold gNe;rw[QeJ hx,QeJ hy,QnA];rfl)
theorem QnD{α:Type}:∀ks:List α,Qiy (ks.map λ_=>D.bl false)=some (ks.map λ_=>false)
 | []=>rfl
 | k::ks=>by
  show(Qiy (ks.map λ_=>D.bl false)).map _=_
  rw[QnD ks];rfl
theorem Qq4{α:Type}{ks:List α}(h:fa ρ=some r)(e:r.d= .lst (ks.map λ_=> .bl false)):dBf Qf5 (Qb fa Qe) ρ=some ⟨.bl false,true,[]⟩:=by
 refine Qfs h ?_
 rw[e]
 simp only[Qf5,QnD,ZV]
 congr 2
 rw[List.any_map]
 simp
end
theorem Qmd{w:Str}{c:Nat}{r:List Nat}(h:cp w=c::r):Txt.startswith w "-" =(c == 45):=by
 have e:w=tx (c::r):=QcR h
 subst e
 show Txt.startswith (tx (c::r)) (Str.ofString "-")=_
 rw[Qfy]
 simp[Txt.startswith,Builtin.Str.subAt,tx,Str.length,List.extract_toArray]
theorem Qtq{w:Str}{c:Nat}{r:List Nat}(h:cp w=c::r):Txt.slice w (some 1) none=tx r:=by
 have hl:w.length=r.length+1:=by rw[QbM,h];rfl
 have e:Txt.slice w (some 1) none=StrLaws.sliceText w (some ((1:Nat):Int)) (some (w.length:Int)):=by
  show StrLaws.sliceText w (some 1) none=_
  unfold StrLaws.sliceText
  rw[StrLaws.sliceIdx_none_hi];rfl
 rw[e,StrLaws.sliceText_nat w (by omega) (Zj _)]
 show tx (((cp w).drop 1).take (w.length-1))=_
 rw[h,hl]
 show tx (r.take (r.length+1-1))=_
 rw[Nat.add_sub_cancel,Zar]
theorem QhY{n c:Nat}(h:c∈dig n):c<200:=by have:=QcQ n c h;omega
theorem QkC{i:Int}{c:Nat}(h:c∈cp (QH i)):c<200:=by
 rw[Qc4]at h
 split at h
 ·rcases Zn.mp h with h | h
  ·omega
  ·exact QhY h
 ·exact QhY h
theorem QqN{n c:Nat}(h:c∈dig n):gIn true (.str (tx [c])) (.str "0123456789")=some (.bl false):=by
 have f:=StrLaws.found_one (Str.ofString "0123456789") c
 have hc:=QcQ n c h
 show some (D.bl (!(!(Builtin.Str.occurrences (Str.ofString "0123456789") ⟨#[c]⟩ 0 (Str.ofString "0123456789").length 1).isEmpty)))=_
 rw[f,Qs1]
 have:c∈(tx [48,49,50,51,52,53,54,55,56,57]).cps.toList:=by
  show c∈[48,49,50,51,52,53,54,55,56,57]
  simp only[Zn,ZaK,or_false];omega
 rw[decide_eq_true this];rfl
noncomputable def Qfo:DS:=(Qd (Qu 1 (dIf (Qm (dM1 gSw (Qa 0) (Qb (dC (.str "-")) Qe))) (Qa8 (Qa 0) (Q4 (dC (.int 1))) Qcu) (Qa 0))) (Qd (sIf (Qm (dBf Qf5 (Qb (Qax (QZ (Qa 1)) (.nm 1) [none,none] Qb3 (dOp (gIn true) (Qa 1) (dC (.str "0123456789")))) Qe))) (Qd Qw Qg) Qg) (Qd (sIf (bOr (Qm (dOp gLt (dBf Qau (Qb (Qa 1) Qe)) (dC (.int 1)))) (Qm (dOp gGt (dBf Qau (Qb (Qa 1) Qe)) (dC (.int 18))))) (Qd Qw Qg) Qg) (Qd (sIf (QcV (Qm (dOp gEq (Qo (Qa 1) (dC (.int 0))) (dC (.str "0")))) (Qm (dOp gNe (Qa 0) (dC (.str "0"))))) (Qd Qw Qg) Qg) (Qd (QX (dBf Qkk (Qb (Qa 0) Qe))) Qg)))))
def QjJ(d:Den):Prop:=∀i:Int,i.natAbs<10^18->d [.str (QH i)]=some (.int i,true)
theorem Qur:QjJ (Qr 2 Qfo):=λi h=>by
 have hl:=Qkt (by decide) h
 have hf:=QdJ (by decide) h
 have hc:=Qc4 i
 refine Q7 ?_
 have hs:Txt.startswith (QH i) "-" =decide (i<0):=by
  by_cases hi:i<0
  ·rw[if_pos hi]at hc;rw[Qmd hc,decide_eq_true hi];rfl
  ·rw[if_neg hi]at hc
   cases hd:dig i.natAbs with
   | nil=>exact absurd hd (QeI _)
   | cons c r=>
    rw[hd]at hc
    have:=QcQ i.natAbs c (by rw[hd];simp)
    rw[Qmd hc,decide_eq_false hi]
    exact beq_eq_false_iff_ne.mpr (by omega)
 have e1:dIf (Qm (dM1 gSw (Qa 0) (Qb (dC (.str "-")) Qe))) (Qa8 (Qa 0) (Q4 (dC (.int 1))) Qcu) (Qa 0) (Qbc 2 [.str (QH i)])=some ⟨.str (tx (dig i.natAbs)),true,[]⟩:=by
  have h0:Qm (dM1 gSw (Qa 0) (Qb (dC (.str "-")) Qe)) (Qbc 2 [.str (QH i)])=some (decide (i<0)):=
   Qp (r:=⟨.bl (Txt.startswith (QH i) "-"),true,[]⟩) (QjD (ra:=⟨.str (QH i),true,[]⟩) (rb:=⟨.str "-",true,[]⟩) rfl rfl rfl) (by rw[hs])
  unfold dIf
  rw[h0,Za]
  by_cases hi:i<0
  ·rw[if_pos (decide_eq_true hi)]
   rw[if_pos hi]at hc
   show(if(QH i).length<=sizeLine then some (HS.R.mk (.str (Txt.slice (QH i) (some 1) none)) true [])else none)=_
   rw[if_pos (by rw[QaJ];omega),Qtq hc]
  ·rw[if_neg (by rw[decide_eq_false hi];decide)]
   rw[if_neg hi]at hc
   show some (HS.R.mk (.str (QH i)) true [])=_
   rw[show QH i=tx (dig i.natAbs)from QcR hc]
 refine run_seq (Qi e1 ?_)
 change Nx _ (.nx [some (.str (QH i),true),some (.str (tx (dig i.natAbs)),true)])
 have hfl:(tx (dig i.natAbs)).length<=18:=by rw[QbM];exact hf
 refine QC (QA (b:=false) (Qp (r:=⟨.bl false,true,[]⟩) (Qq4 (ks:=dig i.natAbs) (Qcg (toD:=λc=> .str (tx [c])) (out:=λ_=> .bl false) (dig i.natAbs) (Qss (x:=tx (dig i.natAbs)) rfl rfl (by omega)) rfl (λc hc=>⟨[none,some (.str (tx [c]),true)],rfl,⟨.bl false,true,[]⟩,QN (ra:=⟨.str (tx [c]),true,[]⟩) (rb:=⟨.str "0123456789",true,[]⟩) rfl rfl (QqN hc),rfl,rfl⟩)) rfl) rfl) (λh=>by cases h) (λ_=>Qh ?_))
 have hg:1<=(tx (dig i.natAbs)).length:=by
  rw[QbM]
  exact List.length_pos_iff.mpr (QeI _)
 refine QC (QA (b:=false) ?_ (λh=>by cases h) (λ_=>Qh ?_))
 ·have:=Qa2 (a:=decide (((tx (dig i.natAbs)).length:Int)<1)) (b:=decide ((18:Int)<(tx (dig i.natAbs)).length)) (g1:=Qm (dOp gLt (dBf Qau (Qb (Qa 1) Qe)) (dC (.int 1)))) (g2:=Qm (dOp gGt (dBf Qau (Qb (Qa 1) Qe)) (dC (.int 18)))) (ρ:=[some (.str (QH i),true),some (.str (tx (dig i.natAbs)),true)])
   (Qp (QN (ra:=⟨.int (tx (dig i.natAbs)).length,true,[]⟩) (rb:=⟨.int 1,true,[]⟩) (Qga rfl rfl (by omega)) rfl rfl) rfl) (Qp (QN (ra:=⟨.int (tx (dig i.natAbs)).length,true,[]⟩) (rb:=⟨.int 18,true,[]⟩) (Qga rfl rfl (by omega)) rfl rfl) rfl)
  rw[this,decide_eq_false (by omega),decide_eq_false (by omega)];rfl
 have hw:(QH i == tx [48])=decide (i=0):=by
  by_cases h0:i=0
  ·subst h0;decide
  ·rw[decide_eq_false h0]
   refine beq_eq_false_iff_ne.mpr λe=>h0 ?_
   have e2:=QgX (i:=i) (by decide) h (by decide)
   rw[e,show tx [48]=QH 0 by decide,QgX (i:=0) (k:=1) (by decide) (by decide) (by decide)]at e2
   exact(Option.some.inj e2).symm
 refine QC (QA (b:=false) ?_ (λh=>by cases h) (λ_=>Qh ?_))
 ·cases hd:dig i.natAbs with
  | nil=>exact absurd hd (QeI _)
  | cons c r=>
   have ei:Qo (Qa 1) (dC (.int 0)) [some (.str (QH i),true),some (.str (tx (c::r)),true)]=some ⟨.str (tx [c]),true,[]⟩:=by
    show(if 0<=(0:Int)/\(0:Int)<2^63/\(0:Int)<(tx (c::r)).length then((tx (c::r)).cps[(0:Int).toNat]?).map λc=>HS.R.mk (.str ⟨#[c]⟩) true []else none)=_
    rw[if_pos ⟨by decide,by decide,by rw[QbM,QaO];simp⟩];rfl
   have hcl:c<200:=QhY (n:=i.natAbs) (by rw[hd];simp)
   have:=QeF (a:=tx [c] == tx [48]) (b:= !(QH i == tx [48])) (g1:=Qm (dOp gEq (Qo (Qa 1) (dC (.int 0))) (dC (.str "0")))) (g2:=Qm (dOp gNe (Qa 0) (dC (.str "0")))) (ρ:=[some (.str (QH i),true),some (.str (tx (c::r)),true)])
    (Qp (Qnt (rb:=⟨.str "0",true,[]⟩) ei rfl rfl (congrArg D.str Qno) (λc' h'=>by rw[QaO,Zk]at h';omega) (λc' h'=>by rw[QaO,Zk]at h';omega)) rfl)
    (Qp (Qt6 (ra:=⟨.str (QH i),true,[]⟩) (rb:=⟨.str "0",true,[]⟩) rfl rfl rfl (congrArg D.str Qno) (λc' h'=>QkC h') (λc' h'=>by rw[QaO,Zk]at h';omega)) rfl)
   rw[this,hw]
   by_cases h0:i=0
   ·rw[decide_eq_true h0,ZbB,Zbv]
   ·obtain⟨c',r',e',hc'⟩:=Qpi (n:=i.natAbs) (by omega)
    rw[hd]at e'
    obtain⟨rfl,rfl⟩:=List.cons.inj e'
    rw[beq_eq_false_iff_ne.mpr (λe=>by have:=congrArg cp e;rw[QaO,QaO]at this;simp at this;omega),Zbt]
 refine QF (Qfs (r:=⟨.str (QH i),true,[]⟩) (d:= .int i) rfl ?_) ⟨rfl,rfl⟩
 show(if(QH i).length<=640 then(intText? (QH i)).map D.int else none)=_
 rw[if_pos (by omega),QgX (by decide) h (by decide)];rfl
def Small(k:Nat)(ns:List Int):Prop:=ns.length<=63/\∀n∈ns,n.natAbs<10^k
theorem Small.up{ns:List Int}{k l:Nat}(h:Small k ns)(hk:k<=l):Small l ns:=⟨h.1,λn hn=>Zs (h.2 n hn) (Zae (by decide) hk)⟩
theorem Small.take{ns:List Int}{k i:Nat}(h:Small k ns):Small k (ns.take i):=⟨by have:=h.1;rw[ZaB];omega,λn hn=>h.2 n (List.mem_of_mem_take hn)⟩
theorem QnT{c b:Nat}(hc:c<b):∀{l:List (List Nat)},(∀x∈l,∀d∈x,d<b)->∀d∈jn c l,d<b
 | [],_,d,h=>by simp[jn]at h
 | [x],hx,d,h=>hx x (by simp) d h
 | x::y::r,hx,d,h=>by
  rcases Zy.mp (show d∈x++c::jn c (y::r)from h)with h | h
  ·exact hx x (by simp) d h
  ·rcases Zn.mp h with h | h
   ·omega
   ·exact QnT hc (λz hz=>hx z (Zb _ hz)) d h
theorem Qu5{c:Nat}:∀{l:List (List Nat)},l≠[]->(∀x∈l,x≠[])->jn c l≠[]
 | [],h,_=>absurd rfl h
 | [x],_,hx=>hx x (by simp)
 | x::z::r,_,hx=>by show x++c::_≠[];simp
theorem QgF:∀ts:List Str,QcU (ts.map .str)=some ts
 | []=>rfl
 | t::ts=>by
  show(QcU (ts.map .str)).map _=_
  rw[QgF ts];rfl
theorem Qoh{n:Int}(h:n.natAbs<10^60):Qbl [.int n]=some (.str (QH n)):=by
 show(if n.natAbs.log2<1920 then some (D.str (QH n))else none)=_
 refine if_pos ?_
 by_cases h0:n.natAbs=0
 ·rw[h0];decide
 ·exact(Zbu h0).mpr (Zs h (Zu (by decide:10^60<=2^200) (Zae (by decide) (by decide))))
noncomputable def QfV:DS:=(Qd (sIf (QbK (Qm (QcT "str" (Qa 0)))) (Qd Qw Qg) Qg) (Qd (QX (dM1 Qmf (Qa 0) (Qb (dC (.str " ")) Qe))) Qg))
def QhV(d:Den):Prop:=∀x:Str,x.length<=16000000->(Txt.split x (tx [32])).length<=16000000->d [.str x]=some (.lst ((Txt.split x (tx [32])).map .str),true)
theorem QpQ:QhV (Qr 1 QfV):=λx h1 h2=>by
 refine Q7 (QC (QA (b:=false) (Qbx (b:=true) (Qp (b:=true) rfl rfl)) (λh=>by cases h) (λ_=>Qh ?_)))
 refine QF (QjD (ra:=⟨.str x,true,[]⟩) (rb:=⟨.str " ",true,[]⟩) rfl rfl ?_) ⟨rfl,rfl⟩
 show(if(((Str.ofString " ").length == 0)=false/\x.length<=16000000)/\(Txt.split x (Str.ofString " ")).length<=16000000 then some (D.lst ((Txt.split x (Str.ofString " ")).map .str))else none)=_
 rw[Ql5,if_pos ⟨⟨rfl,h1⟩,h2⟩]
end HS
namespace HS
open PySem PySem.Spec L2 PyProof.Rows
section
variable {P:Program}{w:World}{H H':Hp}{h0 h h' B:Heap}{fs:List Addr}
def Cov(H:Hp)(B:Heap):Prop:=∀b u,H b=some u->∃o,B.get? b=some o
end
noncomputable def CXR(P:Program)(w:World):CXT:=λouter H s E e s'=>∃ea C H' B a0,e=Value.ref ea/\s'.os=s.os/\AllBare s'.gens/\Un (frs outer) [] H H' s.heap s'.heap/\HOk P w H' s'.heap/\Heap.FlyingW B outer ea C a0 s'.heap∧
 Cov H' B/\(∀b o,s.heap.get? b=some o->b∉frs outer->∃o',B.get? b=some o')/\E C none H'
def Qg5(X:Cx)(H0:Hp)(A0:List Addr)(hs:List (V×D×List Addr))(ρ:En)(C:Value)(ea:Addr)(s':Shared):Prop:=∃pins σ H F,Rel X.K H0 A0 hs ρ F σ H∧
 ((∃sg args,Inv X pins σ H sg/\Heap.MadeExcOf sg.heap s'.heap ea C args/\s'.os=sg.os/\s'.gens=sg.gens)∨
  ∃B a0,Inv X pins σ H s'/\Heap.FlyingW B X.stack ea C a0 s'.heap/\Cov H B/\(∀b o,X.s₀.heap.get? b=some o->b∉X.fs->∃o',B.get? b=some o')/\∀p∈X.pn++pins,∃o,B.get? p.1=some o)
end HS
namespace HS
open PySem PySem.Spec L2 PyProof.Rows
noncomputable abbrev DX:=En->Option (Str×En)
def ClsAt(K:PySem.W.Frag)(x:Str)(C:Addr):Prop:=PySem.W.nsIn K mainGlobals x=some (some (.ref C))
def cRz(X:Cx)(H0:Hp)(A0:List Addr)(fx:DX)(σ:L2.St)(H:Hp):Prop:=∃ρ hs F x ρ',Rel X.K H0 A0 hs ρ F σ H/\fx ρ=some (x,ρ')/\∀C ea s',ClsAt X.K x C->Qg5 X H0 A0 hs ρ' (.ref C) ea s'->X.xe (.ref ea) s'
noncomputable def tRz(X:Cx)(H0:Hp)(A0:List Addr)(fx:DX):TS:=λ_ σ H=>cRz X H0 A0 fx σ H
def Rz(X:Cx)(st:Stmt)(fx:DX):Prop:=∀H0 A0,PS X st (tRz X H0 A0 fx)
def RzS(X:Cx)(sts:List Stmt)(fx:DX):Prop:=∀H0 A0,PSs X sts (tRz X H0 A0 fx)
noncomputable def xNo:DX:=λ_=>none
noncomputable def Qt3(x:Str)(fs:DA):DX:=λρ=>(fs ρ).bind λr=>if r.ds.length<=1 then some (x,ρ)else none
noncomputable def QvA(n:Nat)(xd:List D->Option Str)(fs:DA):DX:=λρ=>(fs ρ).bind λr=>if r.ds.length=n then(xd r.ds).map λc=>(c,ρ)else none
noncomputable def xIf(g:DT)(fa fb:DX):DX:=λρ=>(g ρ).bind λb=>if b=true then fa ρ else fb ρ
noncomputable def QvY(f:DS)(fx fr:DX):DX:=λρ=>match f ρ with
 | some (.nx ρ')=>fr ρ'
 | some _=>none
 | none=>fx ρ
noncomputable def Qm5(t:Tg)(fb:DS)(fx:DX):List D->DX
 | [],_=>none
 | d::ds,ρ=>(Qbm t d ρ).bind λρ1=>match fb ρ1 with
  | some (.nx ρ2)=>Qm5 t fb fx ds ρ2
  | some (.ct ρ2)=>Qm5 t fb fx ds ρ2
  | some _=>none
  | none=>fx ρ1
noncomputable def Qwz(fi:DI)(t:Tg)(fb:DS)(fx:DX):DX:=λρ=>(fi ρ).bind λir=>Qm5 t fb fx ir.items (QcC ir.M ρ)
noncomputable def spX(K:PySem.W.Frag)(n:Nat)(xd:List D->Option Str):Sp:=λvs H _ E=>∃ds L x,Rps K H ds vs L/\ds.length=n/\xd ds=some x/\∀C H',ClsAt K x C->Qz H H'->E (.ref C) none H'
section
variable {X:Cx}{st:Stmt}{sts:List Stmt}{e:Expr}{es:List Expr}{fs:DA}{f:DS}{fx fr fy:DX}{g:DT}{pos p np cpos:Pos}{x:Str}{k n:Nat}{fa:Addr}{fd:FuncData}{ps:List Str}{xd:List D->Option Str}
theorem Qg5.hold(h:Qg5 X H0 A0 (ts++hs) ρ C ea s'):Qg5 X H0 A0 hs ρ C ea s':=by
 obtain⟨pins,σ,H,F,rel,q⟩:=h
 exact⟨pins,σ,H,F,rel.Qkb,q⟩
end
noncomputable abbrev QwK:List Value:=[.type "ValueError",.type "Exception",.type "BaseException",.type "object"]
structure Qwb (K:PySem.W.Frag) (x:Str):Prop where
 ex:∃C,ClsAt K x C/\PySem.W.excIn K C QwK "ValueError.__new__" =true
section
variable {X:Cx}{e:Expr}{fs:DA}{x:Str}{np cpos pos:Pos}
end
end HS
namespace HS
open PySem PySem.Spec L2 PyProof.Rows
structure ThX where
 Γx:List (Str×(Nat×(List D->Option Str)))
 cls:List Str
structure XOk (X:Cx) (ΘX:ThX):Prop where
 ex:X.ex=[]
 stk:X.stack=X.env::X.outer
 fr:X.env.frame=some X.env.locals
 fx:∀x r,look x ΘX.Γx=some r->∃k f fd ps,Qa7 X.prog X.w X.K X.mg X.base (CXR X.prog X.w) k f fd ps (spX X.K r.1 r.2)/\Qaj k X.A/\X.mg x=some (.ref f)/\PySem.W.keepIn X.K (.ref f)=true/\Binds X.K fd ps []/\ps.length=r.1
 cl:∀x∈ΘX.cls,Qwb X.K x
noncomputable def xc0(n:Nat)(Θ:Th)(ΘX:ThX)(e:Expr):DX:=match e with
 | .Call (.Name x _) (a::as) [] _=>if Θ.gl x then(match look x ΘX.Γx with
  | some r=>(match Qaw n Θ (a::as)with | some fs=>QvA r.1 r.2 fs | none=>xNo)
  | none=>xNo)else xNo
 | _=>xNo
noncomputable abbrev xcE:=xc0
noncomputable def xbE(n:Nat)(Θ:Th)(ΘX:ThX)(e:Expr):DX:=
 xcE n Θ ΘX e
noncomputable def QwB:List Expr->Option Str
 | [e]=>QbO e
 | _=>none
noncomputable def Qu4:Expr->Option (Str×Expr)
 | .Call f as kw _=>match kw with
  | _::_=>none
  | []=>match as with
   | []=>none
   | a::as=>match as with
    | _::_=>none
    | []=>(QbO f).map λx=>(x,a)
 | _=>none
mutual
noncomputable def QqA(n:Nat)(Θ:Th)(ΘX:ThX)(st:Stmt):Option DX:=match n with
 | 0=>none
 | n+1=>match st with
  | .Raise v c _=>match c with
   | some _=>none
   | none=>v.bind λe=>(Qu4 e).bind λq=>if Θ.gl q.1 && ΘX.cls.contains q.1 then(Qaw n Θ [q.2]).map λfs=>Qt3 q.1 fs else none
  | .Expr e _=>some (xcE n Θ ΘX e)
  | .Return v _=>match v with
   | none=>some xNo
   | some e=>some (xbE n Θ ΘX e)
  | .Assign ts e _=>match QwB ts with
   | none=>some xNo
   | some x=>(Θ.Qb5 x).map λ_=>xcE n Θ ΘX e
  | .If c a b _=>(Qat n Θ c).bind λg=>(QfL n Θ ΘX a).bind λfa=>(QfL n Θ ΘX b).map λfb=>xIf g fa fb
  | .For tg iter body els _=>match els with
   | _::_=>some xNo
   | []=>(Qiv Θ tg).bind λt=>(Qfg n Θ tg iter).bind λfi=>(Qav n Θ body).bind λfb=>(QfL n Θ ΘX body).map λfx=>Qwz fi t fb fx
  | _=>some xNo
noncomputable def QfL(n:Nat)(Θ:Th)(ΘX:ThX)(sts:List Stmt):Option DX:=match n with
  | 0=>none
  | n+1=>match sts with
    | []=>some xNo
    | st::r=>
     (Qhu n Θ st).bind λf=>(QqA n Θ ΘX st).bind λfx=>(QfL n Θ ΘX r).map λfr=>QvY f fx fr
end
section
variable {X:Cx}{Θ:Th}{ΘX:ThX}
structure QwT (n:Nat):Prop where
 X:∀X Θ ΘX st f,Q5 X Θ->XOk X ΘX->QqA n Θ ΘX st=some f->Rz X st f
 Xs:∀X Θ ΘX sts f,Q5 X Θ->XOk X ΘX->QfL n Θ ΘX sts=some f->RzS X sts f
end
section
variable (P:Program) (w:World) (K:PySem.W.Frag) (mg:Str->Option Value) (base:Heap)
def QfC(k:Nat)(x:Str)(r:Nat×(List D->Option Str)):Prop:=∃f fd ps,Qa7 P w K mg base (CXR P w) k f fd ps (spX K r.1 r.2)/\mg x=some (.ref f)/\PySem.W.keepIn K (.ref f)=true/\Binds K fd ps []/\ps.length=r.1
def QfN(k:Nat)(Γx:List (Str×(Nat×(List D->Option Str)))):Prop:=∀x r,look x Γx=some r->QfC P w K mg base k x r
end
section
variable {P:Program}{w:World}{K:PySem.W.Frag}{mg:Str->Option Value}{base:Heap}
theorem QfN.nil{k:Nat}:QfN P w K mg base k []:=λx r h=>by cases h
theorem QfC.mono{j k:Nat}{x:Str}{r:Nat×(List D->Option Str)}(h:QfC P w K mg base j x r)(hk:j<=k):QfC P w K mg base k x r:=by
 obtain⟨f,fd,ps,h1,h2⟩:=h
 exact⟨f,fd,ps,h1.mono hk,h2⟩
theorem QfN.mono{j k:Nat}{Γ:List (Str×(Nat×(List D->Option Str)))}(t:QfN P w K mg base j Γ)(hk:j<=k):QfN P w K mg base k Γ:=λx r e=>(t x r e).mono hk
theorem QfN.cons{k:Nat}{Γ:List (Str×(Nat×(List D->Option Str)))}{x:Str}{r:Nat×(List D->Option Str)}(t:QfN P w K mg base k Γ)(h:QfC P w K mg base (k+1) x r):QfN P w K mg base (k+1) ((x,r)::Γ):=λy q e=>by
 unfold look at e
 split at e
 ·rename_i z;cases e;subst z;exact h
 ·exact(t y q e).mono (ZaG _)
theorem Qbn.up{j k:Nat}{Γ:List (Str×FnR)}(t:Qbn P w K mg base j Γ)(hk:j<=k):Qbn P w K mg base k Γ:=λx r e=>(t x r e).mono hk
end
end HS
namespace HS
open PySem PySem.Spec L2 PyProof.Rows
section
variable {X:Cx}{pins:List (Addr×Obj)}{σ:L2.St}{H:Hp}{s s':Shared}{B:Heap}
end
end HS
namespace HS
open PySem PySem.Spec L2 PyProof.Rows
noncomputable abbrev inH(X:Cx)(ea:Addr):Cx:={X with A:=X.A.mark (some (.ref ea)),calm:=false,xe:=λ_ _=>False}
section
variable {X:Cx}{pins:List (Addr×Obj)}{σ:L2.St}{H:Hp}{s s':Shared}{B:Heap}{ea C:Addr}
theorem _root_.L2.Inv.inH(I:Inv X pins σ H s):Inv (HS.inH X ea) pins σ H s:=
 ⟨⟨I.ok.mod,I.ok.kind,I.ok.glob,I.ok.blt,I.ok.above,I.ok.inj,I.ok.has,I.ok.cab,λz=>(by cases z),I.ok.frames,I.ok.stk,I.ok.exf,I.ok.bs,I.ok.bsz,I.ok.noex,I.ok.exfs,I.ok.QcI,I.ok.frf⟩,I.os,I.bare,I.base,I.loc,I.cell,I.free,I.freeC,I.pin,I.hok,I.len⟩
theorem _root_.L2.Inv.Qj9(ok:X.Ok)(I:Inv (HS.inH X ea) pins σ H s):Inv X pins σ H s:=⟨ok,I.os,I.bare,I.base,I.loc,I.cell,I.free,I.freeC,I.pin,I.hok,I.len⟩
def Qu9(K:PySem.W.Frag)(sub:Str->Str->Option Bool):Prop:=∀x y b,sub x y=some b->∃C c,ClsAt K x C/\PySem.W.KtsName K y c/\PySem.W.exmOne K (.ref C) c=some b
noncomputable abbrev Hd:=Str×Option Nat×DS
theorem _root_.L2.SP.Qj9{Dd:Ends}{f:Flow}(ok:X.Ok)(h:SP (HS.inH X ea) pins Dd f s):SP X pins Dd f s:=by
 cases f with
 | next=>obtain⟨σ',H',I,q⟩:=h;exact⟨σ',H',I.Qj9 ok,q⟩
 | brk=>obtain⟨σ',H',I,q⟩:=h;exact⟨σ',H',I.Qj9 ok,q⟩
 | cont=>obtain⟨σ',H',I,q⟩:=h;exact⟨σ',H',I.Qj9 ok,q⟩
 | ret u=>obtain⟨v,σ',H',I,r,q⟩:=h;exact⟨v,σ',H',I.Qj9 ok,r,q⟩
noncomputable abbrev Cx.chg(X:Cx)(xe:Value->Shared->Prop)(pn:List (Addr×Obj)):Cx:={X with xe:=xe,pn:=pn}
theorem _root_.L2.Inv.chg{xe:Value->Shared->Prop}(I:Inv X pins σ H s):Inv (Cx.chg X xe (X.pn++pins)) [] σ H s:=
 ⟨⟨I.ok.mod,I.ok.kind,I.ok.glob,I.ok.blt,I.ok.above,I.ok.inj,I.ok.has,I.ok.cab,I.ok.hd,I.ok.frames,I.ok.stk,I.ok.exf,I.ok.bs,I.ok.bsz,I.ok.noex,I.ok.exfs,I.ok.QcI,I.ok.frf⟩,I.os,I.bare,I.base,I.loc,I.cell,I.free,I.freeC,λp hp=>I.pin p (by simpa using hp),I.hok,I.len⟩
theorem _root_.L2.Inv.QwQ{xe:Value->Shared->Prop}{pins':List (Addr×Obj)}(ok:X.Ok)(I:Inv (Cx.chg X xe (X.pn++pins)) pins' σ H s):Inv X pins σ H s:=
 ⟨ok,I.os,I.bare,I.base,I.loc,I.cell,I.free,I.freeC,λp hp=>I.pin p (Zi _ hp),I.hok,I.len⟩
end
end HS
namespace HS
open PySem PySem.Spec L2 PyProof.Rows PySem.W
structure Quv (K:Frag) (C:Addr):Prop where
 cl:(clsIn K C).isSome=true
 ga:findIn K (.ref C) "__getattribute__" =some (some (.builtin "BaseException.__getattribute__"))
 hk:findIn K (.ref C) "__getattr__" =some none
 ca:findIn K (.ref C) "__class__" =some (some (.builtin "object.__class__"))
 mo:mroIn K C (.type "object")=some true
 be:subIn K (.ref C) (.type "BaseException")=some true
section
variable {prog:Program}{w:World}{A:Around}{E:Value->Shared->Prop}{s:Shared}{K:Frag}{a C:Addr}
end
end HS
namespace HS
open PySem PySem.Spec L2 PyProof.Rows
def QrH(K:PySem.W.Frag)(x y:Str)(b:Bool):Prop:=∃C c,ClsAt K x C/\PySem.W.KtsName K y c/\PySem.W.exmOne K (.ref C) c=some b/\PySem.W.kitOne K (.ref C) c=some b/\Quv K C
def QhD(K:PySem.W.Frag)(sub:Str->Str->Option Bool):Prop:=∀x y b,sub x y=some b->QrH K x y b
theorem QhD.ok{K:PySem.W.Frag}{sub:Str->Str->Option Bool}(h:QhD K sub):Qu9 K sub:=λx y b e=>by
 obtain⟨C,c,h1,h2,h3,_⟩:=h x y b e
 exact⟨C,c,h1,h2,h3⟩
noncomputable def anyS(sub:Str->Str->Option Bool)(x:Str):List Str->Option Bool
 | []=>some false
 | y::r=>(sub x y).bind λb=>(anyS sub x r).map λd=>b || d
noncomputable def Qwa(sub:Str->Str->Option Bool)(ys:List Str)(fa:DE):DE:=λρ=>(fa ρ).bind λr=>match r.d with
 | .exc x=>(anyS sub x ys).map λb=>⟨.bl b,true,[]⟩
 | _=>none
section
variable {X:Cx}{a:Expr}{fa:DE}{p p2 pos:Pos}{sub:Str->Str->Option Bool}
end
end HS
namespace HS
open PySem PySem.Spec L2 PyProof.Rows
structure Qco (k:Nat) (A:Around):Prop where
 dp:A.depth+3*k+5<recursionLimit
 un:A.units+16*k+200<cLine
theorem Qco.mono{j k:Nat}{A:Around}(r:Qco k A)(h:j<=k):Qco j A:=⟨by have:=r.dp;omega,by have:=r.un;omega⟩
theorem Qco.deeper{k:Nat}{A:Around}(r:Qco (k+1) A)(env:Env):Qco k (A.deeper env):=
 ⟨by have:=r.dp;show A.depth+1+3*k+5<_;omega,by have:=r.un;show A.units+3+16*k+200<_;omega⟩
theorem Qco.units{k:Nat}{A:Around}(r:Qco k A):A.units+64<cLine:=by have:=r.un;omega
theorem Qco.mark{k:Nat}{A:Around}{v:Option Value}(r:Qco k A):Qco k (A.mark v):=⟨r.dp,r.un⟩
structure FnH (P:Program) (w:World) (K:PySem.W.Frag) (mg:Str->Option Value) (base:Heap) (k:Nat) (f:Addr) (fd:FuncData) (ps:List Str) (sp:Sp):Prop where
 len:∀vs H Q E,sp vs H Q E->vs.length=ps.length
 run:∀(A:Around) (outer:List Env) (s:Shared) (H:Hp) (args:Args) (us:List Value) (vs:List V) (Q:VK) (E:XK),Qco k A->QdT P w K mg base A outer s H->BindsTo s fd args (ps.zip us)->Qq vs us->sp vs H Q E→
  codeAny (model P w) A (.call (.ref f) args) (CR CX0 outer P w H s Q E) s
section
variable {P:Program}{w:World}{K:PySem.W.Frag}{mg:Str->Option Value}{base:Heap}
theorem FnH.mono{j k:Nat}{f:Addr}{fd:FuncData}{ps:List Str}{sp:Sp}(F:FnH P w K mg base j f fd ps sp)(h:j<=k):FnH P w K mg base k f fd ps sp:=⟨F.len,λA outer s H args us vs Q E hr=>F.run A outer s H args us vs Q E (hr.mono h)⟩
end
section
variable {X:Cx}{e:Expr}{es:List Expr}{fs:DA}{pos p:Pos}{x:Str}{n k:Nat}{f:Addr}{fd:FuncData}{ps:List Str}{den:Den}
end
def Qkp(X:Cx)(hΓ:List (Str×FnR)):Prop:=∀x r,look x hΓ=some r->∃k f fd ps,FnH X.prog X.w X.K X.mg X.base k f fd ps (spV X.K r.n r.den)/\Qco k X.A/\X.mg x=some (.ref f)/\PySem.W.keepIn X.K (.ref f)=true/\Binds X.K fd ps []
theorem Qkp.inH{X:Cx}{hΓ:List (Str×FnR)}{ea:Addr}(h:Qkp X hΓ):Qkp (HS.inH X ea) hΓ:=λx r e=>by
 obtain⟨k,f,fd,ps,h1,h2,h3⟩:=h x r e
 exact⟨k,f,fd,ps,h1,h2.mark,h3⟩
section
variable (P:Program) (w:World) (K:PySem.W.Frag) (mg:Str->Option Value) (base:Heap)
def QfX(k:Nat)(x:Str)(r:FnR):Prop:=∃f fd ps,FnH P w K mg base k f fd ps (spV K r.n r.den)/\mg x=some (.ref f)/\PySem.W.keepIn K (.ref f)=true/\Binds K fd ps []
def QfY(k:Nat)(Γ:List (Str×FnR)):Prop:=∀x r,look x Γ=some r->QfX P w K mg base k x r
end
section
variable {P:Program}{w:World}{K:PySem.W.Frag}{mg:Str->Option Value}{base:Heap}
theorem QfY.nil{k:Nat}:QfY P w K mg base k []:=λx r h=>by cases h
theorem QfX.mono{j k:Nat}{x:Str}{r:FnR}(h:QfX P w K mg base j x r)(hk:j<=k):QfX P w K mg base k x r:=by
 obtain⟨f,fd,ps,h1,h2⟩:=h
 exact⟨f,fd,ps,h1.mono hk,h2⟩
theorem QfY.mono{j k:Nat}{Γ:List (Str×FnR)}(t:QfY P w K mg base j Γ)(hk:j<=k):QfY P w K mg base k Γ:=λx r e=>(t x r e).mono hk
theorem QfY.cons{k:Nat}{Γ:List (Str×FnR)}{x:Str}{r:FnR}(t:QfY P w K mg base k Γ)(h:QfX P w K mg base (k+1) x r):QfY P w K mg base (k+1) ((x,r)::Γ):=λy q e=>by
 unfold look at e
 split at e
 ·rename_i z;cases e;subst z;exact h
 ·exact(t y q e).mono (ZaG _)
end
end HS
namespace HS
open PySem PySem.Spec L2 PyProof.Rows
noncomputable def Qwi:Const->Option DE
 | .bool b=>some (dC (.bl b))
 | .str x=>some (dC (.str x))
 | .int i=>some (dC (.int i))
 | _=>none
noncomputable def eqH:CmpOp->Option (D->D->Option D)
 | .Eq=>some gEq
 | .NotEq=>some gNe
 | _=>none
noncomputable def Qv0:List Expr->Option (Expr×Expr)
 | [a,y]=>some (a,y)
 | _=>none
noncomputable def Qwh(Θ:Th):Expr->Option (List Str)
 | .Name y _=>if Θ.gl y=true then some [y]else none
 | .Tuple es _ _=>(es.mapM QbO).bind λys=>if ys.all Θ.gl=true/\ys≠[]/\ys.length<=60 then some ys else none
 | _=>none
mutual
noncomputable def Qch(n:Nat)(Θ:Th)(sub:Str->Str->Option Bool)(hΓ:List (Str×FnR))(e:Expr):Option DE:=match n with
 | 0=>none
 | n+1=>match e with
  | .Name x _=>(Θ.slot x).map Qa
  | .Constant v _ _=>Qwi v
  | .UnaryOp o a _=>match o with
   | .Not=>(Qch n Θ sub hΓ a).map QpN
   | _=>none
  | .BoolOp o es p=>match es with
   | []=>none
   | a::r=>match r with
    | []=>Qch n Θ sub hΓ a
    | b::r=>match o with
     | .And=>(Qch n Θ sub hΓ a).bind λfa=>(Qch n Θ sub hΓ (.BoolOp .And (b::r) p)).map λfb=>Qdv fa fb
     | .Or=>(Qch n Θ sub hΓ a).bind λfa=>(Qch n Θ sub hΓ (.BoolOp .Or (b::r) p)).map λfb=>dOr fa fb
  | .Compare a os bs _=>match os with
   | []=>none
   | o::os=>match os with
    | _::_=>none
    | []=>match bs with
     | []=>none
     | b::bs=>match bs with
      | _::_=>none
      | []=>(eqH o).bind λg=>(Qch n Θ sub hΓ a).bind λfa=>(Qch n Θ sub hΓ b).map λfb=>dOp g fa fb
  | .BinOp a o b _=>match o with
   | .Add=>(Qch n Θ sub hΓ a).bind λfa=>(Qch n Θ sub hΓ b).map λfb=>Qt fa fb
   | _=>none
  | .Call f as kw _=>match kw with
   | _::_=>none
   | []=>(QbO f).bind λx=>if Θ.gl x=true then if x= "isinstance" then(Qv0 as).bind λp=>(Qwh Θ p.2).bind λys=>(Qch n Θ sub hΓ p.1).map λfa=>Qwa sub ys fa
    else match as with
     | []=>none
     | a::as=>(look x hΓ).bind λr=>(QhF n Θ sub hΓ (a::as)).map λfs=>Qv r.n r.den [] fs
    else none
  | .List es _=>(QhF n Θ sub hΓ es).map Qaa
  | _=>none
noncomputable def QhF(n:Nat)(Θ:Th)(sub:Str->Str->Option Bool)(hΓ:List (Str×FnR))(es:List Expr):Option DA:=match n with
 | 0=>none
 | n+1=>match es with
  | []=>some Qe
  | e::es=>(Qch n Θ sub hΓ e).bind λfa=>(QhF n Θ sub hΓ es).map λfs=>Qb fa fs
end
structure QwU (n:Nat):Prop where
 E:∀X Θ sub hΓ e f,CtxB X Θ->QhD X.K sub->Qkp X hΓ->Qch n Θ sub hΓ e=some f->SE X e f
 A:∀X Θ sub hΓ es f,CtxB X Θ->QhD X.K sub->Qkp X hΓ->QhF n Θ sub hΓ es=some f->SA X es f
section
variable {P:Program}{w:World}{K:PySem.W.Frag}{mg:Str->Option Value}{base:Heap}
end
end HS
namespace HS
open PySem PySem.Spec L2 PyProof.Rows
section
variable {K:PySem.W.Frag}{x y:Str}{C C':Addr}{v:Bool}
def XK1(K:PySem.W.Frag)(x:Str):Prop:=∃C,ClsAt K x C/\Quv K C
def Qqs(K:PySem.W.Frag)(x y:Str)(b:Bool):Prop:=∃C c,ClsAt K x C/\PySem.W.KtsName K y c/\PySem.W.exmOne K (.ref C) c=some b/\PySem.W.kitOne K (.ref C) c=some b
noncomputable def Qim(K:PySem.W.Frag)(x:Str):List (Str×Bool)->Prop
 | []=>True
 | q::r=>Qqs K x q.1 q.2/\Qim K x r
noncomputable def SubL(K:PySem.W.Frag):List (Str×List (Str×Bool))->Prop
 | []=>True
 | q::r=>(XK1 K q.1/\Qim K q.1 q.2)/\SubL K r
theorem Qim.mem:∀{r:List (Str×Bool)},Qim K x r->∀q∈r,Qqs K x q.1 q.2
 | [],_,q,h=>by simp at h
 | p::r,h,q,hq=>by
  rcases Zn.mp hq with rfl | hq
  ·exact h.1
  ·exact Qim.mem h.2 q hq
theorem SubL.mem:∀{t:List (Str×List (Str×Bool))},SubL K t->∀q∈t,XK1 K q.1/\Qim K q.1 q.2
 | [],_,q,h=>by simp at h
 | p::r,h,q,hq=>by
  rcases Zn.mp hq with rfl | hq
  ·exact h.1
  ·exact SubL.mem h.2 q hq
end
end HS
namespace HS
open PySem PySem.Spec L2 PyProof.Rows
def QqB(K:PySem.W.Frag)(t:Addr):Prop:=∃od n sl,K.lookup t=some ⟨.type "tuple",od,.seq #[.none] n,sl⟩
def Qfv(x:Str)(st:Stmt)(ps:List Str)(m:Nat)(fill:List Value):Prop:=∀(K:PySem.W.Frag) (t:Addr) (od:Option Addr) (n:Nat) (sl:Array (Option Value)),K.lookup t=some ⟨.type "tuple",od,.seq #[.none] n,sl⟩->∀(kV doc pm:Value) (an:Option Addr) (cdv ct:Value) (S:Setting) (us:List Value),us.length=m→
 PySem.W.peek K S (bindArgs (PySem.W.fnOf x x (Qbz st) (Qak st) (Qk st) (.ref t) kV doc pm an cdv ct) ⟨us,[]⟩)=some (ps.zip (us++fill))
structure QmS (K:PySem.W.Frag) (x:Str) (st:Stmt) (ps:List Str):Prop where
 ex:∃(f t:Addr) (oc:Value) (od:Option Addr) (kV doc pm:Value) (an:Option Addr) (cdv ct:Value) (osl:Array (Option Value)),
  K.lookup f=some ⟨oc,od,.func (PySem.W.fnOf x x (Qbz st) (Qak st) (Qk st) (.ref t) kV doc pm an cdv ct),osl⟩/\PySem.W.codeIn K cdv x=true/\PySem.W.keepIn K (.ref f)=true/\PySem.W.nsIn K mainGlobals x=some (some (.ref f))/\QqB K t
theorem Qpa{K:PySem.W.Frag}{x:Str}{st:Stmt}{ps:List Str}{f t:Addr}{oc:Value}{od an od':Option Addr}{osl sl:Array (Option Value)}{n:Nat}{kV doc pm cdv ct:Value}(a:PySem.W.nsIn K mainGlobals x=some (some (.ref f)))(l:K.lookup f=some ⟨oc,od,.func (PySem.W.fnOf x x (Qbz st) (Qak st) (Qk st) (.ref t) kV doc pm an cdv ct),osl⟩)
  (c:PySem.W.codeIn K cdv x=true) (k:PySem.W.keepIn K (.ref f)=true) (h:K.lookup t=some ⟨.type "tuple",od',.seq #[.none] n,sl⟩):QmS K x st ps:=⟨f,t,oc,od,kV,doc,pm,an,cdv,ct,osl,l,c,k,a,od',n,sl,h⟩
theorem Qok{K:PySem.W.Frag}{x:Str}{st:Stmt}{ps:List Str}{m:Nat}{fill:List Value}(B:Qfv x st ps m fill)(hm:m+fill.length=ps.length){t:Addr}(h:QqB K t){kV doc pm cdv ct:Value}{an:Option Addr}:Binds K (PySem.W.fnOf x x (Qbz st) (Qak st) (Qk st) (.ref t) kV doc pm an cdv ct) ps fill:=λs us hK hl=>by
 obtain⟨od,n,sl,h⟩:=h
 exact PySem.W.kp_binds hK λS=>B K t od n sl h kV doc pm an cdv ct S us (by rw[Zf]at hl;omega)
section
variable {P:Program}{w:World}{K:PySem.W.Frag}{mg:Str->Option Value}{base:Heap}
theorem Qry{h:Heap}{x:Str}{st:Stmt}{ps:List Str}{k n m:Nat}{Γ:List (Str×FnR)}{cs:List (Str×Cn)}{g:DS}(X:K.In h)(G:h.Ns mainGlobals mg)(F:QmS K x st ps)(S:QbZ (namesOf (Qk st)) ps (Qk st))(B0:Qfv x st ps (m+1) [])(B1:Qfv x st ps m [.none])(hm:ps.length=m+1)(M:Qec mg cs)(tab:Qbn P w K mg base k Γ)
  (hc:Qav n (Qgt st Γ cs) (Qak st)=some g):Known P w K mg base (k+1) x ⟨ps.length,[.non],Qr (namesOf (Qk st)).length g⟩:=by
 obtain⟨f,t,oc,od,kV,doc,pm,an,cdv,ct,osl,lk,hcd,kp,a,hT⟩:=F.ex
 refine⟨f,PySem.W.fnOf x x (Qbz st) (Qak st) (Qk st) (.ref t) kV doc pm an cdv ct,ps,?_,ZaO X G a,kp,λj hj=>?_⟩
 ·refine Qqj lk hcd S (QlM rfl) λA outer s H vs Q E hr h=>?_
  obtain⟨ds,L,d,fr,rps,hl,hd,q⟩:=h
  have ok:=QnO (P:=P) (w:=w) (K:=K) (base:=base) (qual:=x) (f:=f) (cdv:=cdv) (outer:=outer) (H:=H) (E:=E) S M tab hr
  refine⟨_,((Qnd n).Ss _ _ _ g ok hc H L).nox,?_⟩
  obtain⟨F0,rel⟩:=Qi0 (N:=namesOf (Qk st)) rps
  unfold Qr at hd
  refine Qf hd λo ho hd=>?_
  refine⟨_,[],F0,o,rel,ho,?_⟩
  cases o with
  | nx ρ=>
   cases hd
   exact λσ H' F' rel'=>q .non H' [] ⟨rel'.same,.QeE,λa ha=>by simp at ha,λ_=>⟨Zas,rfl,λa ha=>by simp at ha⟩⟩
  | bk ρ=>cases hd
  | ct ρ=>cases hd
  | rt d' fr'=>
   cases hd
   exact λv H' G r=>q v H' G r
 ·have hj:j<=1:=hj
  rcases Nat.le_one_iff_eq_zero_or_eq_one.mp hj with rfl | rfl
  ·exact⟨[],[],Qok B0 (by simp[hm]) hT,.nil,λH=>by simp[Rps]⟩
  ·refine⟨[.none],[.non],Qok B1 (by simp[hm]) hT,.cons rfl .nil,λH=>?_⟩
   show Rps K H [.non] [.non] []
   rw[Rps]
   exact⟨.non,[],[],[],rfl,rfl,.QeE,by rw[Rps];exact⟨rfl,rfl⟩⟩
end
theorem QiW{α:Type}{K:PySem.W.Frag}{S:Setting}{a:Addr}{o:Obj}{r:α}(h:K.lookup a=some o){q}{k:Obj->Sem α}(e:PySem.W.peek K S (k o)=some r):PySem.W.peek K S (.load a q k)=some r:=by
 rw[PySem.W.peek,h]
 exact e
end HS
namespace HS
open PySem PySem.Spec L2
end HS
namespace HS
open PySem L2
theorem QdF(i:Nat)(a:Int):0<=isI i a/\isI i a<=1:=by unfold isI;split<;>omega
theorem QpW(R L:List (Int×Int))(k:Nat):0<=Qac R L k/\Qac R L k<=2*R.length+L.length:=by
 unfold Qac
 have h1:=QdC (g:=λr:Int×Int=>isI k r.1+isI k r.2) R λs _=>by
  have:=QdF k s.1;have:=QdF k s.2
  show 0<=isI k s.1+isI k s.2
  omega
 have h2:=QdC (g:=λr:Int×Int=>isI k r.1) L λs _=>(QdF k s.1).1
 have h3:=Qdy (g:=λr:Int×Int=>isI k r.1+isI k r.2) (X:=2) R λs _=>by
  have:=QdF k s.1;have:=QdF k s.2
  show isI k s.1+isI k s.2<=2
  omega
 have h4:=Qdy (g:=λr:Int×Int=>isI k r.1) (X:=1) L λs _=>(QdF k s.1).2
 omega
theorem Qg9(h:fs ρ=some rs)(hl:rs.ds.length<=64):Qaa fs ρ=some ⟨.lst rs.ds,rs.fr,rs.M⟩:=by
 unfold Qaa
 rw[h,Za,if_pos hl]
theorem any_cons{sub:Str->Str->Option Bool}{x y:Str}{ys:List Str}{b c:Bool}(h:sub x y=some b)(t:anyS sub x ys=some c):anyS sub x (y::ys)=some (b || c):=by
 unfold anyS
 rw[h,Za,t];rfl
theorem QuH{fa fb:DE}{ρ:En}{ra rb:R}{xs ys:List D}(ha:fa ρ=some ra)(ea:ra.d= .lst xs)(hb:fb ρ=some rb)(eb:rb.d= .lst ys)(hf:QK (xs++ys)=true)(hl:xs.length+ys.length<=16777216):Qt fa fb ρ=some ⟨.lst (xs++ys),true,[]⟩:=by
 unfold Qt
 rw[ha,Za,hb,Za,ea,eb]
 dsimp only
 rw[if_pos (by exact hl)]
 unfold Qab
 rw[if_pos hf]
noncomputable def Qg6:DS:=(Qd (QX (dOp gEq (dBf Qau (Qb (Qo (Qa 0) (dC (.int 2))) Qe)) (dC (.int 0)))) Qg)
def Qif(d:Den):Prop:=∀(m:Int) (R L:List (Int×Int)),d [Ql m R L]=some (.bl (decide ((L.length:Int)=0)),true)
theorem Qpd:Qif (Qr 1 Qg6):=λm R L=>by
 refine Q7 ?_
 refine QF (QbD (Qd5 (Qcy (r:=⟨Ql m R L,false,[]⟩) rfl rfl).2.2 rfl) rfl rfl rfl) ⟨?_,rfl⟩
 simp
theorem QpS(ha:fa ρ=some ra)(ea:ra.d= .lst xs)(hb:fb ρ=some rb)(eb:rb.d= .lst xs):Qm (dOp gNe (dBf Qau (Qb fa Qe)) (dBf Qau (Qb fb Qe))) ρ=some false:=by
 refine Qp (QfB (Qd5 ha ea) rfl (Qd5 hb eb) rfl) ?_
 simp
noncomputable def QbC:Option Int->D
 | none=> .non
 | some i=> .int i
@[simp] theorem QkF(o:Option Int):(QbC o).flat=true:=by cases o<;>rfl
noncomputable def Qap(m:Nat)(F:Nat->Option Int):D:= .lst ((List.range m).map λi=>QbC (F i))
@[simp] theorem Qwv(m:Nat)(F:Nat->Option Int):(Qap m F).flat=false:=rfl
@[simp] theorem QnC(m:Nat)(F:Nat->Option Int):QK ((List.range m).map λi=>QbC (F i))=true:=QaG (f:=λi=>QbC (F i)) (λ_=>QkF _) _
noncomputable def upO(F:Nat->Option Int)(i:Nat)(v:Option Int):Nat->Option Int:=λj=>if j=i then v else F j
theorem Qq2{m:Nat}{F:Nat->Option Int}{i:Int}(h0:0<=i)(h:i<m):atI ((List.range m).map λj=>QbC (F j)) i=some (QbC (F i.toNat)):=by
 rw[QdD h0 (by simpa using h),Zx,Zap (by omega)];rfl
theorem Qn7(h:d.flat=true):HS.R.norm ⟨d,fr,M⟩=⟨d,true,[]⟩:=by unfold HS.R.norm;rw[if_pos h]
theorem QlE{fa fb:DE}{ρ:En}{ra rb:R}{m:Nat}{F:Nat->Option Int}{i:Int}(ha:fa ρ=some ra)(ea:ra.d=Qap m F)(hb:fb ρ=some rb)(eb:rb.d= .int i)(h0:0<=i)(h:i<m):Qo fa fb ρ=some ⟨QbC (F i.toNat),true,[]⟩:=by
 unfold Qo
 rw[ha,Za,hb,Za,ea,eb]
 simp only[Qap,D.items,Za,Qq2 h0 h,ZV,Qn7 (QkF _)]
theorem Qpz{x m:Nat}{F:Nat->Option Int}{fi fa:DE}{ρ:En}{i v:Int}{ri ra:R}{Q:Out->Prop}(hx:ρ[x]? =some (some (Qap m F,true)))(hi:fi ρ=some ri)(ei:ri.d= .int i)(ha:fa ρ=some ra)(ea:ra.d= .int v)(h0:0<=i)(h:i<m)
  (q:Q (.nx (ρ.set x (some (Qap m (upO F i.toNat (some v)),true))))):Run (QdY x Qai fi fa) ρ Q:=by
 refine⟨_,?_,q⟩
 have hn:ra.norm=⟨.int v,true,[]⟩:=by unfold HS.R.norm;rw[ea];rfl
 have hs:((List.range m).map λj=>QbC (F j)).set i.toNat (.int v)=(List.range m).map λj=>QbC (upO F i.toNat (some v) j):=by
  rw[Qds]
  congr 1;funext j;unfold upO;split<;>rfl
 unfold QdY
 rw[ha,Za,hx]
 simp only[Qai,Za,hi,ei,Qbo,Qap,Zc,ZG,QeK h0 h,hn,ea,QaP,hs]
 simp[kill]
theorem Qnp{m n:Nat}{F:Nat->Option Int}(h:n<=m):cutD ((List.range m).map λi=>QbC (F i)) none (some (n:Int))=(List.range n).map λi=>QbC (F i):=by
 unfold cutD
 simp only[Zc,ZG,HT.QgP,HT.QeL,List.drop_zero,Nat.sub_zero,Zaw h]
 rw[← ZaP,List.take_range,Zaw h]
theorem QqP{fa fb:DE}{ρ:En}{ra rb:R}{m n:Nat}{F:Nat->Option Int}(ha:fa ρ=some ra)(ea:ra.d=Qap m F)(hb:fb ρ=some rb)(eb:rb.d= .int n)(h:n<=m):Qa8 fa Qcu (Q4 fb) ρ=some ⟨Qap n F,true,[]⟩:=by
 unfold Qa8 Qcu Q4
 rw[ha,Za,hb,ea]
 simp only[Za,eb,Qap,Qnp h,Qab,QnC,if_true]
theorem Qsm{n:Nat}(h:fb ρ=some r)(e:r.d= .int n)(hn:n<=16777216):Qaq (Qaa (Qb (dC .non) Qe)) fb ρ=some ⟨Qap n (λ_=>none),true,[]⟩:=by
 have h1:Qaa (Qb (dC .non) Qe) ρ=some ⟨.lst [.non],true,[]⟩:=rfl
 unfold Qaq
 rw[h1,Za,h,Za,e]
 dsimp only
 rw[if_pos ⟨by simp[Qdf];omega,by omega,by omega,rfl⟩]
 simp only[ZE,QdI]
 rfl
theorem QsC(o:Option Int)(t:Int):deq (QbC o) (.int t)=decide (o=some t):=by
 cases o with
 | none=>rfl
 | some a=>
  show deq (.int a) (.int t)=_
  rw[QhX]
  by_cases h:a=t<;>simp[h]
theorem Qsx(n:Nat)(o:Option Int):(QbC o).sim n=true:=by cases o<;>cases n<;>rfl
noncomputable def Qa4(t:Int)(F:Nat->Option Int)(s:Int×Int):Nat->Option Int:=if F s.1.toNat=none/\F s.2.toNat=some t then upO F s.1.toNat (some (t+1))else F
noncomputable def Q6(S:List (Int×Int))(F:Nat->Option Int):Nat->Nat->Option Int
 | 0=>F
 | t+1=>S.foldl (Qa4 t) (Q6 S F t)
noncomputable def QlW(Qbt:Den):DS:=(Qd (Qu 3 (Qt (Qaq (Qaa (Qb (dC .non) Qe)) (Qa 0)) (Qaa (Qb (dC (.int 0)) Qe)))) (Qd (Qu 4 (Qv 2 Qbt [] (Qb (Qa 1) (Qb (Qa 2) Qe)))) (Qd (Qa6 (Qc6 (Qa 0)) (.nm 5) (Qd (Qa6 (QZ (Qa 4)) (.tp [6,7]) (Qd (sIf (QcV (Qm (dOp (Qes false) (Qo (Qa 3) (Qa 6)) (dC .non))) (Qm (dOp gEq (Qo (Qa 3) (Qa 7)) (Qa 5)))) (Qd (QdY 3 Qai (Qa 6) (Qt (Qa 5) (dC (.int 1)))) Qg) Qg) Qg)) Qg)) (Qd (QX (Qa8 (Qa 3) Qcu (Q4 (Qa 0)))) Qg))))
noncomputable def Q8(m:Nat):Nat->Option Int:=λi=>if i=m then some 0 else none
theorem Qsz:D.lst (((List.range m).map λ_=>D.non)++[.int 0])=Qap (m+1) (Q8 m):=by
 unfold Qap
 rw[Zbs,Zz]
 congr 2
 ·refine Zax λi hi=>?_
  have:=ZU.mp hi
  unfold Q8
  rw[if_neg (by omega)];rfl
 ·simp[Q8,QbC]
def Qf1(d:Den):Prop:=∀(m:Nat) (R L:List (Int×Int)),0<m->m<=1000->R.length+R.length+L.length<=1000000->(∀s∈R,Good m s)->(∀s∈L,Good m s)->d [.int m,Qc R,Qc L]=some (Qap m (Q6 (Qx R L) (Q8 m) m),true)
theorem Qo6{ds:Den}(hs:∀R L:List (Int×Int),R.length+R.length+L.length<=1000000->ds [Qc R,Qc L]=some (Qc (Qx R L),true)):Qf1 (Qr 8 (QlW ds)):=λm R L m0 hm hl hR hL=>by
 have gS:=Qcv hR hL
 refine Q7 ?_
 refine run_seq (Qi (r:=⟨Qap (m+1) (Q8 m),true,[]⟩) ?_ ?_)
 ·unfold Qt
  rw[Qsm (n:=m) (r:=⟨.int m,true,[]⟩) rfl rfl (by omega)]
  show(if((List.range m).map λi=>D.non).length+[D.int 0].length<=sizeLine then some (Qab (((List.range m).map λi=>D.non)++[D.int 0]) [])else none)=_
  rw[if_pos (by simp[Qdf];omega)]
  unfold Qab
  rw[if_pos (by rw[Qoq];simp[QaG (f:=λ_:Nat=>D.non) (λ_=>rfl)]),Qsz]
 rw[QaL]
 refine run_seq (Qi (Qy (r:=⟨[Qc R,Qc L],false,[]⟩) rfl (hs R L hl) rfl) ?_)
 rw[QaL]
 refine Qah (P:=λρ=>∃j5 j6 j7 b,ρ=[some (.int m,true),some (Qc R,false),some (Qc L,false),some (Qap (m+1) (Q6 (Qx R L) (Q8 m) m),true),some (Qc (Qx R L),b),j5,j6,j7]) ?_ ?_
 ·refine QaA (List.range m) (λi ρ=>∃j5 j6 j7 b,ρ=[some (.int m,true),some (Qc R,false),some (Qc L,false),some (Qap (m+1) (Q6 (Qx R L) (Q8 m) i),true),some (Qc (Qx R L),b),j5,j6,j7]) (Qgy (n:=m) (r:=⟨.int m,true,[]⟩) rfl rfl (by omega)) rfl ⟨none,none,none,true,rfl⟩ ?_ ?_
  ·rintro i k ρ hi ⟨j5,j6,j7,b,rfl⟩
   have hk:i<m/\i=k:=by
    obtain⟨h1,h2⟩:=Zd.mp hi
    simp at h1 h2;exact⟨h1,h2⟩
   obtain⟨hk,rfl⟩:=hk
   refine⟨_,rfl,?_⟩
   refine run_seq (g:=Qg) (Run.mono (Q:=Nx λρ=>∃j6 j7,ρ=[some (.int m,true),some (Qc R,false),some (Qc L,false),some (Qap (m+1) (Q6 (Qx R L) (Q8 m) (i+1)),true),some (Qc (Qx R L),false),some (.int i,true),j6,j7]) ?_ ?_)
   ·refine QaA (toD:=pairD) (Qx R L) (λj ρ=>∃j6 j7,ρ=[some (.int m,true),some (Qc R,false),some (Qc L,false),some (Qap (m+1) (((Qx R L).take j).foldl (Qa4 i) (Q6 (Qx R L) (Q8 m) i)),true),some (Qc (Qx R L),false),some (.int i,true),j6,j7]) (ir:=⟨(Qx R L).map pairD,if b=true then [4]else []⟩) ?_ rfl ⟨j6,j7,?_⟩ ?_ ?_
    ·have:=Qal (Qa3 (i:=4) (d:=Qc (Qx R L)) (b:=b) (ρ:=[some (.int m,true),some (Qc R,false),some (Qc L,false),some (Qap (m+1) (Q6 (Qx R L) (Q8 m) i),true),some (Qc (Qx R L),b),some (.int i,true),j6,j7]) rfl) (xs:=(Qx R L).map pairD) (by cases b<;>rfl)
     cases b<;>exact this
    ·cases b<;>rfl
    ·rintro j s ρ hj ⟨j6,j7,rfl⟩
     obtain⟨s1,s2,s3,s4,s5⟩:=gS s (ZF hj)
     have c1:s.1<((m+1:Nat):Int):=by omega
     have c2:s.2<((m+1:Nat):Int):=by omega
     refine⟨_,rfl,?_⟩
     generalize eF:((Qx R L).take j).foldl (Qa4 i) (Q6 (Qx R L) (Q8 m) i)=F
     have step:((Qx R L).take (j+1)).foldl (Qa4 i) (Q6 (Qx R L) (Q8 m) i)=Qa4 i F s:=by
      rw[ZaY,hj,List.foldl_append,eF];rfl
     have e6:=QlE (fa:=Qa 3) (fb:=Qa 6) (F:=F) (m:=m+1) (i:=s.1) (ra:=⟨Qap (m+1) F,true,[3]⟩) (ρ:=[some (.int m,true),some (Qc R,false),some (Qc L,false),some (Qap (m+1) F,true),some (Qc (Qx R L),false),some (.int i,true),some (.int s.1,true),some (.int s.2,true)]) rfl rfl rfl rfl s1 c1
     have e7:=QlE (fa:=Qa 3) (fb:=Qa 7) (F:=F) (m:=m+1) (i:=s.2) (ra:=⟨Qap (m+1) F,true,[3]⟩) (ρ:=[some (.int m,true),some (Qc R,false),some (Qc L,false),some (Qap (m+1) F,true),some (Qc (Qx R L),false),some (.int i,true),some (.int s.1,true),some (.int s.2,true)]) rfl rfl rfl rfl s2 c2
     have t1:Qm (dOp (Qes false) (Qo (Qa 3) (Qa 6)) (dC .non)) [some (.int m,true),some (Qc R,false),some (Qc L,false),some (Qap (m+1) F,true),some (Qc (Qx R L),false),some (.int i,true),some (.int s.1,true),some (.int s.2,true)]=some (decide (F s.1.toNat=none)):=by
      refine Qp (QN e6 (rb:=⟨.non,true,[]⟩) rfl (d:= .bl (decide (F s.1.toNat=none))) ?_) rfl
      cases F s.1.toNat<;>rfl
     have t2:Qm (dOp gEq (Qo (Qa 3) (Qa 7)) (Qa 5)) [some (.int m,true),some (Qc R,false),some (Qc L,false),some (Qap (m+1) F,true),some (Qc (Qx R L),false),some (.int i,true),some (.int s.1,true),some (.int s.2,true)]=some (decide (F s.2.toNat=some (i:Int))):=by
      have:=QsR e7 (fb:=Qa 5) (rb:=⟨.int i,true,[]⟩) rfl (Qsx 8 _) rfl
      refine Qp this ?_
      show D.bl (deq (QbC (F s.2.toNat)) (.int i))=_
      rw[QsC]
     refine run_seq (QA (b:=decide (F s.1.toNat=none/\F s.2.toNat=some (i:Int))) ?_ (λh=>?_) (λh=>?_))
     ·exact(QeF t1 t2).trans (by rw[Bool.decide_and])
     ·have h:=of_decide_eq_true h
      refine run_seq (Qpz (i:=s.1) (v:=i+1) (F:=F) (m:=m+1) rfl rfl rfl (Qar (a:=(i:Int)) (b:=1) rfl rfl rfl rfl) rfl s1 c1 (Qh (Qh ⟨some (.int s.1,true),some (.int s.2,true),?_⟩)))
      rw[step]
      unfold Qa4
      rw[if_pos h];rfl
     ·have h:=of_decide_eq_false h
      refine Qh (Qh ⟨some (.int s.1,true),some (.int s.2,true),?_⟩)
      rw[step]
      unfold Qa4
      rw[if_neg h];rfl
    ·rintro ρ ⟨j6,j7,rfl⟩
     rw[Zar]
     exact⟨j6,j7,rfl⟩
   ·intro o ho
    cases o with
    | nx ρ=>
     obtain⟨j6,j7,rfl⟩:=ho
     exact Qh ⟨_,_,_,false,rfl⟩
    | _=>exact ho.elim
  ·rintro ρ ⟨j5,j6,j7,b,rfl⟩
   rw[ZG]
   exact⟨j5,j6,j7,b,rfl⟩
 rintro ρ ⟨j5,j6,j7,b,rfl⟩
 exact QF (QqP (m:=m+1) (n:=m) (Qa3 (d:=Qap (m+1) (Q6 (Qx R L) (Q8 m) m)) (b:=true) rfl) rfl rfl rfl (by omega)) ⟨rfl,rfl⟩
theorem Qrf(ha:fa ρ=some ra)(ea:ra.d= .int a)(hb:fb ρ=some rb)(eb:rb.d= .int b):dBf Qb6 (Qb fa (Qb fb Qe)) ρ=some ⟨.int (if b<a then b else a),true,[]⟩:=by
 unfold dBf
 rw[Qn ha (Qn hb (QJ _)),Za]
 simp only[ea,eb,Qb6,ZV]
theorem QoR{fa fb:DE}{ρ:En}{ra rb:R}{a b:Int}(ha:fa ρ=some ra)(ea:ra.d= .int a)(hb:fb ρ=some rb)(eb:rb.d= .int b):dBf Qcr (Qb fa (Qb fb Qe)) ρ=some ⟨.int (if b>a then b else a),true,[]⟩:=by
 unfold dBf
 rw[Qn ha (Qn hb (QJ _)),Za]
 simp only[ea,eb,Qcr,ZV]
theorem Qre(n m:Nat)(F:Nat->Option Int):(Qap m F).sim (n+1)=true:=by
 unfold Qap
 simp only[D.sim,List.all_map,Zad]
 intro p _
 show(QbC (F p)).sim n=true
 cases F p<;>cases n<;>rfl
theorem QsA{m:Nat}{F:Nat->Option Int}:((List.range m).map λi=>QbC (F i)).any (λy=>deq y .non)=(List.range m).any λi=>(F i).isNone:=by
 rw[List.any_map]
 congr 1
 funext i
 show deq (QbC (F i)) .non=(F i).isNone
 cases F i<;>rfl
theorem QnJ{neg:Bool}{fb:DE}{ρ:En}{rb:R}{m:Nat}{F:Nat->Option Int}(hb:fb ρ=some rb)(eb:rb.d=Qap m F):dOp (gIn neg) (dC .non) fb ρ=some ⟨.bl (if neg then !((List.range m).any λi=>(F i).isNone)else(List.range m).any λi=>(F i).isNone),true,[]⟩:=by
 refine QN (ra:=⟨.non,true,[]⟩) rfl hb ?_
 rw[eb]
 show(if D.non.sim 8 && (Qap m F).sim 8 then some (D.bl (if neg then !(((List.range m).map λi=>QbC (F i)).any λy=>deq y .non)else((List.range m).map λi=>QbC (F i)).any λy=>deq y .non))else none)=_
 rw[Qre 7 m F,QsA]
 rfl
theorem QfW{t:Int}{v:Nat}:∀(S:List (Int×Int)) (F:Nat->Option Int),S.foldl (Qa4 t) F v=if F v=none/\∃s∈S,s.1.toNat=v/\F s.2.toNat=some t then some (t+1)else F v
 | [],F=>by simp
 | s::S,F=>by
  rw[Zbp,QfW S]
  have key:∀w,(Qa4 t F s w=some t↔F w=some t):=λw=>by
   unfold Qa4
   split
   ·rename_i h
    unfold upO
    split
    ·rename_i e;subst e;rw[h.1];simp;omega
    ·exact Iff.rfl
   ·exact Iff.rfl
  by_cases c:F s.1.toNat=none/\F s.2.toNat=some t
  ·by_cases hv:v=s.1.toNat
   ·have e1:Qa4 t F s v=some (t+1):=by unfold Qa4 upO;rw[if_pos c,if_pos hv]
    rw[if_neg (by rw[e1];simp),e1,if_pos ⟨by rw[hv];exact c.1,s,Zm,hv.symm,c.2⟩]
   ·have e1:Qa4 t F s v=F v:=by unfold Qa4 upO;rw[if_pos c,if_neg hv]
    rw[e1]
    simp only[key]
    by_cases h:F v=none/\∃s'∈S,s'.1.toNat=v/\F s'.2.toNat=some t
    ·obtain⟨h1,s',h2,h3⟩:=h
     rw[if_pos ⟨h1,s',h2,h3⟩,if_pos ⟨h1,s',Zb _ h2,h3⟩]
    ·rw[if_neg h,if_neg]
     rintro⟨h1,s',h2,h3,h4⟩
     rcases Zn.mp h2 with rfl | h2
     ·exact hv h3.symm
     ·exact h ⟨h1,s',h2,h3,h4⟩
  ·have e1:Qa4 t F s=F:=by unfold Qa4;rw[if_neg c]
   rw[e1]
   by_cases h:F v=none/\∃s'∈S,s'.1.toNat=v/\F s'.2.toNat=some t
   ·obtain⟨h1,s',h2,h3⟩:=h
    rw[if_pos ⟨h1,s',h2,h3⟩,if_pos ⟨h1,s',Zb _ h2,h3⟩]
   ·rw[if_neg h,if_neg]
    rintro⟨h1,s',h2,h3,h4⟩
    rcases Zn.mp h2 with rfl | h2
    ·exact c ⟨h3▸h1,h4⟩
    ·exact h ⟨h1,s',h2,h3,h4⟩
structure QwE (m:Nat) (S:List (Int×Int)) (t:Nat) (F:Nat->Option Int):Prop where
 pit:F m=some 0
 val:∀v d,F v=some d->0<=d/\d<=t/\v<=m/\(v≠m->1<=d)
 pred:∀v d,v≠m->F v=some d->∃s∈S,s.1.toNat=v/\F s.2.toNat=some (d-1)
 low:∀v d,v≠m->F v=some d->∀s∈S,s.1.toNat=v->∀e,F s.2.toNat=some e->d-1<=e
 non:∀v,F v=none->∀s∈S,s.1.toNat=v->∀e,F s.2.toNat=some e->e=t
theorem Qtr{m:Nat}{S:List (Int×Int)}(hS:∀s∈S,Good m s):∀t,QwE m S t (Q6 S (Q8 m) t)
 | 0=>by
  have z:∀v d,Q8 m v=some d->v=m/\d=0:=λv d h=>by
   unfold Q8 at h
   split at h
   ·cases h;exact⟨by assumption,rfl⟩
   ·cases h
  refine⟨by simp[Q6,Q8],λv d h=>?_,λv d hv h=>?_,λv d hv h=>?_,λv h s hs e1 e h2=>?_⟩
  ·obtain⟨rfl,rfl⟩:=z v d h;exact⟨by omega,by omega,by omega,λh=>absurd rfl h⟩
  ·exact absurd (z v d h).1 hv
  ·exact absurd (z v d h).1 hv
  ·obtain⟨_,rfl⟩:=z _ _ h2;rfl
 | t+1=>by
  have I:=Qtr hS t
  generalize hF:Q6 S (Q8 m) t=F at I
  have nx:∀v,Q6 S (Q8 m) (t+1) v=if F v=none/\∃s∈S,s.1.toNat=v/\F s.2.toNat=some (t:Int)then some ((t:Int)+1)else F v:=λv=>by
   show S.foldl (Qa4 t) (Q6 S (Q8 m) t) v=_
   rw[QfW,hF]
  generalize Q6 S (Q8 m) (t+1)=F' at nx
  have old:∀v d,F v=some d->F' v=some d:=λv d h=>by rw[nx,if_neg (by rw[h];simp)];exact h
  have new:∀v d,F' v=some d->F v=some d∨(F v=none/\d=t+1/\∃s∈S,s.1.toNat=v/\F s.2.toNat=some (t:Int)):=λv d h=>by
   rw[nx]at h
   split at h
   ·rename_i c;cases h;exact .inr ⟨c.1,rfl,c.2⟩
   ·exact .inl h
  refine⟨old _ _ I.pit,λv d h=>?_,λv d hv h=>?_,λv d hv h s hs e1 e h2=>?_,λv h s hs e1 e h2=>?_⟩
  ·rcases new v d h with h | ⟨h,rfl,s,hs,e1,_⟩
   ·obtain⟨a,b,c,d⟩:=I.val v d h;exact⟨a,by omega,c,d⟩
   ·have g:=hS s hs
    exact⟨by omega,by omega,by have:=g.2.2.1;have:=g.1;omega,λ_=>by omega⟩
  ·rcases new v d h with h | ⟨h,rfl,s,hs,e1,e2⟩
   ·obtain⟨s,hs,e1,e2⟩:=I.pred v d hv h
    exact⟨s,hs,e1,old _ _ e2⟩
   ·exact⟨s,hs,e1,by rw[old _ _ e2];congr 1;omega⟩
  ·rcases new v d h with h | ⟨hq,rfl,_⟩
   ·rcases new _ e h2 with h2 | ⟨_,rfl,_⟩
    ·exact I.low v d hv h s hs e1 e h2
    ·have:=(I.val v d h).2.1;omega
   ·rcases new _ e h2 with h2 | ⟨_,rfl,_⟩
    ·have:=I.non v hq s hs e1 e h2;omega
    ·omega
  ·rw[nx]at h
   split at h
   ·cases h
   ·rename_i c
    rcases new _ e h2 with h2 | ⟨_,rfl,_⟩
    ·exact absurd ⟨h,s,hs,e1,by rw[h2,I.non v h s hs e1 e h2]⟩ c
    ·omega
theorem Qgz:∀(m:Nat) (l:List Nat),l.Nodup->(∀x∈l,x<m)->l.length<=m
 | 0,l,_,h=>by cases l with
  | nil=>simp
  | cons x l=>exact absurd (h x Zm) (by omega)
 | m+1,l,nd,h=>by
  by_cases hm:m∈l
  ·have:=Qgz m (l.erase m) (nd.erase m) λx hx=>by
    have h1:=h x (List.mem_of_mem_erase hx)
    have h2:x≠m:=λz=>by subst z;exact(List.Nodup.not_mem_erase nd) hx
    omega
   rw[List.length_erase_of_mem hm]at this
   omega
  ·have:=Qgz m l nd λx hx=>by
    have h1:=h x hx
    have h2:x≠m:=λz=>hm (z▸hx)
    omega
   omega
theorem QoN{m:Nat}{S:List (Int×Int)}(m0:0<m)(hS:∀s∈S,Good m s){v:Nat}(hv:v<m)(hn:Q6 S (Q8 m) m v=none):∀s∈S,s.1.toNat=v->Q6 S (Q8 m) m s.2.toNat=none:=λs hs e1=>by
 have I:=Qtr hS m
 generalize Q6 S (Q8 m) m=F at I hn
 cases h:F s.2.toNat with
 | none=>rfl
 | some e=>
  exfalso
  have he:=I.non v hn s hs e1 e h
  have chain:∀k:Nat,k<=m->∃w,F w=some ((m:Int)-k):=λk=>by
   induction k with
   | zero=>intro _;exact⟨_,by rw[h,he];simp⟩
   | succ k ih=>
    intro hk
    obtain⟨w,hw⟩:=ih (by omega)
    have hwm:w≠m:=λz=>by rw[z,I.pit]at hw;have:=Option.some.inj hw;omega
    obtain⟨s',_,_,h2⟩:=I.pred w _ hwm hw
    exact⟨_,by rw[h2];congr 1;omega⟩
  have pick:∀k:Nat,∃w,k<m->F w=some ((k:Int)+1):=λk=>by
   by_cases hk:k<m
   ·obtain⟨w,hw⟩:=chain (m-(k+1)) (by omega)
    exact⟨w,λ_=>by rw[hw];congr 1;omega⟩
   ·exact⟨0,λz=>absurd z hk⟩
  obtain⟨f,this⟩:=Zbg pick
  have hl:=Qgz m (v::(List.range m).map f) ?_ ?_
  ·simp at hl;omega
  ·refine Zan.mpr ⟨λhm=>?_,?_⟩
   ·obtain⟨k,hk,ek⟩:=ZA.mp hm
    have:=this k (ZU.mp hk)
    rw[ek,hn]at this;cases this
   ·rw[List.nodup_iff_pairwise_ne,List.pairwise_map]
    refine List.Pairwise.imp_of_mem ?_ List.nodup_range
    intro a b ha hb hab e
    have h1:=this a (ZU.mp ha)
    have h2:=this b (ZU.mp hb)
    rw[e,h2]at h1
    have:=Option.some.inj h1
    omega
  ·intro x hx
   rcases Zn.mp hx with rfl | hx
   ·exact hv
   ·obtain⟨k,hk,rfl⟩:=ZA.mp hx
    have h1:=this k (ZU.mp hk)
    have h2:=I.val _ _ h1
    have h3:f k≠m:=λz=>by rw[z,I.pit]at h1;have:=Option.some.inj h1;omega
    omega
structure QwP (m:Nat) (S:List (Int×Int)) (F:Nat->Option Int):Prop where
 pit:F m=some 0
 non:∀v,v<m->F v=none->∀s∈S,s.1.toNat=v->F s.2.toNat=none
 pred:∀v d,v<m->F v=some d->∃s∈S,s.1.toNat=v/\F s.2.toNat=some (d-1)
 low:∀v d,v<m->F v=some d->∀s∈S,s.1.toNat=v->∀e,F s.2.toNat=some e->d-1<=e
noncomputable def Qeg(m:Int)(s:Int×Int):Bool:=decide (0<=s.1) && decide (0<=s.2) && decide (s.1<=m) && decide (s.2<=m) && !decide (s.1=s.2)
theorem Qkq{m:Nat}{s:Int×Int}(h:Qeg m s=true):Good m s:=by
 unfold Qeg at h
 simp only[Zh,decide_eq_true_eq,Zah,decide_eq_false_iff_not]at h
 exact⟨h.1.1.1.1,h.1.1.1.2,h.1.1.2,h.1.2,h.2⟩
theorem Qp3{m:Nat}{s:Int×Int}(h:Good m s):Qeg m s=true:=by
 unfold Qeg
 simp only[Zh,decide_eq_true_eq,Zah,decide_eq_false_iff_not]
 exact⟨⟨⟨⟨h.1,h.2.1⟩,h.2.2.1⟩,h.2.2.2.1⟩,h.2.2.2.2⟩
noncomputable def Qcl:DS:=(Qd (Qu 1 (Qb8 (Qo (Qa 0) (dC (.int 0))))) (Qd (sIf (bOr (Qm (dOp gLt (Qa 1) (dC (.int 1)))) (Qm (dOp gGt (Qa 1) (dC (.int 8))))) (Qd Qw Qg) Qg) (Qd (Qa6 (QZ (Qt (Qo (Qa 0) (dC (.int 1))) (Qo (Qa 0) (dC (.int 2))))) (.tp [2,3]) (Qd (sIf (bOr (Qm (dOp gLt (dBf Qb6 (Qb (Qa 2) (Qb (Qa 3) Qe))) (dC (.int 0)))) (Qm (dOp gGt (dBf Qcr (Qb (Qa 2) (Qb (Qa 3) Qe))) (Qa 1)))) (Qd Qw Qg) Qg) (Qd (sIf (Qm (dOp gEq (Qa 2) (Qa 3))) (Qd Qw Qg) Qg) Qg))) (Qd (Qa6 (QZ (Qo (Qa 0) (dC (.int 2)))) (.tp [2,3]) (Qd (sIf (Qm (dOp gEq (Qa 2) (Qa 1))) (Qd Qw Qg) Qg) Qg)) Qg))))
theorem Qub{ρ:En}{m a b:Int}(h1:ρ[1]? =some (some (.int m,true)))(h2:ρ[2]? =some (some (.int a,true)))(h3:ρ[3]? =some (some (.int b,true))):bOr (Qm (dOp gLt (dBf Qb6 (Qb (Qa 2) (Qb (Qa 3) Qe))) (dC (.int 0)))) (Qm (dOp gGt (dBf Qcr (Qb (Qa 2) (Qb (Qa 3) Qe))) (Qa 1))) ρ=some (!(decide (0<=a) && decide (0<=b) && decide (a<=m) && decide (b<=m))):=by
 have v1:Qa 1 ρ=some ⟨.int m,true,[]⟩:=(Qa3 h1).trans rfl
 have v2:Qa 2 ρ=some ⟨.int a,true,[]⟩:=(Qa3 h2).trans rfl
 have v3:Qa 3 ρ=some ⟨.int b,true,[]⟩:=(Qa3 h3).trans rfl
 refine(Qa2 (Qp (QN (d:= .bl (decide ((if b<a then b else a)<0))) (rb:=⟨.int 0,true,[]⟩) (Qrf (a:=a) (b:=b) v2 rfl v3 rfl) rfl rfl) rfl) (Qp (QN (d:= .bl (decide (m<(if b>a then b else a)))) (QoR (a:=a) (b:=b) v2 rfl v3 rfl) v1 rfl) rfl)).trans ?_
 congr 1
 by_cases c1:0<=a<;>by_cases c2:0<=b<;>by_cases c3:a<=m<;>by_cases c4:b<=m<;>simp only[c1,c2,c3,c4,decide_true,decide_false,Bool.and_true,Zbv,ZbB,Bool.not_false,Zbt,Zbz]<;>simp only[Zbq,Bool.or_eq_false_iff,decide_eq_true_eq,decide_eq_false_iff_not]<;>(split<;>split<;>omega)
structure QhR (m:Int) (R L:List (Int×Int)):Prop where
 lo:1<=m
 hi:m<=8
 QkV:∀s∈R++L,Qeg m s=true
 pit:∀s∈L,s.1≠m
def QfD(d:Den):Prop:=∀(m:Int) (R L:List (Int×Int)),R.length+L.length<=1000->QhR m R L->d [Ql m R L]=some (.non,true)
theorem QrL{ρ:En}{m:Int}{R L:List (Int×Int)}(h:ρ[0]? =some (some (Ql m R L,false)))(hl:R.length+L.length<=1000):QZ (Qt (Qo (Qa 0) (dC (.int 1))) (Qo (Qa 0) (dC (.int 2)))) ρ=some ⟨(R++L).map pairD,[]⟩:=by
 obtain⟨_,e1,e2⟩:=Qcy (m:=m) (R:=R) (L:=L) ((Qa3 h).trans rfl) rfl
 refine(Qal (QuH (xs:=R.map pairD) (ys:=L.map pairD) e1 rfl e2 rfl (by rw[← Zz];exact QaG (λ_=>rfl) _) (by simp;omega)) rfl).trans ?_
 rw[Zz]
theorem Qva{m:Int}{R L:List (Int×Int)}{s:Int×Int}{j2 j3:Option (D×Bool)}(hg:Qeg m s=true){Q:Out->Prop}(q:Q (.nx [some (Ql m R L,false),some (.int m,true),some (.int s.1,true),some (.int s.2,true)])):
  Run (Qd (sIf (bOr (Qm (dOp gLt (dBf Qb6 (Qb (Qa 2) (Qb (Qa 3) Qe))) (dC (.int 0)))) (Qm (dOp gGt (dBf Qcr (Qb (Qa 2) (Qb (Qa 3) Qe))) (Qa 1)))) (Qd Qw Qg) Qg) (Qd (sIf (Qm (dOp gEq (Qa 2) (Qa 3))) (Qd Qw Qg) Qg) Qg)) [some (Ql m R L,false),some (.int m,true),some (.int s.1,true),some (.int s.2,true)] Q:=by
 unfold Qeg at hg
 rw[Zh]at hg
 refine run_seq (QA (b:=false) ((Qub (m:=m) (a:=s.1) (b:=s.2) rfl rfl rfl).trans (by rw[hg.1];rfl)) (λh=>by cases h) (λ_=>Qh ?_))
 refine run_seq (QA (b:=false) (Qp (QbD (a:=s.1) (b:=s.2) (ra:=⟨.int s.1,true,[]⟩) rfl rfl (rb:=⟨.int s.2,true,[]⟩) rfl rfl) ?_) (λh=>by cases h) (λ_=>Qh (Qh q)))
 show D.bl _=_
 have:=hg.2
 simp only[Zah,decide_eq_false_iff_not]at this
 rw[decide_eq_false this]
theorem Qvv{m:Int}{R L:List (Int×Int)}(hl:R.length+L.length<=1000)(hg:∀s∈R++L,Qeg m s=true){Q:Out->Prop}(q:∀j2 j3,Q (.nx [some (Ql m R L,false),some (.int m,true),j2,j3])):
  Run (Qa6 (QZ (Qt (Qo (Qa 0) (dC (.int 1))) (Qo (Qa 0) (dC (.int 2))))) (.tp [2,3]) (Qd (sIf (bOr (Qm (dOp gLt (dBf Qb6 (Qb (Qa 2) (Qb (Qa 3) Qe))) (dC (.int 0)))) (Qm (dOp gGt (dBf Qcr (Qb (Qa 2) (Qb (Qa 3) Qe))) (Qa 1)))) (Qd Qw Qg) Qg) (Qd (sIf (Qm (dOp gEq (Qa 2) (Qa 3))) (Qd Qw Qg) Qg) Qg))) [some (Ql m R L,false),some (.int m,true),none,none] Q:=by
 refine QaA (toD:=pairD) (R++L) (λ_ ρ=>∃j2 j3,ρ=[some (Ql m R L,false),some (.int m,true),j2,j3]) (QrL rfl hl) rfl ⟨none,none,rfl⟩ ?_ ?_
 ·rintro i s ρ hi ⟨j2,j3,rfl⟩
  exact⟨_,rfl,Qva (j2:=j2) (j3:=j3) (hg s (ZF hi)) ⟨_,_,rfl⟩⟩
 ·rintro ρ ⟨j2,j3,rfl⟩
  exact q _ _
theorem Qlf:QfD (Qr 4 Qcl):=λm R L hl N=>by
 have key:Run Qcl [some (Ql m R L,false),none,none,none] (Nx λ_=>True):=by
  refine run_seq (Qi (r:=⟨.int m,false,[]⟩) rfl ?_)
  rw[Qk0 rfl]
  refine run_seq (QA (b:=false) ((Qa2 (a:=false) (b:=false) (Qp (b:=false) (QN (d:= .bl (decide (m<1))) (ra:=⟨.int m,true,[]⟩) (rb:=⟨.int 1,true,[]⟩) rfl rfl rfl) ?_) (Qp (b:=false) (QN (d:= .bl (decide (8<m))) (ra:=⟨.int m,true,[]⟩) (rb:=⟨.int 8,true,[]⟩) rfl rfl rfl) ?_))) (λh=>by cases h) (λ_=>Qh ?_))
  ·show D.bl _=_;rw[decide_eq_false (by have:=N.lo;omega)]
  ·show D.bl _=_;rw[decide_eq_false (by have:=N.hi;omega)]
  refine run_seq (Qvv hl N.QkV λj2 j3=>?_)
  refine run_seq (QaA (toD:=pairD) L (λ_ ρ=>∃j2 j3,ρ=[some (Ql m R L,false),some (.int m,true),j2,j3]) (Qal (Qcy (m:=m) (R:=R) (L:=L) (r:=⟨Ql m R L,false,[]⟩) rfl rfl).2.2 rfl) rfl ⟨j2,j3,rfl⟩ ?_ ?_)
  ·rintro i s ρ hi ⟨j2,j3,rfl⟩
   refine⟨_,rfl,?_⟩
   refine run_seq (QA (b:=false) (Qp (QbD (a:=s.1) (b:=m) (ra:=⟨.int s.1,true,[]⟩) rfl rfl (rb:=⟨.int m,true,[]⟩) rfl rfl) ?_) (λh=>by cases h) (λ_=>Qh (Qh ⟨_,_,rfl⟩)))
   show D.bl _=_
   rw[decide_eq_false (N.pit s (ZF hi))]
  ·rintro ρ ⟨j2,j3,rfl⟩
   exact Qh trivial
 obtain⟨o,h1,h2⟩:=key
 show Option.bind (Qcl [some (Ql m R L,false),none,none,none]) outD=_
 rw[h1]
 cases o with
 | nx ρ=>rfl
 | _=>exact h2.elim
theorem QnX{m:Nat}{S:List (Int×Int)}(m0:0<m)(hS:∀s∈S,Good m s)(hE:QkX m S):∀p,p<m->Q6 S (Q8 m) m p≠none:=λp hp hn=>by
 have pit:Q6 S (Q8 m) m m≠none:=λh=>by
  have key:∀t,Q6 S (Q8 m) t m=some 0:=λt=>by
   induction t with
   | zero=>show Q8 m m=some 0;unfold Q8;rw[if_pos rfl]
   | succ t ih=>
    show S.foldl (Qa4 t) (Q6 S (Q8 m) t) m=some 0
    rw[QfW,if_neg (λ⟨h1,_⟩=>by rw[ih]at h1;cases h1),ih]
  rw[key m]at h;cases h
 obtain⟨s,hs,h1,h2,h3⟩:=hE (λv=>Q6 S (Q8 m) m v=none) ⟨p,hp,hn⟩
 have g:=hS s hs
 have e:=QoN m0 hS (v:=s.1.toNat) (by have:=g.1;omega) h2 s hs rfl
 rcases h3 with z | z
 ·rw[z,ZE]at e
  exact pit e
 ·exact z e
noncomputable def Qdg(QdG:Den):DS:=(Qd (sIf (Qm (dOp gGt (Qt (dBf Qau (Qb (Qo (Qa 0) (dC (.int 1))) Qe)) (dBf Qau (Qb (Qo (Qa 0) (dC (.int 2))) Qe))) (dC (.int 40)))) (Qd Qw Qg) Qg) (Qd (sIf (Qm (dOp (gIn false) (dC .non) (Qv 3 QdG [] (Qb (Qo (Qa 0) (dC (.int 0))) (Qb (Qo (Qa 0) (dC (.int 1))) (Qb (Qo (Qa 0) (dC (.int 2))) Qe)))))) (Qd Qw Qg) Qg) Qg))
structure QnZ (m:Nat) (R L:List (Int×Int)):Prop where
 few:R.length+L.length<=40
 lead:∀p,p<m->Q6 (Qx R L) (Q8 m) m p≠none
def Qii(d:Den):Prop:=∀(m:Nat) (R L:List (Int×Int)),0<m->m<=8->R.length+L.length<=1000->(∀s∈R,Good m s)->(∀s∈L,Good m s)->QnZ m R L->d [Ql m R L]=some (.non,true)
theorem QrD{m:Nat}{R L:List (Int×Int)}:Qm (dOp gGt (Qt (dBf Qau (Qb (Qo (Qa 0) (dC (.int 1))) Qe)) (dBf Qau (Qb (Qo (Qa 0) (dC (.int 2))) Qe))) (dC (.int 40))) [some (Ql m R L,false)]=some (decide ((40:Int)<R.length+L.length)):=by
 obtain⟨_,e1,e2⟩:=Qcy (fa:=Qa 0) (ρ:=[some (Ql m R L,false)]) (m:=m) (R:=R) (L:=L) (r:=⟨Ql m R L,false,[]⟩) rfl rfl
 refine Qp (QN (d:= .bl (decide ((40:Int)<R.length+L.length))) (rb:=⟨.int 40,true,[]⟩) (Qar (a:=R.length) (b:=L.length) ((Qd5 (xs:=R.map pairD) e1 rfl).trans (by rw[Zc])) rfl ((Qd5 (xs:=L.map pairD) e2 rfl).trans (by rw[Zc])) rfl) rfl rfl) rfl
theorem QmI{dl:Den}(hl:Qf1 dl){m:Nat}{R L:List (Int×Int)}(m0:0<m)(m8:m<=8)(h:R.length+L.length<=1000)(hR:∀s∈R,Good m s)(hL:∀s∈L,Good m s):Qm (dOp (gIn false) (dC .non) (Qv 3 dl [] (Qb (Qo (Qa 0) (dC (.int 0))) (Qb (Qo (Qa 0) (dC (.int 1))) (Qb (Qo (Qa 0) (dC (.int 2))) Qe))))) [some (Ql m R L,false)]=some ((List.range m).any λi=>(Q6 (Qx R L) (Q8 m) m i).isNone):=
 Qp (QnJ (neg:=false) (m:=m) (F:=Q6 (Qx R L) (Q8 m) m) (Qy (r:=⟨[.int m,Qc R,Qc L],false,[]⟩) rfl (hl m R L m0 (by omega) (by omega) hR hL) rfl) rfl) rfl
theorem Qo9{dl:Den}(hl:Qf1 dl):Qii (Qr 1 (Qdg dl)):=λm R L m0 m8 h hR hL W=>by
 have key:Run (Qdg dl) [some (Ql m R L,false)] (Nx λ_=>True):=by
  refine run_seq (QA (b:=false) (QrD.trans (by rw[decide_eq_false (by have:=W.few;omega)])) (λh=>by cases h) (λ_=>Qh ?_))
  refine run_seq (QA (b:=false) ((QmI hl m0 m8 h hR hL).trans ?_) (λh=>by cases h) (λ_=>Qh (Qh trivial)))
  congr 1
  refine List.any_eq_false.mpr λi hi=>?_
  have:=W.lead i (ZU.mp hi)
  cases e:Q6 (Qx R L) (Q8 m) m i with
  | none=>exact absurd e this
  | some t=>exact ZH
 obtain⟨o,h1,h2⟩:=key
 show Option.bind (Qdg dl [some (Ql m R L,false)]) outD=_
 rw[h1]
 cases o with
 | nx ρ=>rfl
 | _=>exact h2.elim
noncomputable def spr(f:Nat->Int):Nat->Int
 | 0=>1
 | k+1=>spr f k*f k
noncomputable def Qbf(Qcn:Den)(Qb1:Den):DS:=(Qd (sIf (Qm (Qv 1 Qcn [] (Qb (Qa 0) Qe))) (Qd QjG Qg) Qg) (Qd (Qu 1 (dC (.int 1))) (Qd (Qa6 (QZ (Qv 1 Qb1 [] (Qb (Qa 0) Qe))) (.nm 2) (Qd (Qu 1 (Qaq (Qa 1) (Qa 2))) Qg)) (Qd (sIf (Qm (dOp gGt (Qa 1) (dC (.int 300)))) (Qd Qw Qg) Qg) Qg))))
def QkT(m:Nat)(R L:List (Int×Int)):Prop:=L=[]∨spr (Qac R L) m<=300
def QgN(d:Den):Prop:=∀(m:Nat) (R L:List (Int×Int)),m<=8->R.length+L.length<=1000->(∀s∈R,Good m s)->(∀s∈L,Good m s)->QkT m R L->d [Ql m R L]=some (.non,true)
theorem Qrp{ds:Den}(hs:Qg3 ds){m:Nat}{R L:List (Int×Int)}(m8:m<=8)(h:R.length+L.length<=1000)(hR:∀s∈R,Good m s)(hL:∀s∈L,Good m s){Q:Out->Prop}(q:∀j2,Q (.nx [some (Ql m R L,false),some (.int (spr (Qac R L) m),true),j2])):
  Run (Qa6 (QZ (Qv 1 ds [] (Qb (Qa 0) Qe))) (.nm 2) (Qd (Qu 1 (Qaq (Qa 1) (Qa 2))) Qg)) [some (Ql m R L,false),some (.int 1,true),none] Q:=by
 refine QaA (toD:=λ(k:Nat)=> .int (Qac R L k)) (List.range m) (λk ρ=>∃j2,ρ=[some (Ql m R L,false),some (.int (spr (Qac R L) k),true),j2]) (Qal (Qy (r:=⟨[Ql m R L],false,[]⟩) rfl (hs m R L (by omega) (by omega) hR hL) rfl) rfl) rfl ⟨none,rfl⟩ ?_ ?_
 ·rintro k k' ρ hk ⟨j2,rfl⟩
  have hk':k<m/\k=k':=by
   obtain⟨h1,h2⟩:=Zd.mp hk
   simp at h1 h2;exact⟨h1,h2⟩
  obtain⟨hkm,rfl⟩:=hk'
  have b:=QpW R L k
  refine⟨_,rfl,?_⟩
  refine run_seq (Qi (QcY (a:=spr (Qac R L) k) (b:=Qac R L k) (ra:=⟨.int (spr (Qac R L) k),true,[]⟩) rfl rfl (rb:=⟨.int (Qac R L k),true,[]⟩) rfl rfl (QeQ (by omega))) (Qh ?_))
  rw[QaL]
  exact⟨_,rfl⟩
 ·rintro ρ ⟨j2,rfl⟩
  rw[ZG]
  exact q _
theorem Qoi{dp ds:Den}(hp:Qif dp)(hs:Qg3 ds):QgN (Qr 3 (Qbf dp ds)):=λm R L m8 h hR hL hS=>by
 have key:Run (Qbf dp ds) [some (Ql m R L,false),none,none] λo=>match o with | .nx _=>True | .rt d fr=>d= .non/\fr=true | _=>False:=by
  have ep:Qm (Qv 1 dp [] (Qb (Qa 0) Qe)) [some (Ql m R L,false),none,none]=some (decide ((L.length:Int)=0)):=Qp (Qy (r:=⟨[Ql m R L],false,[]⟩) rfl (hp m R L) rfl) rfl
  by_cases c:L=[]
  ·refine QC (QA (b:=true) (ep.trans (by rw[c];rfl)) (λ_=>?_) (λh=>by cases h))
   exact QC ⟨_,rfl,rfl,rfl⟩
  ·refine QC (QA (b:=false) (ep.trans (by rw[decide_eq_false (by cases L with | nil=>exact absurd rfl c | cons a l=>simp;omega)])) (λh=>by cases h) (λ_=>Qh ?_))
   refine QC (Qi (r:=⟨.int 1,true,[]⟩) rfl ?_)
   rw[QaL]
   refine QC (Qrp hs m8 h hR hL λj2=>?_)
   refine QC (QA (b:=false) (Qp (QN (d:= .bl (decide (300<spr (Qac R L) m))) (ra:=⟨.int (spr (Qac R L) m),true,[]⟩) (rb:=⟨.int 300,true,[]⟩) rfl rfl rfl) ?_) (λh=>by cases h) (λ_=>Qh (Qh trivial)))
   show D.bl _=_
   have hle:spr (Qac R L) m<=300:=hS.elim (λz=>absurd z c) id
   rw[decide_eq_false (by omega)]
 obtain⟨o,h1,h2⟩:=key
 show Option.bind (Qbf dp ds [some (Ql m R L,false),none,none]) outD=_
 rw[h1]
 cases o with
 | nx ρ=>rfl
 | rt d fr=>obtain⟨rfl,rfl⟩:=h2;rfl
 | _=>exact h2.elim
noncomputable def nrm(p:Int×Int):Int×Int:=(if p.2<p.1 then p.2 else p.1,if p.2>p.1 then p.2 else p.1)
structure Qjz (m:Int) (R L:List (Int×Int)):Prop where
 num:QhR m R L
 way:QnZ m.toNat R L
 sml:QkT m.toNat R L
noncomputable def Qhi(QaY:Den)(QbQ:Den)(Qao:Den):DS:=(Qd (Qu 3 (Qax (QZ (Qa 1)) (.tp [1,2]) [none,none,none] Qb3 (QaI (Qb (dBf Qb6 (Qb (Qa 1) (Qb (Qa 2) Qe))) (Qb (dBf Qcr (Qb (Qa 1) (Qb (Qa 2) Qe))) Qe))))) (Qd (Qu 4 (Qax (QZ (dOr (Qa 2) (Qaa Qe))) (.tp [1,2]) [none,none,none] Qb3 (QaI (Qb (Qa 1) (Qb (Qa 2) Qe))))) (Qd (Qu 5 (QaI (Qb (Qa 0) (Qb (Qa 3) (Qb (Qa 4) Qe))))) (Qd (Qef (Qv 1 QaY [] (Qb (Qa 5) Qe))) (Qd (Qef (Qv 1 QbQ [] (Qb (Qa 5) Qe))) (Qd (Qef (Qv 1 Qao [] (Qb (Qa 5) Qe))) (Qd (QX (Qa 5)) Qg)))))))
def QuJ(L:List (Int×Int))(d:D):Prop:=d=Qc L∨(L=[]/\d= .non)
def QjZ(d:Den):Prop:=∀(m:Int) (R L:List (Int×Int)) (l:D),QuJ L l->R.length+L.length<=1000->Qjz m (R.map nrm) L->d [.int m,Qc R,l]=some (Ql m (R.map nrm) L,true)
theorem QtS{ρ:En}{R:List (Int×Int)}(h:ρ[1]? =some (some (Qc R,false))):Qax (QZ (Qa 1)) (.tp [1,2]) [none,none,none] Qb3 (QaI (Qb (dBf Qb6 (Qb (Qa 1) (Qb (Qa 2) Qe))) (Qb (dBf Qcr (Qb (Qa 1) (Qb (Qa 2) Qe))) Qe))) ρ=some ⟨Qc (R.map nrm),true,[]⟩:=by
 refine(Qcg (toD:=pairD) (out:=λs=>pairD (nrm s)) R (Qal ((Qa3 h).trans rfl) rfl) rfl λs _=>⟨[none,some (.int s.1,true),some (.int s.2,true)],rfl,⟨pairD (nrm s),true,[]⟩,rfl,rfl,rfl⟩).trans ?_
 unfold Qc
 rw[Zaf];rfl
theorem Qrc{ρ:En}{L:List (Int×Int)}{l:D}(hl:QuJ L l){b:Bool}(h:ρ[2]? =some (some (l,b)))(hb:b=l.flat):Qax (QZ (dOr (Qa 2) (Qaa Qe))) (.tp [1,2]) [none,none,none] Qb3 (QaI (Qb (Qa 1) (Qb (Qa 2) Qe))) ρ=some ⟨Qc L,true,[]⟩:=by
 have e:∃M,QZ (dOr (Qa 2) (Qaa Qe)) ρ=some ⟨L.map pairD,M⟩:=by
  rcases hl with rfl | ⟨rfl,rfl⟩
  ·subst hb
   cases L with
   | nil=>
    refine⟨_,Qal (r:=⟨.lst [],true,[]⟩) ?_ rfl⟩
    unfold dOr
    rw[show Qa 2 ρ=some ⟨.lst [],false,[]⟩from(Qa3 h).trans rfl];rfl
   | cons a l=>
    refine⟨_,Qal (r:=⟨Qc (a::l),false,[]⟩) ?_ rfl⟩
    unfold dOr
    rw[show Qa 2 ρ=some ⟨Qc (a::l),false,[]⟩from(Qa3 h).trans rfl];rfl
  ·refine⟨_,Qal (r:=⟨.lst [],true,[]⟩) ?_ rfl⟩
   unfold dOr
   rw[show Qa 2 ρ=some ⟨.non,true,[]⟩from(Qa3 h).trans rfl];rfl
 obtain⟨M,e⟩:=e
 exact Qcg (toD:=pairD) (out:=pairD) L e rfl λs _=>⟨[none,some (.int s.1,true),some (.int s.2,true)],rfl,⟨pairD s,true,[]⟩,rfl,rfl,rfl⟩
theorem QhR.nat{m:Int}{R L:List (Int×Int)}(h:QhR m R L):∃k:Nat,m=k/\0<k/\k<=8/\(∀s∈R,Good k s)/\∀s∈L,Good k s:=by
 have h1:=h.lo
 have h2:=h.hi
 obtain⟨k,rfl⟩:∃k:Nat,m=k:=⟨m.toNat,by omega⟩
 exact⟨k,rfl,by omega,by omega,λs hs=>Qkq (h.QkV s (Zi _ hs)),λs hs=>Qkq (h.QkV s (Ze _ hs))⟩
theorem QrU{dn dw ds:Den}(hn:QfD dn)(hw:Qii dw)(hs:QgN ds):QjZ (Qr 6 (Qhi dn dw ds)):=λm R L l hL hl N=>by
 obtain⟨k,rfl,k0,k8,gR,gL⟩:=N.num.nat
 have lR:(R.map nrm).length=R.length:=Zc ..
 refine Q7 ?_
 refine run_seq (Qi (QtS rfl) ?_)
 rw[QaL]
 refine run_seq (Qi (Qrc hL rfl rfl) ?_)
 rw[QaL]
 refine run_seq (Qi (r:=⟨Ql k (R.map nrm) L,true,[3,4]⟩) rfl ?_)
 change Run _ [some (.int k,true),some (Qc R,false),some (l,l.flat),none,none,some (Ql k (R.map nrm) L,true)] _
 refine run_seq (QgG (Qy (r:=⟨[Ql k (R.map nrm) L],true,[5]⟩) rfl (hn k _ L (by omega) N.num) rfl) ?_)
 refine run_seq (QgG (Qy (r:=⟨[Ql k (R.map nrm) L],true,[5]⟩) rfl (hw k _ L k0 k8 (by omega) gR gL (by have:=N.way;rwa[ZE]at this)) rfl) ?_)
 refine run_seq (QgG (Qy (r:=⟨[Ql k (R.map nrm) L],true,[5]⟩) rfl (hs k _ L k8 (by omega) gR gL (by have:=N.sml;rwa[ZE]at this)) rfl) ?_)
 exact QF (r:=⟨Ql k (R.map nrm) L,true,[5]⟩) rfl ⟨rfl,rfl⟩
noncomputable def Qcz(i:Nat)(w:Int×Int×Bool):Int:=isI i w.1+if w.2.2=true then 0 else isI i w.2.1
noncomputable def Qad(W:List (Int×Int×Bool))(i:Nat):Int:=(W.map (Qcz i)).sum
theorem Qfb(W:List (Int×Int×Bool))(w:Int×Int×Bool)(i:Nat):Qad (W++[w]) i=Qad W i+Qcz i w:=by
 unfold Qad
 rw[Zz,ZaD]
 simp
theorem QdB(W:List (Int×Int×Bool))(w:Int×Int×Bool)(i:Nat):Qad (w::W) i=Qcz i w+Qad W i:=by
 unfold Qad
 rw[Zo,ZP]
theorem QiY(i:Nat):∀W:List (Int×Int×Bool),Qac (QO W) (QP W) i=Qad W i
 | []=>rfl
 | w::W=>by
  have ih:=QiY i W
  rw[QdB,← ih]
  unfold Qac QO QP Qcz
  obtain⟨a,b,l⟩:=w
  cases l with
  | true=>
   simp only[ZX,ZbB,Bool.false_eq_true,if_false,if_true,Zo,ZP,Qd1]
   omega
  | false=>
   simp only[ZX,Bool.not_false,Bool.false_eq_true,if_false,if_true,Zo,ZP,QbN]
   have e:isI i (if b<a then b else a)+isI i (if b>a then b else a)=isI i a+isI i b:=by
    by_cases h1:b<a
    ·rw[if_pos h1,if_neg (by omega)];omega
    ·rw[if_neg h1]
     by_cases h2:b>a
     ·rw[if_pos h2]
     ·have:a=b:=by omega
      rw[if_neg h2,this]
   omega
theorem QnB(i:Nat)(a:Int):0<=isI i a/\isI i a<=1:=by unfold isI;split<;>omega
theorem Qpe(i:Nat)(w:Int×Int×Bool):0<=Qcz i w/\Qcz i w<=2:=by
 have h1:=QnB i w.1
 have h2:=QnB i w.2.1
 unfold Qcz
 split<;>omega
theorem QfS(i:Nat):∀W:List (Int×Int×Bool),0<=Qad W i/\Qad W i<=2*(W.length:Int)
 | []=>by unfold Qad;simp
 | w::W=>by
  have ih:=QfS i W
  have h:=Qpe i w
  rw[QdB,Zr]
  omega
theorem Qk3{f:Nat->Int}{a:Int}(h:0<=a)(k:Nat):up f a.toNat (f a.toNat+1) k=f k+isI k a:=by
 unfold up isI
 by_cases e:k=a.toNat
 ·rw[if_pos e,if_pos (by omega),e]
 ·rw[if_neg e,if_neg (by omega)];omega
theorem Qel{f g:Nat->Int}:∀{n:Nat},(∀i,i<n->f i=g i)->spr f n=spr g n
 | 0,_=>rfl
 | n+1,h=>by
  unfold spr
  rw[Qel λi hi=>h i (by omega),h n (by omega)]
theorem QlF{s:Nat->Int}:∀{n:Nat},(∀i,i<n->0<=s i)->spr s n=0∨∃c:Nat,QL n s=n+c/\0<=spr s n/\spr s n<=2^c
 | 0,_=> .inr ⟨0,rfl,(by show(0:Int)<=1;decide),(by show(1:Int)<=2^0;decide)⟩
 | n+1,h=>by
  have hs:=h n (by omega)
  by_cases z:s n=0
  ·exact .inl (by unfold spr;rw[z,Int.mul_zero])
  ·rcases QlF (n:=n) λi hi=>h i (by omega)with e | ⟨c,e1,e2,e3⟩
   ·exact .inl (by unfold spr;rw[e,Zbl])
   ·obtain⟨d,hd⟩:∃d:Nat,s n=d+1:=⟨(s n-1).toNat,by omega⟩
    refine .inr ⟨c+d,by rw[QaS,e1,hd];omega,?_,?_⟩
    ·unfold spr;exact Zbw e2 hs
    ·unfold spr
     rw[Int.pow_add,hd]
     have h2:((d:Int)+1)<=2^d:=by
      have:= @Nat.lt_two_pow_self d
      have h3:(d:Int)+1<=((2^d:Nat):Int):=by omega
      rwa[show((2^d:Nat):Int)=(2:Int)^d by simp]at h3
     exact Int.mul_le_mul e3 h2 (by omega) (Int.pow_nonneg (by decide))
theorem QlK{m:Nat}(a:Int):QL m (λi=>isI i a)<=1:=by
 have key:∀n,QL n (λi=>isI i a)<=if 0<=a/\a<n then 1 else 0:=λn=>by
  induction n with
  | zero=>show(0:Int)<=_;split<;>omega
  | succ n ih=>
   rw[QaS]
   unfold isI at *
   split at ih<;>split<;>split<;>omega
 have:=key m
 split at this<;>omega
theorem Qsb{m:Nat}:QL m (λi=>isI i (m:Int))=0:=by
 have key:∀n,n<=m->QL n (λi=>isI i (m:Int))=0:=λn=>by
  induction n with
  | zero=>intro _;rfl
  | succ n ih=>
   intro hn
   rw[QaS,ih (by omega)]
   unfold isI
   rw[if_neg (by omega)];rfl
 exact key m (Zj m)
theorem QqU{m:Nat}(w:Int×Int×Bool):QL m (λi=>Qcz i w)<=2/\(w.2.1=m->QL m (λi=>Qcz i w)<=1):=by
 have h1:=QlK (m:=m) w.1
 have h2:=QlK (m:=m) w.2.1
 cases e:w.2.2 with
 | true=>
  have:QL m (λi=>Qcz i w)=QL m λi=>isI i w.1:=QaQ λi _=>by unfold Qcz;rw[e,if_pos rfl,Int.add_zero]
  rw[this]
  exact⟨by omega,λ_=>h1⟩
 | false=>
  have:QL m (λi=>Qcz i w)=(QL m λi=>isI i w.1)+QL m λi=>isI i w.2.1:=by
   rw[← QdL]
   exact QaQ λi _=>by unfold Qcz;rw[e,if_neg ZH]
  rw[this]
  exact⟨by omega,λz=>by rw[z,Qsb];omega⟩
theorem QjV{m:Nat}:∀W:List (Int×Int×Bool),QL m (Qad W)<=2*(W.length:Int)/\((∃w∈W,w.2.1=m)->QL m (Qad W)<=2*(W.length:Int)-1)
 | []=>⟨by rw[show QL m (Qad [])=0 from(QaQ λi _=>rfl).trans (QcP m)];simp,λ⟨w,h,_⟩=>by simp at h⟩
 | w::W=>by
  have ih:=QjV (m:=m) W
  have hw:=QqU (m:=m) w
  have e:QL m (Qad (w::W))=QL m (λi=>Qcz i w)+QL m (Qad W):=by
   rw[← QdL]
   exact QaQ λi _=>QdB W w i
  rw[e,Zr]
  refine⟨by omega,λ⟨v,hv,hz⟩=>?_⟩
  rcases Zn.mp hv with rfl | hv
  ·have:=hw.2 hz;omega
  ·have:=ih.2 ⟨v,hv,hz⟩;omega
theorem Qn1{m:Nat}{t kind:Int}(m0:0<m)(m8:m<=8):spr (Qad (QaK m t kind)) m<=300:=by
 have hp:∃w∈QaK m t kind,w.2.1=m:=by
  refine⟨Qc7 m t kind (0:Nat),ZA.mpr ⟨0,ZU.mpr m0,rfl⟩,?_⟩
  show Qda m t (0:Nat)=m
  unfold Qda
  rw[if_neg (by have:=ZW (QaR t (0:Nat)) (by decide:((0:Nat):Int)+1≠0);omega)]
 have hs:=(QjV (m:=m) (QaK m t kind)).2 hp
 rw[QgV]at hs
 rcases QlF (s:=Qad (QaK m t kind)) (n:=m) λi _=>(QfS i _).1 with e | ⟨c,e1,e2,e3⟩
 ·rw[e];decide
 ·have hc:c<=7:=by omega
  have:(2:Int)^c<=2^7:=by
   have:=Zae (show 0<2 by decide) hc
   have h3:((2^c:Nat):Int)<=((2^7:Nat):Int):=by omega
   simpa using h3
  omega
theorem Qi6(i:Nat):∀W:List (Int×Int×Bool),Qad W.reverse i=Qad W i
 | []=>rfl
 | w::W=>by rw[Zaz,Qfb,Qi6 i W,QdB,Int.add_comm]
structure Qee (m:Nat) (W:List (Int×Int×Bool)):Prop where
 good:∀w∈W,GoodW m w
 few:W.length<=40
 esc:Esc m W
 small:QP W=[]∨spr (Qad W) m<=300
theorem Qj2{W:List (Int×Int×Bool)}(h:∀w∈W,w.2.2=false):QP W=[]:=by
 unfold QP
 rw[Zbm.mpr λw hw=>by rw[h w hw];exact ZH];rfl
theorem Qee.rev{m:Nat}{W:List (Int×Int×Bool)}(h:Qee m W):Qee m W.reverse where
 good:=λw hw=>h.good w (Zbh.mp hw)
 few:=by rw[List.length_reverse];exact h.few
 esc:=h.esc.mono λw hw=>Zbh.mpr hw
 small:=by
  rcases h.small with z | z
  ·left
   refine Qj2 λw hw=>?_
   cases e:w.2.2 with
   | false=>rfl
   | true=>
    have:Qd1 w∈QP W:=ZA.mpr ⟨w,Zal.mpr ⟨Zbh.mp hw,e⟩,rfl⟩
    rw[z]at this
    simp at this
  ·right
   rw[Qel λi _=>Qi6 i W]
   exact z
theorem Qee.ok{m:Nat}{W:List (Int×Int×Bool)}(m0:0<m)(m8:m<=8)(h:Qee m W):Qjz m (QO W) (QP W) where
 num:=⟨by omega,by omega,λs hs=>Qp3 (by
  rcases Zy.mp hs with z | z
  ·exact(QbG h.good s z).1
  ·exact(QbL h.good s z).1),λs hs=>by have:=(QbL h.good s hs).2;omega⟩
 way:=by
  rw[ZE]
  refine⟨?_,QnX m0 (Qcv (λs hs=>(QbG h.good s hs).1) λs hs=>(QbL h.good s hs).1) ?_⟩
  ·unfold QO QP
   rw[Zc,Zc]
   have:=h.few
   have e:∀W:List (Int×Int×Bool),(W.filter λw=> !w.2.2).length+(W.filter λw=>w.2.2).length=W.length:=λW=>by
    induction W with
    | nil=>rfl
    | cons w W ih=>
     rw[ZX,ZX]
     cases w.2.2<;>simp<;>omega
   rw[e W];exact this
  ·exact QiV h.esc
 sml:=by
  rw[ZE]
  rcases h.small with z | z
  ·exact .inl z
  ·exact .inr (by rw[Qel λi _=>QiY i W];exact z)
def QgS(d:Den):Prop:=∀A:List (Int×Int),d [Qc A,Qc A]=some (.bl true,true)
theorem Qky(f:Int×Int->D):∀A:List (Int×Int),Qff (A.map f) (A.map f)=A.map λs=> .tup [f s,f s]
 | []=>rfl
 | a::A=>by
  show D.tup [f a,f a]::Qff (A.map f) (A.map f)=_
  rw[Qky f A];rfl
theorem Qrl{fa fb:DE}{ρ:En}{r:R}{n:Nat}{s:Int×Int}(ha:fa ρ=some ⟨.lst [pairD s],true,[]⟩)(h:fb ρ=some r)(e:r.d= .int n)(hn:n<=1000):Qaq fa fb ρ=some ⟨Qc (List.replicate n s),true,[]⟩:=by
 unfold Qaq
 rw[ha,Za,h,Za,e]
 dsimp only
 rw[if_pos ⟨by simp[Qdf];omega,by omega,by omega,rfl⟩]
 simp only[ZE,QdI]
 unfold Qc
 rw[List.map_replicate,List.map_const',ZG]
theorem Qip{fs:DA}{ρ:En}{r:RA}(h:fs ρ=some r)(hl:r.ds.length<=64):QaI fs ρ=some ⟨.tup r.ds,r.fr,r.M⟩:=by
 unfold QaI
 rw[h,Za,if_pos hl]
theorem Qsv{fa fb:DE}{ρ:En}{ra rb:R}{a b:Int}(ha:fa ρ=some ra)(ea:ra.d= .int a)(hb:fb ρ=some rb)(eb:rb.d= .int b):dOp Qev fa fb ρ=some ⟨.int (a-b),true,[]⟩:=by
 refine QN ha hb ?_
 rw[ea,eb];rfl
end HS
namespace HS
open PySem PySem.Spec L2 PyProof.Rows PySem.NumText
theorem QqQ{c:Nat}{l:List Nat}(h:c∉l):Txt.partition (tx l) (tx [c])=(tx l,tx [],tx []):=by
 have f:=StrLaws.found_one (tx l) c
 have hm:¬c∈(tx l).cps.toList:=h
 rw[decide_eq_false hm]at f
 unfold Txt.partition
 have e:Builtin.Str.occurrences (tx l) (tx [c]) 0 (tx l).length 1=[]:=by
  have:Builtin.Str.occurrences (tx l) ⟨#[c]⟩ 0 (tx l).length 1=[]:=by
   simpa using f
  exact this
 rw[e];rfl
theorem Qr3{c:Nat}{a b:List Nat}(h:c∉a):Txt.partition (tx (a++c::b)) (tx [c])=(tx a,tx [c],tx b):=by
 have hat:∀i,StrLaws.At (tx (a++c::b)) (tx [c]) (tx (a++c::b)).length i↔(a++c::b)[i]? =some c:=λi=>StrLaws.subAt_one (tx (a++c::b)) c i
 unfold Txt.partition
 rcases StrLaws.occ_head (tx (a++c::b)) (tx [c]) 1 (Zj _)with⟨_,hn⟩ | ⟨i,r,e,hi,hk⟩
 ·exact absurd ((hat a.length).mpr (by simp)) (hn _)
 ·have h1:i=a.length:=by
   rcases Nat.lt_trichotomy i a.length with hl | hl | hl
   ·have:=(hat i).mp hi
    rw[ZY hl]at this
    exact absurd (ZF this) h
   ·exact hl
   ·exact absurd ((hat a.length).mpr (by simp)) (hk _ hl)
  rw[e,h1]
  show(Builtin.Str.strSub _ _ _,_,Builtin.Str.strSub _ _ _)=_
  have hl:(tx (a++c::b)).length=a.length+(b.length+1):=by rw[QbM,QaO];simp
  refine Prod.ext (QcR ?_) (Prod.ext rfl (QcR ?_))
  ·show(Builtin.Str.strSub _ _ _).cps.toList=_
   rw[StrLaws.strSub_toList]
   show((a++c::b).drop 0).take (a.length-0)=a
   simp
  ·show(Builtin.Str.strSub _ _ _).cps.toList=_
   rw[StrLaws.strSub_toList,hl]
   show((a++c::b).drop (a.length+1)).take _=b
   have:(a++c::b).drop (a.length+1)=b:=by rw[List.drop_append];simp
   rw[this,Zbn]
   have e1:(tx [c]).length=1:=rfl
   omega
theorem QhO:Str.ofString "*" =tx [42]:=by decide
theorem Qho:Str.ofString ">" =tx [62]:=by decide
theorem Qc8(n:Nat):QH (n:Int)=tx (dig n):=QcR (by rw[Qc4,if_neg (by omega)];rfl)
theorem Qe5{n:Nat}(h:n<10):QH (n:Int)=tx [48+n]:=by rw[Qc8,QfZ h]
noncomputable def Qfl(Qaf:Den):DS:=(Qd (sIf (Qm (dOp gNe (dBf Qau (Qb (Qa 0) Qe)) (dC (.int 1)))) (Qd Qw Qg) Qg) (Qd (QX (Qv 1 Qaf [] (Qb (Qa 0) Qe))) Qg))
def QjI(d:Den):Prop:=∀n:Nat,n<10->d [.str (tx [48+n])]=some (.int n,true)
theorem Qtw{dn:Den}(hn:QjJ dn):QjI (Qr 1 (Qfl dn)):=λn h=>by
 refine Q7 (QC (QA (b:=false) ?_ (λh=>by cases h) (λ_=>Qh ?_)))
 ·exact Qp (b:=false) (r:=⟨.bl false,true,[]⟩) ((QfB (a:=1) (b:=1) (ra:=⟨.int 1,true,[]⟩) (Qga (x:=tx [48+n]) rfl rfl (show 1<=16000000 by decide)) rfl rfl rfl).trans (by simp)) rfl
 ·have:=hn n (by omega)
  rw[Qe5 h]at this
  exact QF (Qy (r:=⟨[.str (tx [48+n])],true,[]⟩) rfl this rfl) ⟨rfl,rfl⟩
noncomputable def QfK(Qaf:Den):DS:=(Qd (Qu 1 (Qv 1 Qaf [] (Qb (Qa 0) Qe))) (Qd (sIf (bOr (Qm (dOp gLt (Qa 1) (dC (.int 2)))) (Qm (dOp gGt (Qa 1) (dC (.int 40))))) (Qd Qw Qg) Qg) (Qd (QX (Qa 1)) Qg)))
def Qg0(d:Den):Prop:=∀k:Nat,2<=k->k<=40->d [.str (tx (dig k))]=some (.int k,true)
theorem Qor{dn:Den}(hn:QjJ dn):Qg0 (Qr 2 (QfK dn)):=λk h2 h40=>by
 have e:=hn k (by omega)
 rw[Qc8]at e
 refine Q7 (run_seq (Qi (Qy (r:=⟨[.str (tx (dig k))],true,[]⟩) rfl e rfl) ?_))
 change Nx _ (.nx [some (.str (tx (dig k)),true),some (.int k,true)])
 refine QC (QA (b:=false) ?_ (λh=>by cases h) (λ_=>Qh ?_))
 ·have:=Qa2 (a:=decide ((k:Int)<2)) (b:=decide ((40:Int)<k)) (g1:=Qm (dOp gLt (Qa 1) (dC (.int 2)))) (g2:=Qm (dOp gGt (Qa 1) (dC (.int 40)))) (ρ:=[some (.str (tx (dig k)),true),some (.int k,true)]) (Qp (QN rfl rfl rfl) rfl) (Qp (QN rfl rfl rfl) rfl)
  rw[this,decide_eq_false (by omega),decide_eq_false (by omega)];rfl
 ·exact QF rfl ⟨rfl,rfl⟩
structure Wd where
 a:Nat
 b:Nat
 lane:Bool
 k:Nat
 star:Bool
noncomputable def Wd.sign(x:Wd):Nat:=if x.lane=true then 62 else 45
noncomputable def Wd.l(x:Wd):List Nat:=[48+x.a,x.sign,48+x.b]++if x.star=true then 42::dig x.k else []
noncomputable def Wd.t(x:Wd):Str:=tx x.l
structure Wd.Ok (x:Wd):Prop where
 a:x.a<10
 b:x.b<10
 k:if x.star=true then 2<=x.k/\x.k<=40 else x.k=1
noncomputable def Wd.p(x:Wd):Int×Int:=(x.a,x.b)
theorem Wd.low{x:Wd}(h:x.Ok):∀c∈x.l,c<200/\c≠32:=λc hc=>by
 have ha:=h.a
 have hb:=h.b
 unfold Wd.l at hc
 rcases Zy.mp hc with hc | hc
 ·simp only[Zn,ZaK,or_false]at hc
  unfold Wd.sign at hc
  split at hc<;>omega
 ·split at hc
  ·rcases Zn.mp hc with hc | hc
   ·omega
   ·have:=QcQ _ _ hc;omega
  ·simp at hc
theorem Wd.len{x:Wd}(h:x.Ok):x.t.length<=100:=by
 have hk:=h.k
 rw[QbM]
 show x.l.length<=100
 unfold Wd.l
 rw[Zf]
 split
 ·rename_i hs
  rw[if_pos hs]at hk
  have:=QdJ (n:=x.k) (k:=2) (by decide) (by omega)
  simp;omega
 ·simp
theorem Wd.part{x:Wd}(h:x.Ok):Txt.partition x.t (tx [42])=(tx [48+x.a,x.sign,48+x.b],if x.star=true then(tx [42],tx (dig x.k))else(tx [],tx [])):=by
 have ha:=h.a
 have hb:=h.b
 have h0:42∉[48+x.a,x.sign,48+x.b]:=λhc=>by
  simp only[Zn,ZaK,or_false]at hc
  unfold Wd.sign at hc
  split at hc<;>omega
 unfold Wd.t Wd.l
 split
 ·exact Qr3 h0
 ·rw[Zam];exact QqQ h0
theorem Qs9{c:Nat}(h:c=45∨c=62):gIn true (.str (tx [c])) (.tup [.str (tx [45]),.str (tx [62])])=some (.bl false):=by
 have s:∀c n,c<200->(D.str (tx [c])).sim n=true:=λc n h=>QeJ λd hd=>by rw[QaO,Zk]at hd;omega
 have st:(D.tup [.str (tx [45]),.str (tx [62])]).sim 8=true:=by
  show [D.str (tx [45]),.str (tx [62])].all (D.sim 7)=true
  simp only[List.all_cons,List.all_nil,s 45 7 (by decide),s 62 7 (by decide),Bool.and_self]
 show(if(D.str (tx [c])).sim 8 && (D.tup [.str (tx [45]),.str (tx [62])]).sim 8 then some (D.bl (!([D.str (tx [45]),.str (tx [62])].any λy=>deq y (.str (tx [c])))))else none)=_
 rw[s c 8 (by omega),st]
 rcases h with rfl | rfl<;>rfl
noncomputable def Qgq(Qbs:Den)(Q9:Den):DS:=(Qd (Qu 1 (dM1 QjA (Qa 0) (Qb (dC (.str "*")) Qe))) (Qd (Qu 2 (Qb8 (Qo (Qa 1) (dC (.int 0))))) (Qd (sIf (bOr (Qm (dOp gNe (dBf Qau (Qb (Qa 2) Qe)) (dC (.int 3)))) (Qm (dOp (gIn true) (Qo (Qa 2) (dC (.int 1))) (QaI (Qb (dC (.str "-")) (Qb (dC (.str ">")) Qe)))))) (Qd Qw Qg) Qg) (Qd (Qu 3 (dIf (Qm (Qo (Qa 1) (dC (.int 1)))) (Qv 1 Qbs [] (Qb (Qo (Qa 1) (dC (.int 2))) Qe)) (dC (.int 1)))) (Qd (QX (Qaq (Qaa (Qb (QaI (Qb (Qv 1 Q9 [] (Qb (Qo (Qa 2) (dC (.int 0))) Qe)) (Qb (Qv 1 Q9 [] (Qb (Qo (Qa 2) (dC (.int 2))) Qe)) Qe))) Qe)) (Qa 3))) Qg)))))
def Qij(d:Den):Prop:=∀x:Wd,x.Ok->d [.str x.t]=some (Qc (List.replicate x.k x.p),true)
theorem QhZ{fa fb:DE}{ρ:En}{ra rb:R}{l:List Nat}{i:Nat}{c:Nat}(ha:fa ρ=some ra)(ea:ra.d= .str (tx l))(hb:fb ρ=some rb)(eb:rb.d= .int i)(hi:l[i]? =some c)(hl:i<=1000):Qo fa fb ρ=some ⟨.str (tx [c]),true,[]⟩:=by
 unfold Qo
 rw[ha,Za,hb,Za,ea,eb]
 show(if 0<=(i:Int)/\(i:Int)<2^63/\(i:Int)<(tx l).length then((tx l).cps[(i:Int).toNat]?).map λc=>HS.R.mk (.str ⟨#[c]⟩) true []else none)=_
 have hlen:=(Zd.mp hi).1
 rw[if_pos ⟨by omega,by omega,by rw[QbM,QaO];omega⟩]
 have:(tx l).cps[(i:Int).toNat]? =some c:=by
  show l.toArray[(i:Int).toNat]? =some c
  rw[ZE];simpa using hi
 rw[this];rfl
theorem Qpu{da df:Den}(ha:Qg0 da)(hf:QjI df):Qij (Qr 4 (Qgq da df)):=λx h=>by
 have hlen:=Wd.len h
 have hk:=h.k
 have hsg:x.sign=45∨x.sign=62:=by unfold Wd.sign;split<;>simp
 refine Q7 ?_
 refine run_seq (Qi (r:=⟨.tup [.str (tx [48+x.a,x.sign,48+x.b]),.str (if x.star=true then tx [42]else tx []),.str (if x.star=true then tx (dig x.k)else tx [])],true,[]⟩) (QjD (ra:=⟨.str x.t,true,[]⟩) (rb:=⟨.str "*",true,[]⟩) rfl rfl ?_) ?_)
 ·show(if((Str.ofString "*").length == 0)=false/\x.t.length<=sizeLine then some (D.tup [.str (Txt.partition x.t (Str.ofString "*")).1,.str (Txt.partition x.t (Str.ofString "*")).2.1,.str (Txt.partition x.t (Str.ofString "*")).2.2])else none)=_
  rw[QhO,if_pos ⟨rfl,by rw[QaJ];omega⟩,Wd.part h]
  split<;>rfl
 change Nx _ (.nx [some (.str x.t,true),some (.tup [.str (tx [48+x.a,x.sign,48+x.b]),.str (if x.star=true then tx [42]else tx []),.str (if x.star=true then tx (dig x.k)else tx [])],true),none,none])
 refine run_seq (Qi (r:=⟨.str (tx [48+x.a,x.sign,48+x.b]),false,[]⟩) rfl ?_)
 change Nx _ (.nx [some (.str x.t,true),some (.tup [.str (tx [48+x.a,x.sign,48+x.b]),.str (if x.star=true then tx [42]else tx []),.str (if x.star=true then tx (dig x.k)else tx [])],true),some (.str (tx [48+x.a,x.sign,48+x.b]),true),none])
 refine QC (QA (b:=false) ?_ (λh=>by cases h) (λ_=>Qh ?_))
 ·refine Qa2 (a:=false) (b:=false) (Qp (b:=false) (r:=⟨.bl false,true,[]⟩) ((QfB (a:=3) (b:=3) (ra:=⟨.int 3,true,[]⟩) (Qga (x:=tx [48+x.a,x.sign,48+x.b]) rfl rfl (show 3<=16000000 by decide)) rfl rfl rfl).trans (by simp)) rfl) ?_
  refine Qp (b:=false) (QN (ra:=⟨.str (tx [x.sign]),true,[]⟩) (rb:=⟨.tup [.str (tx [45]),.str (tx [62])],true,[]⟩) (d:= .bl false) (QhZ (l:=[48+x.a,x.sign,48+x.b]) (i:=1) (ra:=⟨.str (tx [48+x.a,x.sign,48+x.b]),true,[]⟩) (rb:=⟨.int 1,true,[]⟩) rfl rfl rfl rfl rfl (by decide)) ?_ ?_) rfl
  ·show some (HS.R.mk (.tup [.str (Str.ofString "-"),.str (Str.ofString ">")]) true [])=_
   rw[Qfy,Qho]
  ·exact Qs9 hsg
 have e3:dIf (Qm (Qo (Qa 1) (dC (.int 1)))) (Qv 1 da [] (Qb (Qo (Qa 1) (dC (.int 2))) Qe)) (dC (.int 1)) [some (.str x.t,true),some (.tup [.str (tx [48+x.a,x.sign,48+x.b]),.str (if x.star=true then tx [42]else tx []),.str (if x.star=true then tx (dig x.k)else tx [])],true),some (.str (tx [48+x.a,x.sign,48+x.b]),true),none]=some ⟨.int x.k,true,[]⟩:=by
  cases hs:x.star with
  | true=>
   rw[hs,if_pos rfl]at hk
   show(some true).bind (λb:Bool=>if b=true then Qv 1 da [] (Qb (Qo (Qa 1) (dC (.int 2))) Qe) [some (.str x.t,true),some (.tup [.str (tx [48+x.a,x.sign,48+x.b]),.str (tx [42]),.str (tx (dig x.k))],true),some (.str (tx [48+x.a,x.sign,48+x.b]),true),none]else _)=_
   rw[Za,if_pos rfl]
   exact Qy (r:=⟨[.str (tx (dig x.k))],true,[]⟩) rfl (ha x.k hk.1 hk.2) rfl
  | false=>
   rw[hs]at hk
   have hk:x.k=1:=hk
   rw[hk];rfl
 refine run_seq (Qi e3 ?_)
 change Nx _ (.nx [some (.str x.t,true),some (.tup [.str (tx [48+x.a,x.sign,48+x.b]),.str (if x.star=true then tx [42]else tx []),.str (if x.star=true then tx (dig x.k)else tx [])],true),some (.str (tx [48+x.a,x.sign,48+x.b]),true),some (.int x.k,true)])
 have hk40:x.k<=1000:=by split at hk<;>omega
 refine QF (Qrl (n:=x.k) (s:=x.p) (r:=⟨.int x.k,true,[]⟩) ?_ rfl rfl hk40) ⟨rfl,rfl⟩
 refine(Qg9 (Qn (r:=⟨pairD x.p,true,[]⟩) (Qip (Qn (Qy (r:=⟨[.str (tx [48+x.a])],true,[]⟩) (Qn (QhZ (l:=[48+x.a,x.sign,48+x.b]) (i:=0) (ra:=⟨.str (tx [48+x.a,x.sign,48+x.b]),true,[]⟩) (rb:=⟨.int 0,true,[]⟩) rfl rfl rfl rfl rfl (by decide)) (QJ _)) (hf x.a h.a) rfl) (Qn (Qy (r:=⟨[.str (tx [48+x.b])],true,[]⟩) (Qn (QhZ (l:=[48+x.a,x.sign,48+x.b]) (i:=2) (ra:=⟨.str (tx [48+x.a,x.sign,48+x.b]),true,[]⟩) (rb:=⟨.int 2,true,[]⟩) rfl rfl rfl rfl rfl (by decide)) (QJ _)) (hf x.b h.b) rfl) (QJ _))) (show 2<=64 by decide)) (QJ _)) (show 1<=64 by decide)).trans rfl
noncomputable def QS(ws:List Wd):List (Int×Int):=(ws.filter λx=> !x.lane).flatMap λx=>List.replicate x.k x.p
noncomputable def QU(ws:List Wd):List (Int×Int):=(ws.filter λx=>x.lane).flatMap λx=>List.replicate x.k x.p
noncomputable def Qs(m:Nat)(ws:List Wd):List Str:=QH m::ws.map Wd.t
noncomputable def Q2(m:Nat)(ws:List Wd):Str:=Str.join (tx [32]) (Qs m ws)
theorem Qet(ws:List Wd)(x:Wd):QS (ws++[x])=QS ws++if x.lane=true then []else List.replicate x.k x.p:=by
 unfold QS
 rw[ZN,List.flatMap_append]
 cases h:x.lane<;>simp[ZX,h]
theorem Qem(ws:List Wd)(x:Wd):QU (ws++[x])=QU ws++if x.lane=true then List.replicate x.k x.p else []:=by
 unfold QU
 rw[ZN,List.flatMap_append]
 cases h:x.lane<;>simp[ZX,h]
theorem Qlc{m:Nat}{ws:List Wd}(h:∀x∈ws,x.Ok):∀t∈Qs m ws,32∉cp t:=λt ht=>by
 rcases Zn.mp ht with rfl | ht
 ·exact Qou _
 ·obtain⟨x,hx,rfl⟩:=ZA.mp ht
  exact λhc=>(Wd.low (h x hx) 32 hc).2 rfl
theorem Qoj{m:Nat}{ws:List Wd}:∀t∈Qs m ws,cp t≠[]:=λt ht=>by
 rcases Zn.mp ht with rfl | ht
 ·exact QrK _
 ·obtain⟨x,hx,rfl⟩:=ZA.mp ht
  show x.l≠[]
  unfold Wd.l
  simp
theorem QrI{m:Nat}{ws:List Wd}:Q2 m ws≠tx []:=λe=>by
 have:=congrArg cp e
 unfold Q2 at this
 rw[QeM,QaO]at this
 refine Qu5 (by simp[Qs]) (λx hx=>?_) this
 obtain⟨t,ht,rfl⟩:=ZA.mp hx
 exact Qoj t ht
theorem Qmm{m:Nat}{ws:List Wd}(h:∀x∈ws,x.Ok):Txt.split (Q2 m ws) (tx [32])=Qs m ws:=
 Qmy (Qlc h) (by simp[Qs]) λe=>QrI (Qqg _ _ (λ_=>trivial) e)
theorem QdA{m:Nat}{ws:List Wd}(hm:m<10)(h:∀x∈ws,x.Ok):∀y∈Qs m ws,y.length<=100:=λt ht=>by
 rcases Zn.mp ht with rfl | ht
 ·rw[Qe5 hm];exact(show 1<=100 by decide)
 ·obtain⟨x,hx,rfl⟩:=ZA.mp ht
  exact Wd.len (h x hx)
theorem Qpc{m:Nat}{ws:List Wd}(hm:m<10)(h:∀x∈ws,x.Ok)(hl:ws.length<=1000):(Q2 m ws).length<=1000000:=by
 have h1:=StrLaws.join_length_le (tx [32]) (Qs m ws)
 have h2:=StrLaws.sumLen_le (B:=100) (Qs m ws) (QdA hm h)
 have e:(tx [32]).length=1:=rfl
 have e2:(Qs m ws).length=ws.length+1:=by simp[Qs]
 rw[e,Nat.mul_one,e2]at h1
 rw[e2]at h2
 show(Str.join (tx [32]) (Qs m ws)).length<=_
 omega
theorem Qph{m:Nat}{ws:List Wd}(h:∀x∈ws,x.Ok):∀c∈cp (Q2 m ws),c<200:=by
 unfold Q2
 rw[QeM]
 refine QnT (by decide) λx hx d hd=>?_
 obtain⟨t,ht,rfl⟩:=ZA.mp hx
 rcases Zn.mp ht with rfl | ht
 ·exact QkC hd
 ·obtain⟨y,hy,rfl⟩:=ZA.mp ht
  exact(Wd.low (h y hy) d hd).1
theorem Qmq:∀ts:List Str,QK (ts.map .str)=true:=Qhz
theorem Qq3{fa fb:DE}{ρ:En}{ra rb:R}{ts:List Str}{n:Nat}(ha:fa ρ=some ra)(ea:ra.d= .lst (ts.map .str))(hb:fb ρ=some rb)(eb:rb.d= .int n):Qa8 fa (Q4 fb) Qcu ρ=some ⟨.lst ((ts.drop n).map .str),true,[]⟩:=by
 unfold Qa8 Q4 Qcu
 simp only[ha,hb,Za,ea,eb,cutD,Zc,HT.QgP,HT.QeL,← ZbA,← ZaP,Qab,Qmq,if_true]
 congr 4
 rw[Zbn (by rw[Zbd];omega)]
 by_cases h:n<=ts.length
 ·rw[Zaw h]
 ·rw[Nat.min_eq_right (by omega),Zai (Zj _),Zai (by omega)]
theorem QqX{fa fb:DE}{ρ:En}{ra rb:R}{ts:List Str}{i:Nat}{t:Str}(ha:fa ρ=some ra)(ea:ra.d= .lst (ts.map .str))(hb:fb ρ=some rb)(eb:rb.d= .int i)(h:ts[i]? =some t):Qo fa fb ρ=some ⟨.str t,true,[]⟩:=by
 have hl:i<ts.length:=(Zd.mp h).1
 unfold Qo
 rw[ha,Za,hb,Za,ea,eb]
 simp only[D.items,Za]
 rw[QdD (by omega) (by simp;omega),Zx,ZE,h]
 rfl
theorem QlI{w a b:Nat}{gc:DT}{fe:DE}{ρ:En}{Q:Out->Prop}{c:Bool}{x:Nat}{A B:List (Int×Int)}{M:List Nat}{f:Bool}(hg:gc ρ=some c)(ex:(if c=true then a else b)=x)(hw:w<ρ.length)(hx:w≠x)(hs:(ρ.set w none)[x]? =some (some (Qc A,true)))(he:fe (ρ.set w none)=some ⟨Qc B,f,M⟩)(hl:A.length+B.length<=16000000)(q:Q (.nx ((ρ.set w none).set x (some (Qc (A++B),true))))):Run (Qin w a b gc fe) ρ Q:=by
 refine⟨_,?_,q⟩
 unfold Qin
 rw[hg,Za,ex,if_pos ⟨hw,hx⟩]
 unfold QgB
 rw[hs]
 simp only[Qai,Za,he,Qbo,Qc,QaP,Zc,QaJ,QaG (f:=pairD) (λ_=>rfl) B]
 rw[if_pos (by simp;omega)]
 simp
theorem QrC{a b c:Nat}{l:List Nat}:Txt.slice (tx (a::b::c::l)) (some 1) (some 2)=tx [b]:=by
 have e:Txt.slice (tx (a::b::c::l)) (some 1) (some 2)=StrLaws.sliceText (tx (a::b::c::l)) (some ((1:Nat):Int)) (some ((2:Nat):Int)):=rfl
 rw[e,StrLaws.sliceText_nat _ (by omega) (by rw[QbM,QaO];simp)];rfl
noncomputable def QhJ(Qbr:Den)(Q9:Den)(QbS:Den)(Qcs:Den):DS:=(Qd (Qu 1 (Qv 1 Qbr [] (Qb (Qa 0) Qe))) (Qd (Qu 2 (Qv 1 Q9 [] (Qb (Qo (Qa 1) (dC (.int 0))) Qe))) (Qd (Qu 3 (Qaa Qe)) (Qd (Qu 4 (Qaa Qe)) (Qd (Qa6 (QZ (Qa8 (Qa 1) (Q4 (dC (.int 1))) Qcu)) (.nm 5) (Qd (Qin 6 4 3 (Qm (dOp gEq (Qa8 (Qa 5) (Q4 (dC (.int 1))) (Q4 (dC (.int 2)))) (dC (.str ">")))) (Qv 1 QbS [] (Qb (Qa 5) Qe))) Qg)) (Qd (QX (Qv 3 Qcs [] (Qb (Qa 2) (Qb (Qa 3) (Qb (Qa 4) Qe))))) Qg))))))
def QfM(d:Den):Prop:=∀(m:Nat) (ws:List Wd),m<10->ws.length<=1000->(∀x∈ws,x.Ok)->(QS ws).length+(QU ws).length<=1000->Qjz m ((QS ws).map nrm) (QU ws)->d [.str (Q2 m ws)]=some (Ql m ((QS ws).map nrm) (QU ws),true)
theorem Qp1{ws:List Wd}{i:Nat}:(QS (ws.take i)).length<=(QS ws).length/\(QU (ws.take i)).length<=(QU ws).length:=by
 have e:ws=ws.take i++ws.drop i:=(Zat i ws).symm
 constructor
 ·conv=>rhs;rw[e]
  unfold QS
  rw[ZN,List.flatMap_append,Zf];omega
 ·conv=>rhs;rw[e]
  unfold QU
  rw[ZN,List.flatMap_append,Zf];omega
theorem Qm3{dw df dy dm:Den}(hw:QhV dw)(hf:QjI df)(hy:Qij dy)(hm:QjZ dm):QfM (Qr 7 (QhJ dw df dy dm)):=λm ws m10 hl hx hn N=>by
 have hT:=Qpc m10 hx hl
 have es:=Qmm (m:=m) hx
 have hd:=hw (Q2 m ws) (by omega) (by rw[es];simp[Qs];omega)
 rw[es]at hd
 refine Q7 ?_
 refine run_seq (Qi (Qy (r:=⟨[.str (Q2 m ws)],true,[]⟩) rfl hd rfl) ?_)
 change Nx _ (.nx [some (.str (Q2 m ws),true),some (.lst ((Qs m ws).map .str),true),none,none,none,none,none])
 refine run_seq (Qi (Qy (d:= .int m) (r:=⟨[.str (QH m)],true,[]⟩) (Qn (QqX (ts:=Qs m ws) (i:=0) (ra:=⟨.lst ((Qs m ws).map .str),true,[1]⟩) (rb:=⟨.int 0,true,[]⟩) rfl rfl rfl rfl rfl) (QJ _)) (by rw[Qe5 m10];exact hf m m10) rfl) ?_)
 change Nx _ (.nx [some (.str (Q2 m ws),true),some (.lst ((Qs m ws).map .str),true),some (.int m,true),none,none,none,none])
 refine run_seq (Qi (r:=⟨Qc [],true,[]⟩) rfl ?_)
 refine run_seq (Qi (r:=⟨Qc [],true,[]⟩) rfl ?_)
 change Nx _ (.nx [some (.str (Q2 m ws),true),some (.lst ((Qs m ws).map .str),true),some (.int m,true),some (Qc [],true),some (Qc [],true),none,none])
 refine Qah (P:=λρ=>∃j5 j6,ρ=[some (.str (Q2 m ws),true),some (.lst ((Qs m ws).map .str),true),some (.int m,true),some (Qc (QS ws),true),some (Qc (QU ws),true),j5,j6]) ?_ ?_
 ·refine QaA (toD:=λx=> .str x.t) ws (λi ρ=>∃j5 j6,ρ=[some (.str (Q2 m ws),true),some (.lst ((Qs m ws).map .str),true),some (.int m,true),some (Qc (QS (ws.take i)),true),some (Qc (QU (ws.take i)),true),j5,j6]) (Qal (xs:=(ws.map Wd.t).map .str) (Qq3 (ts:=Qs m ws) (n:=1) (ra:=⟨.lst ((Qs m ws).map .str),true,[1]⟩) (rb:=⟨.int 1,true,[]⟩) rfl rfl rfl rfl) rfl) (by rw[Zaf];rfl) ⟨none,none,rfl⟩ ?_ ?_
  ·rintro i x ρ hi ⟨j5,j6,rfl⟩
   have hxo:=hx x (ZF hi)
   have et:ws.take (i+1)=ws.take i++[x]:=by rw[Zbx,hi];rfl
   have hlt:=Qp1 (ws:=ws) (i:=i)
   have hk:x.k<=40:=by have:=hxo.k;split at this<;>omega
   refine⟨[some (.str (Q2 m ws),true),some (.lst ((Qs m ws).map .str),true),some (.int m,true),some (Qc (QS (ws.take i)),true),some (Qc (QU (ws.take i)),true),some (.str x.t,true),j6],rfl,?_⟩
   have eg:Qm (dOp gEq (Qa8 (Qa 5) (Q4 (dC (.int 1))) (Q4 (dC (.int 2)))) (dC (.str ">"))) [some (.str (Q2 m ws),true),some (.lst ((Qs m ws).map .str),true),some (.int m,true),some (Qc (QS (ws.take i)),true),some (Qc (QU (ws.take i)),true),some (.str x.t,true),j6]=some x.lane:=by
    have e1:Qa8 (Qa 5) (Q4 (dC (.int 1))) (Q4 (dC (.int 2))) [some (.str (Q2 m ws),true),some (.lst ((Qs m ws).map .str),true),some (.int m,true),some (Qc (QS (ws.take i)),true),some (Qc (QU (ws.take i)),true),some (.str x.t,true),j6]=some ⟨.str (tx [x.sign]),true,[]⟩:=by
     show(if x.t.length<=sizeLine then some (HS.R.mk (.str (Txt.slice x.t (some 1) (some 2))) true [])else none)=_
     rw[if_pos (by have:=Wd.len hxo;rw[QaJ];omega)]
     have:Txt.slice x.t (some 1) (some 2)=tx [x.sign]:=QrC
     rw[this]
    have hs:x.sign<200:=by unfold Wd.sign;split<;>decide
    refine(Qp (Qnt (x:=tx [x.sign]) (y:=tx [62]) (rb:=⟨.str ">",true,[]⟩) e1 rfl rfl (congrArg D.str Qho) (λc hc=>by rw[QaO,Zk]at hc;omega) (λc hc=>by rw[QaO,Zk]at hc;omega)) rfl).trans ?_
    unfold Wd.sign
    cases x.lane<;>rfl
   have ef:∀j6',Qv 1 dy [] (Qb (Qa 5) Qe) [some (.str (Q2 m ws),true),some (.lst ((Qs m ws).map .str),true),some (.int m,true),some (Qc (QS (ws.take i)),true),some (Qc (QU (ws.take i)),true),some (.str x.t,true),j6']=some ⟨Qc (List.replicate x.k x.p),true,[]⟩:=λj6'=>Qy (r:=⟨[.str x.t],true,[]⟩) rfl (hy x hxo) rfl
   cases hxl:x.lane with
   | true=>
    rw[hxl]at eg
    refine run_seq (QlI (x:=4) (A:=QU (ws.take i)) (B:=List.replicate x.k x.p) eg rfl (show 6<7 by decide) (by decide) rfl (ef none) (by rw[ZM];omega) (Qh ⟨some (.str x.t,true),none,?_⟩))
    rw[et,Qet,Qem,hxl,if_pos rfl,if_pos rfl,Zam];rfl
   | false=>
    rw[hxl]at eg
    refine run_seq (QlI (x:=3) (A:=QS (ws.take i)) (B:=List.replicate x.k x.p) eg rfl (show 6<7 by decide) (by decide) rfl (ef none) (by rw[ZM];omega) (Qh ⟨some (.str x.t,true),none,?_⟩))
    rw[et,Qet,Qem,hxl,if_neg (by decide),if_neg (by decide),Zam];rfl
  ·rintro ρ ⟨j5,j6,rfl⟩
   rw[Zar]
   exact⟨j5,j6,rfl⟩
 ·rintro ρ ⟨j5,j6,rfl⟩
  exact QF (Qy (r:=⟨[.int m,Qc (QS ws),Qc (QU ws)],true,[3,4]⟩) rfl (hm m _ _ _ (.inl rfl) hn N) rfl) ⟨rfl,rfl⟩
noncomputable def runs:List (Int×Int)->List ((Int×Int)×Nat)
 | []=>[]
 | p::r=>match runs r with
  | (q,k)::t=>if q=p then(q,k+1)::t else(p,1)::(q,k)::t
  | []=>[(p,1)]
theorem Qot(p:Int×Int)(r:List (Int×Int)):∃k t,runs (p::r)=(p,k)::t:=by
 unfold runs
 split
 ·split
  ·rename_i h;exact⟨_,_,by rw[h]⟩
  ·exact⟨_,_,rfl⟩
 ·exact⟨_,_,rfl⟩
theorem Qgw{p:Int×Int}{rest:List (Int×Int)}(h:rest.head? ≠some p):∀n:Nat,runs (List.replicate (n+1) p++rest)=(p,n+1)::runs rest
 | 0=>by
  show(match runs rest with | (q,k)::t=>if q=p then(q,k+1)::t else(p,1)::(q,k)::t | []=>[(p,1)])=_
  cases rest with
  | nil=>rfl
  | cons q r=>
   obtain⟨k,t,e⟩:=Qot q r
   rw[e]
   show(if q=p then _ else _)=_
   rw[if_neg λz=>h (by rw[z];rfl)]
 | n+1=>by
  show(match runs (List.replicate (n+1) p++rest)with | (q,k)::t=>if q=p then(q,k+1)::t else(p,1)::(q,k)::t | []=>[(p,1)])=_
  rw[Qgw h n]
  show(if p=p then _ else _)=_
  rw[if_pos rfl]
noncomputable def rd(lane:Bool)(q:(Int×Int)×Nat):Wd:=⟨q.1.1.toNat,q.1.2.toNat,lane,q.2,decide (1<q.2)⟩
noncomputable def QT(lane:Bool)(ps:List (Int×Int)):List Wd:=(runs ps).map (rd lane)
def QbH(ps:List (Int×Int)):Prop:=∀p∈ps,(0<=p.1/\p.1<10)/\0<=p.2/\p.2<10
noncomputable def QG(lane:Bool):Str:=tx [if lane=true then 62 else 45]
theorem Qi7(p q:Int×Int):deq (pairD p) (pairD q)=decide (p=q):=by
 show((p.1 == q.1) && ((p.2 == q.2) && true))=_
 rw[Bool.eq_iff_iff]
 simp[Prod.ext_iff]
theorem Qhx:∀A B:List (Int×Int),deq (Qc A) (Qc B)=decide (A=B)
 | [],[]=>rfl
 | [],_::_=>rfl
 | _::_,[]=>rfl
 | p::A,q::B=>by
  show(deq (pairD p) (pairD q) && deq (Qc A) (Qc B))=_
  rw[Qi7,Qhx A B,Bool.eq_iff_iff]
  simp
theorem QiN(p:Int×Int):(pairD p).sim 8=true:=rfl
section
variable {fa fb fc:DE}{ρ:En}{ra rb r:R}
theorem Qrm{A B:List (Int×Int)}(ha:fa ρ=some ra)(ea:ra.d=Qc A)(hb:fb ρ=some rb)(eb:rb.d=Qc B):dOp gNe fa fb ρ=some ⟨.bl (!decide (A=B)),true,[]⟩:=
 QN ha hb (by rw[ea,eb];unfold gNe;rw[Qd9 6 A,Qd9 6 B,Qhx];rfl)
theorem Qsa{p q:Int×Int}(ha:fa ρ=some ra)(ea:ra.d=pairD p)(hb:fb ρ=some rb)(eb:rb.d=pairD q):dOp gEq fa fb ρ=some ⟨.bl (decide (p=q)),true,[]⟩:=
 QN ha hb (by rw[ea,eb];unfold gEq;rw[QiN p,QiN q,Qi7];rfl)
theorem QgL{ps:List (Int×Int)}{i:Nat}{p:Int×Int}(ha:fa ρ=some ra)(ea:ra.d=Qc ps)(hb:fb ρ=some rb)(eb:rb.d= .int i)(h:ps[i]? =some p):Qo fa fb ρ=some ⟨pairD p,true,[]⟩:=by
 have hl:i<ps.length:=(Zd.mp h).1
 unfold Qo
 rw[ha,Za,hb,Za,ea,eb]
 simp only[Qc,D.items,Za]
 rw[QdD (by omega) (by simp;omega),Zx,ZE,h]
 rfl
theorem Qu1{p:Int×Int}(ha:fa ρ=some ra)(ea:ra.d=pairD p):Qo fa (dC (.int 0)) ρ=some ⟨.int p.1,true,[]⟩:=by
 unfold Qo
 rw[ha,Za,QcK,Za,ea];rfl
theorem QuT{p:Int×Int}(ha:fa ρ=some ra)(ea:ra.d=pairD p):Qo fa (dC (.int 1)) ρ=some ⟨.int p.2,true,[]⟩:=by
 unfold Qo
 rw[ha,Za,QcK,Za,ea];rfl
theorem QcM{i:Int}(h:fa ρ=some r)(e:r.d= .int i)(hi:i.natAbs<10^60):dBf Qbl (Qb fa Qe) ρ=some ⟨.str (QH i),true,[]⟩:=Qfs h (by rw[e];exact Qoh hi)
theorem QeB{i:Int}(h:fa ρ=some r)(e:r.d= .int i)(hi:i.natAbs<10^60):QcZ fa ρ=some ⟨.str (QH i),true,[]⟩:=by
 unfold QcZ
 rw[h,Za,e]
 refine if_pos ?_
 by_cases h0:i.natAbs=0
 ·rw[h0];decide
 ·exact(Zbu h0).mpr (Zs hi (Zu (by decide:10^60<=2^200) (Zae (by decide) (by decide))))
theorem Qmc{x:Str}(h:fa ρ=some r)(e:r.d= .str x)(hx:x.length<=16000000):QcZ fa ρ=some ⟨.str x,true,[]⟩:=by
 unfold QcZ
 rw[h,Za,e]
 exact if_pos (by rw[QaJ];exact Zu hx (by decide))
theorem QqD{fs:DA}{rs:RA}{ts:List Str}(h:fs ρ=some rs)(e:rs.ds=ts.map .str)(hl:(ts.map (·.length)).sum<=16000000):dFs fs ρ=some ⟨.str (QoM Str.empty ts),true,[]⟩:=by
 unfold dFs
 rw[h,Za,e,QgF,Za]
 exact if_pos (by rw[QaJ];exact Zu hl (by decide))
theorem Qit{A B:List Str}(ha:fa ρ=some ra)(ea:ra.d= .lst (A.map .str))(hb:fb ρ=some rb)(eb:rb.d= .lst (B.map .str))(hl:A.length+B.length<=16000000):Qt fa fb ρ=some ⟨.lst ((A++B).map .str),true,[]⟩:=by
 unfold Qt
 rw[ha,Za,hb,Za,ea,eb]
 show(if _ then some (Qab (A.map D.str++B.map D.str) (ra.M++rb.M))else none)=_
 rw[if_pos (by rw[Zc,Zc,QaJ];omega),← Zz]
 unfold Qab
 rw[if_pos (Qhz _)]
theorem QgI{ts:List Str}(ha:fa ρ=some ra)(ea:ra.d= .lst (ts.map .str))(hl:ts.length<=1000)(hb:∀y∈ts,y.length<=100):dM1 Qe6 (dC (.str " ")) (Qb fa Qe) ρ=some ⟨.str (Str.join (tx [32]) ts),true,[]⟩:=by
 refine QjD (ra:=⟨.str " ",true,[]⟩) rfl ha ?_
 rw[ea]
 show(QcU (ts.map .str)).bind (λts=>if JoinOk (Str.ofString " ") ts=true then some (D.str (Txt.join (Str.ofString " ") ts))else none)=_
 rw[QgF,Za,Ql5]
 have hj:JoinOk (tx [32]) ts=true:=by
  unfold JoinOk
  rw[StrLaws.joinFits hb ?_]
  ·rfl
  ·have e:(tx [32]).length=1:=rfl
   rw[e];omega
 rw[if_pos hj]
 show some (D.str (Builtin.Str.glued (tx [32]) ts))=_
 rw[StrLaws.glued_eq_join]
end
noncomputable def Qg2:DS:=(Qd (sIf (Qm (dOp gEq (Qa 3) (dC (.int 1)))) (Qd (QX (dFs (Qb (QcZ (Qa 0)) (Qb (QcZ (Qa 1)) (Qb (QcZ (Qa 2)) Qe))))) Qg) Qg) (Qd (QX (dFs (Qb (QcZ (Qa 0)) (Qb (QcZ (Qa 1)) (Qb (QcZ (Qa 2)) (Qb (dC (.str "*")) (Qb (QcZ (Qa 3)) Qe))))))) Qg))
def Qiu(d:Den):Prop:=∀(p:Int×Int) (lane:Bool) (k:Nat),QbH [p]->1<=k->k<=1000->d [.int p.1,.str (QG lane),.int p.2,.int k]=some (.str (rd lane (p,k)).t,true)
theorem QcN{i:Int}(h0:0<=i)(h:i<10):QH i=tx [48+i.toNat]:=by
 have:=Qe5 (n:=i.toNat) (by omega)
 rwa[ZS h0]at this
theorem Qo2:Qiu (Qr 4 Qg2):=λp lane k hp k1 k2=>by
 obtain⟨⟨a0,a1⟩,b0,b1⟩:=hp p (by simp)
 have ea:=QcN a0 a1
 have eb:=QcN b0 b1
 refine Q7 (QC (QA (b:=decide ((k:Int)=1)) (Qp (QbD (a:=k) (b:=1) rfl rfl rfl rfl) rfl) (λh=>?_) (λh=>?_)))
 ·have hk:k=1:=by have:=of_decide_eq_true h;omega
  subst hk
  refine QC (Qia (QqD (ts:=[QH p.1,QG lane,QH p.2]) (Qn (QeB (i:=p.1) (r:=⟨.int p.1,true,[]⟩) rfl rfl (by omega)) (Qn (Qmc (x:=QG lane) (r:=⟨.str (QG lane),true,[]⟩) rfl rfl (show 1<=16000000 by decide)) (Qn (QeB (i:=p.2) (r:=⟨.int p.2,true,[]⟩) rfl rfl (by omega)) (QJ _)))) rfl (by rw[ea,eb];exact(show 3<=16000000 by decide))) ⟨?_,rfl⟩)
  rw[ea,eb];rfl
 ·have hk:1<k:=by have:=of_decide_eq_false h;omega
  have hkl:=QdJ (n:=k) (k:=4) (by decide) (by omega)
  refine Qh (QF (QqD (ts:=[QH p.1,QG lane,QH p.2,tx [42],QH k]) (Qn (QeB (i:=p.1) (r:=⟨.int p.1,true,[]⟩) rfl rfl (by omega)) (Qn (Qmc (x:=QG lane) (r:=⟨.str (QG lane),true,[]⟩) rfl rfl (show 1<=16000000 by decide)) (Qn (QeB (i:=p.2) (r:=⟨.int p.2,true,[]⟩) rfl rfl (by omega)) (Qn (QcK _ _) (Qn (QeB (i:=k) (r:=⟨.int k,true,[]⟩) rfl rfl (by omega)) (QJ _)))))) ?_ ?_) ⟨?_,rfl⟩)
  ·show [D.str (QH p.1),.str (QG lane),.str (QH p.2),.str (Str.ofString "*"),.str (QH k)]=_
   rw[QhO];rfl
  ·rw[ea,eb,Qc8]
   show 1+(1+(1+(1+((tx (dig k)).length+0))))<=_
   rw[QbM,QaO];omega
  ·rw[ea,eb,Qc8]
   refine congrArg D.str (QcR ?_)
   show cp (((((Str.empty++tx [48+p.1.toNat])++QG lane)++tx [48+p.2.toNat])++tx [42])++tx (dig k))=(rd lane (p,k)).l
   unfold rd Wd.l Wd.sign
   simp only[QeO,QaO,decide_eq_true hk,if_true]
   unfold QG
   rw[QaO];rfl
end HS
namespace HS
open PySem PySem.Spec L2 PyProof.Rows PySem.NumText
theorem QoW{ρ:En}{fa:DE}{ra:R}{g:D->D->Option D}{i:Nat}{d d':D}{bb:Bool}{Q:Out->Prop}(hx:ρ[i]? =some (some (d,bb)))(ha:fa ρ=some ra)(hg:g d ra.d=some d')(q:Q (.nx (ρ.set i (some (d',true))))):Run (QgA g i fa) ρ Q:=by
 refine⟨_,?_,q⟩
 unfold QgA
 rw[hx]
 show(fa ρ).bind _=_
 rw[ha,Za,hg];rfl
noncomputable def Qgg(Qcw:Den):DS:=(Qd (Qu 2 (Qaa Qe)) (Qd (Qu 3 (dC (.int 0))) (Qd (Qa6 (Qfx (Qa 0)) (.tp [4,5]) (Qd (QgA (gI λi j=>some (.int (i+j))) 3 (dC (.int 1))) (Qd (sIf (Qm (dOp gNe (Qa8 (Qa 0) (Q4 (Qt (Qa 4) (dC (.int 1)))) (Q4 (Qt (Qa 4) (dC (.int 2))))) (Qaa (Qb (Qa 5) Qe)))) (Qd (QcJ 2 Qai (Qv 4 Qcw [] (Qb (Qo (Qa 5) (dC (.int 0))) (Qb (Qa 1) (Qb (Qo (Qa 5) (dC (.int 1))) (Qb (Qa 3) Qe)))))) (Qd (Qu 3 (dC (.int 0))) Qg)) Qg) Qg))) (Qd (QX (Qa 2)) Qg))))
def QcG(d:Den):Prop:=∀(ps:List (Int×Int)) (lane:Bool),QbH ps->ps.length<=1000->d [Qc ps,.str (QG lane)]=some (.lst ((QT lane ps).map λx=> .str x.t),true)
noncomputable def wdD(lane:Bool)(done:List ((Int×Int)×Nat)):D:= .lst (done.map λq=> .str (rd lane q).t)
theorem QbH.one{ps:List (Int×Int)}{p:Int×Int}(h:QbH ps)(hp:p∈ps):QbH [p]:=λq hq=>by rw[Zk]at hq;rw[hq];exact h p hp
theorem QiT{x:Nat}{fa:DE}{ρ:En}{Q:Out->Prop}{lane:Bool}{done:List ((Int×Int)×Nat)}{q:(Int×Int)×Nat}{r:R}(hx:ρ[x]? =some (some (wdD lane done,true)))(ha:fa ρ=some r)(e:r.d= .str (rd lane q).t)(hl:done.length<=10000)(k:Q (.nx (ρ.set x (some (wdD lane (done++[q]),true))))):Run (QcJ x Qai fa) ρ Q:=by
 refine Qf4 hx ha (by rw[e];rfl) (by rw[Zc];omega) ?_
 rw[e]
 unfold wdD at k
 rw[Zz]at k
 exact k
theorem Qse{ps:List (Int×Int)}{i:Nat}:cutD (ps.map pairD) (some ((i+1:Nat):Int)) (some ((i+2:Nat):Int))=((ps.drop (i+1)).take 1).map pairD:=by
 unfold cutD
 simp only[Zc,HT.QeL,← ZbA,← ZaP]
 congr 1
 by_cases h:i+1<ps.length
 ·rw[Zaw (show i+2<=ps.length by omega),Zaw (show i+1<=ps.length by omega),show i+2-(i+1)=1 by omega]
 ·rw[Nat.min_eq_right (show ps.length<=i+1 by omega),Zai (Zj _),Zai (show ps.length<=i+1 by omega)];simp
theorem Qmr(ps:List (Int×Int)):QcE (ps.map pairD)=ps.zipIdx.map λz=> .tup [.int z.2,pairD z.1]:=by
 apply ZaX
 intro k
 unfold QcE
 simp only[Zx,ZaA,Nat.zero_add]
 cases ps[k]? <;>rfl
theorem take_one{ps:List (Int×Int)}{j:Nat}{p:Int×Int}:(ps.drop j).take 1=[p]↔ps[j]? =some p:=by
 rw[List.take_one,List.head?_drop]
 cases ps[j]? <;>simp
theorem Qn6{dw:Den}(hw:Qiu dw):QcG (Qr 6 (Qgg dw)):=λps lane hf hl=>by
 refine Q7 ?_
 refine run_seq (Qi (r:=⟨wdD lane [],true,[]⟩) rfl ?_)
 refine run_seq (Qi (r:=⟨.int 0,true,[]⟩) rfl ?_)
 change Nx _ (.nx [some (Qc ps,false),some (.str (QG lane),true),some (wdD lane [],true),some (.int 0,true),none,none])
 refine Qah (P:=λρ=>∃j3 j4 j5,ρ=[some (Qc ps,false),some (.str (QG lane),true),some (wdD lane (runs ps),true),j3,j4,j5]) ?_ ?_
 ·refine QaA (toD:=λz=> .tup [.int z.2,pairD z.1]) ps.zipIdx (λi ρ=>∃done k q j4 j5,done.length<=i/\k<=i/\runs ps=done++runs (List.replicate k q++ps.drop i)/\(0<k->ps[i]? =some q)/\ρ=[some (Qc ps,false),some (.str (QG lane),true),some (wdD lane done,true),some (.int (k:Nat),true),j4,j5]) (ir:=⟨QcE (ps.map pairD),[]⟩) rfl (Qmr ps) ⟨[],0,(0,0),none,none,by simp,by simp,by simp,λh=>absurd h (by decide),rfl⟩ ?_ ?_
  ·rintro i z ρ hi ⟨done,k,q,j4,j5,hd,hk,hr,hq,rfl⟩
   rw[ZaA]at hi
   cases hp:ps[i]? with
   | none=>rw[hp]at hi;cases hi
   | some p=>
    rw[hp]at hi
    have hz:z=(p,i):=by simp at hi;exact hi.symm
    subst hz
    have hil:i<ps.length:=(Zd.mp hp).1
    have hpm:p∈ps:=ZF hp
    have ed:ps.drop i=p::ps.drop (i+1):=by
     rw[ZL hil]
     have:ps[i]=p:=by rw[ZQ hil]at hp;exact Option.some.inj hp
     rw[this]
    have er:List.replicate k q++ps.drop i=List.replicate (k+1) p++ps.drop (i+1):=by
     rw[ed]
     by_cases hk0:0<k
     ·have:q=p:=by have:=hq hk0;rw[hp]at this;exact(Option.some.inj this).symm
      rw[this,List.replicate_succ',ZT];rfl
     ·have:k=0:=by omega
      rw[this];rfl
    rw[er]at hr
    refine⟨[some (Qc ps,false),some (.str (QG lane),true),some (wdD lane done,true),some (.int (k:Nat),true),some (.int i,true),some (pairD p,true)],rfl,?_⟩
    refine run_seq (QoW (d:= .int (k:Nat)) (d':= .int ((k+1:Nat):Int)) rfl (QcK _ _) rfl ?_)
    change Nx _ (.nx [some (Qc ps,false),some (.str (QG lane),true),some (wdD lane done,true),some (.int ((k+1:Nat):Int),true),some (.int i,true),some (pairD p,true)])
    have eg:Qm (dOp gNe (Qa8 (Qa 0) (Q4 (Qt (Qa 4) (dC (.int 1)))) (Q4 (Qt (Qa 4) (dC (.int 2))))) (Qaa (Qb (Qa 5) Qe))) [some (Qc ps,false),some (.str (QG lane),true),some (wdD lane done,true),some (.int ((k+1:Nat):Int),true),some (.int i,true),some (pairD p,true)]=some (!decide ((ps.drop (i+1)).take 1=[p])):=by
     refine Qp (Qrm (A:=(ps.drop (i+1)).take 1) (B:=[p]) (ra:=⟨Qc ((ps.drop (i+1)).take 1),true,[]⟩) (rb:=⟨Qc [p],true,[]⟩) ?_ rfl rfl rfl) rfl
     show some (Qab (cutD (ps.map pairD) (some ((i:Int)+1)) (some ((i:Int)+2))) [])=_
     have e1:((i:Int)+1)=((i+1:Nat):Int):=by omega
     have e2:((i:Int)+2)=((i+2:Nat):Int):=by omega
     rw[e1,e2,Qse]
     unfold Qab
     rw[if_pos (QaG (λ_=>rfl) _)];rfl
    by_cases hn:ps[i+1]? =some p
    ·refine run_seq (QA (b:=false) (eg.trans (by rw[decide_eq_true (take_one.mpr hn)];rfl)) (λh=>by cases h) (λ_=>Qh (Qh ?_)))
     exact⟨done,k+1,p,_,_,by omega,by omega,hr,λ_=>hn,rfl⟩
    ·refine run_seq (QA (b:=true) (eg.trans (by rw[decide_eq_false λz=>hn (take_one.mp z)];rfl)) (λ_=>?_) (λh=>by cases h))
     refine run_seq (QiT (done:=done) (q:=(p,k+1)) rfl (Qy (r:=⟨[.int p.1,.str (QG lane),.int p.2,.int ((k+1:Nat):Int)],true,[]⟩) rfl (hw p lane (k+1) (hf.one hpm) (by omega) (by omega)) rfl) rfl (by omega) ?_)
     refine run_seq (Qi (r:=⟨.int 0,true,[]⟩) rfl (Qh (Qh ?_)))
     refine⟨done++[(p,k+1)],0,(0,0),_,_,by rw[Zf];simp;omega,by omega,?_,λh=>absurd h (by decide),rfl⟩
     rw[hr,Qgw (by rw[List.head?_drop];exact hn),ZT];rfl
  ·rintro ρ ⟨done,k,q,j4,j5,hd,hk,hr,hq,rfl⟩
   rw[List.length_zipIdx]at *
   have hk0:k=0:=by
    by_cases h:0<k
    ·have:=hq h
     rw[ZD (Zj _)]at this;cases this
    ·omega
   subst hk0
   rw[Zai (Zj _)]at hr
   have:runs ps=done:=by rw[hr];simp[runs]
   rw[this]
   exact⟨_,_,_,rfl⟩
 ·rintro ρ ⟨j3,j4,j5,rfl⟩
  refine QF (r:=⟨wdD lane (runs ps),true,[2]⟩) rfl ⟨?_,rfl⟩
  show wdD lane (runs ps)= .lst ((QT lane ps).map λx=> .str x.t)
  unfold wdD QT
  rw[Zaf];rfl
noncomputable def QdX:DS:=(Qd (Qu 2 (Qaa Qe)) (Qd (Qu 3 (dC (.int 0))) (Qd (Qcf (Qm (dOp gLt (Qa 3) (dBf Qau (Qb (Qa 0) Qe)))) (Qd (Qu 4 (dC (.int 1))) (Qd (Qcf (QcV (Qm (dOp gLt (Qt (Qa 3) (Qa 4)) (dBf Qau (Qb (Qa 0) Qe)))) (Qm (dOp gEq (Qo (Qa 0) (Qt (Qa 3) (Qa 4))) (Qo (Qa 0) (Qa 3))))) (Qd (Qu 4 (Qt (Qa 4) (dC (.int 1)))) Qg)) (Qd (Qu 5 (Qt (Qt (dBf Qbl (Qb (Qo (Qo (Qa 0) (Qa 3)) (dC (.int 0))) Qe)) (Qa 1)) (dBf Qbl (Qb (Qo (Qo (Qa 0) (Qa 3)) (dC (.int 1))) Qe)))) (Qd (sIf (Qm (dOp gGt (Qa 4) (dC (.int 1)))) (Qd (Qu 5 (Qt (Qt (Qa 5) (dC (.str "*"))) (dBf Qbl (Qb (Qa 4) Qe)))) Qg) Qg) (Qd (QcJ 2 Qai (Qa 5)) (Qd (Qu 3 (Qt (Qa 3) (Qa 4))) Qg))))))) (Qd (QX (Qa 2)) Qg))))
theorem Qrx:QcG (Qr 6 QdX):=λps lane hf hl=>by
 refine Q7 ?_
 refine run_seq (Qi (r:=⟨wdD lane [],true,[]⟩) rfl ?_)
 refine run_seq (Qi (r:=⟨.int 0,true,[]⟩) rfl ?_)
 change Nx _ (.nx [some (Qc ps,false),some (.str (QG lane),true),some (wdD lane [],true),some (.int 0,true),none,none])
 have elen:∀ρ:En,ρ[0]? =some (some (Qc ps,false))->dBf Qau (Qb (Qa 0) Qe) ρ=some ⟨.int ps.length,true,[]⟩:=λρ h=>by
  rw[Qd5 (xs:=ps.map pairD) ((Qa3 h).trans rfl) rfl,Zc]
 refine Qah (P:=λρ=>∃j3 j4 j5,ρ=[some (Qc ps,false),some (.str (QG lane),true),some (wdD lane (runs ps),true),j3,j4,j5]) ?_ ?_
 ·refine QiZ (λn ρ=>∃done k j4 j5,n=ps.length-k/\k<=ps.length/\done.length<=k/\runs ps=done++runs (ps.drop k)/\ρ=[some (Qc ps,false),some (.str (QG lane),true),some (wdD lane done,true),some (.int (k:Nat),true),j4,j5]) ?_ (ps.length-0) _ ⟨[],0,none,none,rfl,by omega,by simp,rfl,rfl⟩
  rintro n ρ ⟨done,k,j4,j5,hn,hk,hd,hr,rfl⟩
  refine⟨decide ((k:Int)<ps.length),Qp (QN (ra:=⟨.int (k:Nat),true,[]⟩) (rb:=⟨.int ps.length,true,[]⟩) rfl (elen _ rfl) rfl) rfl,λh=>?_,λh=>?_⟩
  ·have h:=of_decide_eq_false h
   have hkl:k=ps.length:=by omega
   rw[hkl,Zai (Zj _)]at hr
   have:runs ps=done:=by rw[hr];simp[runs]
   rw[this]
   exact⟨_,_,_,rfl⟩
  ·have hkl:k<ps.length:=by have:=of_decide_eq_true h;omega
   obtain⟨p,hp⟩:∃p,ps[k]? =some p:=⟨_,ZQ hkl⟩
   have hpm:p∈ps:=ZF hp
   obtain⟨⟨a0,a1⟩,b0,b1⟩:=hf p hpm
   refine run_seq (Qi (r:=⟨.int 1,true,[]⟩) rfl ?_)
   change Nx _ (.nx [some (Qc ps,false),some (.str (QG lane),true),some (wdD lane done,true),some (.int (k:Nat),true),some (.int 1,true),j5])
   refine Qah (P:=λρ=>∃o:Nat,k+(o+1)<=ps.length/\ps.drop k=List.replicate (o+1) p++ps.drop (k+(o+1))/\ps[k+(o+1)]? ≠some p/\ρ=[some (Qc ps,false),some (.str (QG lane),true),some (wdD lane done,true),some (.int (k:Nat),true),some (.int ((o+1:Nat):Int),true),j5]) ?_ ?_
   ·refine QiZ (λn ρ=>∃o:Nat,n=ps.length-(k+(o+1))/\k+(o+1)<=ps.length/\ps.drop k=List.replicate (o+1) p++ps.drop (k+(o+1))/\ρ=[some (Qc ps,false),some (.str (QG lane),true),some (wdD lane done,true),some (.int (k:Nat),true),some (.int ((o+1:Nat):Int),true),j5]) ?_ (ps.length-(k+1)) _ ⟨0,rfl,by omega,?_,rfl⟩
    ·rintro n ρ ⟨o,hno,ho,hdr,rfl⟩
     have e1:Qm (dOp gLt (Qt (Qa 3) (Qa 4)) (dBf Qau (Qb (Qa 0) Qe))) [some (Qc ps,false),some (.str (QG lane),true),some (wdD lane done,true),some (.int (k:Nat),true),some (.int ((o+1:Nat):Int),true),j5]=some (decide ((k:Int)+((o+1:Nat):Int)<ps.length)):=Qp (QN (ra:=⟨.int ((k:Int)+((o+1:Nat):Int)),true,[]⟩) (rb:=⟨.int ps.length,true,[]⟩) rfl (elen _ rfl) rfl) rfl
     by_cases hlt:k+(o+1)<ps.length
     ·obtain⟨q,hq⟩:∃q,ps[k+(o+1)]? =some q:=⟨_,ZQ hlt⟩
      refine⟨decide (q=p),(QeF (a:=true) (b:=decide (q=p)) (e1.trans (by rw[decide_eq_true (by omega)])) (Qp (Qsa (QgL (i:=k+(o+1)) (ra:=⟨Qc ps,false,[]⟩) (rb:=⟨.int ((k:Int)+((o+1:Nat):Int)),true,[]⟩) rfl rfl rfl (by show D.int _=D.int _;congr 1) hq) rfl (QgL (i:=k) (ra:=⟨Qc ps,false,[]⟩) (rb:=⟨.int (k:Nat),true,[]⟩) rfl rfl rfl rfl hp) rfl) rfl)).trans (by rw[Zbz]),λh=>?_,λh=>?_⟩
      ·have h:=of_decide_eq_false h
       exact⟨o,ho,hdr,by rw[hq];exact λz=>h (Option.some.inj z),rfl⟩
      ·have h:=of_decide_eq_true h
       subst h
       refine run_seq (Qi (r:=⟨.int ((o+1+1:Nat):Int),true,[]⟩) rfl (Qh ?_))
       refine⟨ps.length-(k+(o+1+1)),by omega,o+1,rfl,by omega,?_,rfl⟩
       have ed:ps.drop (k+(o+1))=q::ps.drop (k+(o+1)+1):=by
        rw[ZL hlt]
        have:ps[k+(o+1)]=q:=by rw[ZQ hlt]at hq;exact Option.some.inj hq
        rw[this]
       rw[hdr,ed,List.replicate_succ' (n:=o+1),ZT];rfl
     ·refine⟨false,?_,λ_=>⟨o,ho,hdr,by rw[ZD (by omega)];exact(λz=>nomatch z),rfl⟩,λh=>by cases h⟩
      unfold QcV
      rw[e1,decide_eq_false (by omega),Za,if_neg (by decide)]
    ·rw[ZL hkl]
     have:ps[k]=p:=by rw[ZQ hkl]at hp;exact Option.some.inj hp
     rw[this];rfl
   ·rintro ρ ⟨o,ho,hdr,hne,rfl⟩
    have ea:=QcN a0 a1
    have eb:=QcN b0 b1
    have ek:=Qc8 (o+1)
    have hkl2:=QdJ (n:=o+1) (k:=4) (by decide) (by omega)
    have ix:∀(w:Option (D×Bool)),Qo (Qa 0) (Qa 3) [some (Qc ps,false),some (.str (QG lane),true),some (wdD lane done,true),some (.int (k:Nat),true),some (.int ((o+1:Nat):Int),true),w]=some ⟨pairD p,true,[]⟩:=λw=>QgL (i:=k) (ra:=⟨Qc ps,false,[]⟩) (rb:=⟨.int (k:Nat),true,[]⟩) rfl rfl rfl rfl hp
    refine run_seq (Qi (QcO (x:=tx [48+p.1.toNat]++QG lane) (y:=tx [48+p.2.toNat]) (QcO (x:=tx [48+p.1.toNat]) (y:=QG lane) (rb:=⟨.str (QG lane),true,[]⟩) (QcM (i:=p.1) (Qu1 (ix _) rfl) rfl (by omega)) (congrArg D.str ea) rfl rfl (show 2<=16000000 by decide)) rfl (QcM (i:=p.2) (QuT (ix _) rfl) rfl (by omega)) (congrArg D.str eb) (show 3<=16000000 by decide)) ?_)
    change Nx _ (.nx [some (Qc ps,false),some (.str (QG lane),true),some (wdD lane done,true),some (.int (k:Nat),true),some (.int ((o+1:Nat):Int),true),some (.str (tx [48+p.1.toNat]++QG lane++tx [48+p.2.toNat]),true)])
    refine Qah (P:=λρ=>ρ=[some (Qc ps,false),some (.str (QG lane),true),some (wdD lane done,true),some (.int (k:Nat),true),some (.int ((o+1:Nat):Int),true),some (.str (rd lane (p,o+1)).t,true)]) ?_ ?_
    ·refine QA (b:=decide (1<((o+1:Nat):Int))) (Qp (QN (ra:=⟨.int ((o+1:Nat):Int),true,[]⟩) (rb:=⟨.int 1,true,[]⟩) rfl rfl rfl) rfl) (λh=>?_) (λh=>Qh ?_)
     ·have h:1<o+1:=by have:=of_decide_eq_true h;omega
      refine run_seq (Qi (QcO (x:=tx [48+p.1.toNat]++QG lane++tx [48+p.2.toNat]++tx [42]) (y:=tx (dig (o+1))) (QcO (x:=tx [48+p.1.toNat]++QG lane++tx [48+p.2.toNat]) (y:=tx [42]) (rb:=⟨.str "*",true,[]⟩) rfl rfl rfl (congrArg D.str QhO) (show 4<=16000000 by decide)) rfl (QcM (i:=((o+1:Nat):Int)) (r:=⟨.int ((o+1:Nat):Int),true,[]⟩) rfl rfl (by omega)) (congrArg D.str ek) (by show 4+_<=_;rw[QbM,QaO];omega)) (Qh ?_))
      show [_,_,_,_,_,_]=[_,_,_,_,_,_]
      have:tx [48+p.1.toNat]++QG lane++tx [48+p.2.toNat]++tx [42]++tx (dig (o+1))=(rd lane (p,o+1)).t:=by
       refine QcR ?_
       show _=(rd lane (p,o+1)).l
       unfold rd Wd.l Wd.sign
       simp only[QeO,QaO,decide_eq_true h,if_true]
       unfold QG
       rw[QaO];rfl
      rw[← this]
     ·have h:o=0:=by have:=of_decide_eq_false h;omega
      subst h
      rfl
    ·rintro ρ rfl
     refine run_seq (QiT (done:=done) (q:=(p,o+1)) (r:=⟨.str (rd lane (p,o+1)).t,true,[]⟩) rfl rfl rfl (by omega) ?_)
     refine run_seq (Qi (r:=⟨.int ((k+(o+1):Nat):Int),true,[]⟩) rfl (Qh ?_))
     refine⟨ps.length-(k+(o+1)),by omega,done++[(p,o+1)],k+(o+1),_,_,rfl,ho,by rw[Zf];simp;omega,?_,rfl⟩
     rw[hr,hdr,Qgw (by rw[List.head?_drop];exact hne),ZT];rfl
 ·rintro ρ ⟨j3,j4,j5,rfl⟩
  refine QF (r:=⟨wdD lane (runs ps),true,[2]⟩) rfl ⟨?_,rfl⟩
  show wdD lane (runs ps)= .lst ((QT lane ps).map λx=> .str x.t)
  unfold wdD QT
  rw[Zaf];rfl
structure Qnv (ps:List (Int×Int)) (l:List ((Int×Int)×Nat)):Prop where
 mem:∀q∈l,q.1∈ps/\1<=q.2/\q.2<=ps.length
 len:l.length<=ps.length
 flat:(l.flatMap λq=>List.replicate q.2 q.1)=ps
theorem Qb9:∀ps:List (Int×Int),Qnv ps (runs ps)
 | []=>⟨λq h=>by simp[runs]at h,by simp[runs],rfl⟩
 | p::r=>by
  have h:=Qb9 r
  unfold runs
  cases e:runs r with
  | nil=>
   rw[e]at h
   have hr:r=[]:=h.flat.symm
   subst hr
   exact⟨λq hq=>by rw[Zk]at hq;rw[hq];simp,by simp,rfl⟩
  | cons qk t=>
   obtain⟨q,k⟩:=qk
   rw[e]at h
   have hq:=h.mem (q,k) (by simp)
   have hl:=h.len
   have up:∀z∈(q,k)::t,z.1∈p::r/\1<=z.2/\z.2<=(p::r).length:=λz hz=>by
    have:=h.mem z hz
    exact⟨Zb _ this.1,this.2.1,by rw[Zr];omega⟩
   show Qnv (p::r) (if q=p then(q,k+1)::t else(p,1)::(q,k)::t)
   by_cases hp:q=p
   ·rw[if_pos hp]
    refine⟨λz hz=>?_,by rw[Zr]at hl ⊢;rw[Zr];omega,?_⟩
    ·rcases Zn.mp hz with rfl | hz
     ·exact⟨Zb _ hq.1,by omega,by rw[Zr];have:=hq.2.2;omega⟩
     ·exact up z (Zb _ hz)
    ·have h3:=h.flat
     rw[List.flatMap_cons]at h3 ⊢
     show List.replicate (k+1) q++_=_
     rw[ZK,ZaC,h3,hp]
   ·rw[if_neg hp]
    refine⟨λz hz=>?_,by rw[Zr]at hl ⊢;rw[Zr,Zr];omega,?_⟩
    ·rcases Zn.mp hz with rfl | hz
     ·exact⟨by simp,by omega,by rw[Zr];omega⟩
     ·exact up z hz
    ·rw[List.flatMap_cons,h.flat];rfl
theorem QqF{ps:List (Int×Int)}(hf:QbH ps)(hl:ps.length<=40)(lane:Bool):∀x∈QT lane ps,x.Ok:=λx hx=>by
 obtain⟨q,hq,rfl⟩:=ZA.mp hx
 obtain⟨h1,h2,h3⟩:=(Qb9 ps).mem q hq
 obtain⟨⟨a0,a1⟩,b0,b1⟩:=hf q.1 h1
 refine⟨show q.1.1.toNat<10 by omega,show q.1.2.toNat<10 by omega,?_⟩
 show if decide (1<q.2)=true then 2<=q.2/\q.2<=40 else q.2=1
 by_cases h:1<q.2
 ·rw[if_pos (decide_eq_true h)];omega
 ·rw[if_neg (by rw[decide_eq_false h];decide)];omega
theorem Qkd{α β:Type}{f g:α->List β}:∀{l:List α},(∀x∈l,f x=g x)->l.flatMap f=l.flatMap g
 | [],_=>rfl
 | x::l,h=>by rw[List.flatMap_cons,List.flatMap_cons,h x (by simp),Qkd λy hy=>h y (Zb _ hy)]
theorem QtT{ps:List (Int×Int)}(hf:QbH ps)(lane:Bool):((QT lane ps).flatMap λx=>List.replicate x.k x.p)=ps:=by
 conv=>rhs;rw[← (Qb9 ps).flat]
 unfold QT
 rw[List.flatMap_map]
 refine Qkd λq hq=>?_
 obtain⟨⟨a0,a1⟩,b0,b1⟩:=hf q.1 ((Qb9 ps).mem q hq).1
 show List.replicate q.2 ((q.1.1.toNat:Int),(q.1.2.toNat:Int))=_
 rw[ZS a0,ZS b0]
theorem Qma{ps:List (Int×Int)}{lane:Bool}:∀x∈QT lane ps,x.lane=lane:=λx hx=>by
 obtain⟨q,hq,rfl⟩:=ZA.mp hx
 rfl
theorem Qp9{R L:List (Int×Int)}(hR:QbH R)(hL:QbH L):QS (QT false R++QT true L)=R/\QU (QT false R++QT true L)=L:=by
 have f1:∀(ps:List (Int×Int)) (lane:Bool) (f:Wd->Bool),(∀x:Wd,x.lane=lane->f x=true)->(QT lane ps).filter f=QT lane ps:=λps lane f h=>List.filter_eq_self.mpr λx hx=>h x (Qma x hx)
 have f0:∀(ps:List (Int×Int)) (lane:Bool) (f:Wd->Bool),(∀x:Wd,x.lane=lane->f x=false)->(QT lane ps).filter f=[]:=λps lane f h=>Zbm.mpr λx hx=>by rw[h x (Qma x hx)];decide
 unfold QS QU
 rw[ZN,ZN,f1 R false (λx=> !x.lane) (λx h=>by rw[h];rfl),f0 L true (λx=> !x.lane) (λx h=>by rw[h];rfl),f0 R false (λx=>x.lane) (λx h=>h),f1 L true (λx=>x.lane) (λx h=>h),Zam,Zbr]
 exact⟨QtT hR false,QtT hL true⟩
noncomputable def QQ(R L:List (Int×Int)):List Wd:=QT false R++QT true L
theorem Qej{R L:List (Int×Int)}(hR:QbH R)(hL:QbH L)(hl:R.length+L.length<=40):∀x∈QQ R L,x.Ok:=λx hx=>by
 rcases Zy.mp hx with hx | hx
 ·exact QqF hR (by omega) false x hx
 ·exact QqF hL (by omega) true x hx
theorem Qhl{R L:List (Int×Int)}:(QQ R L).length<=R.length+L.length:=by
 have h1:=(Qb9 R).len
 have h2:=(Qb9 L).len
 unfold QQ QT
 rw[Zf,Zc,Zc];omega
theorem Qku{dw:Den}(hw:QcG dw){fm fn:DE}{ρ:En}{rm rn:R}{m:Nat}{R L:List (Int×Int)}(hm:fm ρ=some rm)(em:rm.d= .int m)(hn:fn ρ=some rn)(en:rn.d=Ql m R L)(m10:m<10)(hR:QbH R)(hL:QbH L)(hl:R.length+L.length<=40):
  Qt (Qt (Qaa (Qb (dBf Qbl (Qb fm Qe)) Qe)) (Qv 2 dw [] (Qb (Qo fn (dC (.int 1))) (Qb (dC (.str "-")) Qe)))) (Qv 2 dw [] (Qb (Qo fn (dC (.int 2))) (Qb (dC (.str ">")) Qe))) ρ=some ⟨.lst ((Qs m (QQ R L)).map .str),true,[]⟩:=by
 obtain⟨i0,i1,i2⟩:=Qcy hn en
 have h1:=(Qb9 R).len
 have h2:=(Qb9 L).len
 have e1:dw [Qc R,.str (Str.ofString "-")]=some (.lst (((QT false R).map Wd.t).map .str),true):=by
  rw[Qfy];have:=hw R false hR (by omega);rw[Zaf];exact this
 have e2:dw [Qc L,.str (Str.ofString ">")]=some (.lst (((QT true L).map Wd.t).map .str),true):=by
  rw[Qho];have:=hw L true hL (by omega);rw[Zaf];exact this
 have l1:((QT false R).map Wd.t).length=(runs R).length:=by unfold QT;rw[Zc,Zc]
 have l2:((QT true L).map Wd.t).length=(runs L).length:=by unfold QT;rw[Zc,Zc]
 refine(Qit (A:=[QH m]++(QT false R).map Wd.t) (B:=(QT true L).map Wd.t) (Qit (A:=[QH m]) (B:=(QT false R).map Wd.t) (ra:=⟨.lst [.str (QH m)],true,[]⟩) ?_ rfl (Qy (Qn i1 (Qn (QcK _ _) (QJ _))) e1 rfl) rfl (by rw[l1];simp;omega)) rfl (Qy (Qn i2 (Qn (QcK _ _) (QJ _))) e2 rfl) rfl (by rw[Zf,l1,l2];simp;omega)).trans ?_
 ·exact(Qg9 (Qn (QcM (i:=m) hm em (by omega)) (QJ _)) (show 1<=64 by decide)).trans rfl
 ·unfold Qs QQ
  rw[Zz (f:=Wd.t),ZT];rfl
theorem Qhf{m:Nat}{R L:List (Int×Int)}(hl:R.length+L.length<=40):(Qs m (QQ R L)).length<=1000:=by
 have:=Qhl (R:=R) (L:=L)
 unfold Qs
 rw[Zr,Zc];omega
noncomputable def Qhg(Qbk:Den):DS:=(Qd (Qu 1 (Qt (Qt (Qaa (Qb (dBf Qbl (Qb (Qo (Qa 0) (dC (.int 0))) Qe)) Qe)) (Qv 2 Qbk [] (Qb (Qo (Qa 0) (dC (.int 1))) (Qb (dC (.str "-")) Qe)))) (Qv 2 Qbk [] (Qb (Qo (Qa 0) (dC (.int 2))) (Qb (dC (.str ">")) Qe))))) (Qd (QX (dM1 Qe6 (dC (.str " ")) (Qb (Qa 1) Qe))) Qg))
def Qf0(d:Den):Prop:=∀(m:Nat) (R L:List (Int×Int)),m<10->QbH R->QbH L->R.length+L.length<=40->d [Ql m R L]=some (.str (Q2 m (QQ R L)),true)
theorem Qm9{dw:Den}(hw:QcG dw):Qf0 (Qr 2 (Qhg dw)):=λm R L m10 hR hL hl=>by
 refine Q7 ?_
 refine run_seq (Qi (Qku hw (fn:=Qa 0) (rn:=⟨Ql m R L,false,[]⟩) (ρ:=Qbc 2 [Ql m R L]) (Qcy (r:=⟨Ql m R L,false,[]⟩) rfl rfl).1 rfl rfl rfl m10 hR hL hl) ?_)
 change Nx _ (.nx [some (Ql m R L,false),some (.lst ((Qs m (QQ R L)).map .str),true)])
 exact QF (QgI (ts:=Qs m (QQ R L)) (ra:=⟨.lst ((Qs m (QQ R L)).map .str),true,[1]⟩) rfl rfl (Qhf hl) (QdA m10 (Qej hR hL hl))) ⟨rfl,rfl⟩
noncomputable def wqD(x:(Int×Int×Bool)×Nat):D:= .tup [.int x.1.1,.int x.1.2.1,.bl x.1.2.2,.int x.2]
noncomputable def Q0(ws:List ((Int×Int×Bool)×Nat)):List (Int×Int×Bool):=ws.flatMap λx=>List.replicate x.2 x.1
theorem QrF{fa fb:DE}{ρ:En}{r:R}{n:Nat}{s:Int×Int×Bool}(ha:fa ρ=some ⟨.lst [Qcd s],true,[]⟩)(h:fb ρ=some r)(e:r.d= .int n)(hn:n<=1000):Qaq fa fb ρ=some ⟨QM (List.replicate n s),true,[]⟩:=by
 unfold Qaq
 rw[ha,Za,h,Za,e]
 dsimp only
 rw[if_pos ⟨by simp[Qdf];omega,by omega,by omega,rfl⟩]
 simp only[ZE,QdI]
 unfold QM
 rw[List.map_replicate,List.map_const',ZG]
theorem QbF(ws:List ((Int×Int×Bool)×Nat))(x:(Int×Int×Bool)×Nat):Q0 (ws++[x])=Q0 ws++List.replicate x.2 x.1:=by
 unfold Q0
 rw[List.flatMap_append];simp
theorem QiR{ws:List ((Int×Int×Bool)×Nat)}{i:Nat}:(Q0 (ws.take i)).length<=(Q0 ws).length:=by
 conv=>rhs;rw[(Zat i ws).symm]
 unfold Q0
 rw[List.flatMap_append,Zf];omega
noncomputable def Qed:DS:=(Qd (Qu 1 (Qaa Qe)) (Qd (Qa6 (QZ (Qa 0)) (.tp [2,3,4,5]) (Qd (Qu 1 (Qt (Qa 1) (Qaq (Qaa (Qb (QaI (Qb (Qa 2) (Qb (Qa 3) (Qb (Qa 4) Qe)))) Qe)) (Qa 5)))) Qg)) (Qd (QX (Qa 1)) Qg)))
def QjE(d:Den):Prop:=∀ws:List ((Int×Int×Bool)×Nat),(Q0 ws).length<=1000->(∀x∈ws,x.2<=1000)->d [.lst (ws.map wqD)]=some (QM (Q0 ws),true)
theorem QuB:QjE (Qr 6 Qed):=λws hl hk=>by
 refine Q7 ?_
 refine run_seq (Qi (r:=⟨QM [],true,[]⟩) rfl ?_)
 change Nx _ (.nx [some (.lst (ws.map wqD),false),some (QM [],true),none,none,none,none])
 refine Qah (P:=λρ=>∃j2 j3 j4 j5,ρ=[some (.lst (ws.map wqD),false),some (QM (Q0 ws),true),j2,j3,j4,j5]) ?_ ?_
 ·refine QaA (toD:=wqD) ws (λi ρ=>∃j2 j3 j4 j5,ρ=[some (.lst (ws.map wqD),false),some (QM (Q0 (ws.take i)),true),j2,j3,j4,j5]) (Qal (xs:=ws.map wqD) (r:=⟨.lst (ws.map wqD),false,[]⟩) rfl rfl) rfl ⟨none,none,none,none,rfl⟩ ?_ ?_
  ·rintro i x ρ hi ⟨j2,j3,j4,j5,rfl⟩
   have et:ws.take (i+1)=ws.take i++[x]:=by rw[Zbx,hi];rfl
   have hx:=hk x (ZF hi)
   have hlt:=QiR (ws:=ws) (i:=i)
   refine⟨[some (.lst (ws.map wqD),false),some (QM (Q0 (ws.take i)),true),some (.int x.1.1,true),some (.int x.1.2.1,true),some (.bl x.1.2.2,true),some (.int x.2,true)],rfl,?_⟩
   refine run_seq (Qi (Qq8 (A:=Q0 (ws.take i)) (B:=List.replicate x.2 x.1) (ra:=⟨QM (Q0 (ws.take i)),true,[1]⟩) rfl rfl (QrF (n:=x.2) (s:=x.1) (r:=⟨.int x.2,true,[]⟩) rfl rfl rfl hx) rfl (by rw[ZM];omega)) (Qh ⟨some (.int x.1.1,true),some (.int x.1.2.1,true),some (.bl x.1.2.2,true),some (.int x.2,true),?_⟩))
   rw[et,QbF];rfl
  ·rintro ρ ⟨j2,j3,j4,j5,rfl⟩
   rw[Zar]
   exact⟨j2,j3,j4,j5,rfl⟩
 ·rintro ρ ⟨j2,j3,j4,j5,rfl⟩
  exact QF (r:=⟨QM (Q0 ws),true,[1]⟩) rfl ⟨rfl,rfl⟩
def QhW(d:Den):Prop:=∀(m:Nat) (W:List (Int×Int×Bool)) (room:Int),m<=1000->W.length<=100000->(∀w∈W,GoodW m w)->d [.int m,QM W,.int room]=some (.bl (decide (spr (Qad W) m<=room)),true)
theorem QpI:QhW (Qr 9 Qfh):=λm W room hm hl hg=>by
 refine Q7 ?_
 refine run_seq (Qi (QnR (n:=m+1) (Qar (a:=(m:Int)) (b:=1) rfl rfl rfl rfl) rfl (by omega)) ?_)
 rw[QaL]
 refine Qah (P:=λρ=>∃f j3 j4 j5,(∀k,f k=Qad W k)/\ρ=[some (.int m,true),some (QM W,false),some (.int room,true),some (Qas (m+1) f,true),j3,j4,j5,none,none]) ?_ ?_
 ·refine QaA (toD:=Qcd) W (λi ρ=>∃f j3 j4 j5,(∀k,f k=Qad (W.take i) k)/\ρ=[some (.int m,true),some (QM W,false),some (.int room,true),some (Qas (m+1) f,true),j3,j4,j5,none,none]) (ir:=⟨W.map Qcd,[]⟩) rfl rfl ⟨λ_=>0,none,none,none,λk=>rfl,rfl⟩ ?_ ?_
  ·rintro i w ρ hi ⟨f,j3,j4,j5,hf,rfl⟩
   obtain⟨⟨h1,h2,h3,h4,h5⟩,h6⟩:=hg w (ZF hi)
   have h1:0<=w.1:=h1
   have h2:0<=w.2.1:=h2
   have et:W.take (i+1)=W.take i++[w]:=by rw[ZaY,hi];rfl
   refine⟨_,rfl,?_⟩
   refine run_seq (QlB (i:=w.1) rfl rfl h1 (by omega) ?_)
   refine run_seq (QA (b:= !w.2.2) (Qbx (Qp (b:=w.2.2) rfl rfl)) (λhb=>run_seq (QlB (i:=w.2.1) rfl rfl h2 (by omega) (Qh (Qh ⟨_,_,_,_,λk=>?_,rfl⟩)))) (λhb=>Qh (Qh ⟨_,_,_,_,λk=>?_,rfl⟩)))
   ·have hb:w.2.2=false:=by simpa using hb
    rw[et,Qfb,Qk3 h2,Qk3 h1,hf k]
    unfold Qcz
    rw[hb,if_neg ZH];omega
   ·have hb:w.2.2=true:=by simpa using hb
    rw[et,Qfb,Qk3 h1,hf k]
    unfold Qcz
    rw[hb,if_pos rfl];omega
  ·rintro ρ ⟨f,j3,j4,j5,hf,rfl⟩
   rw[Zar]at hf
   exact⟨f,j3,j4,j5,hf,rfl⟩
 rintro ρ ⟨f,j3,j4,j5,hf,rfl⟩
 refine run_seq (Qi (r:=⟨.int 1,true,[]⟩) rfl ?_)
 rw[QaL]
 refine Qah (P:=λρ=>∃j7,ρ=[some (.int m,true),some (QM W,false),some (.int room,true),some (Qas (m+1) f,true),j3,j4,j5,some (.int (spr f m),true),j7]) ?_ ?_
 ·refine QaA (toD:=λ(k:Nat)=> .int (f k)) (List.range m) (λi ρ=>∃j7,ρ=[some (.int m,true),some (QM W,false),some (.int room,true),some (Qas (m+1) f,true),j3,j4,j5,some (.int (spr f i),true),j7]) (Qal (QrN (m:=m+1) (n:=m) (f:=f) rfl rfl rfl rfl (by omega)) rfl) rfl ⟨none,rfl⟩ ?_ ?_
  ·rintro i i' ρ hi ⟨j7,rfl⟩
   have hi':i<m/\i=i':=by
    obtain⟨h1,h2⟩:=Zd.mp hi
    simp at h1 h2;exact⟨h1,h2⟩
   obtain⟨him,rfl⟩:=hi'
   have b:=QfS i W
   refine⟨_,rfl,?_⟩
   refine run_seq (Qi (QcY (a:=spr f i) (b:=f i) (ra:=⟨.int (spr f i),true,[]⟩) rfl rfl (rb:=⟨.int (f i),true,[]⟩) rfl rfl (QeQ (by rw[hf i];omega))) (Qh ?_))
   rw[QaL]
   exact⟨_,rfl⟩
  ·rintro ρ ⟨j7,rfl⟩
   rw[ZG]
   exact⟨_,rfl⟩
 rintro ρ ⟨j7,rfl⟩
 refine QF (QN (d:= .bl (decide (spr f m<=room))) (ra:=⟨.int (spr f m),true,[]⟩) (rb:=⟨.int room,true,[]⟩) rfl rfl rfl) ⟨?_,rfl⟩
 rw[Qel λi _=>hf i]
noncomputable def QdP(QW:Den)(QbU:Den)(QY:Den)(QbT:Den):DS:=(Qd (Qu 2 (dOp QaH (dOp QdO (Qv 2 QW [] (Qb (Qa 0) (Qb (dC (.int 1)) Qe))) (dC (.int 6))) (dC (.int 1000003)))) (Qd (Qu 3 (dOp QaH (Qv 2 QW [] (Qb (Qa 0) (Qb (dC (.int 1)) Qe))) (dC (.int 6)))) (Qd (Qu 5 (Qax (QZ (Qv 3 QbU [] (Qb (Qa 1) (Qb (Qa 2) (Qb (Qa 3) Qe))))) (.tp [1,2,3]) [none,none,none,none] Qb3 (QaI (Qb (Qa 1) (Qb (Qa 2) (Qb (Qa 3) (Qb (dC (.int 1)) Qe))))))) (Qd (Qa6 (QZ (Qa8 (Qa 0) (Q4 (dC (.int 2))) (Q4 (dC (.int 22))))) (.nm 6) (Qd (Qu 7 (dOp QaH (Qaq (Qa 6) (dC (.int 48271))) (dC (.int 2147483647)))) (Qd (Qu 8 (dOp QaH (Qa 7) (Qt (Qa 1) (dC (.int 1))))) (Qd (Qu 9 (dOp QaH (Qt (Qt (Qa 8) (dC (.int 1))) (dOp QaH (dOp QdO (Qa 7) (dC (.int 9))) (Qa 1))) (Qt (Qa 1) (dC (.int 1))))) (Qd (Qu 4 (Qdv (dOp gLt (Qa 8) (Qa 1)) (dOr (dOp gEq (Qa 3) (dC (.int 2))) (Qdv (dOp gEq (Qa 3) (dC (.int 3))) (dOp gEq (dOp QaH (dOp QdO (Qa 7) (dC (.int 72))) (dC (.int 3))) (dC (.int 1))))))) (Qd (Qu 10 (dOp Qev (dC (.int 40)) (dBf Qau (Qb (Qv 1 QY [] (Qb (Qa 5) Qe)) Qe)))) (Qd (Qu 11 (Qb8 (Qo (Qaa (Qb (Qt (dC (.int 1)) (dOp QaH (dOp QdO (Qa 7) (dC (.int 64))) (dC (.int 3)))) (Qb (Qt (dC (.int 1)) (dOp QaH (dOp QdO (Qa 7) (dC (.int 64))) (dC (.int 40)))) Qe))) (dBf Qkk (Qb (dOp gEq (dOp QaH (Qa 7) (dC (.int 5))) (dC (.int 1))) Qe))))) (Qd (Qu 12 (QaI (Qb (Qa 8) (Qb (Qa 9) (Qb (Qa 4) (Qb (dBf Qb6 (Qb (Qa 11) (Qb (Qa 10) Qe))) Qe)))))) (Qd (Qu 13 (Qdv (dOp gNe (Qa 3) (dC (.int 2))) (dOp gNe (Qa 3) (dC (.int 3))))) (Qd (sIf (QbK (Qm (Qa 13))) (Qd (Qu 13 (Qv 3 QbT [] (Qb (Qa 1) (Qb (Qv 1 QY [] (Qb (Qt (Qa 5) (Qaa (Qb (Qa 12) Qe))) Qe)) (Qb (dC (.int 300)) Qe))))) Qg) Qg) (Qd (sIf (QcV (Qm (dOp gGt (Qa 10) (dC (.int 0)))) (Qm (Qa 13))) (Qd (QcJ 5 Qai (Qa 12)) Qg) Qg) Qg))))))))))) (Qd (QX (Qa 5)) Qg)))))
structure Wds (m:Nat) (t kind:Int) (ws:List ((Int×Int×Bool)×Nat)):Prop where
 each:∀x∈ws,GoodW m x.1/\1<=x.2/\x.2<=40
 few:(Q0 ws).length<=40
 base:∀w∈QaK m t kind,w∈Q0 ws
 fits:kind=2∨kind=3->spr (Qad (Q0 ws)) m<=300
 roads:¬(kind=2∨kind=3)->∀x∈ws,x.1.2.2=false
theorem QgR{ws:List ((Int×Int×Bool)×Nat)}{w:Int×Int×Bool}(h:w∈Q0 ws):∃x∈ws,x.1=w:=by
 obtain⟨x,hx,hw⟩:=List.mem_flatMap.mp h
 exact⟨x,hx,(List.eq_of_mem_replicate hw).symm⟩
theorem Wds.QkV{m:Nat}{t kind:Int}{ws:List ((Int×Int×Bool)×Nat)}(h:Wds m t kind ws):Qee m (Q0 ws) where
 good:=λw hw=>by obtain⟨x,hx,rfl⟩:=QgR hw;exact(h.each x hx).1
 few:=h.few
 esc:=QoT.mono h.base
 small:=by
  by_cases hk:kind=2∨kind=3
  ·exact .inr (h.fits hk)
  ·exact .inl (Qj2 λw hw=>by obtain⟨x,hx,rfl⟩:=QgR hw;exact h.roads hk x hx)
theorem QgY(m:Nat)(t kind:Int):Q0 ((QaK m t kind).map λw=>(w,1))=QaK m t kind:=by
 unfold Q0
 rw[List.flatMap_map]
 induction QaK m t kind with
 | nil=>rfl
 | cons w l ih=>rw[List.flatMap_cons,ih];rfl
theorem QpF{m:Nat}{t kind:Int}(m0:0<m)(m8:m<=8):Wds m t kind ((QaK m t kind).map λw=>(w,1)) where
 each:=λx hx=>by obtain⟨w,hw,rfl⟩:=ZA.mp hx;exact⟨Qpq w hw,by simp,by simp⟩
 few:=by rw[QgY,QgV];omega
 base:=λw hw=>by rw[QgY];exact hw
 fits:=λ_=>by rw[QgY];exact Qn1 m0 m8
 roads:=λhk x hx=>by
  obtain⟨w,hw,rfl⟩:=ZA.mp hx
  obtain⟨k,_,rfl⟩:=ZA.mp hw
  show(decide (kind=2) || (decide (kind=3) && _))=false
  rw[decide_eq_false λz=>hk (.inl z),decide_eq_false λz=>hk (.inr z)];rfl
theorem QpX{fa fb:DE}{ρ:En}{ra rb:R}{A:List ((Int×Int×Bool)×Nat)}{x:(Int×Int×Bool)×Nat}(ha:fa ρ=some ra)(ea:ra.d= .lst (A.map wqD))(hb:fb ρ=some rb)(eb:rb.d= .lst [wqD x])(hl:A.length<=1000):Qt fa fb ρ=some ⟨.lst ((A++[x]).map wqD),true,[]⟩:=by
 unfold Qt
 rw[ha,Za,hb,Za,ea,eb]
 show(if _ then some (Qab (A.map wqD++[x].map wqD) (ra.M++rb.M))else none)=_
 rw[if_pos (by rw[Zc,QaJ];simp;omega),← Zz]
 unfold Qab
 rw[if_pos (QaG (λ_=>rfl) _)]
def Qfu(d:Den):Prop:=∀(ns:List Int) (m:Nat),ns.length<=63->0<m->m<=8->∃ws,d [.lst (ns.map .int),.int m]=some (.lst (ws.map wqD),true)/\Qee m (Q0 ws)/\(∀x∈ws,GoodW m x.1/\1<=x.2/\x.2<=40)/\ws.length<=100
theorem Qmp{dc db de df:Den}(hc:Qhw dc)(hb:QkD db)(he:QjE de)(hf:QhW df):Qfu (Qr 14 (QdP dc db de df)):=λns m hl m0 m8=>by
 have cell:∀(ρ:En),ρ[0]? =some (some (.lst (ns.map .int),false))->Qv 2 dc [] (Qb (Qa 0) (Qb (dC (.int 1)) Qe)) ρ=some ⟨.int (ns.getD 1 0),true,[]⟩:=λρ h0=>Qy (Qn (Qa3 h0) (Qn (QcK _ _) (QJ _))) (hc ns 1) rfl
 have t0:=ZW (ns.getD 1 0 / 6) (by decide:(1000003:Int)≠0)
 have t1:=Zab (ns.getD 1 0 / 6) (by decide:(0:Int)<1000003)
 have key:Run (QdP dc db de df) (Qbc 14 [.lst (ns.map .int),.int m]) (Rt λd fr=>∃ws,d= .lst (ws.map wqD)/\fr=true/\Qee m (Q0 ws)/\(∀x∈ws,GoodW m x.1/\1<=x.2/\x.2<=40)/\ws.length<=100):=by
  refine run_seq (Qi (Qan (a:=ns.getD 1 0 / 6) (b:=1000003) (Qdj (a:=ns.getD 1 0) (b:=6) (cell _ rfl) rfl rfl rfl (by decide) (by decide)) rfl rfl rfl (by decide)) ?_)
  rw[QaL]
  generalize ns.getD 1 0 / 6 % 1000003=t at t0 t1
  refine run_seq (Qi (Qan (a:=ns.getD 1 0) (b:=6) (cell _ rfl) rfl rfl rfl (by decide)) ?_)
  rw[QaL]
  generalize ns.getD 1 0 % 6=kind
  change Run _ [some (.lst (ns.map .int),false),some (.int m,true),some (.int t,true),some (.int kind,true),none,none,none,none,none,none,none,none,none,none] _
  refine run_seq (Qi (r:=⟨.lst (((QaK m t kind).map λw=>(w,1)).map wqD),true,[]⟩) ?_ ?_)
  ·have:=Qcg (fi:=QZ (Qv 3 db [] (Qb (Qa 1) (Qb (Qa 2) (Qb (Qa 3) Qe))))) (t:= .tp [1,2,3]) (cap:=[none,none,none,none]) (fe:=QaI (Qb (Qa 1) (Qb (Qa 2) (Qb (Qa 3) (Qb (dC (.int 1)) Qe))))) (ρ:=[some (.lst (ns.map .int),false),some (.int m,true),some (.int t,true),some (.int kind,true),none,none,none,none,none,none,none,none,none,none]) (toD:=Qcd) (out:=λw=>wqD (w,1)) (QaK m t kind) (Qal (xs:=(QaK m t kind).map Qcd) (Qy (r:=⟨[.int m,.int t,.int kind],true,[]⟩) rfl (hb m t kind m0 (by omega) t0 (by omega)) rfl) rfl) rfl λw hw=>⟨[none,some (.int w.1,true),some (.int w.2.1,true),some (.bl w.2.2,true)],rfl,⟨wqD (w,1),true,[]⟩,rfl,rfl,rfl⟩
   rw[this,Zaf];rfl
  change Nx _ (.nx [some (.lst (ns.map .int),false),some (.int m,true),some (.int t,true),some (.int kind,true),none,some (.lst (((QaK m t kind).map λw=>(w,1)).map wqD),true),none,none,none,none,none,none,none,none])
  refine Qah (P:=λρ=>∃ws j4 j6 j7 j8 j9 j10 j11 j12 j13,Wds m t kind ws/\ws.length<=8+20/\ρ=[some (.lst (ns.map .int),false),some (.int m,true),some (.int t,true),some (.int kind,true),j4,some (.lst ((ws).map wqD),true),j6,j7,j8,j9,j10,j11,j12,j13]) ?_ ?_
  ·obtain⟨cs,lcs,ecs⟩:∃cs:List Int,cs.length<=20/\Qa8 (Qa 0) (Q4 (dC (.int 2))) (Q4 (dC (.int 22))) [some (.lst (ns.map .int),false),some (.int m,true),some (.int t,true),some (.int kind,true),none,some (.lst (((QaK m t kind).map λw=>(w,1)).map wqD),true),none,none,none,none,none,none,none,none]=some ⟨QaF cs,true,[]⟩:=⟨_,by rw[ZaB];omega,QqZ (cs:=ns) (a:=2) (b:=22) (ra:=⟨QaF ns,false,[]⟩) (rl:=⟨.int 2,true,[]⟩) (rh:=⟨.int 22,true,[]⟩) rfl rfl rfl rfl rfl rfl⟩
   refine QaA (toD:=D.int) cs (λi ρ=>∃ws j4 j6 j7 j8 j9 j10 j11 j12 j13,Wds m t kind ws/\ws.length<=8+i/\ρ=[some (.lst (ns.map .int),false),some (.int m,true),some (.int t,true),some (.int kind,true),j4,some (.lst ((ws).map wqD),true),j6,j7,j8,j9,j10,j11,j12,j13]) (Qal (xs:=cs.map D.int) ecs rfl) rfl ⟨_,none,none,none,none,none,none,none,none,none,QpF m0 m8,by rw[Zc,QgV];omega,rfl⟩ ?_ ?_
   ·rintro i c ρ hi ⟨ws,j4,j6,j7,j8,j9,j10,j11,j12,j13,hW,hlen,rfl⟩
    have hil:i<cs.length:=(Zd.mp hi).1
    refine⟨[some (.lst (ns.map .int),false),some (.int m,true),some (.int t,true),some (.int kind,true),j4,some (.lst ((ws).map wqD),true),some (.int c,true),j7,j8,j9,j10,j11,j12,j13],rfl,?_⟩
    refine run_seq (Qi (Qan (QcY rfl rfl rfl rfl (QeQ (by decide))) rfl rfl rfl (by decide)) ?_)
    change Nx _ (.nx [some (.lst (ns.map .int),false),some (.int m,true),some (.int t,true),some (.int kind,true),j4,some (.lst ((ws).map wqD),true),some (.int c,true),some (.int (QI c),true),j8,j9,j10,j11,j12,j13])
    refine run_seq (Qi (Qan (a:=QI c) (b:=(m:Int)+1) rfl rfl (Qar (a:=(m:Int)) (b:=1) rfl rfl rfl rfl) rfl (by omega)) ?_)
    change Nx _ (.nx [some (.lst (ns.map .int),false),some (.int m,true),some (.int t,true),some (.int kind,true),j4,some (.lst ((ws).map wqD),true),some (.int c,true),some (.int (QI c),true),some (.int (mStart m c),true),j9,j10,j11,j12,j13])
    refine run_seq (Qi (Qan (a:=mStart m c+1+QI c / 9 % m) (b:=(m:Int)+1) (Qar (Qar (a:=mStart m c) (b:=1) rfl rfl rfl rfl) rfl (Qan (a:=QI c / 9) (b:=(m:Int)) (Qdj (a:=QI c) (b:=9) rfl rfl rfl rfl (by decide) (by decide)) rfl rfl rfl (by omega)) rfl) rfl (Qar (a:=(m:Int)) (b:=1) rfl rfl rfl rfl) rfl (by omega)) ?_)
    change Nx _ (.nx [some (.lst (ns.map .int),false),some (.int m,true),some (.int t,true),some (.int kind,true),j4,some (.lst ((ws).map wqD),true),some (.int c,true),some (.int (QI c),true),some (.int (mStart m c),true),some (.int (Qdu m c),true),j10,j11,j12,j13])
    refine run_seq (Qi (r:=⟨.bl (QaB m kind c).2.2,true,[]⟩) (Qd0 (QN rfl rfl rfl) (Qql (QbD (a:=kind) (b:=2) rfl rfl rfl rfl) (Qd0 (QbD (a:=kind) (b:=3) rfl rfl rfl rfl) (QbD (a:=QI c / 72 % 3) (b:=1) (Qan (Qdj (a:=QI c) (b:=72) rfl rfl rfl rfl (by decide) (by decide)) rfl rfl rfl (by decide)) rfl rfl rfl)))) ?_)
    change Nx _ (.nx [some (.lst (ns.map .int),false),some (.int m,true),some (.int t,true),some (.int kind,true),some (.bl (QaB m kind c).2.2,true),some (.lst ((ws).map wqD),true),some (.int c,true),some (.int (QI c),true),some (.int (mStart m c),true),some (.int (Qdu m c),true),j10,j11,j12,j13])
    have h40:=hW.few
    have k40:∀x∈ws,x.2<=1000:=λx hx=>by have:=(hW.each x hx).2.2;omega
    obtain⟨r,hr⟩:∃r:Nat,r=40-(Q0 ws).length:=⟨_,rfl⟩
    refine run_seq (Qi (r:=⟨.int (r:Nat),true,[]⟩) ?_ ?_)
    ·refine(Qsv (a:=40) (b:=(Q0 ws).length) (ra:=⟨.int 40,true,[]⟩) rfl rfl (Qd5 (xs:=(Q0 ws).map Qcd) (Qy (r:=⟨[.lst (ws.map wqD)],true,[5]⟩) rfl (he ws (by omega) k40) rfl) rfl) (by rw[Zc])).trans ?_
     rw[show((40:Int)-(Q0 ws).length)=((r:Nat):Int) by omega]
    change Nx _ (.nx [some (.lst (ns.map .int),false),some (.int m,true),some (.int t,true),some (.int kind,true),some (.bl (QaB m kind c).2.2,true),some (.lst ((ws).map wqD),true),some (.int c,true),some (.int (QI c),true),some (.int (mStart m c),true),some (.int (Qdu m c),true),some (.int ((r:Nat):Int),true),j11,j12,j13])
    have n0:0<=QI c:=by unfold QI;omega
    obtain⟨o,ho1,ho2,eo⟩:∃o:Nat,1<=o/\o<=40/\[1+QI c / 64 % 3,1+QI c / 64 % 40][((if decide (QI c % 5=1)=true then 1 else 0:Int)).toNat]? =some (o:Int):=by
     by_cases h5:QI c % 5=1
     ·exact⟨(1+QI c / 64 % 40).toNat,by omega,by omega,by rw[decide_eq_true h5,if_pos rfl];show some _=some _;congr 1;omega⟩
     ·exact⟨(1+QI c / 64 % 3).toNat,by omega,by omega,by rw[decide_eq_false h5,if_neg (by decide)];show some _=some _;congr 1;omega⟩
    refine run_seq (Qi (QpB (Ql6 (ra:=⟨.lst ([1+QI c / 64 % 3,1+QI c / 64 % 40].map .int),true,[]⟩) (ns:=[1+QI c / 64 % 3,1+QI c / 64 % 40]) (rb:=⟨.int (if decide (QI c % 5=1)=true then 1 else 0),true,[]⟩) ?_ rfl (Qfs (QbD (a:=QI c % 5) (b:=1) (Qan (a:=QI c) (b:=5) rfl rfl rfl rfl (by decide)) rfl rfl rfl) rfl) rfl (by split<;>decide) eo)) ?_)
    ·exact(Qg9 (Qn (Qar (a:=1) (b:=QI c / 64 % 3) rfl rfl (Qan (a:=QI c / 64) (b:=3) (Qdj (a:=QI c) (b:=64) rfl rfl rfl rfl (by decide) (by decide)) rfl rfl rfl (by decide)) rfl) (Qn (Qar (a:=1) (b:=QI c / 64 % 40) rfl rfl (Qan (a:=QI c / 64) (b:=40) (Qdj (a:=QI c) (b:=64) rfl rfl rfl rfl (by decide) (by decide)) rfl rfl rfl (by decide)) rfl) (QJ _))) (show 2<=64 by decide)).trans rfl
    change Nx _ (.nx [some (.lst (ns.map .int),false),some (.int m,true),some (.int t,true),some (.int kind,true),some (.bl (QaB m kind c).2.2,true),some (.lst ((ws).map wqD),true),some (.int c,true),some (.int (QI c),true),some (.int (mStart m c),true),some (.int (Qdu m c),true),some (.int ((r:Nat):Int),true),some (.int ((o:Nat):Int),true),j12,j13])
    refine run_seq (Qi (r:=⟨wqD (QaB m kind c,min o r),true,[]⟩) ?_ ?_)
    ·show some (HS.R.mk (.tup [.int (mStart m c),.int (Qdu m c),.bl (QaB m kind c).2.2,.int (if((r:Nat):Int)<((o:Nat):Int)then(r:Nat)else(o:Nat))]) true [])=_
     have:(if((r:Nat):Int)<((o:Nat):Int)then((r:Nat):Int)else((o:Nat):Int))=((min o r:Nat):Int):=by split<;>omega
     rw[this];rfl
    change Nx _ (.nx [some (.lst (ns.map .int),false),some (.int m,true),some (.int t,true),some (.int kind,true),some (.bl (QaB m kind c).2.2,true),some (.lst ((ws).map wqD),true),some (.int c,true),some (.int (QI c),true),some (.int (mStart m c),true),some (.int (Qdu m c),true),some (.int ((r:Nat):Int),true),some (.int ((o:Nat):Int),true),some (wqD (QaB m kind c,min o r),true),j13])
    refine run_seq (Qi (r:=⟨.bl (!decide (kind=2) && !decide (kind=3)),true,[]⟩) (Qd0 (QfB (a:=kind) (b:=2) rfl rfl rfl rfl) (QfB (a:=kind) (b:=3) rfl rfl rfl rfl)) ?_)
    change Nx _ (.nx [some (.lst (ns.map .int),false),some (.int m,true),some (.int t,true),some (.int kind,true),some (.bl (QaB m kind c).2.2,true),some (.lst ((ws).map wqD),true),some (.int c,true),some (.int (QI c),true),some (.int (mStart m c),true),some (.int (Qdu m c),true),some (.int ((r:Nat):Int),true),some (.int ((o:Nat):Int),true),some (wqD (QaB m kind c,min o r),true),some (.bl (!decide (kind=2) && !decide (kind=3)),true)])
    have en:Q0 (ws++[(QaB m kind c,min o r)])=Q0 ws++List.replicate (min o r) (QaB m kind c):=QbF ws _
    have gw:=Qny m0 kind c
    have ln:(Q0 (ws++[(QaB m kind c,min o r)])).length<=40:=by rw[en,Zf,ZM];omega
    have gn:∀x∈Q0 (ws++[(QaB m kind c,min o r)]),GoodW m x:=λx hx=>by
     rw[en]at hx
     rcases Zy.mp hx with hx | hx
     ·obtain⟨y,hy,rfl⟩:=QgR hx;exact(hW.each y hy).1
     ·rw[List.eq_of_mem_replicate hx];exact gw
    refine Qah (P:=λρ=>∃b:Bool,(b=true->(kind=2∨kind=3->spr (Qad (Q0 (ws++[(QaB m kind c,min o r)]))) m<=300))/\ρ=[some (.lst (ns.map .int),false),some (.int m,true),some (.int t,true),some (.int kind,true),some (.bl (QaB m kind c).2.2,true),some (.lst ((ws).map wqD),true),some (.int c,true),some (.int (QI c),true),some (.int (mStart m c),true),some (.int (Qdu m c),true),some (.int ((r:Nat):Int),true),some (.int ((o:Nat):Int),true),some (wqD (QaB m kind c,min o r),true),some (.bl b,true)]) ?_ ?_
    ·refine QA (b:= !(!decide (kind=2) && !decide (kind=3))) (Qbx (Qp (b:= !decide (kind=2) && !decide (kind=3)) rfl rfl)) (λ_=>?_) (λh=>Qh ⟨!decide (kind=2) && !decide (kind=3),λh=>?_,rfl⟩)
     ·refine run_seq (Qi (Qy (r:=⟨[.int m,QM (Q0 (ws++[(QaB m kind c,min o r)])),.int 300],true,[]⟩) (Qn (r:=⟨.int m,true,[]⟩) rfl (Qn (Qy (r:=⟨[.lst ((ws++[(QaB m kind c,min o r)]).map wqD)],true,[]⟩) (Qn (r:=⟨.lst ((ws++[(QaB m kind c,min o r)]).map wqD),true,[]⟩) ?_ (QJ _)) (he _ (by omega) ?_) rfl) (Qn (QcK _ _) (QJ _)))) (hf m _ 300 (by omega) (by omega) gn) rfl) (Qh ⟨_,λh _=>of_decide_eq_true h,rfl⟩))
      ·show Qt (Qa 5) (Qaa (Qb (Qa 12) Qe)) _=some ⟨.lst ((ws++[(QaB m kind c,min o r)]).map wqD),true,[]⟩
       refine QpX (ra:=⟨.lst (ws.map wqD),true,[5]⟩) rfl rfl rfl rfl (by omega)
      ·intro x hx
       rcases Zy.mp hx with hx | hx
       ·exact k40 x hx
       ·rw[Zk]at hx;rw[hx];show min o r<=1000;omega
     ·intro hk
      rcases hk with rfl | rfl<;>simp at h
    ·rintro ρ ⟨b,hbf,rfl⟩
     refine run_seq (QA (b:=decide ((0:Int)<((r:Nat):Int)) && b) (QeF (Qp (QN rfl rfl rfl) rfl) (Qp rfl rfl)) (λh=>?_) (λ_=>Qh (Qh ⟨ws,_,_,_,_,_,_,_,_,_,hW,by omega,rfl⟩)))
     simp only[Zh,decide_eq_true_eq]at h
     obtain⟨hr0,hb⟩:=h
     refine run_seq (Qf4 (xs:=ws.map wqD) (r:=⟨wqD (QaB m kind c,min o r),true,[]⟩) rfl rfl rfl (by rw[Zc];omega) (Qh (Qh ⟨ws++[(QaB m kind c,min o r)],some (.bl (QaB m kind c).2.2,true),some (.int c,true),some (.int (QI c),true),some (.int (mStart m c),true),some (.int (Qdu m c),true),some (.int ((r:Nat):Int),true),some (.int ((o:Nat):Int),true),some (wqD (QaB m kind c,min o r),true),some (.bl b,true),?_,by rw[Zf];simp;omega,?_⟩)))
     ·refine⟨λx hx=>?_,ln,λx hx=>?_,hbf hb,λhk x hx=>?_⟩
      ·rcases Zy.mp hx with hx | hx
       ·exact hW.each x hx
       ·rw[Zk]at hx;rw[hx];exact⟨gw,show 1<=min o r by omega,show min o r<=40 by omega⟩
      ·rw[en];exact Zi _ (hW.base x hx)
      ·rcases Zy.mp hx with hx | hx
       ·exact hW.roads hk x hx
       ·rw[Zk]at hx;rw[hx]
        show(decide _ && (decide (kind=2) || (decide (kind=3) && _)))=false
        rw[decide_eq_false λz=>hk (.inl z),decide_eq_false λz=>hk (.inr z)];simp
     ·rw[Zz];rfl
   ·rintro ρ ⟨ws,j4,j6,j7,j8,j9,j10,j11,j12,j13,hW,hlen,rfl⟩
    exact⟨ws,j4,j6,j7,j8,j9,j10,j11,j12,j13,hW,by omega,rfl⟩
  ·rintro ρ ⟨ws,j4,j6,j7,j8,j9,j10,j11,j12,j13,hW,hlen,rfl⟩
   exact QF (r:=⟨.lst (ws.map wqD),true,[5]⟩) rfl ⟨ws,rfl,rfl,hW.QkV,hW.each,by omega⟩
 obtain⟨o,h1,h2⟩:=key
 cases o with
 | rt d fr=>
  obtain⟨ws,rfl,rfl,hs⟩:=h2
  exact⟨ws,by unfold Qr;rw[h1];rfl,hs⟩
 | _=>exact False.elim h2
theorem Qn2{x:Nat}{m:Int}{A B:List (Int×Int)}{s:Int×Int}{fa:DE}{ρ:En}{Q:Out->Prop}(hx:ρ[x]? =some (some (Ql m A B,true)))(ha:fa ρ=some ⟨pairD s,true,[]⟩)(hl:A.length<1000)(q:Q (.nx (ρ.set x (some (Ql m (A++[s]) B,true))))):Run (QcJ x (Qdw Qai (dC (.int 1))) fa) ρ Q:=by
 refine⟨_,?_,q⟩
 unfold QcJ
 rw[hx]
 have hp:Qdw Qai (dC (.int 1)) ρ=some [1]:=rfl
 have hd:Qbo (.tup [.int m,.lst (A.map pairD),Qc B]) [1]=some (.lst (A.map pairD)):=rfl
 have hu:∀d,QaP [1] (.tup [.int m,.lst (A.map pairD),Qc B]) d= .tup [.int m,d,Qc B]:=λd=>rfl
 have hn:(HS.R.mk (pairD s) true []).norm=⟨pairD s,true,[]⟩:=rfl
 have e:Ql m (A++[s]) B= .tup [.int m,.lst (A.map pairD++[pairD s]),Qc B]:=by unfold Ql Qc;rw[Zz];rfl
 have e0:Ql m A B= .tup [.int m,.lst (A.map pairD),Qc B]:=rfl
 rw[e]
 simp only[hp,Za,ha,e0,hd,Qhp,hn,Qdf,Zc,hu]
 rw[if_pos (by simp;omega)]
 rfl
noncomputable def QdQ:DS:=(Qd (sIf (bOr (QbK (Qm (QcT "list" (Qa 0)))) (Qm (dOp gNe (dBf Qau (Qb (Qa 0) Qe)) (dBf Qau (Qb (Qa 1) Qe))))) (Qd (QX (dC (.bl false))) Qg) Qg) (Qd (Qa6 (Qm2 (Qa 0) (Qa 1)) (.tp [2,3]) (Qd (sIf (bOr (QbK (Qm (QcT "tuple" (Qa 2)))) (bOr (Qm (dOp gNe (dBf Qau (Qb (Qa 2) Qe)) (dC (.int 2)))) (Qm (dOp gNe (Qa 2) (Qa 3))))) (Qd (QX (dC (.bl false))) Qg) Qg) (Qd (sIf (bOr (QbK (Qm (QcT "int" (Qo (Qa 2) (dC (.int 0)))))) (Qm (QcT "bool" (Qo (Qa 2) (dC (.int 0)))))) (Qd (QX (dC (.bl false))) Qg) Qg) (Qd (sIf (bOr (QbK (Qm (QcT "int" (Qo (Qa 2) (dC (.int 1)))))) (Qm (QcT "bool" (Qo (Qa 2) (dC (.int 1)))))) (Qd (QX (dC (.bl false))) Qg) Qg) Qg)))) (Qd (QX (dC (.bl true))) Qg)))
theorem Qmw:QgS (Qr 4 QdQ):=λA=>by
 refine Q7 ?_
 refine QC (QA (b:=false) (Qa2 (a:=false) (b:=false) (Qbx (b:=true) (Qp (b:=true) rfl rfl)) (QpS (xs:=A.map pairD) (ra:=⟨Qc A,false,[]⟩) (rb:=⟨Qc A,false,[]⟩) rfl rfl rfl rfl)) (λh=>by cases h) (λ_=>Qh ?_))
 refine QC (QaA (toD:=λs=> .tup [pairD s,pairD s]) A (λ_ ρ=>∃j2 j3,ρ=[some (Qc A,false),some (Qc A,false),j2,j3]) (ir:=⟨Qff (A.map pairD) (A.map pairD),[]⟩) rfl (Qky pairD A) ⟨none,none,rfl⟩ ?_ ?_)
 ·rintro i s ρ hi ⟨j2,j3,rfl⟩
  refine⟨[some (Qc A,false),some (Qc A,false),some (pairD s,true),some (pairD s,true)],rfl,?_⟩
  refine QC (QA (b:=false) (Qa2 (a:=false) (b:=false) (Qbx (b:=true) (Qp (b:=true) rfl rfl)) (Qa2 (a:=false) (b:=false) (Qp (b:=false) rfl rfl) (Qp (b:=false) (Qk6 (d:=pairD s) (ra:=⟨pairD s,true,[]⟩) rfl rfl (rb:=⟨pairD s,true,[]⟩) rfl rfl rfl) rfl))) (λh=>by cases h) (λ_=>Qh ?_))
  refine QC (QA (b:=false) (Qa2 (a:=false) (b:=false) (Qbx (b:=true) (Qp (b:=true) rfl rfl)) (Qp (b:=false) rfl rfl)) (λh=>by cases h) (λ_=>Qh ?_))
  refine QC (QA (b:=false) (Qa2 (a:=false) (b:=false) (Qbx (b:=true) (Qp (b:=true) rfl rfl)) (Qp (b:=false) rfl rfl)) (λh=>by cases h) (λ_=>Qh (Qh ⟨_,_,rfl⟩)))
 ·rintro ρ ⟨j2,j3,rfl⟩
  exact QF (r:=⟨.bl true,true,[]⟩) rfl ⟨rfl,rfl⟩
noncomputable def Qfk(Qa0:Den):DS:=(Qd (sIf (bOr (QbK (Qm (QcT "tuple" (Qa 0)))) (bOr (Qm (dOp gNe (dBf Qau (Qb (Qa 0) Qe)) (dC (.int 3)))) (bOr (QbK (Qm (QcT "int" (Qo (Qa 0) (dC (.int 0)))))) (Qm (QcT "bool" (Qo (Qa 0) (dC (.int 0)))))))) (Qd (QX (dC (.bl false))) Qg) Qg) (Qd (QX (Qdv (dOp gEq (Qo (Qa 0) (dC (.int 0))) (Qo (Qa 1) (dC (.int 0)))) (Qdv (Qv 2 Qa0 [] (Qb (Qo (Qa 0) (dC (.int 1))) (Qb (Qo (Qa 1) (dC (.int 1))) Qe))) (Qv 2 Qa0 [] (Qb (Qo (Qa 0) (dC (.int 2))) (Qb (Qo (Qa 1) (dC (.int 2))) Qe)))))) Qg))
def QiC(d:Den):Prop:=∀(m:Int) (R L:List (Int×Int)),d [Ql m R L,Ql m R L]=some (.bl true,true)
theorem QpZ{dp:Den}(hp:QgS dp):QiC (Qr 2 (Qfk dp)):=λm R L=>by
 have it:=Qcy (fa:=Qa 0) (ρ:=[some (Ql m R L,false),some (Ql m R L,false)]) (m:=m) (R:=R) (L:=L) (r:=⟨Ql m R L,false,[]⟩) rfl rfl
 have it':=Qcy (fa:=Qa 1) (ρ:=[some (Ql m R L,false),some (Ql m R L,false)]) (m:=m) (R:=R) (L:=L) (r:=⟨Ql m R L,false,[]⟩) rfl rfl
 refine Q7 ?_
 refine QC (QA (b:=false) (Qa2 (a:=false) (b:=false) (Qbx (b:=true) (Qp (b:=true) rfl rfl)) (Qa2 (a:=false) (b:=false) (Qp (b:=false) rfl rfl) (Qa2 (a:=false) (b:=false) (Qbx (b:=true) (Qp (b:=true) rfl rfl)) (Qp (b:=false) rfl rfl)))) (λh=>by cases h) (λ_=>Qh ?_))
 refine QF ((Qd0 (a:=decide (m=m)) (b:=true && true) (QbD it.1 rfl it'.1 rfl) (Qd0 (a:=true) (b:=true) (Qy (r:=⟨[Qc R,Qc R],false,[]⟩) (Qn it.2.1 (Qn it'.2.1 (QJ _))) (hp _) rfl) (Qy (r:=⟨[Qc L,Qc L],false,[]⟩) (Qn it.2.2 (Qn it'.2.2 (QJ _))) (hp _) rfl))).trans (by rw[decide_eq_true rfl])) ⟨rfl,rfl⟩
theorem QmH(a b:List Wd):QS (a++b)=QS a++QS b:=by unfold QS;rw[ZN,List.flatMap_append]
theorem Qmh(a b:List Wd):QU (a++b)=QU a++QU b:=by unfold QU;rw[ZN,List.flatMap_append]
theorem Qki(k:Nat)(v:Wd)(hv:v.k=1):(List.replicate k v).flatMap (λx=>List.replicate x.k x.p)=List.replicate k v.p:=by
 induction k with
 | zero=>rfl
 | succ k ih=>rw[ZK,List.flatMap_cons,ih,hv];rfl
theorem Qm7(k:Nat)(v:Wd)(hv:v.k=1):QS (List.replicate k v)=if v.lane=true then []else List.replicate k v.p:=by
 unfold QS
 rw[List.filter_replicate]
 cases h:v.lane
 ·exact Qki k v hv
 ·rfl
theorem Qnc(k:Nat)(v:Wd)(hv:v.k=1):QU (List.replicate k v)=if v.lane=true then List.replicate k v.p else []:=by
 unfold QU
 rw[List.filter_replicate]
 cases h:v.lane
 ·rfl
 ·exact Qki k v hv
theorem Qgl(W:List (Int×Int×Bool))(k:Nat)(w:Int×Int×Bool):QO (W++List.replicate k w)=QO W++if w.2.2=true then []else List.replicate k (QbN w):=by
 unfold QO
 rw[ZN,Zz,List.filter_replicate]
 cases h:w.2.2
 ·show _++(List.replicate k w).map QbN=_
  rw[List.map_replicate];rfl
 ·rfl
theorem Qgj(W:List (Int×Int×Bool))(k:Nat)(w:Int×Int×Bool):QP (W++List.replicate k w)=QP W++if w.2.2=true then List.replicate k (Qd1 w)else []:=by
 unfold QP
 rw[ZN,Zz,List.filter_replicate]
 cases h:w.2.2
 ·rfl
 ·show _++(List.replicate k w).map Qd1=_
  rw[List.map_replicate];rfl
theorem Qrk{fa fb:DE}{ρ:En}{r:R}{n:Nat}{s:Str}(ha:fa ρ=some ⟨.lst [.str s],true,[]⟩)(h:fb ρ=some r)(e:r.d= .int n)(hn:n<=1000):Qaq fa fb ρ=some ⟨.lst ((List.replicate n s).map .str),true,[]⟩:=by
 unfold Qaq
 rw[ha,Za,h,Za,e]
 dsimp only
 rw[if_pos ⟨by simp[Qdf];omega,by omega,by omega,rfl⟩]
 simp only[ZE,QdI]
 rw[List.map_replicate,List.map_const',ZG]
theorem QoU(a b:Int):nrm (b,a)=nrm (a,b):=by
 unfold nrm
 dsimp only
 refine Prod.ext ?_ ?_
 ·show(if a<b then a else b)=if b<a then b else a
  split<;>split<;>omega
 ·show(if a>b then a else b)=if b>a then b else a
  split<;>split<;>omega
structure One (w:Int×Int×Bool) (v:Wd):Prop where
 a:v.a<10
 b:v.b<10
 k:v.k=1
 st:v.star=false
 lane:v.lane=w.2.2
 p:nrm v.p=QbN w
 q:w.2.2=true->v.p=Qd1 w
theorem QuS{a b:Nat}{lane:Bool}:(Wd.mk a b lane 1 false).t=tx [48+a]++QG lane++tx [48+b]:=by cases lane<;>rfl
noncomputable def Qcb:DS:=(Qd (Qu 3 (Qaa (Qb (dBf Qbl (Qb (Qa 0) Qe)) Qe))) (Qd (Qu 4 (dC (.int 0))) (Qd (Qa6 (QZ (Qa 1)) (.tp [5,6,7,8]) (Qd (Qu 9 (dOp QaH (Qaq (Qt (Qt (Qa 2) (Qaq (Qa 4) (Qa 4))) (dC (.int 7))) (dC (.int 69621))) (dC (.int 2147483647)))) (Qd (Qu 10 (Qt (Qt (dBf Qbl (Qb (Qa 5) Qe)) (dC (.str "-"))) (dBf Qbl (Qb (Qa 6) Qe)))) (Qd (sIf (Qm (dOp gEq (dOp QaH (dOp QdO (Qa 9) (dC (.int 16))) (dC (.int 2))) (dC (.int 1)))) (Qd (Qu 10 (Qt (Qt (dBf Qbl (Qb (Qa 6) Qe)) (dC (.str "-"))) (dBf Qbl (Qb (Qa 5) Qe)))) Qg) Qg) (Qd (sIf (Qm (Qa 7)) (Qd (Qu 10 (Qt (Qt (dBf Qbl (Qb (Qa 5) Qe)) (dC (.str ">"))) (dBf Qbl (Qb (Qa 6) Qe)))) Qg) Qg) (Qd (sIf (QcV (Qm (dOp gGt (Qa 8) (dC (.int 1)))) (Qm (dOp gGt (dOp QaH (dOp QdO (Qa 9) (dC (.int 32))) (dC (.int 3))) (dC (.int 0))))) (Qd (QcJ 3 Qai (Qt (Qt (Qa 10) (dC (.str "*"))) (dBf Qbl (Qb (Qa 8) Qe)))) Qg) (Qd (Qu 3 (Qt (Qa 3) (Qaq (Qaa (Qb (Qa 10) Qe)) (Qa 8)))) Qg)) (Qd (Qu 4 (Qt (Qa 4) (dC (.int 1)))) Qg))))))) (Qd (QX (dM1 Qe6 (dC (.str " ")) (Qb (Qa 3) Qe))) Qg))))
def Qeu(d:Den):Prop:=∀(m:Nat) (ws:List ((Int×Int×Bool)×Nat)) (cell:Int),0<m->m<=8->(∀x∈ws,GoodW m x.1/\1<=x.2/\x.2<=40)->ws.length<=100->(Q0 ws).length<=40→
 ∃wds:List Wd,d [.int m,.lst (ws.map wqD),.int cell]=some (.str (Q2 m wds),true)/\(∀x∈wds,x.Ok)/\wds.length<=40/\(QS wds).map nrm=QO (Q0 ws)/\QU wds=QP (Q0 ws)
structure Wr (ws:List ((Int×Int×Bool)×Nat)) (wds:List Wd):Prop where
 ok:∀x∈wds,x.Ok
 few:wds.length<=(Q0 ws).length
 roads:(QS wds).map nrm=QO (Q0 ws)
 lanes:QU wds=QP (Q0 ws)
theorem Wr.star{ws:List ((Int×Int×Bool)×Nat)}{wds:List Wd}{x:(Int×Int×Bool)×Nat}{v:Wd}(h:Wr ws wds)(o:One x.1 v)(h2:2<=x.2)(h40:x.2<=40):Wr (ws++[x]) (wds++[⟨v.a,v.b,v.lane,x.2,true⟩]):=by
 have hf:=h.few
 refine⟨λy hy=>?_,by rw[QbF,Zf,Zf,ZM];simp;omega,?_,?_⟩
 ·rcases Zy.mp hy with hy | hy
  ·exact h.ok y hy
  ·rw[Zk]at hy;rw[hy];exact⟨o.a,o.b,⟨h2,h40⟩⟩
 ·rw[QbF,Qet,Qgl,Zz,h.roads]
  show _++List.map nrm (if v.lane=true then []else List.replicate x.2 v.p)=_
  rw[o.lane]
  split
  ·rfl
  ·rw[List.map_replicate,o.p]
 ·rw[QbF,Qem,Qgj,h.lanes]
  show _++(if v.lane=true then List.replicate x.2 v.p else [])=_
  rw[o.lane]
  split
  ·rename_i hl;rw[o.q hl]
  ·rfl
theorem Wr.Qwm{ws:List ((Int×Int×Bool)×Nat)}{wds:List Wd}{x:(Int×Int×Bool)×Nat}{v:Wd}(h:Wr ws wds)(o:One x.1 v):Wr (ws++[x]) (wds++List.replicate x.2 v):=by
 have hf:=h.few
 refine⟨λy hy=>?_,by rw[QbF,Zf,Zf,ZM,ZM];omega,?_,?_⟩
 ·rcases Zy.mp hy with hy | hy
  ·exact h.ok y hy
  ·rw[List.eq_of_mem_replicate hy];exact⟨o.a,o.b,by rw[o.st];exact o.k⟩
 ·rw[QbF,QmH,Qm7 _ _ o.k,Qgl,Zz,h.roads,o.lane]
  split
  ·rfl
  ·rw[List.map_replicate,o.p]
 ·rw[QbF,Qmh,Qnc _ _ o.k,Qgj,h.lanes,o.lane]
  split
  ·rename_i hl;rw[o.q hl]
  ·rfl
theorem Qke:Qeu (Qr 11 Qcb):=λm ws cell m0 m8 hw hl hx=>by
 have key:Run Qcb (Qbc 11 [.int m,.lst (ws.map wqD),.int cell]) (Rt λd fr=>∃wds,d= .str (Q2 m wds)/\fr=true/\Wr ws wds):=by
  refine run_seq (Qi (r:=⟨.lst ((Qs m []).map .str),true,[]⟩) ((Qg9 (Qn (QcM (i:=m) (r:=⟨.int m,true,[]⟩) rfl rfl (by omega)) (QJ _)) (show 1<=64 by decide)).trans rfl) ?_)
  refine run_seq (Qi (r:=⟨.int 0,true,[]⟩) rfl ?_)
  change Nx _ (.nx [some (.int m,true),some (.lst (ws.map wqD),false),some (.int cell,true),some (.lst ((Qs m []).map .str),true),some (.int (0:Nat),true),none,none,none,none,none,none])
  refine Qah (P:=λρ=>∃wds k j5 j6 j7 j8 j9 j10,Wr ws wds/\ρ=[some (.int m,true),some (.lst (ws.map wqD),false),some (.int cell,true),some (.lst ((Qs m wds).map .str),true),some (.int (k:Nat),true),j5,j6,j7,j8,j9,j10]) ?_ ?_
  ·refine QaA (toD:=wqD) ws (λi ρ=>∃wds j5 j6 j7 j8 j9 j10,Wr (ws.take i) wds/\ρ=[some (.int m,true),some (.lst (ws.map wqD),false),some (.int cell,true),some (.lst ((Qs m wds).map .str),true),some (.int (i:Nat),true),j5,j6,j7,j8,j9,j10]) (Qal (xs:=ws.map wqD) (r:=⟨.lst (ws.map wqD),false,[]⟩) rfl rfl) rfl ⟨[],none,none,none,none,none,none,⟨λx h=>by simp at h,by simp,rfl,rfl⟩,rfl⟩ ?_ ?_
   ·rintro i x ρ hi ⟨wds,j5,j6,j7,j8,j9,j10,hW,rfl⟩
    have hil:i<ws.length:=(Zd.mp hi).1
    obtain⟨⟨⟨a0,b0,a1,b1,ab⟩,_⟩,k1,k40⟩:=hw x (ZF hi)
    have a0:0<=x.1.1:=a0
    have b0:0<=x.1.2.1:=b0
    have a1:x.1.1<=m:=a1
    have b1:x.1.2.1<=m:=b1
    have et:ws.take (i+1)=ws.take i++[x]:=by rw[Zbx,hi];rfl
    have hlt:=QiR (ws:=ws) (i:=i)
    have hfw:=hW.few
    have ea:=QcN a0 (by omega)
    have eb:=QcN b0 (by omega)
    refine⟨[some (.int m,true),some (.lst (ws.map wqD),false),some (.int cell,true),some (.lst ((Qs m wds).map .str),true),some (.int (i:Nat),true),some (.int x.1.1,true),some (.int x.1.2.1,true),some (.bl x.1.2.2,true),some (.int (x.2:Nat),true),j9,j10],rfl,?_⟩
    refine run_seq (Qi (Qan (a:=(cell+(i:Int)*i+7)*69621) (b:=2147483647) (QcY (Qar (Qar (a:=cell) (b:=(i:Int)*i) rfl rfl (QcY (a:=(i:Int)) (b:=(i:Int)) rfl rfl rfl rfl (Qf6 (by omega))) rfl) rfl rfl rfl) rfl rfl rfl (QeQ (by decide))) rfl rfl rfl (by decide)) ?_)
    generalize (cell+(i:Int)*i+7)*69621 % 2147483647=n
    change Nx _ (.nx [some (.int m,true),some (.lst (ws.map wqD),false),some (.int cell,true),some (.lst ((Qs m wds).map .str),true),some (.int (i:Nat),true),some (.int x.1.1,true),some (.int x.1.2.1,true),some (.bl x.1.2.2,true),some (.int (x.2:Nat),true),some (.int n,true),j10])
    have two:∀(f1 f2:DE) (lane:Bool) (t':Str) (p q:Int) (ρ:En),f1 ρ=some ⟨.int p,true,[]⟩->f2 ρ=some ⟨.int q,true,[]⟩->0<=p->p<10->0<=q->q<10->t'=QG lane->Qt (Qt (dBf Qbl (Qb f1 Qe)) (dC (.str t'))) (dBf Qbl (Qb f2 Qe)) ρ=some ⟨.str (Wd.mk p.toNat q.toNat lane 1 false).t,true,[]⟩:=λf1 f2 lane t' p q ρ e1 e2 p0 p1 q0 q1 et=>by
     rw[QuS,et]
     exact QcO (x:=tx [48+p.toNat]++QG lane) (y:=tx [48+q.toNat]) (QcO (x:=tx [48+p.toNat]) (y:=QG lane) (QcM (i:=p) e1 rfl (by omega)) (congrArg D.str (QcN p0 p1)) (QcK _ _) rfl (show 2<=16000000 by decide)) rfl (QcM (i:=q) e2 rfl (by omega)) (congrArg D.str (QcN q0 q1)) (show 3<=16000000 by decide)
    refine run_seq (Qi (two (Qa 5) (Qa 6) false "-" x.1.1 x.1.2.1 _ rfl rfl a0 (by omega) b0 (by omega) Qfy) ?_)
    change Nx _ (.nx [some (.int m,true),some (.lst (ws.map wqD),false),some (.int cell,true),some (.lst ((Qs m wds).map .str),true),some (.int (i:Nat),true),some (.int x.1.1,true),some (.int x.1.2.1,true),some (.bl x.1.2.2,true),some (.int (x.2:Nat),true),some (.int n,true),some (.str (Wd.mk x.1.1.toNat x.1.2.1.toNat false 1 false).t,true)])
    refine Qah (P:=λρ=>∃a b:Int,((a=x.1.1/\b=x.1.2.1)∨(a=x.1.2.1/\b=x.1.1))/\ρ=[some (.int m,true),some (.lst (ws.map wqD),false),some (.int cell,true),some (.lst ((Qs m wds).map .str),true),some (.int (i:Nat),true),some (.int x.1.1,true),some (.int x.1.2.1,true),some (.bl x.1.2.2,true),some (.int (x.2:Nat),true),some (.int n,true),some (.str (Wd.mk a.toNat b.toNat false 1 false).t,true)]) ?_ ?_
    ·refine QA (b:=decide (n / 16 % 2=1)) (Qp (QbD (a:=n / 16 % 2) (b:=1) (Qan (a:=n / 16) (b:=2) (Qdj (a:=n) (b:=16) rfl rfl rfl rfl (by decide) (by decide)) rfl rfl rfl (by decide)) rfl rfl rfl) rfl) (λ_=>?_) (λ_=>Qh ⟨_,_,.inl ⟨rfl,rfl⟩,rfl⟩)
     exact run_seq (Qi (two (Qa 6) (Qa 5) false "-" x.1.2.1 x.1.1 _ rfl rfl b0 (by omega) a0 (by omega) Qfy) (Qh ⟨x.1.2.1,x.1.1,.inr ⟨rfl,rfl⟩,rfl⟩))
    rintro ρ ⟨a,b,hab,rfl⟩
    refine Qah (P:=λρ=>∃v:Wd,One x.1 v/\ρ=[some (.int m,true),some (.lst (ws.map wqD),false),some (.int cell,true),some (.lst ((Qs m wds).map .str),true),some (.int (i:Nat),true),some (.int x.1.1,true),some (.int x.1.2.1,true),some (.bl x.1.2.2,true),some (.int (x.2:Nat),true),some (.int n,true),some (.str v.t,true)]) ?_ ?_
    ·refine QA (b:=x.1.2.2) (Qp rfl rfl) (λh=>?_) (λh=>Qh ⟨⟨a.toNat,b.toNat,false,1,false⟩,?_,rfl⟩)
     ·refine run_seq (Qi (two (Qa 5) (Qa 6) true ">" x.1.1 x.1.2.1 _ rfl rfl a0 (by omega) b0 (by omega) Qho) (Qh ⟨⟨x.1.1.toNat,x.1.2.1.toNat,true,1,false⟩,?_,rfl⟩))
      have hp:(Wd.mk x.1.1.toNat x.1.2.1.toNat true 1 false).p=(x.1.1,x.1.2.1):=by
       show((x.1.1.toNat:Int),(x.1.2.1.toNat:Int))=_
       rw[ZS a0,ZS b0]
      exact⟨show x.1.1.toNat<10 by omega,show x.1.2.1.toNat<10 by omega,rfl,rfl,h.symm,by rw[hp];rfl,λ_=>hp⟩
     ·have hp:(Wd.mk a.toNat b.toNat false 1 false).p=(a,b):=by
       show((a.toNat:Int),(b.toNat:Int))=_
       rw[ZS (by omega),ZS (by omega)]
      refine⟨show a.toNat<10 by omega,show b.toNat<10 by omega,rfl,rfl,h.symm,?_,λz=>by rw[h]at z;cases z⟩
      rw[hp]
      rcases hab with⟨rfl,rfl⟩ | ⟨rfl,rfl⟩
      ·rfl
      ·exact QoU _ _
    rintro ρ ⟨v,hv,rfl⟩
    have hvt:v.t=tx [48+v.a,v.sign,48+v.b]:=by
     unfold Wd.t Wd.l
     rw[hv.st];rfl
    refine Qah (P:=λρ=>∃wds',Wr (ws.take i++[x]) wds'/\ρ=[some (.int m,true),some (.lst (ws.map wqD),false),some (.int cell,true),some (.lst ((Qs m wds').map .str),true),some (.int (i:Nat),true),some (.int x.1.1,true),some (.int x.1.2.1,true),some (.bl x.1.2.2,true),some (.int (x.2:Nat),true),some (.int n,true),some (.str v.t,true)]) ?_ ?_
    ·refine QA (b:=decide ((1:Int)<(x.2:Nat)) && decide ((0:Int)<n / 32 % 3)) (QeF (Qp (QN rfl rfl rfl) rfl) (Qp (QN (ra:=⟨.int (n / 32 % 3),true,[]⟩) (Qan (a:=n / 32) (b:=3) (Qdj (a:=n) (b:=32) rfl rfl rfl rfl (by decide) (by decide)) rfl rfl rfl (by decide)) rfl rfl) rfl)) (λh=>?_) (λ_=>?_)
     ·simp only[Zh,decide_eq_true_eq]at h
      have h2:2<=x.2:=by omega
      have hst:v.t++tx [42]++tx (dig x.2)=(Wd.mk v.a v.b v.lane x.2 true).t:=by
       rw[hvt]
       exact QcR (by rw[QeO,QeO];rfl)
      have hdl:=QdJ (n:=x.2) (k:=2) (by decide) (by omega)
      refine run_seq (Qf4 (xs:=(Qs m wds).map .str) (r:=⟨.str (v.t++tx [42]++tx (dig x.2)),true,[]⟩) rfl (QcO (x:=v.t++tx [42]) (y:=tx (dig x.2)) (QcO (x:=v.t) (y:=tx [42]) (rb:=⟨.str "*",true,[]⟩) rfl rfl rfl (congrArg D.str QhO) (by rw[hvt];exact(show 4<=16000000 by decide))) rfl (QcM (i:=(x.2:Nat)) (r:=⟨.int (x.2:Nat),true,[]⟩) rfl rfl (by omega)) (congrArg D.str (Qc8 x.2)) (by rw[hvt];show 4+_<=_;rw[QbM,QaO];omega)) rfl (by rw[Zc];unfold Qs;rw[Zr,Zc];omega) (Qh ⟨wds++[⟨v.a,v.b,v.lane,x.2,true⟩],hW.star hv h2 k40,?_⟩))
      rw[hst]
      unfold Qs
      rw[Zz,Zo,Zo,Zz];rfl
     ·refine run_seq (Qi (Qit (A:=Qs m wds) (B:=List.replicate x.2 v.t) (ra:=⟨.lst ((Qs m wds).map .str),true,[3]⟩) rfl rfl (Qrk (n:=x.2) (s:=v.t) (r:=⟨.int (x.2:Nat),true,[]⟩) rfl rfl rfl (by omega)) rfl (by rw[ZM];unfold Qs;rw[Zr,Zc];omega)) (Qh ⟨wds++List.replicate x.2 v,hW.Qwm hv,?_⟩))
      have:Qs m (wds++List.replicate x.2 v)=Qs m wds++List.replicate x.2 v.t:=by
       unfold Qs
       rw[Zz,List.map_replicate];rfl
      rw[this];rfl
    rintro ρ ⟨wds',hW',rfl⟩
    refine run_seq (Qi (r:=⟨.int ((i+1:Nat):Int),true,[]⟩) rfl (Qh ⟨wds',some (.int x.1.1,true),some (.int x.1.2.1,true),some (.bl x.1.2.2,true),some (.int (x.2:Nat),true),some (.int n,true),some (.str v.t,true),?_,rfl⟩))
    rw[et];exact hW'
   ·rintro ρ ⟨wds,j5,j6,j7,j8,j9,j10,hW,rfl⟩
    rw[Zar]at hW
    exact⟨wds,ws.length,j5,j6,j7,j8,j9,j10,hW,rfl⟩
  ·rintro ρ ⟨wds,k,j5,j6,j7,j8,j9,j10,hW,rfl⟩
   have hfw:=hW.few
   exact QF (QgI (ts:=Qs m wds) (ra:=⟨.lst ((Qs m wds).map .str),true,[3]⟩) rfl rfl (by unfold Qs;rw[Zr,Zc];omega) (QdA (by omega) hW.ok)) ⟨wds,rfl,rfl,hW⟩
 obtain⟨o,h1,h2⟩:=key
 cases o with
 | rt d fr=>
  obtain⟨wds,rfl,rfl,hs⟩:=h2
  have:=hs.few
  exact⟨wds,by unfold Qr;rw[h1];rfl,hs.ok,by omega,hs.roads,hs.lanes⟩
 | _=>exact False.elim h2
theorem Qux{m:Nat}{W:List (Int×Int×Bool)}(h:∀w∈W,GoodW m w):(QO W).map nrm=QO W:=by
 conv=>rhs;rw[← List.map_id (QO W)]
 refine Zax λs hs=>?_
 have:=(QbG h s hs).2
 unfold nrm
 rw[if_neg (by omega),if_pos (by omega)];rfl
theorem QmU{m:Nat}{W:List (Int×Int×Bool)}(m8:m<=8)(h:∀w∈W,GoodW m w):QbH (QO W):=λs hs=>by
 obtain⟨⟨h1,h2,h3,h4,h5⟩,_⟩:=QbG h s hs
 omega
theorem Qml{m:Nat}{W:List (Int×Int×Bool)}(m8:m<=8)(h:∀w∈W,GoodW m w):QbH (QP W):=λs hs=>by
 obtain⟨⟨h1,h2,h3,h4,h5⟩,_⟩:=QbL h s hs
 omega
theorem Qqf(W:List (Int×Int×Bool)):(QO W).length+(QP W).length=W.length:=by
 unfold QO QP
 rw[Zc,Zc]
 induction W with
 | nil=>rfl
 | cons w W ih=>
  rw[ZX,ZX]
  cases w.2.2<;>simp<;>omega
noncomputable def QiJ(QW:Den)(Qbq:Den)(QY:Den)(QaV:Den)(Qbg:Den)(Qae:Den)(Qag:Den)(Qci:Den):DS:=(Qd (Qu 1 (Qt (dC (.int 1)) (dOp QaH (Qv 2 QW [] (Qb (Qa 0) (Qb (dC (.int 0)) Qe))) (dC (.int 8))))) (Qd (Qu 2 (Qv 2 Qbq [] (Qb (Qa 0) (Qb (Qa 1) Qe)))) (Qd (Qu 3 (Qv 1 QY [] (Qb (Qa 2) Qe))) (Qd (Qu 4 (Qax (QZ (Qa 3)) (.tp [1,2,3]) [none,none,none,none] (QbK (Qm (Qa 3))) (QaI (Qb (dBf Qb6 (Qb (Qa 1) (Qb (Qa 2) Qe))) (Qb (dBf Qcr (Qb (Qa 1) (Qb (Qa 2) Qe))) Qe))))) (Qd (Qu 5 (QaI (Qb (Qa 1) (Qb (Qa 4) (Qb (Qax (QZ (Qa 3)) (.tp [1,2,3]) [none,none,none,none] (Qm (Qa 3)) (QaI (Qb (Qa 1) (Qb (Qa 2) Qe)))) Qe))))) (Qd (Qu 6 (Qv 1 Qbg [] (Qb (Qv 3 QaV [] (Qb (Qa 1) (Qb (Qa 2) (Qb (dOp QaH (Qv 2 QW [] (Qb (Qa 0) (Qb (dC (.int 22)) Qe))) (dC (.int 1000003))) Qe)))) Qe))) (Qd (sIf (QbK (Qm (Qv 2 Qae [] (Qb (Qa 6) (Qb (Qa 5) Qe))))) (Qd (QX (dC (.bl false))) Qg) Qg) (Qd (Qu 7 (dM1 Qe6 (dC (.str " ")) (Qb (Qt (Qt (Qaa (Qb (dBf Qbl (Qb (Qa 1) Qe)) Qe)) (Qv 2 Qag [] (Qb (Qo (Qa 5) (dC (.int 1))) (Qb (dC (.str "-")) Qe)))) (Qv 2 Qag [] (Qb (Qo (Qa 5) (dC (.int 2))) (Qb (dC (.str ">")) Qe)))) Qe))) (Qd (Qu 8 (QaI (Qb (Qa 1) (Qb (dList (Qb (Qo (Qa 5) (dC (.int 1))) Qe)) (Qb (dList (Qb (Qo (Qa 5) (dC (.int 2))) Qe)) Qe))))) (Qd (Qu 9 (Qv 1 Qci [] (Qb (Qa 8) Qe))) (Qd (sIf (bOr (QbK (Qm (QcT "str" (Qa 9)))) (bOr (Qm (dOp gNe (Qa 9) (Qa 7))) (Qm (dOp gNe (Qa 8) (Qa 5))))) (Qd (QX (dC (.bl false))) Qg) Qg) (Qd (Qu 10 (Qv 1 Qbg [] (Qb (Qa 9) Qe))) (Qd (sIf (QbK (Qm (Qv 2 Qae [] (Qb (Qa 10) (Qb (Qa 5) Qe))))) (Qd (QX (dC (.bl false))) Qg) Qg) (Qd (QcJ 10 (Qdw Qai (dC (.int 1))) (QaI (Qb (dC (.int 0)) (Qb (Qa 1) Qe)))) (Qd (QX (Qdv (Qv 2 Qae [] (Qb (Qa 6) (Qb (Qa 5) Qe))) (Qv 2 Qae [] (Qb (Qv 1 Qbg [] (Qb (Qa 7) Qe)) (Qb (Qa 5) Qe))))) Qg)))))))))))))))
theorem QsY{dc dw de dt dr di dow dn:Den}(hc:Qhw dc)(hw:Qfu dw)(he:QjE de)(ht:Qeu dt)(hr:QfM dr)(hi:QiC di)(ho:QcG dow)(hn:Qf0 dn)(ns:List Int)(hl:ns.length<=63):Qr 11 (QiJ dc dw de dt dr di dow dn) [QaF ns]=some (.bl true,true):=by
 have cell:∀(k:Nat) (ρ:En),ρ[0]? =some (some (QaF ns,false))->Qv 2 dc [] (Qb (Qa 0) (Qb (dC (.int k)) Qe)) ρ=some ⟨.int (ns.getD k 0),true,[]⟩:=λk ρ h0=>Qy (Qn (Qa3 h0) (Qn (QcK _ _) (QJ _))) (hc ns k) rfl
 refine Q7 ?_
 obtain⟨m,hm⟩:∃m:Nat,m=(1+ns.getD 0 0 % 8).toNat:=⟨_,rfl⟩
 have m0:0<m:=by omega
 have m8:m<=8:=by omega
 obtain⟨ws,ew,hW,hE,hwl⟩:=hw ns m hl m0 m8
 obtain⟨W,rW⟩:∃W,W=Q0 ws:=⟨_,rfl⟩
 rw[← rW]at hW
 obtain⟨R,rR⟩:∃R,R=QO W:=⟨_,rfl⟩
 obtain⟨L,rL⟩:∃L,L=QP W:=⟨_,rfl⟩
 have hlen:R.length+L.length<=40:=by rw[rR,rL,Qqf];exact hW.few
 have hRf:QbH R:=by rw[rR];exact QmU m8 hW.good
 have hLf:QbH L:=by rw[rL];exact Qml m8 hW.good
 have hN:Qjz m R L:=by rw[rR,rL];exact hW.ok m0 m8
 have hnm:R.map nrm=R:=by rw[rR];exact Qux hW.good
 obtain⟨wds,et,hwo,hw40,hroads,hlanes⟩:=ht m ws (ns.getD 22 0 % 1000003) m0 m8 hE hwl (by rw[← rW];exact hW.few)
 rw[← rW,← rR]at hroads
 rw[← rW,← rL]at hlanes
 have lr:(QS wds).length=R.length:=by rw[← hroads,Zc]
 have r1:dr [.str (Q2 m wds)]=some (Ql m R L,true):=by
  have:=hr m wds (by omega) (by omega) hwo (by rw[lr,hlanes];omega) (by rw[hroads,hlanes];exact hN)
  rw[hroads,hlanes]at this;exact this
 obtain⟨o1,o2⟩:=Qp9 hRf hLf
 have wl:=Qhl (R:=R) (L:=L)
 have r2:dr [.str (Q2 m (QQ R L))]=some (Ql m R L,true):=by
  have o1:QS (QQ R L)=R:=o1
  have o2:QU (QQ R L)=L:=o2
  have:=hr m (QQ R L) (by omega) (by omega) (Qej hRf hLf hlen) (by rw[o1,o2];omega) (by rw[o1,o2,hnm];exact hN)
  rw[o1,o2,hnm]at this;exact this
 have lowN:=Qph (m:=m) (Qej hRf hLf hlen)
 refine run_seq (Qi (r:=⟨.int m,true,[]⟩) ?_ ?_)
 ·refine(Qar (a:=1) (b:=ns.getD 0 0 % 8) rfl rfl (Qan (a:=ns.getD 0 0) (b:=8) (cell 0 _ rfl) rfl rfl rfl (by decide)) rfl).trans ?_
  rw[show 1+ns.getD 0 0 % 8=(m:Int) by omega]
 change Nx _ (.nx [some (QaF ns,false),some (.int m,true),none,none,none,none,none,none,none,none,none])
 refine run_seq (Qi (Qy (r:=⟨[QaF ns,.int m],false,[]⟩) rfl ew rfl) ?_)
 change Nx _ (.nx [some (QaF ns,false),some (.int m,true),some (.lst (ws.map wqD),true),none,none,none,none,none,none,none,none])
 refine run_seq (Qi (Qy (r:=⟨[.lst (ws.map wqD)],true,[2]⟩) rfl (he ws (by rw[← rW];have:=hW.few;omega) (λx hx=>by have:=(hE x hx).2.2;omega)) rfl) ?_)
 rw[← rW]
 change Nx _ (.nx [some (QaF ns,false),some (.int m,true),some (.lst (ws.map wqD),true),some (QM W,true),none,none,none,none,none,none,none])
 refine run_seq (Qi (QpA (fa:=Qa 3) (W:=W) (r:=⟨QM W,true,[3]⟩) rfl rfl) ?_)
 rw[← rR]
 change Nx _ (.nx [some (QaF ns,false),some (.int m,true),some (.lst (ws.map wqD),true),some (QM W,true),some (Qc R,true),none,none,none,none,none,none])
 refine run_seq (Qi (Qip (Qn (r:=⟨.int m,true,[]⟩) rfl (Qn (r:=⟨Qc R,true,[4]⟩) rfl (Qn (QoY (fa:=Qa 3) (W:=W) (r:=⟨QM W,true,[3]⟩) rfl rfl) (QJ _)))) (show 3<=64 by decide)) ?_)
 rw[← rL]
 change Nx _ (.nx [some (QaF ns,false),some (.int m,true),some (.lst (ws.map wqD),true),some (QM W,true),none,some (Ql m R L,true),none,none,none,none,none])
 refine run_seq (Qi (Qy (r:=⟨[.str (Q2 m wds)],true,[]⟩) (Qn (Qy (r:=⟨[.int m,.lst (ws.map wqD),.int (ns.getD 22 0 % 1000003)],true,[2]⟩) (Qn (r:=⟨.int m,true,[]⟩) rfl (Qn (r:=⟨.lst (ws.map wqD),true,[2]⟩) rfl (Qn (Qan (a:=ns.getD 22 0) (b:=1000003) (cell 22 _ rfl) rfl rfl rfl (by decide)) (QJ _)))) et rfl) (QJ _)) r1 rfl) ?_)
 change Nx _ (.nx [some (QaF ns,false),some (.int m,true),some (.lst (ws.map wqD),true),some (QM W,true),none,some (Ql m R L,true),some (Ql m R L,true),none,none,none,none])
 refine QC (QA (b:=false) (Qbx (b:=true) (Qp (b:=true) (Qy (r:=⟨[Ql m R L,Ql m R L],true,[6,5]⟩) rfl (hi m R L) rfl) rfl)) (λh=>by cases h) (λ_=>Qh ?_))
 refine run_seq (Qi (QgI (ts:=Qs m (QQ R L)) (Qku ho (fm:=Qa 1) (fn:=Qa 5) (rm:=⟨.int m,true,[]⟩) (rn:=⟨Ql m R L,true,[5]⟩) rfl rfl rfl rfl (by omega) hRf hLf hlen) rfl (Qhf hlen) (QdA (by omega) (Qej hRf hLf hlen))) ?_)
 change Nx _ (.nx [some (QaF ns,false),some (.int m,true),some (.lst (ws.map wqD),true),some (QM W,true),none,some (Ql m R L,true),some (Ql m R L,true),some (.str (Q2 m (QQ R L)),true),none,none,none])
 have it:=Qcy (fa:=Qa 5) (ρ:=[some (QaF ns,false),some (.int m,true),some (.lst (ws.map wqD),true),some (QM W,true),none,some (Ql m R L,true),some (Ql m R L,true),some (.str (Q2 m (QQ R L)),true),none,none,none]) (m:=(m:Int)) (R:=R) (L:=L) (r:=⟨Ql m R L,true,[5]⟩) rfl rfl
 refine run_seq (Qi (Qip (Qn (r:=⟨.int m,true,[]⟩) rfl (Qn (Qgx (A:=R) (Qn it.2.1 (QJ _)) rfl rfl) (Qn (Qgx (A:=L) (Qn it.2.2 (QJ _)) rfl rfl) (QJ _)))) (show 3<=64 by decide)) ?_)
 change Nx _ (.nx [some (QaF ns,false),some (.int m,true),some (.lst (ws.map wqD),true),some (QM W,true),none,some (Ql m R L,true),some (Ql m R L,true),some (.str (Q2 m (QQ R L)),true),some (Ql m R L,true),none,none])
 refine run_seq (Qi (Qy (r:=⟨[Ql m R L],true,[8]⟩) rfl (hn m R L (by omega) hRf hLf hlen) rfl) ?_)
 change Nx _ (.nx [some (QaF ns,false),some (.int m,true),some (.lst (ws.map wqD),true),some (QM W,true),none,some (Ql m R L,true),some (Ql m R L,true),some (.str (Q2 m (QQ R L)),true),some (Ql m R L,true),some (.str (Q2 m (QQ R L)),true),none])
 refine QC (QA (b:=false) (Qa2 (a:=false) (b:=false) (Qbx (b:=true) (Qp (b:=true) rfl rfl)) (Qa2 (a:=false) (b:=false) (Qp (b:=false) (Qk6 (d:= .str (Q2 m (QQ R L))) (ra:=⟨.str (Q2 m (QQ R L)),true,[]⟩) (rb:=⟨.str (Q2 m (QQ R L)),true,[]⟩) rfl rfl rfl rfl (QeJ lowN)) rfl) (Qp (b:=false) (Qk6 (d:=Ql m R L) (ra:=⟨Ql m R L,true,[8]⟩) (rb:=⟨Ql m R L,true,[5]⟩) rfl rfl rfl rfl (Qrn m R L)) rfl))) (λh=>by cases h) (λ_=>Qh ?_))
 refine run_seq (Qi (Qy (r:=⟨[.str (Q2 m (QQ R L))],true,[]⟩) rfl r2 rfl) ?_)
 change Nx _ (.nx [some (QaF ns,false),some (.int m,true),some (.lst (ws.map wqD),true),some (QM W,true),none,some (Ql m R L,true),some (Ql m R L,true),some (.str (Q2 m (QQ R L)),true),some (Ql m R L,true),some (.str (Q2 m (QQ R L)),true),some (Ql m R L,true)])
 refine QC (QA (b:=false) (Qbx (b:=true) (Qp (b:=true) (Qy (r:=⟨[Ql m R L,Ql m R L],true,[10,5]⟩) rfl (hi m R L) rfl) rfl)) (λh=>by cases h) (λ_=>Qh ?_))
 refine run_seq (Qn2 (m:=(m:Int)) (A:=R) (B:=L) (s:=(0,(m:Int))) rfl rfl (by omega) ?_)
 change Nx _ (.nx [some (QaF ns,false),some (.int m,true),some (.lst (ws.map wqD),true),some (QM W,true),none,some (Ql m R L,true),some (Ql m R L,true),some (.str (Q2 m (QQ R L)),true),some (Ql m R L,true),some (.str (Q2 m (QQ R L)),true),some (Ql m (R++[(0,(m:Int))]) L,true)])
 exact QF (Qd0 (Qy (r:=⟨[Ql m R L,Ql m R L],true,[6,5]⟩) rfl (hi m R L) rfl) (Qy (r:=⟨[Ql m R L,Ql m R L],true,[5]⟩) (Qn (Qy (r:=⟨[.str (Q2 m (QQ R L))],true,[]⟩) rfl r2 rfl) (Qn (r:=⟨Ql m R L,true,[5]⟩) rfl (QJ _))) (hi m R L) rfl)) ⟨rfl,rfl⟩
end HS
theorem HS.some_of{α:Type}{x:Option α}{d:α}(h:x.isSome=true):x=some (x.getD d):=by cases x with | none=>cases h | some a=>rfl
namespace Law
open PySem L2 HS
noncomputable section
def top(i:Nat):Stmt:=PySem.Challenge.pw_heapstill_k71_net_texts.main.body.getD i (.Pass ⟨0,0,0,0⟩)
abbrev cst:List (Str×Cn):=[("MOST_PLACES",.inl 8),("MOST_WAYS",.inl 40),("MOST_SPANS",.inl 300),("FIGURES",.inr "0123456789"),("MOST_FIGURES",.inl 18),("MOST_ALIKE",.inl 40),("ROAD",.inr "-"),("LANE",.inr ">")]
abbrev Sc(s:Stmt)(P:List Str):Prop:=QbZ (namesOf (Qk s)) P (Qk s)
theorem scM{s:Stmt}{P:List Str}(h1:(Qk s).kind= .function)(h2:(Qk s).isCoroutine=false)(h3:(Qk s).isGenerator=false)(h4:(namesOf (Qk s)).Nodup/\(namesOf (Qk s)).take P.length=P/\(∀x∈P,(Qk s).names.lookup x=some .local ∨(Qk s).names.lookup x=some .cell)/\∀y∈(Qk s).names,y.2≠ .free):Sc s P:=⟨h1,h2,h3,h4.1,h4.2.1,h4.2.2.1,h4.2.2.2⟩
noncomputable abbrev Cp(s:Stmt)(Γ:List (Str×FnR)):Option DS:=Qav 60 (Qgt s Γ cst) (Qak s)
noncomputable abbrev Dn(s:Stmt)(g:DS):Den:=Qr (namesOf (Qk s)).length g
noncomputable abbrev Gc(x:Str)(n:Nat)(d:Den)(Γ:List (Str×FnR)):List (Str×FnR):=(x,⟨n,[],d⟩)::Γ
abbrev QdH:=top 5
theorem Qpt:Sc QdH ["roads","lanes"]:=scM rfl rfl rfl (by decide+kernel)
theorem Qrq:QB "steps" QdH ["roads","lanes"]:=λ_ _ _ _ _ _=>lc λ_=>lc λ_=>l0 rfl
def QlS:=(Cp QdH []).getD Qw
theorem Qr1:Cp QdH []=some QlS:=some_of (by decide+kernel)
abbrev Qbt:=Dn QdH QlS
abbrev Qh9:=Gc "steps" 2 Qbt []
abbrev QbB:=top 6
theorem Qji:Sc QbB ["net"]:=scM rfl rfl rfl (by decide+kernel)
theorem QkW:QB "toll_table" QbB ["net"]:=λ_ _ _ _ _ _=>lc λ_=>l0 rfl
def Qfz:=(Cp QbB Qh9).getD Qw
theorem QjY:Cp QbB Qh9=some Qfz:=some_of (by decide+kernel)
abbrev Qby:=Dn QbB Qfz
abbrev QdW:=Gc "toll_table" 1 Qby Qh9
abbrev QbW:=top 7
theorem QjL:Sc QbW ["net"]:=scM rfl rfl rfl (by decide+kernel)
theorem Qlr:QB "span_list" QbW ["net"]:=λ_ _ _ _ _ _=>lc λ_=>l0 rfl
def Qgn:=(Cp QbW QdW).getD Qw
theorem Qlq:Cp QbW QdW=some Qgn:=some_of (by decide+kernel)
abbrev Qb1:=Dn QbW Qgn
abbrev Qew:=Gc "span_list" 1 Qb1 QdW
abbrev QaT:=top 13
theorem Qhr:Sc QaT ["net"]:=scM rfl rfl rfl (by decide+kernel)
theorem Qir:QB "need_numbers" QaT ["net"]:=λ_ _ _ _ _ _=>lc λ_=>l0 rfl
def QeS:=(Cp QaT Qew).getD Qw
theorem Qh5:Cp QaT Qew=some QeS:=some_of (by decide+kernel)
abbrev QaY:=Dn QaT QeS
abbrev Qdc:=Gc "need_numbers" 1 QaY Qew
abbrev QdE:=top 16
theorem QpM:Sc QdE ["many","roads","lanes"]:=scM rfl rfl rfl (by decide+kernel)
theorem Qsg:QB "leads" QdE ["many","roads","lanes"]:=λ_ _ _ _ _ _=>lc λ_=>lc λ_=>lc λ_=>l0 rfl
def QlY:=(Cp QdE Qdc).getD Qw
theorem QqH:Cp QdE Qdc=some QlY:=some_of (by decide+kernel)
abbrev QdG:=Dn QdE QlY
abbrev Qio:=Gc "leads" 3 QdG Qdc
abbrev QbP:=top 14
theorem QkO:Sc QbP ["net"]:=scM rfl rfl rfl (by decide+kernel)
theorem Qli:QB "need_ways" QbP ["net"]:=λ_ _ _ _ _ _=>lc λ_=>l0 rfl
def Qgm:=(Cp QbP Qio).getD Qw
theorem Qlj:Cp QbP Qio=some Qgm:=some_of (by decide+kernel)
abbrev QbQ:=Dn QbP Qgm
abbrev Qez:=Gc "need_ways" 1 QbQ Qio
abbrev Qcq:=top 17
theorem Qlw:Sc Qcq ["net"]:=scM rfl rfl rfl (by decide+kernel)
theorem QmM:QB "is_plain" Qcq ["net"]:=λ_ _ _ _ _ _=>lc λ_=>l0 rfl
def QhH:=(Cp Qcq Qez).getD Qw
theorem Qnj:Cp Qcq Qez=some QhH:=some_of (by decide+kernel)
abbrev Qcn:=Dn Qcq QhH
abbrev Qfd:=Gc "is_plain" 1 Qcn Qez
abbrev Qam:=top 15
theorem Qfp:Sc Qam ["net"]:=scM rfl rfl rfl (by decide+kernel)
theorem Qfr:QB "need_small_spans" Qam ["net"]:=λ_ _ _ _ _ _=>lc λ_=>l0 rfl
def Qdk:=(Cp Qam Qfd).getD Qw
theorem QfG:Cp Qam Qfd=some Qdk:=some_of (by decide+kernel)
abbrev Qao:=Dn Qam Qdk
abbrev Qb7:=Gc "need_small_spans" 1 Qao Qfd
abbrev QbJ:=top 12
theorem Qk8:Sc QbJ ["many","roads","lanes"]:=scM rfl rfl rfl (by decide+kernel)
theorem Qlb:Qfv "made_net" QbJ ["many","roads","lanes"] 3 []:=λK t od n sl h kV doc pm an cdv ct S us hl=>match us,hl with | [_,_,_],_=>QiW h rfl
theorem Qlm:Qfv "made_net" QbJ ["many","roads","lanes"] 2 [.none]:=λK t od n sl h kV doc pm an cdv ct S us hl=>match us,hl with | [_,_],_=>QiW h rfl
def QhB:=(Cp QbJ Qb7).getD Qw
theorem QmK:Cp QbJ Qb7=some QhB:=some_of (by decide+kernel)
abbrev Qcs:=Dn QbJ QhB
abbrev Qe4:List (Str×FnR):=("made_net",⟨3,[.non],Qcs⟩)::Qb7
abbrev Qbw:=top 25
theorem Qjj:Sc Qbw ["text"]:=scM rfl rfl rfl (by decide+kernel)
theorem Qkv:QB "text_words" Qbw ["text"]:=λ_ _ _ _ _ _=>lc λ_=>l0 rfl
def QfA:=(Cp Qbw Qe4).getD Qw
theorem Qkx:Cp Qbw Qe4=some QfA:=some_of (by decide+kernel)
abbrev Qbr:=Dn Qbw QfA
abbrev Qd4:=Gc "text_words" 1 Qbr Qe4
abbrev Qbd:=top 29
theorem Qh2:Sc Qbd ["word"]:=scM rfl rfl rfl (by decide+kernel)
theorem Qjt:QB "read_number" Qbd ["word"]:=λ_ _ _ _ _ _=>lc λ_=>l0 rfl
def Qfm:=(Cp Qbd Qd4).getD Qw
theorem Qjr:Cp Qbd Qd4=some Qfm:=some_of (by decide+kernel)
abbrev Qaf:=Dn Qbd Qfm
abbrev Qdp:=Gc "read_number" 1 Qaf Qd4
abbrev Qba:=top 27
theorem QiE:Sc Qba ["sign"]:=scM rfl rfl rfl (by decide+kernel)
theorem Qju:QB "read_figure" Qba ["sign"]:=λ_ _ _ _ _ _=>lc λ_=>l0 rfl
def Qfn:=(Cp Qba Qdp).getD Qw
theorem Qjp:Cp Qba Qdp=some Qfn:=some_of (by decide+kernel)
abbrev Q9:=Dn Qba Qfn
abbrev Qdq:=Gc "read_figure" 1 Q9 Qdp
abbrev Qbu:=top 28
theorem Qjk:Sc Qbu ["word"]:=scM rfl rfl rfl (by decide+kernel)
theorem Qkz:QB "read_alike" Qbu ["word"]:=λ_ _ _ _ _ _=>lc λ_=>l0 rfl
def QfT:=(Cp Qbu Qdq).getD Qw
theorem Qk5:Cp Qbu Qdq=some QfT:=some_of (by decide+kernel)
abbrev Qbs:=Dn Qbu QfT
abbrev QdR:=Gc "read_alike" 1 Qbs Qdq
abbrev QbR:=top 26
theorem QkS:Sc QbR ["word"]:=scM rfl rfl rfl (by decide+kernel)
theorem QlA:QB "read_ways" QbR ["word"]:=λ_ _ _ _ _ _=>lc λ_=>l0 rfl
def Qgp:=(Cp QbR QdR).getD Qw
theorem Qln:Cp QbR QdR=some Qgp:=some_of (by decide+kernel)
abbrev QbS:=Dn QbR Qgp
abbrev Qep:=Gc "read_ways" 1 QbS QdR
abbrev Qct:=top 24
theorem Qle:Sc Qct ["text"]:=scM rfl rfl rfl (by decide+kernel)
theorem QmR:QB "read_net" Qct ["text"]:=λ_ _ _ _ _ _=>lc λ_=>l0 rfl
def Qhn:=(Cp Qct Qep).getD Qw
theorem Qmu:Cp Qct Qep=some Qhn:=some_of (by decide+kernel)
abbrev Qbg:=Dn Qct Qhn
abbrev QeX:=Gc "read_net" 1 Qbg Qep
abbrev Qck:=top 32
theorem Qlk:Sc Qck ["a","mark","b","alike"]:=scM rfl rfl rfl (by decide+kernel)
theorem Qmo:QB "way_word" Qck ["a","mark","b","alike"]:=λ_ _ _ _ _ _=>lc λ_=>lc λ_=>lc λ_=>lc λ_=>l0 rfl
def QhG:=(Cp Qck QeX).getD Qw
theorem Qmv:Cp Qck QeX=some QhG:=some_of (by decide+kernel)
abbrev Qcw:=Dn Qck QhG
abbrev QeY:=Gc "way_word" 4 Qcw QeX
abbrev QbX:=top 31
theorem QkH:Sc QbX ["ways","mark"]:=scM rfl rfl rfl (by decide+kernel)
theorem Qld:QB "way_words" QbX ["ways","mark"]:=λ_ _ _ _ _ _=>lc λ_=>lc λ_=>l0 rfl
def Qgo:=(Cp QbX QeY).getD Qw
theorem Qk7:Cp QbX QeY=some Qgo:=some_of (by decide+kernel)
abbrev Qbk:=Dn QbX Qgo
abbrev Qen:=Gc "way_words" 2 Qbk QeY
abbrev Qcm:=top 30
theorem Qll:Sc Qcm ["net"]:=scM rfl rfl rfl (by decide+kernel)
theorem Qm0:QB "net_text" Qcm ["net"]:=λ_ _ _ _ _ _=>lc λ_=>l0 rfl
def QhS:=(Cp Qcm Qen).getD Qw
theorem QmY:Cp Qcm Qen=some QhS:=some_of (by decide+kernel)
abbrev Qci:=Dn Qcm QhS
abbrev Qe7:=Gc "net_text" 1 Qci Qen
abbrev QaU:=top 34
theorem QhK:Sc QaU ["_law_script","_law_k"]:=scM rfl rfl rfl (by decide+kernel)
theorem Qie:QB "_law_cell_at" QaU ["_law_script","_law_k"]:=λ_ _ _ _ _ _=>lc λ_=>lc λ_=>l0 rfl
def QeC:=(Cp QaU Qe7).getD Qw
theorem Qig:Cp QaU Qe7=some QeC:=some_of (by decide+kernel)
abbrev QW:=Dn QaU QeC
abbrev Qdd:=Gc "_law_cell_at" 2 QW Qe7
abbrev Qb0:=top 35
theorem QjP:Sc Qb0 ["_law_many","_law_turn","_law_kind"]:=scM rfl rfl rfl (by decide+kernel)
theorem Qls:QB "_law_base" Qb0 ["_law_many","_law_turn","_law_kind"]:=λ_ _ _ _ _ _=>lc λ_=>lc λ_=>lc λ_=>l0 rfl
def Qgk:=(Cp Qb0 Qdd).getD Qw
theorem Qlp:Cp Qb0 Qdd=some Qgk:=some_of (by decide+kernel)
abbrev QbU:=Dn Qb0 Qgk
abbrev Qey:=Gc "_law_base" 3 QbU Qdd
abbrev QbY:=top 36
theorem Qko:Sc QbY ["_law_many","_law_ways","_law_room"]:=scM rfl rfl rfl (by decide+kernel)
theorem Qlx:QB "_law_fits" QbY ["_law_many","_law_ways","_law_room"]:=λ_ _ _ _ _ _=>lc λ_=>lc λ_=>lc λ_=>l0 rfl
def Qgs:=(Cp QbY Qey).getD Qw
theorem Qla:Cp QbY Qey=some Qgs:=some_of (by decide+kernel)
abbrev QbT:=Dn QbY Qgs
abbrev Qeq:=Gc "_law_fits" 3 QbT Qey
abbrev QaN:=top 37
theorem QgQ:Sc QaN ["_law_words_here"]:=scM rfl rfl rfl (by decide+kernel)
theorem Qg4:QB "_law_expanded" QaN ["_law_words_here"]:=λ_ _ _ _ _ _=>lc λ_=>l0 rfl
def Qeh:=(Cp QaN Qeq).getD Qw
theorem Qhy:Cp QaN Qeq=some Qeh:=some_of (by decide+kernel)
abbrev QY:=Dn QaN Qeh
abbrev Qc0:=Gc "_law_expanded" 1 QY Qeq
abbrev QbA:=top 38
theorem Qjm:Sc QbA ["_law_script","_law_many"]:=scM rfl rfl rfl (by decide+kernel)
theorem QkP:QB "_law_words" QbA ["_law_script","_law_many"]:=λ_ _ _ _ _ _=>lc λ_=>lc λ_=>l0 rfl
def Qft:=(Cp QbA Qc0).getD Qw
theorem QjM:Cp QbA Qc0=some Qft:=some_of (by decide+kernel)
abbrev Qbq:=Dn QbA Qft
abbrev Qd6:=Gc "_law_words" 2 Qbq Qc0
abbrev QaZ:=top 39
theorem Qhh:Sc QaZ ["_law_many","_law_words_here","_law_cell"]:=scM rfl rfl rfl (by decide+kernel)
theorem QiG:QB "_law_written" QaZ ["_law_many","_law_words_here","_law_cell"]:=λ_ _ _ _ _ _=>lc λ_=>lc λ_=>lc λ_=>l0 rfl
def QeU:=(Cp QaZ Qd6).getD Qw
theorem Qh8:Cp QaZ Qd6=some QeU:=some_of (by decide+kernel)
abbrev QaV:=Dn QaZ QeU
abbrev Qde:=Gc "_law_written" 3 QaV Qd6
abbrev QaC:=top 40
theorem Qge:Sc QaC ["_law_pairs_here","_law_sign"]:=scM rfl rfl rfl (by decide+kernel)
theorem QgZ:QB "_law_own_words" QaC ["_law_pairs_here","_law_sign"]:=λ_ _ _ _ _ _=>lc λ_=>lc λ_=>l0 rfl
def QdZ:=(Cp QaC Qde).getD Qw
theorem QgO:Cp QaC Qde=some QdZ:=some_of (by decide+kernel)
abbrev Qag:=Dn QaC QdZ
abbrev QcH:=Gc "_law_own_words" 2 Qag Qde
abbrev Qbv:=top 41
theorem Qjl:Sc Qbv ["_law_found","_law_due"]:=scM rfl rfl rfl (by decide+kernel)
theorem QkJ:QB "_law_pairs" Qbv ["_law_found","_law_due"]:=λ_ _ _ _ _ _=>lc λ_=>lc λ_=>l0 rfl
def QfR:=(Cp Qbv QcH).getD Qw
theorem Qkh:Cp Qbv QcH=some QfR:=some_of (by decide+kernel)
abbrev Qa0:=Dn Qbv QfR
abbrev QdU:=Gc "_law_pairs" 2 Qa0 QcH
abbrev Qa9:=top 42
theorem Qiw:Sc Qa9 ["_law_found","_law_net"]:=scM rfl rfl rfl (by decide+kernel)
theorem Qjh:QB "_law_is_net" Qa9 ["_law_found","_law_net"]:=λ_ _ _ _ _ _=>lc λ_=>lc λ_=>l0 rfl
def Qfi:=(Cp Qa9 QdU).getD Qw
theorem Qjs:Cp Qa9 QdU=some Qfi:=some_of (by decide+kernel)
abbrev Qae:=Dn Qa9 Qfi
abbrev Qfj:=Gc "_law_is_net" 2 Qae QdU
abbrev Qf8:=top 43
theorem QuE:Sc Qf8 ["_law_script"]:=scM rfl rfl rfl (by decide+kernel)
theorem Qvy:QB "law" Qf8 ["_law_script"]:=λ_ _ _ _ _ _=>lc λ_=>l0 rfl
def Qqn:=(Cp Qf8 Qfj).getD Qw
theorem Qu3:Cp Qf8 Qfj=some Qqn:=some_of (by decide+kernel)
abbrev QmQ:=Dn Qf8 Qqn
theorem QlN:Qbt=Qr 4 (HS.Qih):=by kernel_rfl
theorem QkL:Qby=Qr 5 (HS.QdM Qbt):=by kernel_rfl
theorem Qlo:Qb1=Qr 1 (HS.Qer Qby):=by kernel_rfl
theorem Qid:QaY=Qr 4 (HS.Qcl):=by kernel_rfl
theorem QqK:QdG=Qr 8 (HS.QlW Qbt):=by kernel_rfl
theorem Qlt:QbQ=Qr 1 (HS.Qdg QdG):=by kernel_rfl
theorem Qnf:Qcn=Qr 1 (HS.Qg6):=by kernel_rfl
theorem QfQ:Qao=Qr 3 (HS.Qbf Qcn Qb1):=by kernel_rfl
theorem Qnb:Qcs=Qr 6 (HS.Qhi QaY QbQ Qao):=by kernel_rfl
theorem QkZ:Qbr=Qr 1 (HS.QfV):=by kernel_rfl
theorem Qjn:Qaf=Qr 2 (HS.Qfo):=by kernel_rfl
theorem Qjo:Q9=Qr 1 (HS.Qfl Qaf):=by kernel_rfl
theorem QjU:Qbs=Qr 2 (HS.QfK Qaf):=by kernel_rfl
theorem Qlz:QbS=Qr 4 (HS.Qgq Qbs Q9):=by kernel_rfl
theorem QmB:Qbg=Qr 7 (HS.QhJ Qbr Q9 QbS Qcs):=by kernel_rfl
theorem QmC:Qcw=Qr 4 (HS.Qg2):=by kernel_rfl
theorem Qly:Qbk=Qr 6 (HS.Qgg Qcw):=by kernel_rfl
theorem QmE:Qci=Qr 2 (HS.Qhg Qbk):=by kernel_rfl
theorem QhU:QW=Qr 2 (HS.QeV):=by kernel_rfl
theorem Qlg:QbU=Qr 7 (HS.Qgi):=by kernel_rfl
theorem Qk9:QbT=Qr 9 (HS.Qfh):=by kernel_rfl
theorem Qhb:QY=Qr 6 (HS.Qed):=by kernel_rfl
theorem QkR:Qbq=Qr 14 (HS.QdP QW QbU QY QbT):=by kernel_rfl
theorem Qh3:QaV=Qr 11 (HS.Qcb):=by kernel_rfl
theorem QgC:Qag=Qr 6 (HS.QdX):=by kernel_rfl
theorem Qkj:Qa0=Qr 4 (HS.QdQ):=by kernel_rfl
theorem Qjq:Qae=Qr 2 (HS.Qfk Qa0):=by kernel_rfl
theorem QvE:QmQ=Qr 11 (HS.QiJ QW Qbq QY QaV Qbg Qae Qag Qci):=by kernel_rfl
end
end Law
namespace HS
open PySem PySem.Spec L2
noncomputable def Qpp(mg:Str->Option Value):List Str->Prop
 | []=>True
 | x::r=>mg x=none/\Qpp mg r
theorem Qk4{mg:Str->Option Value}:∀{l:List Str},Qpp mg l->∀x∈l,mg x=none
 | [],_,x,h=>by simp at h
 | y::r,h,x,hx=>by
  rcases Zn.mp hx with rfl | hx
  ·exact h.1
  ·exact Qk4 h.2 x hx
noncomputable def Qo7(mg:Str->Option Value):List (Str×Cn)->Prop
 | []=>True
 | (x,i)::r=>(∃t,mg x=some (cnV i t))/\Qo7 mg r
theorem Qka{mg:Str->Option Value}:∀{l:List (Str×Cn)},Qo7 mg l->∀x i,look x l=some i->∃t,mg x=some (cnV i t)
 | [],_,x,i,h=>by cases h
 | (y,j)::r,h,x,i,hx=>by
  unfold look at hx
  split at hx
  ·rename_i e;cases hx;subst e;exact h.1
  ·exact Qka h.2 x i hx
theorem QsW{mg:Str->Option Value}{cs:List (Str×Cn)}(b:Qpp mg QjT)(c:Qo7 mg cs):Qec mg cs:=⟨Qk4 b,Qka c⟩
end HS
theorem HS.QhI{K:PySem.W.Frag}{mg:PySem.Str->Option PySem.Value}{h:PySem.Heap}{x:PySem.Str}{i:Int}{t:PySem.Tok}(X:K.In h)(G:h.Ns PySem.mainGlobals mg)(a:PySem.W.nsIn K PySem.mainGlobals x=some (some (.int i t))):∃t,mg x=some (.int i t):=⟨t,ZaO X G a⟩
theorem HS.QjW{K:PySem.W.Frag}{mg:PySem.Str->Option PySem.Value}{h:PySem.Heap}{x:PySem.Str}{i:PySem.Str}{t:PySem.Tok}(X:K.In h)(G:h.Ns PySem.mainGlobals mg)(a:PySem.W.nsIn K PySem.mainGlobals x=some (some (.str i t))):∃t,mg x=some (.str i t):=⟨t,ZaO X G a⟩
namespace Law
open HS
theorem Qqv:Qhw QW:=by rw[QhU];exact QrV
theorem QvN:QkD QbU:=by rw[Qlg];exact Qrw
theorem Qu2:QhW QbT:=by rw[Qk9];exact QpI
theorem Qtd:QjE QY:=by rw[Qhb];exact QuB
theorem Qpr:Qfu Qbq:=by rw[QkR];exact Qmp Qqv QvN Qtd Qu2
theorem Qp7:Qeu QaV:=by rw[Qh3];exact Qke
theorem Qwf:QcG Qag:=by rw[QgC];exact Qrx
theorem QsI:QgS Qa0:=by rw[Qkj];exact Qmw
theorem Qwq:QiC Qae:=by rw[Qjq];exact QpZ QsI
theorem Qvo:Qha Qby:=by rw[QkL,QlN];exact Qsi
theorem QuY:Qg3 Qb1:=by rw[Qlo];exact Qr5 Qvo
theorem Qug:Qif Qcn:=by rw[Qnf];exact Qpd
theorem Qtz:Qf1 QdG:=by rw[QqK];exact Qo6 λR L h=>by rw[QlN];exact QiX (by omega)
theorem QuR:QfD QaY:=by rw[Qid];exact Qlf
theorem hNW:Qii QbQ:=by rw[Qlt];exact Qo9 Qtz
theorem hNS:QgN Qao:=by rw[QfQ];exact Qoi Qug QuY
theorem Qve:QjZ Qcs:=by rw[Qnb];exact QrU QuR hNW hNS
theorem QuF:QjJ Qaf:=by rw[Qjn];exact Qur
theorem QtM:QhV Qbr:=by rw[QkZ];exact QpQ
theorem QtC:QjI Q9:=by rw[Qjo];exact Qtw QuF
theorem Qv8:Qg0 Qbs:=by rw[QjU];exact Qor QuF
theorem QuG:Qij QbS:=by rw[Qlz];exact Qpu Qv8 QtC
theorem Qpm:QfM Qbg:=by rw[QmB];exact Qm3 QtM QtC QuG Qve
theorem Qtu:Qiu Qcw:=by rw[QmC];exact Qo2
theorem Qro:QcG Qbk:=by rw[Qly];exact Qn6 Qtu
theorem Qvd:Qf0 Qci:=by rw[QmE];exact Qm9 Qro
theorem Qtb(ns:List Int)(h:ns.length<=63):∃fr,QmQ [.lst (ns.map .int)]=some (.bl true,fr):=by
 rw[QvE]
 exact⟨true,QsY Qqv Qpr Qtd Qp7 Qpm Qwq Qwf Qvd ns h⟩
end Law
namespace PySem.W.Fast
def tw13269158980245453382:=0
def tw4377632503162649530:=0
def tw7542699297746634774:=0
def tw15750077008515825547:=0
def tw12471700095126422061:=0
def tw5426377923872341097:=0
def tw5040258155632685852:=0
def tw18277575472943666540:=0
def tw16897551153353353333:=0
def tw9272294871863873994:=0
def tw12811908517591985470:=0
def tw16996562830611795537:=0
def tw1158407111857398756:=0
def tw16359540042778447578:=0
def tw15783201572438638499:=0
def tw6158772604640724975:=0
def tw6156928993458118910:=0
def tw9119808288810202480:=0
def tw4307812468479823112:=0
def tw11615358505386191165:=0
def tw17440057728607333538:=0
def tw5913144503590537019:=0
def tw7205947990550105068:=0
def tw10602363055544180411:=0
def tw9938227255452769171:=0
def tw1486578740224422261:=0
def tw8898310505765654937:=0
def tw18353058592557816928:=0
def tw9065948385722477344:=0
def tw9865859911063327124:=0
def tw10656491836966817944:=0
def tw7208235343134601159:=0
def tw1719174032698136301:=0
def tw18119182986845348644:=0
def tw16223965279211304419:=0
def tw13294000266690460933:=0
def tw12585003131878322977:=0
def tw3933975887322246649:=0
def tw17974150224054659370:=0
def tw13896523262052773544:=0
def tw2960782323651895136:=0
def tw4915549758551673793:=0
def tw520946271815134878:=0
def tw8498549605287991400:=0
def tw8209920568084746090:=0
def tw18064792827515145106:=0
def tw14902340332506358280:=0
def tw9840454144705386491:=0
def tw13467047670470324831:=0
def tw11661354136147662023:=0
def tw2038518125087503109:=0
def tw2876091447861517302:=0
def tw8643971694315711508:=0
def tw5442672716472613913:=0
def tw15800011141463558589:=0
def tw3443003875152436411:=0
def tw13104088179000462556:=0
def tw6989129887848199933:=0
def tw11299896152171041133:=0
def tw3992688795765178316:=0
def tw5876903316309652516:=0
def tw5887969833810044950:=0
def tw13637910499984675079:=0
def tw14312807280447672770:=0
def tw13417620852654336943:=0
def tw18085299966129320423:=0
def tw8851657932426890712:=0
def tw17439857299673662582:=0
def tw15612146980517248464:=0
def tw5708468722420504652:=0
def tw17444448976245287793:=0
def tw810702598471532136:=0
def tw11252855611945130205:=0
def tw2302133184172284811:=0
def tw10486065790133845747:=0
def tw13960734768660252274:=0
def tw10144249328963971934:=0
def tw6398683123434996144:=0
def tw3702582288386305363:=0
def tw15849804173156342290:=0
def tw16898919740207388653:=0
def tw12163368930221360842:=0
end PySem.W.Fast
open PySem PySem.W PyProof.Rows HS
set_option maxRecDepth 100000 in
set_option maxHeartbeats 0 in
theorem PySem.Challenge.cw_heapstill_k71_net_texts_holds : PySem.Challenge.rw_heapstill_k71_net_texts.Holds := by
 w_on;o_law;k_head;(case hw=>w_witness2)
 k_fill
 refine HS.QpY (l:=PySem.Challenge.rw_heapstill_k71_net_texts) (k:=28) (x:= "_law_script") (den:=Law.QmQ) rfl rfl ⟨rfl,by decide,by decide⟩ (λw h Y=>PySem.W.kIn_of Y) Law.Qtb ?F
 case F=>
  intro w mg fa h KX G hmg
  obtain⟨f_steps,f_toll_table,f_span_list,f_need_numbers,f_leads,f_need_ways,f_is_plain,f_need_small_spans,f_text_words,f_read_number,f_read_figure,f_read_alike,f_read_ways,f_read_net,f_way_word,f_way_words,f_net_text,f__law_cell_at,f__law_base,f__law_fits,f__law_expanded,f__law_words,f__law_written,f__law_own_words,f__law_pairs,f__law_is_net,f_law⟩:HS.Fact (L2.KOf KX) "steps" Law.QdH/\HS.Fact (L2.KOf KX) "toll_table" Law.QbB/\HS.Fact (L2.KOf KX) "span_list" Law.QbW/\HS.Fact (L2.KOf KX) "need_numbers" Law.QaT/\HS.Fact (L2.KOf KX) "leads" Law.QdE/\HS.Fact (L2.KOf KX) "need_ways" Law.QbP/\HS.Fact (L2.KOf KX) "is_plain" Law.Qcq/\HS.Fact (L2.KOf KX) "need_small_spans" Law.Qam/\HS.Fact (L2.KOf KX) "text_words" Law.Qbw/\HS.Fact (L2.KOf KX) "read_number" Law.Qbd/\HS.Fact (L2.KOf KX) "read_figure" Law.Qba/\HS.Fact (L2.KOf KX) "read_alike" Law.Qbu/\HS.Fact (L2.KOf KX) "read_ways" Law.QbR/\HS.Fact (L2.KOf KX) "read_net" Law.Qct/\HS.Fact (L2.KOf KX) "way_word" Law.Qck/\HS.Fact (L2.KOf KX) "way_words" Law.QbX/\HS.Fact (L2.KOf KX) "net_text" Law.Qcm/\HS.Fact (L2.KOf KX) "_law_cell_at" Law.QaU/\HS.Fact (L2.KOf KX) "_law_base" Law.Qb0/\HS.Fact (L2.KOf KX) "_law_fits" Law.QbY/\HS.Fact (L2.KOf KX) "_law_expanded" Law.QaN/\HS.Fact (L2.KOf KX) "_law_words" Law.QbA/\HS.Fact (L2.KOf KX) "_law_written" Law.QaZ/\HS.Fact (L2.KOf KX) "_law_own_words" Law.QaC/\HS.Fact (L2.KOf KX) "_law_pairs" Law.Qbv/\HS.Fact (L2.KOf KX) "_law_is_net" Law.Qa9/\HS.Fact (L2.KOf KX) "law" Law.Qf8:=by
   refine⟨?_,?_,?_,?_,?_,?_,?_,?_,?_,?_,?_,?_,?_,?_,?_,?_,?_,?_,?_,?_,?_,?_,?_,?_,?_,?_,?_⟩<;>(dsimp only[L2.KOf];refine' HS.fact_mk ?a ?l ?c ?k;(case a=>k_is);(case l=>k_is);(case c=>k_is);(case k=>k_is))
  have f_made_net:HS.QmS (L2.KOf KX) "made_net" Law.QbJ ["many","roads","lanes"]:=by dsimp only[L2.KOf];refine' HS.Qpa ?a ?l ?c ?k ?h;(case a=>k_is);(case l=>k_is);(case c=>k_is);(case k=>k_is);(case h=>k_is)
  have M:HS.Qec mg Law.cst:=by
   obtain⟨n_range,n_enumerate,n_zip,n_len,n_list,n_min,n_max,n_sum,n_abs,n_isinstance,n_int,n_bool,n_tuple,n_str,n_divmod,n_sorted,n_any,n_all,n_set⟩:PySem.W.nsIn (L2.KOf KX) mainGlobals "range" =some none/\PySem.W.nsIn (L2.KOf KX) mainGlobals "enumerate" =some none/\PySem.W.nsIn (L2.KOf KX) mainGlobals "zip" =some none/\PySem.W.nsIn (L2.KOf KX) mainGlobals "len" =some none/\PySem.W.nsIn (L2.KOf KX) mainGlobals "list" =some none/\PySem.W.nsIn (L2.KOf KX) mainGlobals "min" =some none/\PySem.W.nsIn (L2.KOf KX) mainGlobals "max" =some none/\PySem.W.nsIn (L2.KOf KX) mainGlobals "sum" =some none/\PySem.W.nsIn (L2.KOf KX) mainGlobals "abs" =some none/\PySem.W.nsIn (L2.KOf KX) mainGlobals "isinstance" =some none/\PySem.W.nsIn (L2.KOf KX) mainGlobals "int" =some none/\PySem.W.nsIn (L2.KOf KX) mainGlobals "bool" =some none/\PySem.W.nsIn (L2.KOf KX) mainGlobals "tuple" =some none/\PySem.W.nsIn (L2.KOf KX) mainGlobals "str" =some none/\PySem.W.nsIn (L2.KOf KX) mainGlobals "divmod" =some none/\PySem.W.nsIn (L2.KOf KX) mainGlobals "sorted" =some none/\PySem.W.nsIn (L2.KOf KX) mainGlobals "any" =some none/\PySem.W.nsIn (L2.KOf KX) mainGlobals "all" =some none/\PySem.W.nsIn (L2.KOf KX) mainGlobals "set" =some none:=by refine⟨?_,?_,?_,?_,?_,?_,?_,?_,?_,?_,?_,?_,?_,?_,?_,?_,?_,?_,?_⟩<;>(dsimp only[L2.KOf];k_is)
   have n_MOST_PLACES:∃t,mg "MOST_PLACES" =some (.int 8 t):=by refine' HS.QhI KX G ?a;(case a=>first | k_is | exact rfl | (dsimp only[L2.KOf];k_is))
   have n_MOST_WAYS:∃t,mg "MOST_WAYS" =some (.int 40 t):=by refine' HS.QhI KX G ?a;(case a=>first | k_is | exact rfl | (dsimp only[L2.KOf];k_is))
   have n_MOST_SPANS:∃t,mg "MOST_SPANS" =some (.int 300 t):=by refine' HS.QhI KX G ?a;(case a=>first | k_is | exact rfl | (dsimp only[L2.KOf];k_is))
   have n_FIGURES:∃t,mg "FIGURES" =some (.str "0123456789" t):=by refine' HS.QjW KX G ?a;(case a=>first | k_is | exact rfl | (dsimp only[L2.KOf];k_is))
   have n_MOST_FIGURES:∃t,mg "MOST_FIGURES" =some (.int 18 t):=by refine' HS.QhI KX G ?a;(case a=>first | k_is | exact rfl | (dsimp only[L2.KOf];k_is))
   have n_MOST_ALIKE:∃t,mg "MOST_ALIKE" =some (.int 40 t):=by refine' HS.QhI KX G ?a;(case a=>first | k_is | exact rfl | (dsimp only[L2.KOf];k_is))
   have n_ROAD:∃t,mg "ROAD" =some (.str "-" t):=by refine' HS.QjW KX G ?a;(case a=>first | k_is | exact rfl | (dsimp only[L2.KOf];k_is))
   have n_LANE:∃t,mg "LANE" =some (.str ">" t):=by refine' HS.QjW KX G ?a;(case a=>first | k_is | exact rfl | (dsimp only[L2.KOf];k_is))
   exact HS.QsW ⟨PySem.W.mg_none_of KX G n_range,PySem.W.mg_none_of KX G n_enumerate,PySem.W.mg_none_of KX G n_zip,PySem.W.mg_none_of KX G n_len,PySem.W.mg_none_of KX G n_list,PySem.W.mg_none_of KX G n_min,PySem.W.mg_none_of KX G n_max,PySem.W.mg_none_of KX G n_sum,PySem.W.mg_none_of KX G n_abs,PySem.W.mg_none_of KX G n_isinstance,PySem.W.mg_none_of KX G n_int,PySem.W.mg_none_of KX G n_bool,PySem.W.mg_none_of KX G n_tuple,PySem.W.mg_none_of KX G n_str,PySem.W.mg_none_of KX G n_divmod,PySem.W.mg_none_of KX G n_sorted,PySem.W.mg_none_of KX G n_any,PySem.W.mg_none_of KX G n_all,PySem.W.mg_none_of KX G n_set,True.intro⟩ ⟨n_MOST_PLACES,n_MOST_WAYS,n_MOST_SPANS,n_FIGURES,n_MOST_FIGURES,n_MOST_ALIKE,n_ROAD,n_LANE,True.intro⟩
  have t0:∀base:Heap,HS.Qbn (PySem.Challenge.rw_heapstill_k71_net_texts).prog w (L2.KOf KX) mg base 0 []:=λ_=>HS.Qbn.nil
  have t_steps:=λb=>(t0 b).cons (HS.QD KX G f_steps Law.Qpt Law.Qrq M (t0 b) Law.Qr1)
  have t_toll_table:=λb=>(t_steps b).cons (HS.QD KX G f_toll_table Law.Qji Law.QkW M (t_steps b) Law.QjY)
  have t_span_list:=λb=>(t_toll_table b).cons (HS.QD KX G f_span_list Law.QjL Law.Qlr M (t_toll_table b) Law.Qlq)
  have t_need_numbers:=λb=>(t_span_list b).cons (HS.QD KX G f_need_numbers Law.Qhr Law.Qir M (t_span_list b) Law.Qh5)
  have t_leads:=λb=>(t_need_numbers b).cons (HS.QD KX G f_leads Law.QpM Law.Qsg M (t_need_numbers b) Law.QqH)
  have t_need_ways:=λb=>(t_leads b).cons (HS.QD KX G f_need_ways Law.QkO Law.Qli M (t_leads b) Law.Qlj)
  have t_is_plain:=λb=>(t_need_ways b).cons (HS.QD KX G f_is_plain Law.Qlw Law.QmM M (t_need_ways b) Law.Qnj)
  have t_need_small_spans:=λb=>(t_is_plain b).cons (HS.QD KX G f_need_small_spans Law.Qfp Law.Qfr M (t_is_plain b) Law.QfG)
  have t_made_net:=λb=>(t_need_small_spans b).cons (HS.Qry KX G f_made_net Law.Qk8 Law.Qlb Law.Qlm rfl M (t_need_small_spans b) Law.QmK)
  have t_text_words:=λb=>(t_made_net b).cons (HS.QD KX G f_text_words Law.Qjj Law.Qkv M (t_made_net b) Law.Qkx)
  have t_read_number:=λb=>(t_text_words b).cons (HS.QD KX G f_read_number Law.Qh2 Law.Qjt M (t_text_words b) Law.Qjr)
  have t_read_figure:=λb=>(t_read_number b).cons (HS.QD KX G f_read_figure Law.QiE Law.Qju M (t_read_number b) Law.Qjp)
  have t_read_alike:=λb=>(t_read_figure b).cons (HS.QD KX G f_read_alike Law.Qjk Law.Qkz M (t_read_figure b) Law.Qk5)
  have t_read_ways:=λb=>(t_read_alike b).cons (HS.QD KX G f_read_ways Law.QkS Law.QlA M (t_read_alike b) Law.Qln)
  have t_read_net:=λb=>(t_read_ways b).cons (HS.QD KX G f_read_net Law.Qle Law.QmR M (t_read_ways b) Law.Qmu)
  have t_way_word:=λb=>(t_read_net b).cons (HS.QD KX G f_way_word Law.Qlk Law.Qmo M (t_read_net b) Law.Qmv)
  have t_way_words:=λb=>(t_way_word b).cons (HS.QD KX G f_way_words Law.QkH Law.Qld M (t_way_word b) Law.Qk7)
  have t_net_text:=λb=>(t_way_words b).cons (HS.QD KX G f_net_text Law.Qll Law.Qm0 M (t_way_words b) Law.QmY)
  have t__law_cell_at:=λb=>(t_net_text b).cons (HS.QD KX G f__law_cell_at Law.QhK Law.Qie M (t_net_text b) Law.Qig)
  have t__law_base:=λb=>(t__law_cell_at b).cons (HS.QD KX G f__law_base Law.QjP Law.Qls M (t__law_cell_at b) Law.Qlp)
  have t__law_fits:=λb=>(t__law_base b).cons (HS.QD KX G f__law_fits Law.Qko Law.Qlx M (t__law_base b) Law.Qla)
  have t__law_expanded:=λb=>(t__law_fits b).cons (HS.QD KX G f__law_expanded Law.QgQ Law.Qg4 M (t__law_fits b) Law.Qhy)
  have t__law_words:=λb=>(t__law_expanded b).cons (HS.QD KX G f__law_words Law.Qjm Law.QkP M (t__law_expanded b) Law.QjM)
  have t__law_written:=λb=>(t__law_words b).cons (HS.QD KX G f__law_written Law.Qhh Law.QiG M (t__law_words b) Law.Qh8)
  have t__law_own_words:=λb=>(t__law_written b).cons (HS.QD KX G f__law_own_words Law.Qge Law.QgZ M (t__law_written b) Law.QgO)
  have t__law_pairs:=λb=>(t__law_own_words b).cons (HS.QD KX G f__law_pairs Law.Qjl Law.QkJ M (t__law_own_words b) Law.Qkh)
  have t__law_is_net:=λb=>(t__law_pairs b).cons (HS.QD KX G f__law_is_net Law.Qiw Law.Qjh M (t__law_pairs b) Law.Qjs)
  exact HS.QvD KX G hmg f_law Law.QuE Law.Qvy M (λbase=>t__law_is_net base) Law.Qu3
