import PyProof.Rows.All
import Wide.All
import OpenK.AllK
import Wide.FinOn
import Lean
import PyProof.EqAt
import PyProof.EqKinds
import PyProof.TupleCall
import PyProof.Rows.TupTab
import PyProof.DictRoadsH
import PyProof.StrWalks
import PyProof.SliceStr2
import PyProof.StrBlockI
import PyProof.StrBlockG
import PyProof.StrCalls2
import KE.KIntText
import PyProof.Rows.StrSplitMax
import PyProof.ZipIter
import PyProof.EnumMake
import PyProof.Rows.FactsT2
import PyProof.Rows.EnumRows
import PyProof.P3In
import PyProof.NeData
import KE.KUnpack
import PyProof.Rows.TupDisplay
import PyProof.Rows.SumAny
import PyProof.Rows.MinMaxN
import PyProof.Rows.ListRangeD
import PyProof.Rows.Range3
import PyProof.Rows.RuleM_int
import PyProof.Rows.SortShell
import PyProof.DictWalks
import PyProof.ListRange
import PyProof.Rows.SetFrom
import PyProof.CollectIter
import PyProof.SetRoads
import PyProof.Rows.ReprOcc
import PyProof.StrLawsIdx
import PyProof.StrLawsIn
import PyProof.StrLawsJoin
import PyProof.StrLawsTight
import PyProof.StrLawsChain
import KE.IntTextText
import PySem.Challenge.RW_heapstill_k72_row_texts
set_option Elab.async false
set_option linter.all false
set_option maxRecDepth 100000
def Za:= @List.mem_cons_of_mem
def Zb:= @List.mem_append_right
def Zc:= @List.mem_append_left
def Zd:= @Option.map_eq_some_iff
def Ze:= @List.getElem?_eq_some_iff
def Zf:= @Bool.and_eq_true
def Zg:= @List.getElem?_set_ne
def Zh:= @Option.bind_some
def Zi:= @List.mem_cons_self
def Zj:= @Nat.le_refl
def Zk:= @List.lookup_cons
def Zl:= @List.map_cons
def Zm:= @Nat.lt_of_lt_of_le
def Zn:= @PySem.Heap.get?_push_of_some
def Zo:= @List.size_toArray
def Zp:= @List.length_append
def Zq:= @PySem.Heap.lt_size
def Zr:= @Nat.le_trans
def Zs:= @List.getElem?_set_self
def Zt:= @List.mem_singleton
def Zu:= @List.mem_cons
def Zv:= @List.length_map
def Zw:= @PySem.Heap.get?_push_size
def Zx:= @List.mem_append
def Zy:= @List.mem_map
def Zz:= @List.getElem?_map
def ZA:= @List.count_eq_zero
def ZC:= @List.length_cons
def ZD:= @List.getElem?_eq_none
def ZE:= @Nat.ne_of_lt
def ZF:= @Nat.lt_irrefl
def ZG:= @PySem.mem_of_lookup
def ZH:= @List.replicate_succ
def ZI:= @List.count_append
def ZJ:= @Nat.zero_le
def ZK:= @List.all_eq_true
def ZL:= @List.flatten_cons
def ZM:= @List.map_append
def ZN:= @List.getElem?_append_left
def ZO:= @List.drop_eq_getElem_cons
def ZP:= @List.count_pos_iff
def ZQ:= @List.sum_cons
def ZR:= @List.nodup_iff_count
def ZS:= @Array.length_toList
def ZT:= @Bool.false_ne_true
def ZU:= @List.set_eq_take_append_cons_drop
def ZV:= @List.mem_filter
def ZW:= @List.nodup_cons
def ZX:= @List.count_cons
def ZY:= @List.mem_of_getElem?
def ZZ:= @List.append_assoc
def Zaa:= @Nat.pow_le_pow_right
def Zab:= @List.length_take
def Zac:= @PySem.W.kia_one
def Zad:= @Option.map_some
def Zae:= @PyProof.Rows.callWith_type1
def Zaf:= @Bool.not_eq_true'
def Zag:= @List.getD_eq_getElem?_getD
def Zah:= @List.map_nil
def Zai:= @List.mem_filterMap
def Zaj:= @PySem.Heap.size_push
def Zak:= @List.map_map
def Zal:= @List.nodup_append
def Zam:= @List.length_singleton
def Zan:= @List.take_append_drop
def Zao:= @List.cons_append
def Zap:= @List.mem_flatten
def Zaq:= @Nat.min_le_right
def Zar:= @Int.mul_le_mul_of_nonneg_right
def Zas:= @Nat.add_le_add_right
def Zat:= @Int.add_mul
def Zau:= @List.filterMap_cons
def Zav:= @List.sum_append_int
def Zaw:= @List.map_congr_left
def Zax:= @List.getElem?_append_right
def Zay:= @List.nodup_nil
def Zaz:= @List.getElem?_eq_none_iff
def ZaA:= @Nat.lt_succ_of_lt
def ZaB:= @Nat.le_succ
def ZaC:= @PySem.W.mg_of
def ZaD:= @List.getElem?_replicate
def ZaE:= @List.foldlM_cons
def ZaF:= @PySem.W.cellsFrom_some
def ZaG:= @PyProof.Rows.boot_list
def ZaH:= @List.of_mem_zip
def ZaI:= @List.length_set
def ZaJ:= @Bool.false_and
def ZaK:= @Nat.log2_lt
def ZaL:= @List.any_cons
namespace L2
open PySem PySem.Spec PyProof.Rows
noncomputable abbrev Key:=Sum Int Str
noncomputable def Qi2:Key->Value->Bool
 | .inl k,v=>Value.isInt k v
 | .inr x,v=>Value.isStrOf x v
noncomputable def Qnx(w:World):Key->Int
 | .inl k=>hashInt k
 | .inr x=>hashStr w x
theorem QD:∀{k:Key}{v:Value},Qi2 k v=true->(∃i t,k=Sum.inl i/\v=Value.int i t)∨(∃x t,k=Sum.inr x/\v=Value.str x t)
 | .inl i,v,h=>by
  obtain⟨t,e⟩:=Value.isInt_shape (k:=i) (v:=v) h
  exact .inl ⟨i,t,rfl,e⟩
 | .inr x,v,h=>by
  obtain⟨t,e⟩:=Value.isStrOf_shape (x:=x) (v:=v) h
  exact .inr ⟨x,t,rfl,e⟩
theorem QkG(a b:Int):decide ((Sum.inl a:Key)=Sum.inl b)=(a == b):=by
 by_cases e:a=b
 ·subst e;simp
 ·have h:¬(Sum.inl a:Key)=Sum.inl b:=λq=>e (Sum.inl.inj q)
  rw[decide_eq_false h]
  exact(beq_eq_false_iff_ne.mpr e).symm
theorem QkA(a b:Str):decide ((Sum.inr a:Key)=Sum.inr b)=decide (a=b):=by
 by_cases e:a=b
 ·subst e;simp
 ·have h:¬(Sum.inr a:Key)=Sum.inr b:=λq=>e (Sum.inr.inj q)
  rw[decide_eq_false h,decide_eq_false e]
theorem QkQ(a:Int)(b:Str):decide ((Sum.inl a:Key)=Sum.inr b)=false:=decide_eq_false (λq=>nomatch q)
theorem Qk9(a:Str)(b:Int):decide ((Sum.inr a:Key)=Sum.inl b)=false:=decide_eq_false (λq=>nomatch q)
noncomputable def QdY(prog:Program)(w:World):PySem.KeyKind prog w Key where
 is:=Qi2
 hash:=Qnx w
 inj:=λv a b ha hb=>by
  rcases QD ha with⟨i,t,rfl,rfl⟩ | ⟨x,t,rfl,rfl⟩
  ·rcases QD hb with⟨j,u,rfl,e⟩ | ⟨y,u,rfl,e⟩
   ·injection e with e1 _;rw[e1]
   ·exact nomatch e
  ·rcases QD hb with⟨j,u,rfl,e⟩ | ⟨y,u,rfl,e⟩
   ·exact nomatch e
   ·injection e with e1 _;rw[e1]
 byValue:=λk v h=>by
  rcases QD h with⟨i,t,rfl,rfl⟩ | ⟨x,t,rfl,rfl⟩<;>rfl
 pyHash:=λhv h=>by
  rcases QD hv with⟨i,t,rfl,rfl⟩ | ⟨x,t,rfl,rfl⟩
  ·exact wpAny_pyHash_int h
  ·exact wpAny_pyHash_str h
 eqBool:=λhu hv h=>by
  rcases QD hu with⟨i,t,rfl,rfl⟩ | ⟨x,t,rfl,rfl⟩
  ·rcases QD hv with⟨j,u,rfl,rfl⟩ | ⟨y,u,rfl,rfl⟩
   ·rw[QkG]at h;exact wpAny_eqBool_int h
   ·rw[QkQ]at h;exact SeqAt.EqAt.int_str i t y u _ _ _ _ h
  ·rcases QD hv with⟨j,u,rfl,rfl⟩ | ⟨y,u,rfl,rfl⟩
   ·rw[Qk9]at h;exact SeqAt.EqAt.str_int x t j u _ _ _ _ h
   ·rw[QkA]at h;exact wpAny_eqBool_str h
 «strs» :=λk x t v h=>by
  rcases QD h with⟨i,u,rfl,e⟩ | ⟨y,u,rfl,e⟩
  ·exact nomatch e
  ·injection e with e1 _
   subst e1
   cases v<;>rfl
end L2
namespace L2
open PySem PySem.Spec PyProof.Rows
inductive V where
 | non | bl (b:Bool) | int (i:Int) | str (x:Str) | byt (b:Array UInt8) | flt (b:UInt64) | ref (a:Addr) | ty (n:String)
 deriving DecidableEq
noncomputable def RelV:V->Value->Prop
 | .non,u=>u=Value.none
 | .bl b,u=>u=Value.bool b
 | .int i,u=>∃t,u=Value.int i t
 | .str x,u=>∃t,u=Value.str x t
 | .byt b,u=>∃t,u=Value.bytes b t
 | .flt b,u=>∃t,u=Value.float b t
 | .ref a,u=>u=Value.ref a
 | .ty n,u=>u=Value.type n
noncomputable abbrev Qe:List V->List Value->Prop:=Paired RelV
theorem Qe.length{xs:List V}{us:List Value}(r:Qe xs us):xs.length=us.length:=Paired.length r
theorem Qe.get:∀{xs:List V}{us:List Value}{i:Nat}{x:V},Qe xs us->xs[i]? =some x->∃u,us[i]? =some u/\RelV x u
 | _,_,_,_,.nil,e=>by simp at e
 | _,_,0,_,.cons r _,e=>by simp at e;subst e;exact⟨_,rfl,r⟩
 | _,_,i+1,x,.cons _ t,e=>by
  obtain⟨u,h1,h2⟩:=Qe.get (i:=i) (x:=x) t (by simpa using e)
  exact⟨u,by simpa using h1,h2⟩
theorem Qe.set{x:V}{u:Value}(r:RelV x u):∀{xs:List V}{us:List Value}(i:Nat),Qe xs us->Qe (xs.set i x) (us.set i u)
 | _,_,_,.nil=> .nil
 | _,_,0,.cons _ t=> .cons r t
 | _,_,i+1,.cons q t=> .cons q (Qe.set r i t)
theorem exK{α β γ δ:Type}{P Q R:α->β->γ->δ->Prop}{G:Prop}(k:∀a b c d,P a b c d->Q a b c d->R a b c d->G)(h:∃a b c d,P a b c d/\Q a b c d/\R a b c d):G:=let ⟨a,b,c,d,p,q,r⟩:=h;k a b c d p q r
theorem exJ{α β:Type}{P Q R:α->β->Prop}{G:Prop}(k:∀a b,P a b->Q a b->R a b->G)(h:∃a b,P a b/\Q a b/\R a b):G:=let ⟨a,b,p,q,r⟩:=h;k a b p q r
theorem Qe.append{xs ys:List V}{us ws:List Value}(h:Qe xs us)(s:Qe ys ws):Qe (xs++ys) (us++ws):=by
 induction h with
 | nil=>exact s
 | cons r t ih=>exact .cons r ih
theorem Qe.take:∀{xs:List V}{us:List Value}(n:Nat),Qe xs us->Qe (xs.take n) (us.take n)
 | _,_,0,_=> .nil
 | _,_,_+1,.nil=> .nil
 | _,_,n+1,.cons r t=> .cons r (Qe.take n t)
theorem Qe.drop:∀{xs:List V}{us:List Value}(n:Nat),Qe xs us->Qe (xs.drop n) (us.drop n)
 | _,_,0,r=>r
 | _,_,_+1,.nil=> .nil
 | _,_,n+1,.cons _ t=>Qe.drop n t
theorem Qe.none_of:∀{xs:List V}{us:List Value}{i:Nat},Qe xs us->xs[i]? =none->us[i]? =none:=λ{xs us i} r e=>by
 have h1:=r.length
 have h2:xs.length<=i:=Zaz.mp e
 exact Zaz.mpr (by omega)
noncomputable def Qa4:Option V->Option Value->Prop
 | some v,some u=>RelV v u
 | none,none=>True
 | _,_=>False
noncomputable def KV{κ:Type}:List (κ×V)->List (κ×Value)->Prop:=Paired λ(p:κ×V) (q:κ×Value)=>p.1=q.1/\RelV p.2 q.2
noncomputable def kV:Key->V
 | .inl i=> .int i
 | .inr x=> .str x
inductive HO where
 | lst (xs:List V)
 | tup (xs:List V)
 | dK (kvs:List (Key×V)) | dT (kvs:List (List Key×V))
 | set (S:Int->Bool) (n:Nat)
 | ins (C dx:Addr) (fs:List (Str×V))
 | own (x:Addr)
 | xd (fs:List (Str×V))
 | met (f x:Addr)
 | rng (lo hi:Int)
 | frz (o:Obj) (u:HO)
 | tbl (ps:Array Value)
 | ext (φ:Heap->Prop)
noncomputable abbrev Hp:=Addr->Option HO
noncomputable def upd(H:Hp)(a:Addr)(o:HO):Hp:=λb=>if b=a then some o else H b
theorem QJ{H:Hp}{a:Addr}{o:HO}:upd H a o a=some o:=by unfold upd;rw[if_pos rfl]
theorem Ql{H:Hp}{a b:Addr}{o:HO}(h:b≠a):upd H a o b=H b:=by unfold upd;rw[if_neg h]
theorem QeC{H:Hp}{a b:Addr}{o u:HO}(h:H a=some o)(h':H b=some u)(d:o≠u):a≠b:=by
 intro e;subst e;rw[h]at h';exact d (Option.some.inj h')
theorem QS{H:Hp}{a b:Addr}{o:HO}(h:H a=some o)(h':H b=none):a≠b:=by
 intro e;subst e;rw[h]at h';cases h'
section
variable (P:Program) (w:World)
noncomputable def Qaf(H:Hp)(h:Heap)(a:Addr):HO->Prop
 | .lst xs=>xs.length<=sizeLine/\∃(its:List Value) (n:Nat),Qe xs its/\h.get? a=some {cls:= .type "list",data:= .seq its.toArray n}
 | .tup xs=>xs.length<=sizeLine/\∃its:List Value,Qe xs its/\IsTup h a its.toArray
 | .dK kvs=>kvs.length<=sizeLine/\(a == sysModules)=false/\∃vs,KV kvs vs/\h.DictOf (QdY P w) a vs
 | .dT kvs=>kvs.length<=sizeLine/\(a == sysModules)=false/\∃xs:List (List Key×Addr×Value),
   Paired (λ(p:List Key×V) (q:List Key×Addr×Value)=>p.1=q.1/\H q.2.1=some (.tup (p.1.map kV))/\RelV p.2 q.2.2) kvs xs∧
   ∃o es ep,h.get? a=some o/\o.ExactDict/\o.data= .dict es ep/\es.toList=xs.map (entryOfKey (tupleKind (QdY P w)))/\(xs.map (·.1)).Nodup
 | .set S n=>h.SetOf (intKind P w) a S n
 | .ins C dx fs=>H dx=some (.own a)/\fs.length<=1000/\dx≠a/\h.get? a=some (PySem.W.instObj C dx)∧
   ∃mA,h.Ns1 dx mA/\(∀f,Qa4 (fs.lookup f) (mA f))/\PySem.Within mA (fs.map (·.1))
 | .own _=>∃o,h.get? a=some o
 | .xd fs=>∃mA,h.Ns1 a mA/\∀f,Qa4 (fs.lookup f) (mA f)
 | .rng lo hi=>∃t u v,h.get? a=some {cls:= .type "range",data:= .fields #[.int lo t,.int hi u,.int 1 v]}
 | .frz o u=>h.get? a=some o/\Qaf H h a u
 | .tbl ps=>h.get? a=some {cls:= .none,data:= .fields ps}
 | .met f x=>h.get? a=some (PySem.W.methodObj (.ref f) (.ref x))
 | .ext φ=>φ h/\(∃o,h.get? a=some o)/\∀h1 h2:Heap,φ h1->(∀o,h1.get? a=some o->h2.get? a=some o)->φ h2
def HOk(H:Hp)(h:Heap):Prop:=∀a o,H a=some o->Qaf P w H h a o
end
section
variable {P:Program}{w:World}{H H':Hp}{h h':Heap}{a:Addr}{o:HO}
theorem Qaf.lt(x:Qaf P w H h a o):a<h.objs.size:=by
 cases o with
 | lst xs=>obtain⟨_,_,_,_,e⟩:=x;exact Zq e
 | tup xs=>obtain⟨_,_,_,p⟩:=x;exact p.lt
 | dK kvs=>obtain⟨_,_,_,_,o,_,_,e,_⟩:=x;exact Zq e
 | dT kvs=>obtain⟨_,_,_,_,o,_,_,e,_⟩:=x;exact Zq e
 | set S n=>obtain⟨o,_,_,_,e,_⟩:=x;exact Zq e
 | ins C dx fs=>obtain⟨_,_,_,e,_⟩:=x;exact Zq e
 | own y=>obtain⟨_,e⟩:=x;exact Zq e
 | xd fs=>obtain⟨_,⟨_,_,_,e,_⟩,_⟩:=x;exact Zq e
 | rng lo hi=>obtain⟨_,_,_,e⟩:=x;exact Zq e
 | frz ob u=>obtain⟨e,_⟩:=x;exact Zq e
 | tbl ps=>exact Zq (show h.get? a=some _ from x)
 | met f y=>exact Zq (show h.get? a=some _ from x)
 | ext φ=>obtain⟨_,⟨_,e⟩,_⟩:=x;exact Zq e
theorem Paired.Qix{α β:Type}{F G:α->β->Prop}:∀{l₁:List α}{l₂:List β},Paired F l₁ l₂->(∀a b,F a b->G a b)->Paired G l₁ l₂
 | _,_,.nil,_=> .nil
 | _,_,.cons r t,f=> .cons (f _ _ r) (Paired.Qix t f)
theorem Qaf.Qci(x:Qaf P w H h a o)(k:∀b u,(b=a∨H b=some (.own a))->h.get? b=some u->h'.get? b=some u)
  (ho:∀b,H b=some (.own a)->H' b=some (.own a)) (ht:∀b xs,H b=some (.tup xs)->H' b=some (.tup xs)):Qaf P w H' h' a o:=by
 induction o with
 | lst xs=>obtain⟨z,its,n,r,e⟩:=x;exact⟨z,its,n,r,k _ _ (.inl rfl) e⟩
 | tup xs=>obtain⟨z,its,r,ob,e,c⟩:=x;exact⟨z,its,r,ob,k _ _ (.inl rfl) e,c⟩
 | dK kvs=>obtain⟨z,y,vs,r,ob,es,ep,e,c⟩:=x;exact⟨z,y,vs,r,ob,es,ep,k _ _ (.inl rfl) e,c⟩
 | dT kvs=>
  obtain⟨z,y,xs,r,ob,es,ep,e,c⟩:=x
  exact⟨z,y,xs,Paired.Qix r λp q z=>⟨z.1,ht _ _ z.2.1,z.2.2⟩,ob,es,ep,k _ _ (.inl rfl) e,c⟩
 | set S n=>obtain⟨ob,es,ep,t,e,c⟩:=x;exact⟨ob,es,ep,t,k _ _ (.inl rfl) e,c⟩
 | ins C dx fs=>
  obtain⟨d,z,ne,e,mA,⟨od,es,ep,e2,c⟩,r⟩:=x
  exact⟨ho _ d,z,ne,k _ _ (.inl rfl) e,mA,⟨od,es,ep,k _ _ (.inr d) e2,c⟩,r⟩
 | own y=>obtain⟨ob,e⟩:=x;exact⟨ob,k _ _ (.inl rfl) e⟩
 | xd fs=>obtain⟨mA,⟨od,es,ep,e,c⟩,r⟩:=x;exact⟨mA,⟨od,es,ep,k _ _ (.inl rfl) e,c⟩,r⟩
 | rng lo hi=>obtain⟨t,u,v,e⟩:=x;exact⟨t,u,v,k _ _ (.inl rfl) e⟩
 | frz ob u ih=>obtain⟨e,q⟩:=x;exact⟨k _ _ (.inl rfl) e,ih q⟩
 | tbl ps=>
  have e:h.get? a=some {cls:= .none,data:= .fields ps}:=x
  show h'.get? a=some {cls:= .none,data:= .fields ps}
  exact k a _ (.inl rfl) e
 | met f y=>
  have e:h.get? a=some (PySem.W.methodObj (.ref f) (.ref y)):=x
  show h'.get? a=some (PySem.W.methodObj (.ref f) (.ref y))
  exact k a _ (.inl rfl) e
 | ext φ=>obtain⟨p,⟨o,e⟩,st⟩:=x;exact⟨st _ _ p λo q=>k _ _ (.inl rfl) q,⟨o,k _ _ (.inl rfl) e⟩,st⟩
theorem HOk.lt(x:HOk P w H h)(e:H a=some o):a<h.objs.size:=(x a o e).lt
theorem HOk.fresh(x:HOk P w H h)(e:h.objs.size<=a):H a=none:=by
 cases q:H a with
 | none=>rfl
 | some u=>exact absurd (Zm (x.lt q) e) (ZF _)
theorem HOk.kept(x:HOk P w H h)(k:∀b u,h.get? b=some u->h'.get? b=some u):HOk P w H h':=λa o e=>
 (x a o e).Qci (λb u _ q=>k b u q) (λ_ q=>q) λ_ _ q=>q
theorem HOk.laid(x:HOk P w H h)(k:∀b u,h.get? b=some u->h'.get? b=some u)(hp:h.objs.size<=a)(new:Qaf P w (upd H a o) h' a o):HOk P w (upd H a o) h':=λb u e=>by
 have hn:=x.fresh hp
 by_cases hb:b=a
 ·subst hb;rw[QJ]at e;cases e;exact new
 ·rw[Ql hb]at e
  exact(x b u e).Qci (λc v _ q=>k c v q) (λc q=>by rw[Ql (QS q hn)];exact q) λc xs q=>by rw[Ql (QS q hn)];exact q
end
def Rd(H:Hp)(a:Addr)(u:HO):Prop:=H a=some u∨∃o,H a=some (.frz o u)
theorem Rd.of{H:Hp}{a:Addr}{u:HO}(h:H a=some u):Rd H a u:= .inl h
theorem Rd.ok{P:Program}{w:World}{H:Hp}{h:Heap}{a:Addr}{u:HO}(r:Rd H a u)(x:HOk P w H h):Qaf P w H h a u:=by
 rcases r with r | ⟨o,r⟩
 ·exact x a u r
 ·obtain⟨_,q⟩:=x a _ r
  exact q
noncomputable def Mut:Option HO->Prop
 | some (.lst _)=>True
 | some (.dK _)=>True
 | some (.dT _)=>True
 | some (.set _ _)=>True
 | some (.ins _ _ _)=>True
 | some (.ext _)=>True
 | _=>False
section
variable {P:Program}{w:World}{H:Hp}{h h':Heap}{x e:Addr}{o':HO}
theorem HOk.write(ok:HOk P w H h)(mu:Mut (H x))(he:e=x∨H e=some (.own x))(k:∀b u,b≠e->h.get? b=some u->h'.get? b=some u)(heo:∃u,h'.get? e=some u)
  (new:Qaf P w (upd H x o') h' x o'):HOk P w (upd H x o') h':=λb u q=>by
 have nown:∀c y,H c=some (.own y)->c≠x:=λc y r z=>by subst z;rw[r]at mu;exact mu
 have ntup:∀c xs,H c=some (.tup xs)->c≠x:=λc xs r z=>by subst z;rw[r]at mu;exact mu
 by_cases hb:b=x
 ·subst hb;rw[QJ]at q;cases q;exact new
 ·rw[Ql hb]at q
  by_cases hbe:b=e
  ·have q':H b=some (.own x):=by
    rcases he with z | z
    ·exact absurd (hbe.trans z) hb
    ·rw[hbe];exact z
   rw[q]at q';cases q'
   obtain⟨v,hv⟩:=heo
   exact⟨v,by rw[hbe];exact hv⟩
  ·refine(ok b u q).Qci (λc v hc r=>k c v ?_ r) (λc r=>by rw[Ql (nown c b r)];exact r) λc xs r=>by rw[Ql (ntup c xs r)];exact r
   rcases hc with rfl | hc
   ·exact hbe
   ·rintro rfl
    rcases he with z | z
    ·exact nown c b hc z
    ·rw[hc]at z;cases z;exact hb rfl
end
structure Un (fs ex:List Addr) (H H':Hp) (h h':Heap):Prop where
 keep:∀b o,h.get? b=some o->H b=none->b∉fs->b∉ex->h'.get? b=some o
 slot:∀b o,h.get? b=some o->H b=none->b∈fs->b∉ex->∃sl,h'.get? b=some {o with slots:=sl}
 free:∀b o,h.get? b=some o->H b=none->b∉ex->H' b=none
 there:∀b o,h.get? b=some o->b∉ex->∃o',h'.get? b=some o'
 tups:∀b xs,H b=some (.tup xs)->H' b=some (.tup xs)
 frzs:∀b o u,H b=some (.frz o u)->H' b=some (.frz o u)
 tbls:∀b ps,H b=some (.tbl ps)->∃more,H' b=some (.tbl (ps++more))
section
variable {fs fs' ex ex':List Addr}{H H1 H2:Hp}{h h1 h2 h':Heap}{a x e:Addr}{o:HO}
theorem Un.any(u:Un fs ex H H1 h h1){b:Addr}{ob:Obj}(q:h.get? b=some ob)(n:H b=none)(hx:b∉ex):∃sl,h1.get? b=some {ob with slots:=sl}:=by
 by_cases hb:b∈fs
 ·exact u.slot b ob q n hb hx
 ·exact⟨ob.slots,u.keep b ob q n hb hx⟩
theorem Un.trans(a:Un fs ex H H1 h h1)(b:Un fs ex H1 H2 h1 h2):Un fs ex H H2 h h2 where
 keep:=λc ob q n hc hx=>b.keep c ob (a.keep c ob q n hc hx) (a.free c ob q n hx) hc hx
 slot:=λc ob q n hc hx=>by
  obtain⟨sl,e1⟩:=a.slot c ob q n hc hx
  obtain⟨sl',e2⟩:=b.slot c _ e1 (a.free c ob q n hx) hc hx
  exact⟨sl',e2⟩
 free:=λc ob q n hx=>by
  obtain⟨o',e1⟩:=a.there c ob q hx
  exact b.free c o' e1 (a.free c ob q n hx) hx
 there:=λc ob q hx=>by
  obtain⟨o',e1⟩:=a.there c ob q hx
  exact b.there c o' e1 hx
 tups:=λc xs q=>b.tups c xs (a.tups c xs q)
 frzs:=λc ob xs q=>b.frzs c ob xs (a.frzs c ob xs q)
 tbls:=λc ps q=>by
  obtain⟨m1,e1⟩:=a.tbls c ps q
  obtain⟨m2,e2⟩:=b.tbls c _ e1
  exact⟨m1++m2,by rw[e2,Array.append_assoc]⟩
theorem Un.kept(k:∀b u,h.get? b=some u->h'.get? b=some u):Un fs ex H H h h':=
 ⟨λb ob q _ _ _=>k b ob q,λb ob q _ _ _=>⟨ob.slots,k b ob q⟩,λ_ _ _ n _=>n,λb ob q _=>⟨ob,k b ob q⟩,λ_ _ q=>q,λ_ _ _ q=>q,λ_ ps q=>⟨#[],by rw[q];simp⟩⟩
theorem Un.refl:Un fs ex H H h h:=Un.kept λ_ _ q=>q
theorem Un.laid(k:∀b u,h.get? b=some u->h'.get? b=some u)(hp:h.objs.size<=a)(hn:H a=none):Un fs ex H (upd H a o) h h' where
 keep:=λb u q _ _ _=>k b u q
 slot:=λb u q _ _ _=>⟨u.slots,k b u q⟩
 free:=λb u q n _=>by rw[Ql (ZE (Zm (Zq q) hp))];exact n
 there:=λb u q _=>⟨u,k b u q⟩
 tups:=λb xs q=>by rw[Ql (QS q hn)];exact q
 frzs:=λb u xs q=>by rw[Ql (QS q hn)];exact q
 tbls:=λb ps q=>⟨#[],by rw[Ql (QS q hn),q];simp⟩
theorem Un.write(mu:Mut (H x))(he:e=x∨H e=some (.own x))(k:∀b u,b≠e->h.get? b=some u->h'.get? b=some u)(heo:∃u,h'.get? e=some u):Un fs ex H (upd H x o) h h':=by
 have hx:∀b,H b=none->b≠x:=λb n z=>by subst z;rw[n]at mu;exact mu
 have hb:∀b,H b=none->b≠e:=λb n z=>by
  subst z
  rcases he with r | r
  ·exact hx b n r
  ·rw[n]at r;cases r
 have hm:∀b u,H b=some u->¬Mut (some u)->b≠x:=λb u q nm z=>by subst z;rw[q]at mu;exact nm mu
 refine⟨λb u q n _ _=>k b u (hb b n) q,λb u q n _ _=>⟨u.slots,k b u (hb b n) q⟩,λb u q n _=>by rw[Ql (hx b n)];exact n,λb u q _=>?_,
  λb xs q=>by rw[Ql (hm b _ q λz=>z)];exact q,λb u xs q=>by rw[Ql (hm b _ q λz=>z)];exact q,λb ps q=>⟨#[],by rw[Ql (hm b _ q λz=>z),q];simp⟩⟩
 by_cases hbe:b=e
 ·subst hbe;exact heo
 ·exact⟨u,k b u hbe q⟩
theorem Un.mono(u:Un fs ex H H1 h h1)(hs:∀b∈fs,b∈fs')(hx:∀b∈ex,b∈ex'):Un fs' ex' H H1 h h1:=
 ⟨λb ob q n hb he=>u.keep b ob q n (λz=>hb (hs b z)) λz=>he (hx b z),λ_ _ q n _ he=>u.any q n λz=>he (hx _ z),λb ob q n he=>u.free b ob q n λz=>he (hx b z),λb ob q he=>u.there b ob q λz=>he (hx b z),u.tups,u.frzs,u.tbls⟩
end
noncomputable def trk(h:Heap)(H:Hp):List Addr:=(List.range h.objs.size).filter λa=>(H a).isSome
noncomputable def Qca(h:Heap)(H:Hp):Heap:=PySem.W.hideAll h (trk h H)
theorem Qha(h:Heap)(H:Hp):(Qca h H).objs.size=h.objs.size:=PySem.W.hideAll_size _ _
theorem Qil{h:Heap}{H:Hp}{b:Addr}{o:Obj}(e:h.get? b=some o)(n:H b=none):(Qca h H).get? b=some o:=
 PySem.W.hideAll_get _ e λhm=>by
  have q:(H b).isSome=true:=(ZV.mp hm).2
  rw[n]at q;simp at q
theorem Qkg{h:Heap}{H:Hp}{b:Addr}{o:Obj}(e:(Qca h H).get? b=some o):h.get? b=some o/\H b=none:=by
 have e':h.get? b=some o:=PySem.W.of_hideAll (trk h H) e
 refine⟨e',?_⟩
 cases q:H b with
 | none=>rfl
 | some x=>
  have hm:b∈trk h H:=ZV.mpr ⟨List.mem_range.mpr (Zq e'),by simp[q]⟩
  have z:(Qca h H).get? b=none:=PySem.W.hideAll_none (trk h H) hm
  rw[z]at e;cases e
noncomputable def Qkr(g h:Heap)(L:Addr):List (Addr×Obj):=(List.range h.objs.size).filterMap λa=>if a=L∨(g.get? a).isSome=true then none else(h.get? a).map λo=>(a,o)
noncomputable def rest(g h:Heap)(L d:Addr):List (Addr×Obj):=(Qkr g h L).filter λp=>decide (p.1≠d)
end L2
namespace L2
open PySem PySem.Spec PyProof.Rows
structure Mod (K:PySem.W.Frag) (mg:Str->Option Value) (base:Heap):Prop where
 kin:K.In base
 glob:base.Ns mainGlobals mg
 blt:∃mb,base.Ns builtinsNs mb/\∀x:Str,x≠ "__name__" ->mb x=bootBuiltins x
 nolimit:base.NoLimit
structure Cx where
 prog:Program
 w:World
 K:PySem.W.Frag
 mg:Str->Option Value
 base:Heap
 A:Around
 N:List Str
 s₀:Shared
 H₀:Hp
 env:Env
 outer:List Env
 stack:List Env
 ex:List Addr
 fn:Str->Bool
 calm:Bool
 pn:List (Addr×Obj)
 xe:Value->Shared->Prop
noncomputable def frs(l:List Env):List Addr:=l.filterMap (·.frame)
noncomputable abbrev Cx.fs(X:Cx):List Addr:=frs X.outer
def Vis(sc:Scope)(x:Str):Prop:=sc.names.lookup x=some .local ∨sc.names.lookup x=some .cell∨sc.names.lookup x=some .free
def Loc(sc:Scope)(x:Str):Prop:=sc.names.lookup x=some .local ∨sc.names.lookup x=some .cell
def Look(env:Env)(h:Heap)(m:Str->Option Value)(x:Str)(u:Value):Prop:=
 (env.kindOf x=some .local /\m x=some u)∨((env.kindOf x=some .cell∨env.kindOf x=some .free)/\∃c,env.cells.lookup x=some c/\h.IsCell c (some u))
structure Cx.Ok (X:Cx):Prop where
 mod:Mod X.K X.mg X.base
 kind:X.env.scope.kind= .function
 glob:X.env.globals=mainGlobals
 blt:X.env.builtins=builtinsNs
 above:X.s₀.heap.objs.size<=X.env.locals
 inj:∀x y c,X.env.cells.lookup x=some c->X.env.cells.lookup y=some c->x=y
 has:∀x,(X.env.kindOf x=some .cell∨X.env.kindOf x=some .free)->∃c,X.env.cells.lookup x=some c
 cab:∀x c,X.fn x=true->X.env.cells.lookup x=some c->X.s₀.heap.objs.size<=c
 hd:X.calm=true->X.A.handled=none
 frames:X.A.frames=some X.stack
 stk:X.stack=X.outer∨(X.stack=X.env::X.outer/\X.env.frame=some X.env.locals)
 exf:∀b∈X.ex,b≠X.env.locals/\∀x c,X.env.cells.lookup x=some c->c≠b
 bs:∀b o,X.base.get? b=some o->X.s₀.heap.get? b=some o/\X.H₀ b=none
 bsz:X.base.objs.size<=X.s₀.heap.objs.size
 noex:∀b o,X.base.get? b=some o->b∉X.ex
 exfs:∀b∈X.ex,b∉X.fs
 QaV:X.s₀.heap.FunFrames X.base X.outer
 frf:∀b∈X.fs,X.H₀ b=none
structure Inv (X:Cx) (pins:List (Addr×Obj)) (σ:List (Option V)) (H:Hp) (s:Shared):Prop where
 ok:X.Ok
 os:s.os=X.s₀.os
 bare:AllBare s.gens
 base:Un X.fs X.ex X.H₀ H X.s₀.heap s.heap
 loc:∃m,s.heap.Ns X.env.locals m/\∀(i:Nat) (x:Str) (v:V),X.N[i]? =some x->σ[i]? =some (some v)->Vis X.env.scope x->∃u,RelV v u/\Look X.env s.heap m x u
 cell:∀x c,X.env.cells.lookup x=some c->∃v,s.heap.IsCell c v
 free:H X.env.locals=none
 freeC:∀x c,X.env.cells.lookup x=some c->H c=none
 pin:∀p∈X.pn++pins,s.heap.get? p.1=some p.2/\H p.1=none/\p.1≠X.env.locals/\p.1∉X.fs/\∀v,p.2.data≠ .cell v
 hok:HOk X.prog X.w H s.heap
 len:σ.length=X.N.length
section
variable {X:Cx}{pins:List (Addr×Obj)}{σ:List (Option V)}{H H':Hp}{s:Shared}{h':Heap}
theorem Cx.Ok.Qnv(ok:X.Ok){b:Addr}{o:Obj}(e:X.base.get? b=some o):b∉X.fs:=λhb=>by
 have:=(ok.QaV.mem hb).1
 rw[e]at this;cases this
theorem Inv.bs(I:Inv X pins σ H s):∀b o,X.base.get? b=some o->s.heap.get? b=some o/\H b=none:=λb o e=>
 ⟨I.base.keep b o (I.ok.bs b o e).1 (I.ok.bs b o e).2 (I.ok.Qnv e) (I.ok.noex b o e),I.base.free b o (I.ok.bs b o e).1 (I.ok.bs b o e).2 (I.ok.noex b o e)⟩
theorem Inv.bk(I:Inv X pins σ H s):∀b o,X.base.get? b=some o->s.heap.get? b=some o:=λb o e=>(I.bs b o e).1
theorem Inv.mod(I:Inv X pins σ H s):Mod X.K X.mg X.base:=I.ok.mod
theorem Inv.kIn(I:Inv X pins σ H s):X.K.In s.heap:=I.ok.mod.kin.keeps I.bk
theorem Inv.nolimit(I:Inv X pins σ H s):s.heap.NoLimit:=I.ok.mod.nolimit.keeps I.bk
theorem Inv.fr(I:Inv X pins σ H s):∃m,Fr X.base X.env.locals s.heap m:=
 let ⟨m,hn,_⟩:=I.loc
 ⟨m,hn,I.bk,Zr I.ok.bsz I.ok.above⟩
theorem Inv.lt(I:Inv X pins σ H s):X.env.locals<s.heap.objs.size:=let ⟨_,hn,_⟩:=I.loc;hn.lt
theorem Inv.sz(I:Inv X pins σ H s):X.s₀.heap.objs.size<=s.heap.objs.size:=Zr I.ok.above (Nat.le_of_lt I.lt)
theorem Inv.QnF(I:Inv X pins σ H s){a:Addr}(h:s.heap.objs.size<=a):a∉X.fs:=λhb=>by
 obtain⟨_,o,ho,_⟩:=I.ok.QaV.mem hb
 exact absurd (Zm (Zq ho) (Zr I.sz h)) (ZF _)
theorem Inv.cne(I:Inv X pins σ H s):∀x c,X.env.cells.lookup x=some c->c≠X.env.locals:=λx c e z=>by
 obtain⟨v,o,ho,hd⟩:=I.cell x c e
 obtain⟨m,⟨o',es,ep,ho',hd',_⟩,_⟩:=I.loc
 rw[z,ho']at ho;cases ho;rw[hd']at hd;cases hd
theorem Inv.QaV(I:Inv X pins σ H s):s.heap.FunFrames X.base X.outer:=by
 have all:∀(l:List Env),(∀b∈frs l,b∈X.fs)->X.s₀.heap.FunFrames X.base l->s.heap.FunFrames X.base l:=by
  intro l
  induction l with
  | nil=>intro _ _;trivial
  | cons env r ih=>
   intro hs hl
   obtain⟨hk,⟨L,o,hf,hn,ho,hd⟩,hr⟩:=hl
   have hL:L∈X.fs:=hs L (by unfold frs;rw[Zau,hf];exact Zi)
   obtain⟨sl,e⟩:=I.base.slot L o ho (I.ok.frf L hL) hL λz=>I.ok.exfs L z hL
   exact⟨hk,⟨L,_,hf,hn,e,hd⟩,ih (λb hb=>hs b (by unfold frs;rw[Zau,hf];exact Za _ hb)) hr⟩
 exact all X.outer (λ_ hb=>hb) I.ok.QaV
theorem Inv.stack(I:Inv X pins σ H s):s.heap.FunFrames X.base X.stack:=by
 rcases I.ok.stk with e | ⟨e,hf⟩
 ·rw[e];exact I.QaV
 ·rw[e]
  obtain⟨m,hn,_⟩:=I.loc
  refine .cons (by rw[I.ok.kind];decide) hf hn ?_ I.QaV
  exact Heap.get?_none_of_le (Zr I.ok.bsz I.ok.above)
theorem Inv.Qdb(I:Inv X pins σ H s):∀b∈frs X.stack,b∈X.env.locals::X.fs:=λb hb=>by
 rcases I.ok.stk with e | ⟨e,hf⟩
 ·rw[e]at hb;exact Za _ hb
 ·rw[e]at hb
  unfold frs at hb
  rw[Zau,hf]at hb
  exact hb
theorem Inv.QfI(I:Inv X pins σ H s):∀b∈frs X.stack,H b=none:=λb hb=>by
 rcases Zu.mp (I.Qdb b hb)with e | hb
 ·rw[e];exact I.free
 ·obtain⟨_,o,ho,_⟩:=I.ok.QaV.mem hb
  exact I.base.free b o ho (I.ok.frf b hb) λz=>I.ok.exfs b z hb
theorem Inv.step{g':Array GenState}{t':Nat}{d':Drawn}{ch:List Addr}(I:Inv X pins σ H s)
  (hch:∀b∈ch,(b∈X.ex∨X.s₀.heap.objs.size<=b)/\b≠X.env.locals/\(∀x c,X.env.cells.lookup x=some c->c≠b)/\∀p∈X.pn++pins,p.1≠b)
  (keep:∀b o,b≠X.env.locals->b∉X.fs->b∉ch->s.heap.get? b=some o->H b=none->h'.get? b=some o)
  (slot:∀b o,b≠X.env.locals->b∈X.fs->b∉ch->s.heap.get? b=some o->H b=none->∃sl,h'.get? b=some {o with slots:=sl}) (free:∀b o,b∉ch->s.heap.get? b=some o->H b=none->H' b=none)
  (there:∀b o,b∉ch->s.heap.get? b=some o->∃o',h'.get? b=some o')
  (tups:∀b xs,H b=some (.tup xs)->H' b=some (.tup xs)) (frzs:∀b o u,H b=some (.frz o u)->H' b=some (.frz o u)) (tbls:∀b ps,H b=some (.tbl ps)->∃more,H' b=some (.tbl (ps++more)))
  (ns:∀m,s.heap.Ns X.env.locals m->h'.Ns X.env.locals m) (hok:HOk X.prog X.w H' h') (hg:AllBare g'):
  Inv X pins σ H' {s with heap:=h',gens:=g',drawn:=d',toks:=t'}:=by
 have neL:∀b o,X.s₀.heap.get? b=some o->b≠X.env.locals:=λb o e=>ZE (Zm (Zq e) I.ok.above)
 have neC:∀b o,X.s₀.heap.get? b=some o->b∉X.ex->b∉ch:=λb o e hx hb=>by
  rcases(hch b hb).1 with z | z
  ·exact hx z
  ·exact absurd (Zm (Zq e) z) (ZF _)
 have cellK:∀x c,X.env.cells.lookup x=some c->∀v,s.heap.IsCell c v->h'.IsCell c v:=λx c e v hpt=>by
  obtain⟨o,ho,hd⟩:=hpt
  have nch:c∉ch:=λz=>(hch c z).2.2.1 x c e rfl
  by_cases hc:c∈X.fs
  ·obtain⟨sl,q⟩:=slot c o (I.cne x c e) hc nch ho (I.freeC x c e)
   exact⟨_,q,hd⟩
  ·exact⟨o,keep c o (I.cne x c e) hc nch ho (I.freeC x c e),hd⟩
 refine⟨I.ok,I.os,hg,⟨λb o e n hb hx=>?_,λb o e n hb hx=>?_,λb o e n hx=>?_,λb o e hx=>?_,λb xs e=>tups b xs (I.base.tups b xs e),λb o xs e=>frzs b o xs (I.base.frzs b o xs e),λb ps e=>?_⟩,?_,λx c e=>?_,?_,λx c e=>?_,λp hp=>?_,hok,I.len⟩
 ·exact keep b o (neL b o e) hb (neC b o e hx) (I.base.keep b o e n hb hx) (I.base.free b o e n hx)
 ·obtain⟨sl,e1⟩:=I.base.slot b o e n hb hx
  obtain⟨sl',e2⟩:=slot b _ (neL b o e) hb (neC b o e hx) e1 (I.base.free b o e n hx)
  exact⟨sl',e2⟩
 ·obtain⟨o',e1⟩:=I.base.there b o e hx
  exact free b o' (neC b o e hx) e1 (I.base.free b o e n hx)
 ·obtain⟨o',e1⟩:=I.base.there b o e hx
  exact there b o' (neC b o e hx) e1
 ·obtain⟨m1,e1⟩:=I.base.tbls b ps e
  obtain⟨m2,e2⟩:=tbls b _ e1
  exact⟨m1++m2,by rw[e2,Array.append_assoc]⟩
 ·obtain⟨m,hn,hl⟩:=I.loc
  refine⟨m,ns m hn,λi x v e1 e2 e3=>?_⟩
  obtain⟨u,r,l⟩:=hl i x v e1 e2 e3
  refine⟨u,r,?_⟩
  rcases l with l | ⟨k,c,e,z⟩
  ·exact .inl l
  ·exact .inr ⟨k,c,e,cellK x c e _ z⟩
 ·obtain⟨v,z⟩:=I.cell x c e
  exact⟨v,cellK x c e v z⟩
 ·obtain⟨m,⟨o,_,_,ho,_⟩,_⟩:=I.loc
  exact free _ o (λz=>(hch _ z).2.1 rfl) ho I.free
 ·obtain⟨v,o,ho,hd⟩:=I.cell x c e
  exact free c o (λz=>(hch c z).2.2.1 x c e rfl) ho (I.freeC x c e)
 ·obtain⟨e,n,ne,nf,d⟩:=I.pin p hp
  have nch:p.1∉ch:=λz=>(hch p.1 z).2.2.2 p hp rfl
  exact⟨keep p.1 p.2 ne nf nch e n,free p.1 p.2 nch e n,ne,nf,d⟩
theorem Inv.un{t':Nat}(I:Inv X pins σ H s)(u:Un X.fs [] H H' s.heap h')(hok:HOk X.prog X.w H' h'):Inv X pins σ H' {s with heap:=h',toks:=t'}:=by
 obtain⟨m,⟨o,es,ep,ho,r⟩,_⟩:=id I.loc
 obtain⟨sl,hL⟩:=u.any ho I.free (by simp)
 exact I.step (g':=s.gens) (d':=s.drawn) (ch:=[]) (λ_ z=>nomatch z) (λb o _ hb _ e n=>u.keep b o e n hb (by simp)) (λb o _ hb _ e n=>u.slot b o e n hb (by simp)) (λb o _ e n=>u.free b o e n (by simp)) (λb o _ e=>u.there b o e (by simp)) u.tups u.frzs u.tbls (λm' hm=>by
  obtain⟨o',es',ep',ho',r'⟩:=hm
  rw[ho]at ho';cases ho'
  exact⟨_,es',ep',hL,r'⟩) hok I.bare
theorem Inv.call{g':Array GenState}{t':Nat}{d':Drawn}{ch:List Addr}(I:Inv X pins σ H s)(u:Un (frs X.stack) ch H H' s.heap h')(hok:HOk X.prog X.w H' h')(hg:AllBare g')
  (hch:∀b∈ch,(b∈X.ex∨X.s₀.heap.objs.size<=b)/\b≠X.env.locals/\(∀x c,X.env.cells.lookup x=some c->c≠b)/\∀p∈X.pn++pins,p.1≠b):
  Inv X pins σ H' {s with heap:=h',gens:=g',drawn:=d',toks:=t'}:=by
 obtain⟨m,⟨o,es,ep,ho,r⟩,_⟩:=id I.loc
 obtain⟨sl,hL⟩:=u.any ho I.free λz=>(hch _ z).2.1 rfl
 exact I.step (ch:=ch) hch (λb o hL hb hc e n=>u.keep b o e n (λz=>(Zu.mp (I.Qdb b z)).elim hL hb) hc) (λb o _ _ hc e n=>u.any e n hc) (λb o hc e n=>u.free b o e n hc) (λb o hc e=>u.there b o e hc) u.tups u.frzs u.tbls (λm' hm=>by
  obtain⟨o',es',ep',ho',r'⟩:=hm
  rw[ho]at ho';cases ho'
  exact⟨_,es',ep',hL,r'⟩) hok hg
theorem Inv.turned{t':Nat}{it:Addr}(I:Inv X pins σ H s)(k:∀b o,b≠it->s.heap.get? b=some o->h'.get? b=some o)(hn:H it=none)(hL:it≠X.env.locals)
  (h1:it∈X.ex∨X.s₀.heap.objs.size<=it) (h2:∀x c,X.env.cells.lookup x=some c->c≠it) (h3:∀p∈X.pn++pins,p.1≠it):Inv X pins σ H {s with heap:=h',toks:=t'}:=by
 have nit:∀b u,H b=some u->b≠it:=λb u e z=>by rw[z,hn]at e;cases e
 refine I.step (g':=s.gens) (d':=s.drawn) (ch:=[it]) (λb hb=>?_) (λb o _ _ hc e _=>k b o (λz=>hc (by simp[z])) e) (λb o _ _ hc e _=>⟨o.slots,k b o (λz=>hc (by simp[z])) e⟩) (λ_ _ _ _ n=>n)
  (λb o hc e=>⟨o,k b o (λz=>hc (by simp[z])) e⟩) (λ_ _ e=>e) (λ_ _ _ e=>e) (λb ps e=>⟨#[],by rw[e];simp⟩) (λm hm=>?_) (λb u e=>?_) I.bare
 ·have e:b=it:=by simpa using hb
  subst e
  exact⟨h1,hL,h2,h3⟩
 ·obtain⟨o,es,ep,ho,r⟩:=hm
  exact⟨o,es,ep,k _ o (Ne.symm hL) ho,r⟩
 ·refine(I.hok b u e).Qci (λc v hc q=>k c v ?_ q) (λ_ q=>q) λ_ _ q=>q
  rcases hc with z | z
  ·rw[z];exact nit b u e
  ·exact nit c _ z
theorem Inv.tok(I:Inv X pins σ H s)(t:Nat):Inv X pins σ H {s with toks:=t}:=I.un (h':=s.heap) (t':=t) Un.refl I.hok
theorem Inv.kept{t':Nat}(I:Inv X pins σ H s)(k:∀b u,s.heap.get? b=some u->h'.get? b=some u):Inv X pins σ H {s with heap:=h',toks:=t'}:=I.un (Un.kept k) (I.hok.kept k)
theorem Inv.laid{a:Addr}{o:HO}{t':Nat}(I:Inv X pins σ H s)(k:∀b u,s.heap.get? b=some u->h'.get? b=some u)(hp:s.heap.objs.size<=a)(new:Qaf X.prog X.w (upd H a o) h' a o):
  Inv X pins σ (upd H a o) {s with heap:=h',toks:=t'}:=I.un (Un.laid k hp (I.hok.fresh hp)) (I.hok.laid k hp new)
theorem Inv.write{x e:Addr}{o:HO}{t':Nat}(I:Inv X pins σ H s)(mu:Mut (H x))(he:e=x∨H e=some (.own x))(k:∀b u,b≠e->s.heap.get? b=some u->h'.get? b=some u)(heo:∃u,h'.get? e=some u)
  (new:Qaf X.prog X.w (upd H x o) h' x o):Inv X pins σ (upd H x o) {s with heap:=h',toks:=t'}:=I.un (Un.write mu he k heo) (I.hok.write mu he k heo new)
theorem Inv.weak{σ':List (Option V)}(I:Inv X pins σ H s)(hl:σ'.length=σ.length)(w:∀(i:Nat) v,σ'[i]? =some (some v)->σ[i]? =some (some v)):Inv X pins σ' H s:=
 ⟨I.ok,I.os,I.bare,I.base,let ⟨m,hn,hl'⟩:=I.loc;⟨m,hn,λi x v e1 e2 e3=>hl' i x v e1 (w i v e2) e3⟩,I.cell,I.free,I.freeC,I.pin,I.hok,hl.trans I.len⟩
theorem Inv.QfF{pins':List (Addr×Obj)}(I:Inv X pins σ H s)(h:∀p∈pins',s.heap.get? p.1=some p.2/\H p.1=none/\p.1≠X.env.locals/\p.1∉X.fs/\∀v,p.2.data≠ .cell v):Inv X pins' σ H s:=
 ⟨I.ok,I.os,I.bare,I.base,I.loc,I.cell,I.free,I.freeC,λp hp=>(Zx.mp hp).elim (λz=>I.pin p (Zc _ z)) (h p),I.hok,I.len⟩
theorem Qfh{N:List Str}(hN:N.Nodup){i j:Nat}{x:Str}(a:N[i]? =some x)(b:N[j]? =some x):i=j:=by
 obtain⟨h1,e1⟩:=Ze.mp a
 obtain⟨h2,e2⟩:=Ze.mp b
 exact(List.getElem_inj hN).mp (e1.trans e2.symm)
theorem Qd7{M:Model}{A:Around}{E:Value->Shared->Prop}{i:Nat}{x:Str}{v:V}{u:Value}{Q:Unit->Shared->Prop}(I:Inv X pins σ H s)(hN:X.N.Nodup)(hi:X.N[i]? =some x)(hx:Loc X.env.scope x)(r:RelV v u)
  (h:∀s',Inv X pins (σ.set i (some v)) H s'->(∃a,Heap.SameBut a s.heap s'.heap/\(a=X.env.locals∨X.env.cells.lookup x=some a))->Q () s') (hf:X.fn x=true∨X.env.scope.names.lookup x=some .local :=by first | exact .inl rfl | exact .inr rfl | assumption):wpAny M A (storeName X.env x u) Q E s:=by
 obtain⟨m,hn,hl⟩:=id I.loc
 have hcls:(X.env.scope.kind == .class || (X.env.scope.kind == .module && X.env.locals != X.env.globals))=false:=by rw[I.ok.kind];rfl
 have hiσ:i<σ.length:=by rw[I.len];exact(Ze.mp hi).1
 have cne:=I.cne
 have tracked:∀{a:Addr}{h':Heap},(∃o,s.heap.get? a=some o/\H a=none)->Heap.SameBut a s.heap h'->HOk X.prog X.w H h':=λ{a h'} ha hs b ob e=>by
  obtain⟨_,_,hfree⟩:=ha
  refine(I.hok b ob e).Qci (λc w' hc q=>(hs.2 c ?_).trans q) (λ_ q=>q) λ_ _ q=>q
  rintro rfl
  rcases hc with rfl | hc
  ·rw[hfree]at e;cases e
  ·rw[hfree]at hc;cases hc
 rcases hx with hk | hk
 ·refine wpAny_storeName_local hk hn (λh' hn' hs=>?_) hcls
  obtain⟨oL,_,_,hoL,_⟩:=id hn
  refine h _ ⟨I.ok,I.os,I.bare,⟨λb o e n hb hx=>?_,λb o e n hb hx=>?_,I.base.free,λb o e hx=>?_,I.base.tups,I.base.frzs,I.base.tbls⟩,⟨_,hn',λj y v' e1 e2 e3=>?_⟩,λy c e=>?_,I.free,I.freeC,λp hp=>?_,tracked ⟨oL,hoL,I.free⟩ hs,by simpa using I.len⟩ ⟨_,hs,.inl rfl⟩
  ·exact(hs.2 b (ZE (Zm (Zq e) I.ok.above))).trans (I.base.keep b o e n hb hx)
  ·obtain⟨sl,e1⟩:=I.base.slot b o e n hb hx
   exact⟨sl,(hs.2 b (ZE (Zm (Zq e) I.ok.above))).trans e1⟩
  ·obtain⟨o',e1⟩:=I.base.there b o e hx
   exact⟨o',(hs.2 b (ZE (Zm (Zq e) I.ok.above))).trans e1⟩
  ·by_cases hj:j=i
   ·subst hj
    rw[hi]at e1;cases e1
    rw[Zs hiσ]at e2
    cases e2
    exact⟨u,r,.inl ⟨hk,by simp⟩⟩
   ·rw[Zg (Ne.symm hj)]at e2
    obtain⟨u',r',q⟩:=hl j y v' e1 e2 e3
    refine⟨u',r',?_⟩
    rcases q with⟨k,e⟩ | ⟨k,c,e,z⟩
    ·refine .inl ⟨k,?_⟩
     have:y≠x:=λe=>hj (Qfh hN e1 (e▸hi))
     simp[this,e]
    ·exact .inr ⟨k,c,e,z.sameBut hs (cne y c e)⟩
  ·obtain⟨w',z⟩:=I.cell y c e
   exact⟨w',z.sameBut hs (cne y c e)⟩
  ·obtain⟨e,n,ne,nf,d⟩:=I.pin p hp
   exact⟨(hs.2 p.1 ne).trans e,n,ne,nf,d⟩
 ·have hfn:X.fn x=true:=by
   rcases hf with z | z
   ·exact z
   ·rw[z]at hk;cases hk
  obtain⟨c,hc⟩:=I.ok.has x (.inl hk)
  obtain⟨w',z⟩:=I.cell x c hc
  refine wpAny_storeName_cell I.ok.kind hk hc z (λh' hc' hs=>?_)
  obtain⟨oc,hoc,hocd⟩:=id z
  refine h {s with heap:=h'} ⟨I.ok,I.os,I.bare,⟨λb o e n hb hx=>?_,λb o e n hb hx=>?_,I.base.free,λb o e hx=>?_,I.base.tups,I.base.frzs,I.base.tbls⟩,⟨m,hn.sameBut hs (Ne.symm (cne x c hc)),λj y v' e1 e2 e3=>?_⟩,λy c' e=>?_,I.free,I.freeC,λp hp=>?_,tracked ⟨oc,hoc,I.freeC x c hc⟩ hs,by simpa using I.len⟩ ⟨c,hs,.inr hc⟩
  ·exact(hs.2 b (ZE (Zm (Zq e) (I.ok.cab x c hfn hc)))).trans (I.base.keep b o e n hb hx)
  ·obtain⟨sl,e1⟩:=I.base.slot b o e n hb hx
   exact⟨sl,(hs.2 b (ZE (Zm (Zq e) (I.ok.cab x c hfn hc)))).trans e1⟩
  ·obtain⟨o',e1⟩:=I.base.there b o e hx
   exact⟨o',(hs.2 b (ZE (Zm (Zq e) (I.ok.cab x c hfn hc)))).trans e1⟩
  ·by_cases hj:j=i
   ·subst hj
    rw[hi]at e1;cases e1
    rw[Zs hiσ]at e2
    cases e2
    exact⟨u,r,.inr ⟨.inl hk,c,hc,hc'⟩⟩
   ·rw[Zg (Ne.symm hj)]at e2
    obtain⟨u',r',q⟩:=hl j y v' e1 e2 e3
    refine⟨u',r',?_⟩
    rcases q with q | ⟨k,c',e,z'⟩
    ·exact .inl q
    ·refine .inr ⟨k,c',e,z'.sameBut hs ?_⟩
     rintro rfl
     exact hj (Qfh hN e1 (I.ok.inj _ _ _ e hc▸hi))
  ·by_cases hcc:c'=c
   ·subst hcc;exact⟨_,hc'⟩
   ·obtain⟨w2,z2⟩:=I.cell y c' e
    exact⟨w2,z2.sameBut hs hcc⟩
  ·obtain⟨e,n,ne,nf,d⟩:=I.pin p hp
   refine⟨(hs.2 p.1 ?_).trans e,n,ne,nf,d⟩
   intro q
   rw[q,hoc]at e
   have q':oc=p.2:=Option.some.inj e
   exact d w' (by rw[← q'];exact hocd)
theorem Qff{M:Model}{A:Around}{E:Value->Shared->Prop}{i:Nat}{x:Str}{v:V}{u:Value}{Q:Unit->Shared->Prop}(I:Inv X pins σ H s)(hN:X.N.Nodup)(hi:X.N[i]? =some x)(hx:Loc X.env.scope x)(r:RelV v u)
  (h:∀s',Inv X pins (σ.set i (some v)) H s'->Q () s') (hf:X.fn x=true∨X.env.scope.names.lookup x=some .local :=by first | exact .inl rfl | exact .inr rfl | assumption):wpAny M A (storeName X.env x u) Q E s:=
 Qd7 I hN hi hx r (λs' I' _=>h s' I') hf
theorem Inv.Qmv{s':Shared}{ch:List Addr}(I:Inv X pins σ H s)(ho:s'.os=s.os)(u:Un (frs X.stack) ch H H' s.heap s'.heap)(hok:HOk X.prog X.w H' s'.heap)(hg:AllBare s'.gens)
  (hch:∀b∈ch,(b∈X.ex∨X.s₀.heap.objs.size<=b)/\b≠X.env.locals/\(∀x c,X.env.cells.lookup x=some c->c≠b)/\∀p∈X.pn++pins,p.1≠b):Inv X pins σ H' s':=by
 obtain⟨h',g',d',t',o'⟩:=s'
 have e:o'=s.os:=ho
 subst e
 exact I.call (g':=g') (t':=t') (d':=d') u hok hg hch
end
noncomputable abbrev XK:=Value->Option Addr->Hp->Prop
noncomputable abbrev St:=List (Option V)
noncomputable abbrev VK:=V->Hp->Prop
noncomputable abbrev TE:=St->Hp->VK->Prop
noncomputable abbrev TT:=St->Hp->(Bool->Hp->Prop)->Prop
noncomputable abbrev TA:=St->Hp->(List V->Hp->Prop)->Prop
structure Ends where
 nx:St->Hp->Prop
 rt:VK
 bk:St->Hp->Prop:=λ_ _=>False
 ct:St->Hp->Prop:=λ_ _=>False
noncomputable abbrev TS:=Ends->St->Hp->Prop
def EP(X:Cx)(pins:List (Addr×Obj))(σ:St)(Q:VK)(u:Value)(s':Shared):Prop:=∃v H',Inv X pins σ H' s'/\RelV v u/\Q v H'
def TP(X:Cx)(pins:List (Addr×Obj))(σ:St)(Q:Bool->Hp->Prop)(b:Bool)(s':Shared):Prop:=∃H',Inv X pins σ H' s'/\Q b H'
def AP(X:Cx)(pins:List (Addr×Obj))(σ:St)(Q:List V->Hp->Prop)(us:List Value)(s':Shared):Prop:=∃vs H',Inv X pins σ H' s'/\Qe vs us/\Q vs H'
def SP(X:Cx)(pins:List (Addr×Obj))(D:Ends)(f:Flow)(s':Shared):Prop:=
 match f with
 | .next=>∃σ' H',Inv X pins σ' H' s'/\D.nx σ' H'
 | .brk=>∃σ' H',Inv X pins σ' H' s'/\D.bk σ' H'
 | .cont=>∃σ' H',Inv X pins σ' H' s'/\D.ct σ' H'
 | .ret u=>∃v σ' H',Inv X pins σ' H' s'/\RelV v u/\D.rt v H'
def PE(X:Cx)(e:Expr)(t:TE):Prop:=
 ∀(pins:List (Addr×Obj)) (s:Shared) (σ:St) (H:Hp) (Q:VK),Inv X pins σ H s->t σ H Q->wpAny (model X.prog X.w) X.A (eval e X.env) (EP X pins σ Q) X.xe s
def PT(X:Cx)(e:Expr)(t:TT):Prop:=
 ∀(pins:List (Addr×Obj)) (s:Shared) (σ:St) (H:Hp) (Q:Bool->Hp->Prop),Inv X pins σ H s->t σ H Q->wpAny (model X.prog X.w) X.A (isTrue e X.env (eval e X.env)) (TP X pins σ Q) X.xe s
def PW(X:Cx)(e:Expr)(t:TT):Prop:=
 ∀(whole:Sem Value) (pins:List (Addr×Obj)) (s:Shared) (σ:St) (H:Hp) (Q:Bool->Hp->Prop),Inv X pins σ H s->t σ H Q->wpAny (model X.prog X.w) X.A (isTrue e X.env whole) (TP X pins σ Q) X.xe s
theorem PW.pt{X:Cx}{e:Expr}{t:TT}(h:PW X e t):PT X e t:=h _
def PA(X:Cx)(es:List Expr)(t:TA):Prop:=
 ∀(pos:Pos) (pins:List (Addr×Obj)) (s:Shared) (σ:St) (H:Hp) (Q:List V->Hp->Prop),Inv X pins σ H s->t σ H Q->wpAny (model X.prog X.w) X.A (spliced (backTo pos (starEach es X.env))) (AP X pins σ Q) X.xe s
def PS(X:Cx)(st:Stmt)(t:TS):Prop:=
 ∀(pins:List (Addr×Obj)) (s:Shared) (σ:St) (H:Hp) (D:Ends),Inv X pins σ H s->t D σ H->wpAny (model X.prog X.w) X.A (exec st X.env) (SP X pins D) X.xe s
def PSs(X:Cx)(st:List Stmt)(t:TS):Prop:=
 ∀(pins:List (Addr×Obj)) (s:Shared) (σ:St) (H:Hp) (D:Ends),Inv X pins σ H s->t D σ H->wpAny (model X.prog X.w) X.A (execs st X.env) (SP X pins D) X.xe s
theorem thn{α:Type}{t:Sem α}{Q Q':α->Shared->Prop}{M:Model}{A:Around}{E:Value->Shared->Prop}{s:Shared}(h:wpAny M A t Q E s)(hQ:∀a s,Q a s->Q' a s):wpAny M A t Q' E s:=wpAny_mono h hQ λ_ _ x=>x
end L2
namespace L2
open PySem PySem.Spec PyProof.Rows
section
variable {X:Cx}
noncomputable def Qgl(i:Nat):TE:=λσ H Q=>∃v,σ[i]? =some (some v)/\Q v H
noncomputable def tC(v:V):TE:=λ_ H Q=>Q v H
theorem QkN{i:Nat}{x:Str}{pos:Pos}(hN:X.N[i]? =some x)(hv:Vis X.env.scope x)(hd:(x == ("__debug__" :Str))=false:=by decide)(hcd:(x == ("__classdict__" :Str))=false:=by decide):PE X (.Name x pos) (Qgl i):=by
 intro pins s σ H Q I h
 obtain⟨v,e,h⟩:=h
 obtain⟨m,hn,hl⟩:=I.loc
 obtain⟨u,r,l⟩:=hl i x v hN e hv
 have fin:EP X pins σ Q u s:=⟨v,H,I,r,h⟩
 rcases l with⟨hk,hm⟩ | ⟨hk,c,hc,hcell⟩
 ·exact wpAny_Name (wpAny_loadName_local I.ok.kind hk hn hm fin) hd
 ·rcases hk with hk | hk
  ·exact wpAny_Name (wpAny_loadName_cell I.ok.kind hk hc hcell fin) hd
  ·exact wpAny_Name (wpAny_loadName_free I.ok.kind hk hc hcell fin hcd) hd
theorem QkL{i j pos}:PE X (.Constant (.int i) j pos) (tC (.int i)):=λ_ _ _ H _ I h=>wpAny_Constant_int ⟨.int i,H,I.tok _,⟨_,rfl⟩,h⟩
theorem Qm2{b j pos}:PE X (.Constant (.bool b) j pos) (tC (.bl b)):=λ_ _ _ H _ I h=>Constant_bool ⟨.bl b,H,I,rfl,h⟩
theorem QlR{j pos}:PE X (.Constant .none j pos) (tC .non):=λ_ _ _ H _ I h=>Constant_none ⟨.non,H,I,rfl,h⟩
theorem Qkv{x j pos}:PE X (.Constant (.str x) j pos) (tC (.str x)):=λ_ _ _ H _ I h=>Calls.Constant_str ⟨.str x,H,I.tok _,⟨_,rfl⟩,h⟩
def Gl(X:Cx)(x:Str):Prop:=X.env.kindOf x=some .globalImplicit
theorem QdG{E:Value->Shared->Prop}{pins:List (Addr×Obj)}{s:Shared}{σ:St}{H:Hp}{x:Str}{u:Value}{pos:Pos}{Q:Value->Shared->Prop}(I:Inv X pins σ H s)(hg:Gl X x)(hm:X.mg x=some u)(h:Q u s)
  (hd:(x == ("__debug__" :Str))=false:=by decide):wpAny (model X.prog X.w) X.A (eval (.Name x pos) X.env) Q E s:=
 Calls.Name_function_global I.ok.kind hg (Calls.loadGlobal_global (by rw[I.ok.glob];exact I.mod.glob.keeps I.bk) hm h) hd
theorem Qct{E:Value->Shared->Prop}{pins:List (Addr×Obj)}{s:Shared}{σ:St}{H:Hp}{x:Str}{u:Value}{pos:Pos}{Q:Value->Shared->Prop}(I:Inv X pins σ H s)(hg:Gl X x)(hm:X.mg x=none)(hv:bootBuiltins x=some u)(h:Q u s)
  (hn:x≠ "__name__" :=by decide) (hd:(x == ("__debug__" :Str))=false:=by decide):wpAny (model X.prog X.w) X.A (eval (.Name x pos) X.env) Q E s:=by
 obtain⟨mb,h1,h2⟩:=I.mod.blt
 exact Calls.Name_function_global I.ok.kind hg (Calls.loadGlobal_builtin (by rw[I.ok.glob];exact I.mod.glob.keeps I.bk) hm (by rw[I.ok.blt];exact h1.keeps I.bk) ((h2 x hn).trans hv) h) hd
theorem Qf1{x:Str}{v:V}{u:Value}{pos:Pos}(hg:Gl X x)(hm:X.mg x=some u)(r:RelV v u)(hd:(x == ("__debug__" :Str))=false:=by decide):PE X (.Name x pos) (tC v):=
 λ_ _ _ H _ I h=>QdG I hg hm ⟨v,H,I,r,h⟩ hd
theorem QbK{x:Str}{v:V}{u:Value}{pos:Pos}(hg:Gl X x)(hm:X.mg x=none)(hv:bootBuiltins x=some u)(r:RelV v u)(hn:x≠ "__name__" :=by decide)(hd:(x == ("__debug__" :Str))=false:=by decide):PE X (.Name x pos) (tC v):=
 λ_ _ _ H _ I h=>Qct I hg hm hv ⟨v,H,I,r,h⟩ hn hd
variable {a b:Expr}{ta tb:TE}{pos:Pos}
variable {tA tB':TT}{rest:List Expr}
noncomputable def Qnj(t u:TT):TT:=λσ H Q=>t σ H λc H1=>if c=true then u σ H1 Q else Q false H1
noncomputable def tOr(t u:TT):TT:=λσ H Q=>t σ H λc H1=>if c=true then Q true H1 else u σ H1 Q
noncomputable def QnP(t:TT):TT:=λσ H Q=>t σ H λc H1=>Q (!c) H1
theorem Qjw(ha:PT X a tA):PW X (.BoolOp .And [a] pos) tA:=by
 intro wh pins s σ H Q I h
 refine isTrue_and (thn (ha pins s σ H Q I h) λc s1 e=>?_)
 cases c with
 | true=>exact isTrue_and_nil e
 | false=>exact e
theorem Qlk(ha:PT X a tA):PW X (.BoolOp .Or [a] pos) tA:=by
 intro wh pins s σ H Q I h
 refine isTrue_or (thn (ha pins s σ H Q I h) λc s1 e=>?_)
 cases c with
 | false=>exact isTrue_or_nil e
 | true=>exact e
theorem QkZ(ha:PT X a tA)(hb:PW X (.BoolOp .And (b::rest) pos) tB'):PW X (.BoolOp .And (a::b::rest) pos) (Qnj tA tB'):=by
 intro wh pins s σ H Q I h
 refine isTrue_and (thn (ha pins s σ H _ I h) λc s1 hpt=>?_)
 obtain⟨H1,I1,q1⟩:=hpt
 cases c with
 | true=>exact hb wh pins s1 σ H1 Q I1 q1
 | false=>exact⟨H1,I1,q1⟩
theorem QmF(ha:PT X a tA)(hb:PW X (.BoolOp .Or (b::rest) pos) tB'):PW X (.BoolOp .Or (a::b::rest) pos) (tOr tA tB'):=by
 intro wh pins s σ H Q I h
 refine isTrue_or (thn (ha pins s σ H _ I h) λc s1 hpt=>?_)
 obtain⟨H1,I1,q1⟩:=hpt
 cases c with
 | true=>exact⟨H1,I1,q1⟩
 | false=>exact hb wh pins s1 σ H1 Q I1 q1
theorem QlT(ha:PT X a tA):PT X (.UnaryOp .Not a pos) (QnP tA):=by
 intro pins s σ H Q I h
 exact isTrue_not (ha pins s σ H (λc H1=>Q (!c) H1) I h)
theorem QlO{op}{t:TE}(h:PE X a t):PE X (.BoolOp op [a] pos) t:=λpins s σ H Q I hw=>BoolOp_one (h pins s σ H Q I hw)
noncomputable def tIf(t:TT)(ta tb:TE):TE:=λσ H Q=>t σ H λc H1=>if c=true then ta σ H1 Q else tb σ H1 Q
theorem Qid{c:Expr}(hc:PT X c tA)(ha:PE X a ta)(hb:PE X b tb):PE X (.IfExp c a b pos) (tIf tA ta tb):=by
 intro pins s σ H Q I h
 refine wpAny_IfExp (thn (hc pins s σ H _ I h) λd s1 hpt=>?_)
 obtain⟨H1,I1,q1⟩:=hpt
 cases d with
 | true=>exact ha pins s1 σ H1 Q I1 q1
 | false=>exact hb pins s1 σ H1 Q I1 q1
end
end L2
namespace L2
open PySem PySem.Spec PyProof.Rows
def SqL(K:PySem.W.Frag)(H:Hp)(a:Addr)(xs:List V):Prop:=
 Rd H a (.lst xs)∨
  ∃(o:Obj) (its:Array Value) (n:Nat),K.lookup a=some o/\o.cls= .type "list" /\o.dict=none/\o.data= .seq its n/\its.size<=sizeLine/\Qe xs its.toList
def SqT(K:PySem.W.Frag)(H:Hp)(a:Addr)(xs:List V):Prop:=
 Rd H a (.tup xs)∨
  ∃(o:Obj) (its:Array Value) (n:Nat),K.lookup a=some o/\o.cls= .type "tuple" /\o.data= .seq its n/\its.size<=sizeLine/\Qe xs its.toList
noncomputable def Qnc:Value->Option V
 | .none=>some .non
 | .bool b=>some (.bl b)
 | .int i _=>some (.int i)
 | .str x _=>some (.str x)
 | .bytes b _=>some (.byt b)
 | .float b _=>some (.flt b)
 | .ref a=>some (.ref a)
 | .type n=>some (.ty n)
 | _=>none
theorem RelV.abs{x:V}{u:Value}(r:RelV x u):Qnc u=some x:=by
 cases x with
 | non=>cases r;rfl
 | bl _=>cases r;rfl
 | int _=>obtain⟨t,rfl⟩:=r;rfl
 | str _=>obtain⟨t,rfl⟩:=r;rfl
 | byt _=>obtain⟨t,rfl⟩:=r;rfl
 | flt _=>obtain⟨t,rfl⟩:=r;rfl
 | ref _=>cases r;rfl
 | ty _=>cases r;rfl
theorem RelV.inj{x y:V}{u:Value}(r:RelV x u)(q:RelV y u):x=y:=Option.some.inj (r.abs.symm.trans q.abs)
theorem Qe.inj:∀{xs ys:List V}{us:List Value},Qe xs us->Qe ys us->xs=ys
 | _,_,_,.nil,.nil=>rfl
 | _,_,_,.cons r t,.cons r' t'=>by rw[r.inj r',Qe.inj t t']
section
variable {X:Cx}{pins:List (Addr×Obj)}{σ:St}{H:Hp}{s:Shared}{a:Addr}{xs ys:List V}
theorem SqL.of{K:PySem.W.Frag}(h:H a=some (.lst xs)):SqL K H a xs:= .inl (.inl h)
theorem SqT.of{K:PySem.W.Frag}(h:H a=some (.tup xs)):SqT K H a xs:= .inl (.inl h)
theorem Inv.list(I:Inv X pins σ H s)(h:SqL X.K H a xs):∃its:List Value,Qe xs its/\PlainL s.heap a its.toArray/\xs.length<=sizeLine:=by
 rcases h with h | ⟨o,its,n,hk,hc,hd,hs,hz,r⟩
 ·obtain⟨z,its,n,r,e⟩:=h.ok I.hok
  exact⟨its,r,⟨_,n,e,rfl,rfl,rfl⟩,z⟩
 ·refine⟨its.toList,r,⟨o,n,I.kIn a o hk,hc,hd,by simpa using hs⟩,?_⟩
  have e:=r.length
  simp only[ZS]at e
  omega
theorem Inv.tuple(I:Inv X pins σ H s)(h:SqT X.K H a xs):∃its:List Value,Qe xs its/\IsTup s.heap a its.toArray/\xs.length<=sizeLine:=by
 rcases h with h | ⟨o,its,n,hk,hc,hs,hz,r⟩
 ·obtain⟨z,its,r,p⟩:=h.ok I.hok
  exact⟨its,r,p,z⟩
 ·refine⟨its.toList,r,⟨o,I.kIn a o hk,hc,n,by simpa using hs⟩,?_⟩
  have e:=r.length
  simp only[ZS]at e
  omega
theorem Inv.Qc0(I:Inv X pins σ H s)(h:SqL X.K H a xs)(h':SqL X.K H a ys):xs=ys:=by
 obtain⟨its,r,⟨o,n,e,_,_,d⟩,_⟩:=I.list h
 obtain⟨its',r',⟨o',n',e',_,_,d'⟩,_⟩:=I.list h'
 rw[e]at e';cases e'
 rw[d]at d'
 injection d' with d1 _
 have:its=its':=by simpa using congrArg Array.toList d1
 subst this
 exact r.inj r'
theorem Inv.Qhs(I:Inv X pins σ H s)(h:SqT X.K H a xs)(h':SqT X.K H a ys):xs=ys:=by
 obtain⟨its,r,⟨o,e,_,n,d⟩,_⟩:=I.tuple h
 obtain⟨its',r',⟨o',e',_,n',d'⟩,_⟩:=I.tuple h'
 rw[e]at e';cases e'
 rw[d]at d'
 injection d' with d1 _
 have:its=its':=by simpa using congrArg Array.toList d1
 subst this
 exact r.inj r'
end
noncomputable abbrev Cx.QaS(X:Cx)(E:Value->Shared->Prop):Cx:={X with xe:=E}
noncomputable abbrev Cx.nox(X:Cx):Cx:=X.QaS λ_ _=>False
theorem Cx.Ok.QaS{X:Cx}(ok:X.Ok)(E:Value->Shared->Prop):(X.QaS E).Ok:=
 ⟨ok.mod,ok.kind,ok.glob,ok.blt,ok.above,ok.inj,ok.has,ok.cab,ok.hd,ok.frames,ok.stk,ok.exf,ok.bs,ok.bsz,ok.noex,ok.exfs,ok.QaV,ok.frf⟩
theorem Cx.Ok.Qau{X:Cx}{E:Value->Shared->Prop}(ok:(X.QaS E).Ok):X.Ok:=
 ⟨ok.mod,ok.kind,ok.glob,ok.blt,ok.above,ok.inj,ok.has,ok.cab,ok.hd,ok.frames,ok.stk,ok.exf,ok.bs,ok.bsz,ok.noex,ok.exfs,ok.QaV,ok.frf⟩
section
variable {X:Cx}{pins:List (Addr×Obj)}{σ:St}{H:Hp}{s:Shared}{E:Value->Shared->Prop}
theorem Inv.QaS(I:Inv X pins σ H s)(E:Value->Shared->Prop):Inv (X.QaS E) pins σ H s:=⟨I.ok.QaS E,I.os,I.bare,I.base,I.loc,I.cell,I.free,I.freeC,I.pin,I.hok,I.len⟩
theorem Inv.Qau(I:Inv (X.QaS E) pins σ H s):Inv X pins σ H s:=⟨I.ok.Qau,I.os,I.bare,I.base,I.loc,I.cell,I.free,I.freeC,I.pin,I.hok,I.len⟩
theorem SP.Qau{D:Ends}{f:Flow}{s':Shared}(h:SP (X.QaS E) pins D f s'):SP X pins D f s':=by
 cases f with
 | next=>obtain⟨σ',H',I,q⟩:=h;exact⟨σ',H',I.Qau,q⟩
 | brk=>obtain⟨σ',H',I,q⟩:=h;exact⟨σ',H',I.Qau,q⟩
 | cont=>obtain⟨σ',H',I,q⟩:=h;exact⟨σ',H',I.Qau,q⟩
 | ret u=>obtain⟨v,σ',H',I,r,q⟩:=h;exact⟨v,σ',H',I.Qau,r,q⟩
theorem PE.nox{e:Expr}{t:TE}(h:PE X.nox e t):PE X e t:=λpins s σ H Q I hw=>
 wpAny_mono (h pins s σ H Q (I.QaS _) hw) (λ_ _ ⟨v,H',I',r,q⟩=>⟨v,H',I'.Qau,r,q⟩) λ_ _ z=>False.elim z
theorem PT.nox{e:Expr}{t:TT}(h:PT X.nox e t):PT X e t:=λpins s σ H Q I hw=>
 wpAny_mono (h pins s σ H Q (I.QaS _) hw) (λ_ _ ⟨H',I',q⟩=>⟨H',I'.Qau,q⟩) λ_ _ z=>False.elim z
theorem PSs.nox{st:List Stmt}{t:TS}(h:PSs X.nox st t):PSs X st t:=λpins s σ H D I hw=>
 wpAny_mono (h pins s σ H D (I.QaS _) hw) (λ_ _ q=>q.Qau) λ_ _ z=>False.elim z
end
section
variable {X:Cx}{st:Stmt}{rest:List Stmt}{t u:TS}{e:Expr}{te:TE}{pos:Pos}
noncomputable def QgP:TS:=λD σ H=>D.nx σ H
noncomputable def QnM(t u:TS):TS:=λD σ H=>t {D with nx:=u D} σ H
theorem Qke:PSs X [] QgP:=λ_ _ σ H _ I h=>wpAny_execs_nil ⟨σ,H,I,h⟩
theorem QiF(h1:PS X st t)(h2:PSs X rest u):PSs X (st::rest) (QnM t u):=by
 intro pins s σ H D I h
 refine wpAny_execs_cons (thn (h1 pins s σ H {D with nx:=u D} I h) λf s1 q=>?_)
 cases f with
 | next=>
  obtain⟨σ',H',I',q⟩:=q
  exact h2 pins s1 σ' H' D I' q
 | ret v=>exact q
 | brk=>exact q
 | cont=>exact q
noncomputable def QlI:TS:=λD σ H=>D.bk σ H
noncomputable def QmC:TS:=λD σ H=>D.ct σ H
theorem QjK:PS X (.Pass pos) QgP:=λ_ _ σ H _ I h=>wpAny_Pass ⟨σ,H,I,h⟩
theorem QiO:PS X (.Break pos) QlI:=λ_ _ σ H _ I h=>wpAny_Break ⟨σ,H,I,h⟩
theorem QfA:PS X (.Continue pos) QmC:=λ_ _ σ H _ I h=>wpAny_Continue ⟨σ,H,I,h⟩
theorem Inv.quiet{pins:List (Addr×Obj)}{σ:St}{H:Hp}{s:Shared}(I:Inv X pins σ H s):interactive X.env=false:=by simp[interactive,I.ok.kind]
theorem Qlt{x j pos pos'}:PS X (.Expr (.Constant (.str x) j pos) pos') QgP:=λ_ s σ H _ I h=>wpAny_Expr (Calls.Constant_str (show SP X _ _ .next {s with toks:=s.toks+1}from⟨σ,H,I.tok _,h⟩)) I.quiet
noncomputable def Qgv(te:TE):TS:=λD σ H=>te σ H λ_ H1=>D.nx σ H1
theorem QfS(he:PE X e te)(hs:swapsWith e none pos.line X.env=pure false:=by rfl):PS X (.Expr e pos) (Qgv te):=by
 intro pins s σ H D I h
 exact wpAny_Expr_any (thn (he pins s σ H _ I h) λv s1 ⟨x,H1,I1,r1,q1⟩=>⟨σ,H1,I1,q1⟩) I.quiet hs
noncomputable def Qnp(te:TE):TS:=λD σ H=>te σ H D.rt
theorem QlD(he:PE X e te):PS X (.Return (some e) pos) (Qnp te):=by
 intro pins s σ H D I h
 exact wpAny_Return_some (thn (he pins s σ H _ I h) λv s1 ⟨x,H1,I1,r1,q1⟩=>⟨x,σ,H1,I1,r1,q1⟩)
noncomputable def Qnr(c:TT)(t u:TS):TS:=λD σ H=>c σ H λb H1=>if b=true then t D σ H1 else u D σ H1
theorem QmE{c:Expr}{a b:List Stmt}{tc:TT}(hc:PT X c tc)(ha:PSs X a t)(hb:PSs X b u):PS X (.If c a b pos) (Qnr tc t u):=by
 intro pins s σ H D I h
 refine wpAny_If (thn (hc pins s σ H _ I h) λd s1 hpt=>?_)
 obtain⟨H1,I1,q1⟩:=hpt
 cases d with
 | true=>exact ha pins s1 σ H1 D I1 q1
 | false=>exact hb pins s1 σ H1 D I1 q1
noncomputable def QlF:TS:=λ_ _ _=>False
theorem QiU:PS X st QlF:=λ_ _ _ _ _ _ h=>h.elim
end
noncomputable abbrev TG:=V->St->Hp->(St->Hp->Prop)->Prop
noncomputable abbrev TGs:=List V->St->Hp->(St->Hp->Prop)->Prop
def PG(X:Cx)(target:Expr)(t:TG):Prop:=
 ∀(pins:List (Addr×Obj)) (s:Shared) (σ:St) (H:Hp) (v:V) (u:Value) (Q:St->Hp->Prop),Inv X pins σ H s->RelV v u->t v σ H Q→
  wpAny (model X.prog X.w) X.A (assign target X.env u) (λ_ s'=>∃σ' H',Inv X pins σ' H' s'/\Q σ' H') X.xe s
def PGs(X:Cx)(ts:List Expr)(t:TGs):Prop:=
 ∀(pins:List (Addr×Obj)) (s:Shared) (σ:St) (H:Hp) (vs:List V) (us:List Value) (Q:St->Hp->Prop),Inv X pins σ H s->Qe vs us->t vs σ H Q→
  wpAny (model X.prog X.w) X.A (assignInOrder ((assignEach ts X.env).map (·.2)) us) (λ_ s'=>∃σ' H',Inv X pins σ' H' s'/\Q σ' H') X.xe s
noncomputable abbrev Qh4:=V->V->V->Hp->(Hp->Prop)->Prop
def Qkt(X:Cx)(t:Qh4):Prop:=
 ∀(pins:List (Addr×Obj)) (s:Shared) (σ:St) (H:Hp) (o i v:V) (ov iv u:Value) (Q:Hp->Prop),Inv X pins σ H s->RelV o ov->RelV i iv->RelV v u->t o i v H Q→
  wpAny (model X.prog X.w) X.A (setItem ov iv u) (λ_ s'=>∃H',Inv X pins σ H' s'/\Q H') X.xe s
section
variable {X:Cx}{pos:Pos}
noncomputable def QcH(i:Nat):TG:=λv σ H Q=>Q (σ.set i (some v)) H
theorem QfU{i:Nat}{x:Str}(hN:X.N.Nodup)(hi:X.N[i]? =some x)(hx:Loc X.env.scope x)(hf:X.fn x=true∨X.env.scope.names.lookup x=some .local :=by first | exact .inl rfl | exact .inr rfl | assumption):PG X (.Name x pos) (QcH i):=by
 intro pins s σ H v u Q I r h
 exact wpAny_assign_Name (Qff I hN hi hx r (λs' I'=>⟨_,H,I',h⟩) hf)
noncomputable def Ql2:TGs:=λvs σ H Q=>vs=[]/\Q σ H
noncomputable def Qi9(t:TG)(u:TGs):TGs:=λvs σ H Q=>∃v r,vs=v::r/\t v σ H λσ' H'=>u r σ' H' Q
theorem QjO:PGs X [] Ql2:=by
 intro pins s σ H vs us Q I r h
 obtain⟨e,h⟩:=h
 subst e
 cases r
 exact assignInOrder_nil ⟨σ,H,I,h⟩
theorem QiR{e:Expr}{es:List Expr}{t:TG}{u:TGs}(h1:PG X e t)(h2:PGs X es u)
  (hs:(assignEach (e::es) X.env).map (·.2)=assign e X.env::(assignEach es X.env).map (·.2):=by rfl):PGs X (e::es) (Qi9 t u):=by
 intro pins s σ H vs us Q I r h
 obtain⟨v,vr,e1,h⟩:=h
 subst e1
 cases r with
 | cons r rr=>
  rw[hs]
  refine assignInOrder_cons (thn (h1 pins s σ H _ _ _ I r h) λ_ s1 hpt=>?_)
  obtain⟨σ1,H1,I1,q1⟩:=hpt
  exact h2 pins s1 σ1 H1 _ _ Q I1 rr q1
noncomputable def Qnt(K:PySem.W.Frag)(n:Nat)(t:TGs):TG:=λv σ H Q=>∃a xs,v= .ref a/\SqT K H a xs/\xs.length=n/\t xs σ H Q
theorem Qk7{es:List Expr}{k:Nat}{t:TGs}{n:Nat}(hc:X.calm=true)(h:PGs X es t)
  (hn:(assignEach es X.env).length=n:=by rfl) (hst:(assignEach es X.env).findIdx? (·.1)=none:=by rfl):PG X (.Tuple es k pos) (Qnt X.K n t):=by
 intro pins s σ H v u Q I r hw
 obtain⟨a,xs,e1,hq,hl,hw⟩:=hw
 subst e1
 cases r
 obtain⟨its,rv,ht,hz⟩:=I.tuple hq
 refine assign_Tuple_tuple (I.ok.hd hc) ht (by simp[hn,← hl,rv.length]) hst λh' hx=>?_
 have I1:Inv X pins σ H {s with heap:=h'}:=I.kept (t':=s.toks) λb o e=>hx b o (ZE (Zq e)) e
 exact h pins _ σ H xs _ Q I1 (by simpa using rv) hw
noncomputable def Qbv(to ti:TE)(t:Qh4):TG:=λv σ H Q=>to σ H λo H1=>ti σ H1 λi H2=>t o i v H2 λH3=>Q σ H3
theorem Qk8{o i:Expr}{to ti:TE}{t:Qh4}(ho:PE X o to)(hi:PE X i ti)(hs:Qkt X t)
  (ha:∀v,assign (.Subscript o i pos) X.env v=(do
   let ov ← holding [v] (eval o X.env)
   let iv ← holding [v,ov] (eval i X.env)
   standAt pos
   holding [v,ov,iv] (setItem ov iv v)
   release [v,ov,iv] []):=by intro _;rfl):PG X (.Subscript o i pos) (Qbv to ti t):=by
 intro pins s σ H v u Q I r h
 rw[ha]
 refine wpAny_bind (wpAny_holding (thn (ho pins s σ H _ I h) λov s1=>exJ λx H1 I1 r1 q1=>?_))
 refine wpAny_bind (wpAny_holding (thn (hi pins s1 σ H1 _ I1 q1) λiv s2=>exJ λy H2 I2 r2 q2=>?_))
 refine wpAny_bind (wpAny_standAt (wpAny_bind (wpAny_holding (thn (hs pins s2 σ H2 x y v ov iv u _ I2 r1 r2 r q2) λ_ s3 hpt=>?_))))
 obtain⟨H3,I3,q3⟩:=hpt
 exact wpAny_release ⟨σ,H3,I3,q3⟩
noncomputable def QeP(te:TE)(g:TG):TS:=λD σ H=>te σ H λx H1=>g x σ H1 D.nx
theorem Qlr{tg e:Expr}{te:TE}{g:TG}(he:PE X e te)(hg:PG X tg g)(hs:swapsWithSole [tg] e pos.line X.env=pure false:=by rfl)(hw:swappedStores [tg] e X.env=pure none:=by rfl)
  (h1:(assignEach [tg] X.env).map (·.2)=[assign tg X.env]:=by rfl):PS X (.Assign [tg] e pos) (QeP te g):=by
 intro pins s σ H D I h
 refine wpAny_Assign_stores (thn (he pins s σ H _ I h) λv s1 ⟨x,H1,I1,r1,q1⟩=>?_) hs hw
 rw[h1]
 exact thn (hg pins s1 σ H1 x v _ I1 r1 q1) λ_ s2 q=>q
theorem Qfr{i:Nat}{x:Str}{e:Expr}{te:TE}{pos':Pos}(hN:X.N.Nodup)(hi:X.N[i]? =some x)(hx:Loc X.env.scope x)(he:PE X e te)(hs:swapsWith e (some (.Name x pos')) pos.line X.env=pure false:=by rfl)(hf:X.fn x=true∨X.env.scope.names.lookup x=some .local :=by first | exact .inl rfl | exact .inr rfl | assumption):
  PS X (.Assign [.Name x pos'] e pos) (QeP te (QcH i)):=by
 intro pins s σ H D I h
 refine wpAny_Assign_Name (thn (he pins s σ H _ I h) λv s1 ⟨y,H1,I1,r1,q1⟩=>?_) hs
 exact Qff I1 hN hi hx r1 (λs2 I2=>⟨_,H1,I2,q1⟩) hf
end
section
variable {X:Cx}{pos:Pos}
end
structure It where
 go:Nat->Hp->Prop
 yld:Nat->Hp->V->Hp->Prop
 stop:Nat->Hp->Prop
def QaF(X:Cx)(pins:List (Addr×Obj))(H:Hp)(b:Addr):Prop:=
 H b=none/\b≠X.env.locals/\b∉X.fs/\(b∈X.ex∨X.s₀.heap.objs.size<=b)/\(∀x c,X.env.cells.lookup x=some c->c≠b)/\∀p∈X.pn++pins,p.1≠b
theorem Inv.Qe3{X:Cx}{pins:List (Addr×Obj)}{σ:St}{H H':Hp}{s:Shared}{b:Addr}(I:Inv X pins σ H s)(hb:s.heap.objs.size<=b)(hn:H' b=none):QaF X pins H' b:=by
 refine⟨hn,Nat.ne_of_gt (Zm I.lt hb),I.QnF hb,.inr (Zr I.sz hb),λx c e z=>?_,λp hp z=>?_⟩
 ·obtain⟨v,q⟩:=I.cell x c e
  exact absurd (Zm q.lt (by rw[z];exact hb)) (ZF _)
 ·exact absurd (Zm (Zq (I.pin p hp).1) (by rw[z];exact hb)) (ZF _)
structure Turn (P:Program) (w:World) (K:PySem.W.Frag) (tg:Expr) (J:It) (fp:List Addr) (it:Addr) (tn:Nat->Heap->Prop):Prop where
 mem:it∈fp
 obj:∀i h,tn i h->∀b∈fp,∃o,h.get? b=some o/\∀v,o.data≠ .cell v
 keep:∀i h h',tn i h->(∀b∈fp,∀o,h.get? b=some o->h'.get? b=some o)->tn i h'
 item:∀(X:Cx),X.prog=P->X.w=w->X.K=K->X.calm=true->∀(i:Nat) (pins:List (Addr×Obj)) (s:Shared) (σ:St) (H:Hp) (E:Value->Shared->Prop),Inv X pins σ H s->(∀b∈fp,QaF X pins H b)->tn i s.heap->J.go i H→
  wpAny (model P w) X.A (pyNext (.ref it)) (λr s1=>∃u,r=some u∧
   wpAny (model P w) X.A (letOwnedTupleGo tg (.ref it) u) (λ_ s2=>∃x H',Inv X pins σ H' s2/\RelV x u/\J.yld i H x H'/\tn (i+1) s2.heap/\∀b∈fp,H' b=none) E s1) E s
 done:∀(X:Cx),X.prog=P->X.w=w->X.K=K->X.calm=true->∀(i:Nat) (pins:List (Addr×Obj)) (s:Shared) (σ:St) (H:Hp) (E:Value->Shared->Prop),Inv X pins σ H s->(∀b∈fp,QaF X pins H b)->tn i s.heap->J.stop i H→
  wpAny (model P w) X.A (pyNext (.ref it)) (λr s1=>r=none/\Inv X pins σ H s1) E s
 self:∀(A:Around) (i:Nat) (s:Shared) (Q:Value->Shared->Prop) (E:Value->Shared->Prop),tn i s.heap->Q (.ref it) s->wpAny (model P w) A (pyIter (.ref it)) Q E s
noncomputable abbrev TI:=St->Hp->(It->Hp->Prop)->Prop
def PIE(X:Cx)(pins:List (Addr×Obj))(σ:St)(tg:Expr)(R:It->Hp->Prop)(itv:Value)(s2:Shared):Prop:=
 ∃(it:Addr) (fp:List Addr) (tn:Nat->Heap->Prop) (J:It) (H':Hp),itv= .ref it/\Inv X pins σ H' s2/\Turn X.prog X.w X.K tg J fp it tn/\tn 0 s2.heap/\(∀b∈fp,QaF X pins H' b)/\R J H'
def PI(X:Cx)(tg iter:Expr)(wi:TI):Prop:=
 ∀(pins:List (Addr×Obj)) (s:Shared) (σ:St) (H:Hp) (R:It->Hp->Prop),Inv X pins σ H s->wi σ H R→
  wpAny (model X.prog X.w) X.A (eval iter X.env) (λv s1=>wpAny (model X.prog X.w) X.A (pyIter v) (PIE X pins σ tg R) X.xe s1) X.xe s
theorem Qex{M:Model}{A:Around}{E:Value->Shared->Prop}{s:Shared}{tg:Expr}{it:Addr}{u:Value}{o:Obj}{n:String}{vs:Array Value}{Q:Unit->Shared->Prop}(ho:s.heap.get? it=some o)(hc:o.cls= .type n)(hd:o.data= .fields vs)
    (hn:["enumerate","zip","dict_itemiterator","dict_reverseitemiterator","odict_iterator","itertools.zip_longest","itertools.pairwise"].contains n=false) (hQ:Q () s):wpAny M A (letOwnedTupleGo tg (.ref it) u) Q E s:=by
  unfold letOwnedTupleGo
  cases tg<;>first
    | exact wpAny_pure hQ
    | (cases u<;>first
        | exact wpAny_pure hQ
        | (refine wpAny_bind (wpAny_load ho ?_)
           rw[hc,hd]
           show wpAny M A (if(["enumerate","zip","dict_itemiterator","dict_reverseitemiterator","odict_iterator","itertools.zip_longest","itertools.pairwise"].contains n && vs[0]? == some (rawInt _))=true then _ else _) Q E s
           rw[if_neg (by intro h;rw[hn,ZaJ]at h;cases h)]
           exact wpAny_pure hQ))
noncomputable def Itl(K:PySem.W.Frag)(a:Addr):It:=
 ⟨λi H=>∃xs x,SqL K H a xs/\xs[i]? =some x,λi H x H'=>H'=H/\∀xs,SqL K H a xs->xs[i]? =some x,λi H=>∃xs,SqL K H a xs/\xs.length<=i⟩
noncomputable def Itt(K:PySem.W.Frag)(a:Addr):It:=
 ⟨λi H=>∃xs x,SqT K H a xs/\xs[i]? =some x,λi H x H'=>H'=H/\∀xs,SqT K H a xs->xs[i]? =some x,λi H=>∃xs,SqT K H a xs/\xs.length<=i⟩
noncomputable def Itr(lo:Int)(n:Nat):It:=⟨λi _=>i<n,λi H x H'=>H'=H/\x= .int (lo+i),λi _=>n<=i⟩
theorem Qhx{P:Program}{w:World}{K:PySem.W.Frag}{tg:Expr}(a it:Addr):Turn P w K tg (Itl K a) [it] it (λi h=>h.IsListIter it a i) where
 mem:=by simp
 obj:=λi h st b hb=>by
  have e:b=it:=by simpa using hb
  subst e
  obtain⟨o,e,c,d⟩:=st
  exact⟨o,e,λv z=>by rw[d]at z;cases z⟩
 keep:=λi h h' st k=>st.at λo e=>k it (by simp) o e
 item:=by
  intro X hP hw hK hc i pins s σ H E I hf st hg
  subst hP hw hK
  obtain⟨xs,x,hq,hx⟩:=hg
  obtain⟨its,rv,p,hz⟩:=I.list hq
  obtain⟨u,hu,ru⟩:=rv.get hx
  obtain⟨f0,f1,f2,f3,f4,f5⟩:=hf it (by simp)
  refine wpAny_pyNext_list_item st p.isList (x:=u) (by simpa using hu) λh' st' sb=>?_
  have I1:Inv X pins σ H {s with heap:=h'}:=I.turned (t':=s.toks) (λb o hb e=>(sb.2 b hb).trans e) f0 f1 f3 f4 f5
  obtain⟨o,e,c,d⟩:=id st'
  exact⟨u,rfl,Qex (s:={s with heap:=h'}) e c d (by decide) ⟨x,H,I1,ru,⟨rfl,λys hy=>by rw[I.Qc0 hy hq];exact hx⟩,st',λb hb=>(hf b hb).1⟩⟩
 done:=by
  intro X hP hw hK hc i pins s σ H E I hf st hg
  subst hP hw hK
  obtain⟨xs,hq,hx⟩:=hg
  obtain⟨its,rv,p,hz⟩:=I.list hq
  obtain⟨f0,f1,f2,f3,f4,f5⟩:=hf it (by simp)
  have hl:=rv.length
  exact wpAny_pyNext_list_end (I.ok.hd hc) st p.isList (by simp;omega) λh' eb=>⟨rfl,I.turned (t':=s.toks) (λb o hb e=>eb b o hb e) f0 f1 f3 f4 f5⟩
 self:=λ_ _ _ _ _ st h=>wpAny_pyIter_listiter st h
theorem Qgf{P:Program}{w:World}{K:PySem.W.Frag}{tg:Expr}(a it:Addr):Turn P w K tg (Itt K a) [it] it (λi h=>h.IsTupleIter it a i) where
 mem:=by simp
 obj:=λi h st b hb=>by
  have e:b=it:=by simpa using hb
  subst e
  obtain⟨o,e,c,d⟩:=st
  exact⟨o,e,λv z=>by rw[d]at z;cases z⟩
 keep:=λi h h' st k=>st.at λo e=>k it (by simp) o e
 item:=by
  intro X hP hw hK hc i pins s σ H E I hf st hg
  subst hP hw hK
  obtain⟨xs,x,hq,hx⟩:=hg
  obtain⟨its,rv,p,hz⟩:=I.tuple hq
  obtain⟨u,hu,ru⟩:=rv.get hx
  obtain⟨f0,f1,f2,f3,f4,f5⟩:=hf it (by simp)
  refine wpAny_pyNext_tuple_item st (show s.heap.IsTuple a its.toArray from p) (x:=u) (by simpa using hu) λh' st' sb=>?_
  have I1:Inv X pins σ H {s with heap:=h'}:=I.turned (t':=s.toks) (λb o hb e=>(sb.2 b hb).trans e) f0 f1 f3 f4 f5
  obtain⟨o,e,c,d⟩:=id st'
  exact⟨u,rfl,Qex (s:={s with heap:=h'}) e c d (by decide) ⟨x,H,I1,ru,⟨rfl,λys hy=>by rw[I.Qhs hy hq];exact hx⟩,st',λb hb=>(hf b hb).1⟩⟩
 done:=by
  intro X hP hw hK hc i pins s σ H E I hf st hg
  subst hP hw hK
  obtain⟨xs,hq,hx⟩:=hg
  obtain⟨its,rv,p,hz⟩:=I.tuple hq
  obtain⟨f0,f1,f2,f3,f4,f5⟩:=hf it (by simp)
  have hl:=rv.length
  exact wpAny_pyNext_tuple_end (I.ok.hd hc) st (show s.heap.IsTuple a its.toArray from p) (by simp;omega) λh' eb=>⟨rfl,I.turned (t':=s.toks) (λb o hb e=>eb b o hb e) f0 f1 f3 f4 f5⟩
 self:=λ_ _ _ _ _ st h=>wpAny_pyIter_tupleiter st h
theorem QgW{P:Program}{w:World}{K:PySem.W.Frag}{tg:Expr}(it:Addr)(lo:Int)(n:Nat):Turn P w K tg (Itr lo n) [it] it (λi h=>IsRangeIter h it (lo+(i:Nat)*1) ((n:Int)-(i:Nat)) 1) where
 mem:=by simp
 obj:=λi h st b hb=>by
  have e:b=it:=by simpa using hb
  subst e
  exact⟨_,st,λv z=>by
   have z':Data.fields _=Data.cell v:=z
   cases z'⟩
 keep:=λi h h' st k=>k it (by simp) _ st
 item:=by
  intro X hP hw hK hc i pins s σ H E I hf st hg
  subst hP hw hK
  obtain⟨f0,f1,f2,f3,f4,f5⟩:=hf it (by simp)
  have W:=Walks.range (prog:=X.prog) (w:=X.w) (I.ok.hd hc) it lo 1 n
  refine W.item i s _ _ hg st λv h' tk hv st' kk=>?_
  obtain⟨t,rfl⟩:=hv
  have I1:Inv X pins σ H {s with heap:=h',toks:=tk}:=I.turned (λb o hb e=>kk b o (by simpa using hb) e) f0 f1 f3 f4 f5
  refine⟨_,rfl,Qex (s:={s with heap:=h',toks:=tk}) (n:= "range_iterator") st' rfl rfl (by decide) ⟨.int (lo+i),H,I1,⟨t,?_⟩,⟨rfl,rfl⟩,st',λb hb=>(hf b hb).1⟩⟩
  rw[Int.mul_one]
 done:=by
  intro X hP hw hK hc i pins s σ H E I hf st hg
  subst hP hw hK
  obtain⟨f0,f1,f2,f3,f4,f5⟩:=hf it (by simp)
  exact wpAny_pyNext_range_end (I.ok.hd hc) st (by have:n<=i:=hg;omega) λh' eb=>⟨rfl,I.turned (t':=s.toks) (λb o hb e=>eb b o hb e) f0 f1 f3 f4 f5⟩
 self:=λ_ _ _ _ _ st h=>wpAny_pyIter_rangeiter st h
end L2
namespace L2
open PySem PySem.Spec PyProof.Rows
section
variable {X:Cx}{tg:Expr}
theorem Qh3{pins:List (Addr×Obj)}{σ:St}{H:Hp}{s:Shared}{R:It->Hp->Prop}{E:Value->Shared->Prop}{lo hi:Int}{t u v:Tok}{tk:Nat}(I:Inv X pins σ H s)(h1: -(2^62)<=lo)(h2:lo<2^62)(h3: -(2^62)<=hi)(h4:hi<2^62)
  (q:R (Itr lo (hi-lo).toNat) H):wpAny (model X.prog X.w) X.A (pyIter (.ref s.heap.objs.size)) (PIE X pins σ tg R) E {s with heap:=s.heap.push {cls:= .type "range",data:= .fields #[.int lo t,.int hi u,.int 1 v]},toks:=tk}:=by
 refine wpAny_pyIter_range (IsRange.new ..) (small_one h1 h2 h3 h4) ?_
 have I1:Inv X pins σ H {s with heap:=s.heap.push {cls:= .type "range",data:= .fields #[.int lo t,.int hi u,.int 1 v]},toks:=tk}:=I.kept λb o e=>Zn _ e
 refine⟨(s.heap.push {cls:= .type "range",data:= .fields #[.int lo t,.int hi u,.int 1 v]}).objs.size,[(s.heap.push {cls:= .type "range",data:= .fields #[.int lo t,.int hi u,.int 1 v]}).objs.size],_,_,H,rfl,
  I1.kept (t':=tk) λb o e=>Zn _ e,QgW _ lo (hi-lo).toNat,?_,λb hb=>?_,q⟩
 ·have e1:lo+((0:Nat):Int)*1=lo:=by simp
  have e2:(((hi-lo).toNat:Nat):Int)-((0:Nat):Int)=Builtin.Range.rangeSize lo hi 1:=by rw[rangeSize_one];split<;>omega
  show IsRangeIter _ _ (lo+((0:Nat):Int)*1) ((((hi-lo).toNat:Nat):Int)-((0:Nat):Int)) 1
  rw[e1,e2]
  exact Zw _ rfl
 ·have e:b=(s.heap.push {cls:= .type "range",data:= .fields #[.int lo t,.int hi u,.int 1 v]}).objs.size:=by simpa using hb
  subst e
  exact I1.Qe3 (Zj _) (I1.hok.fresh (Zj _))
noncomputable def Qmt(ta:TA):TI:=λσ H R=>ta σ H λvs H1=>∃j:Int,vs=[.int j]/\ -(2^62)<=j/\j<2^62/\R (Itr 0 j.toNat) H1
theorem Qhd{a:Expr}{ta:TA}{p pos:Pos}(hg:Gl X "range")(hm:X.mg "range" =none)(ha:PA X [a] ta)(hs:starEach [a] X.env=[(false,eval a X.env)]:=by rfl):PI X tg (.Call (.Name "range" p) [a] [] pos) (Qmt ta):=by
 intro pins s σ H R I h
 refine Call_ (Qct I hg hm boot_range (Zae (thn (ha pos pins s σ H _ I h) λus s1 ⟨vs,H1,I1,r1,q1⟩=>?_) hs rfl))
 obtain⟨j,e,q1,q2,q⟩:=q1
 subst e
 cases r1 with
 | cons r rr=>
  cases rr
  obtain⟨t,rfl⟩:=r
  exact call_range_1 (Qh3 I1 (by omega) (by omega) q1 q2 (by simpa using q))
noncomputable def QnA(wi:TI)(g:TG)(tb:TS):TS:=λD σ H=>wi σ H λJ H1=>∃W:Nat->Nat->St->Hp->Prop,(∃m,W 0 m σ H1)/\∀i m σ H,W i m σ H→
 (J.stop i H/\D.nx σ H)∨(J.go i H/\∃N:St->Hp->Prop,(∀σ' H',N σ' H'->∃m',m'<m/\W (i+1) m' σ' H')/\∀x H',J.yld i H x H'->g x σ H' λσ2 H2=>tb {D with nx:=N,ct:=N,bk:=D.nx} σ2 H2)
noncomputable def Qcx(fp:List Addr)(h:Heap):List (Addr×Obj):=fp.filterMap λb=>(h.get? b).map λo=>(b,o)
theorem Qb4{fp:List Addr}{h:Heap}{b:Addr}{o:Obj}(hb:b∈fp)(e:h.get? b=some o):(b,o)∈Qcx fp h:=Zai.mpr ⟨b,hb,by rw[e];rfl⟩
theorem QhJ{fp:List Addr}{h:Heap}{p:Addr×Obj}(hp:p∈Qcx fp h):p.1∈fp/\h.get? p.1=some p.2:=by
 obtain⟨b,hb,e⟩:=Zai.mp hp
 cases q:h.get? b with
 | none=>rw[q]at e;cases e
 | some o=>
  rw[q]at e
  have e':(b,o)=p:=Option.some.inj e
  subst e'
  exact⟨hb,q⟩
theorem Inv.pinned{pins:List (Addr×Obj)}{σ:St}{H:Hp}{s:Shared}{fp:List Addr}(I:Inv X pins σ H s)(hf:∀b∈fp,QaF X pins H b)(ho:∀b∈fp,∃o,s.heap.get? b=some o/\∀v,o.data≠ .cell v):Inv X (pins++Qcx fp s.heap) σ H s:=
 I.QfF λp hp=>(Zx.mp hp).elim (λz=>I.pin p (Zb _ z)) λz=>by
  obtain⟨hb,e⟩:=QhJ z
  obtain⟨f0,f1,f2,_⟩:=hf p.1 hb
  obtain⟨o,e',d⟩:=ho p.1 hb
  rw[e]at e';cases e'
  exact⟨e,f0,f1,f2,d⟩
theorem Inv.QbX{pins pl:List (Addr×Obj)}{σ:St}{H:Hp}{s:Shared}(I:Inv X (pins++pl) σ H s):Inv X pins σ H s:=I.QfF λp hp=>I.pin p (Zb _ (Zc _ hp))
theorem Qks{iter:Expr}{body:List Stmt}{wi:TI}{g:TG}{tb:TS}{pos:Pos}(hp:PassesOwn (model X.prog X.w) X.A X.env X.xe)(hc:X.calm=true)(hi:PI X tg iter wi)(hg:PG X tg g)(hb:PSs X body tb)
  (hs:∀x,foldedSetIterable iter X.env x=pure x:=by intro _;rfl):PS X (.For tg iter body [] pos) (QnA wi g tb):=by
 intro pins s σ H D I h
 refine wpAny_For (thn (hi pins s σ H _ I h) λv s1 h1=>thn h1 λitv s2 h2=>?_) hs
 obtain⟨it,fp,tn,J,H2,e,I2,T,st2,f2,W,⟨m0,w0⟩,turn⟩:=h2
 subst e
 have stat:∀{H':Hp},(∀b∈fp,H' b=none)->∀b∈fp,QaF X pins H' b:=λhn b hb=>⟨hn b hb,(f2 b hb).2⟩
 refine codeAny_forLoop_any (λn s'=>∃i σ' H',Inv X pins σ' H' s'/\tn i s'.heap/\(∀b∈fp,H' b=none)/\W i n σ' H') ?_ m0 ⟨0,σ,H2,I2,st2,λb hb=>(f2 b hb).1,w0⟩
 rintro n s3 ⟨i,σ3,H3,I3,st3,fr3,w3⟩
 rcases turn i n σ3 H3 w3 with⟨stop,qn⟩ | ⟨go,N,hN,step⟩
 ·refine wpAny_passesOwn hp (thn (T.done X rfl rfl rfl hc i pins s3 σ3 H3 X.xe I3 (stat fr3) st3 stop) λr s4 hpt=>?_)
  obtain⟨hr,I4⟩:=hpt
  subst hr
  exact wpAny_execs_nil ⟨σ3,H3,I4,qn⟩
 ·refine wpAny_passesOwn hp (thn (T.item X rfl rfl rfl hc i pins s3 σ3 H3 X.xe I3 (stat fr3) st3 go) λr s4 hpt=>?_)
  obtain⟨u,hr,h4⟩:=hpt
  subst hr
  refine wpAny_passesOwn hp (thn h4 λ_ s5 hpt=>?_)
  obtain⟨x,H5,I5,r5,y5,st5,fr5⟩:=hpt
  have I5':=I5.pinned (stat fr5) (T.obj _ _ st5)
  refine wpAny_passesOwn hp (thn (hg _ s5 σ3 H5 x u _ I5' r5 (step x H5 y5)) λ_ s6 hpt=>?_)
  obtain⟨σ6,H6,I6,q6⟩:=hpt
  refine wpAny_passesOwn hp (thn (hb _ s6 σ6 H6 _ I6 q6) λf s7 q7=>?_)
  have again:∀{σ7:St}{H7:Hp},Inv X (pins++Qcx fp s5.heap) σ7 H7 s7->N σ7 H7->∃m,m<n/\∃i σ' H',Inv X pins σ' H' s7/\tn i s7.heap/\(∀b∈fp,H' b=none)/\W i m σ' H':=λ{σ7 H7} I7 n7=>by
   obtain⟨m',hm,w7⟩:=hN σ7 H7 n7
   refine⟨m',hm,i+1,σ7,H7,I7.QbX,T.keep _ _ _ st5 λb hb o e=>(I7.pin (b,o) (Zb _ (Zb _ (Qb4 hb e)))).1,λb hb=>?_,w7⟩
   obtain⟨o,e,d⟩:=T.obj _ _ st5 b hb
   exact(I7.pin (b,o) (Zb _ (Zb _ (Qb4 hb e)))).2.1
  cases f with
  | next=>obtain⟨σ7,H7,I7,n7⟩:=q7;exact again I7 n7
  | cont=>obtain⟨σ7,H7,I7,n7⟩:=q7;exact again I7 n7
  | brk=>obtain⟨σ7,H7,I7,q7⟩:=q7;exact⟨σ7,H7,I7.QbX,q7⟩
  | ret v=>obtain⟨x7,σ7,H7,I7,r7,q7⟩:=q7;exact⟨x7,σ7,H7,I7.QbX,r7,q7⟩
end
end L2
namespace L2
open PySem PySem.Spec PyProof.Rows
noncomputable abbrev R2:=V->V->Hp->VK->Prop
def OpR(X:Cx)(f:Value->Value->Sem Value)(r:R2):Prop:=
 ∀(pins:List (Addr×Obj)) (s:Shared) (σ:St) (H:Hp) (x y:V) (v u:Value) (Q:VK),Inv X pins σ H s->RelV x v->RelV y u->r x y H Q→
  wpAny (model X.prog X.w) X.A (f v u) (EP X pins σ Q) X.xe s
def UnR(X:Cx)(f:Value->Sem Value)(r:V->Hp->VK->Prop):Prop:=
 ∀(pins:List (Addr×Obj)) (s:Shared) (σ:St) (H:Hp) (x:V) (v:Value) (Q:VK),Inv X pins σ H s->RelV x v->r x H Q→
  wpAny (model X.prog X.w) X.A (f v) (EP X pins σ Q) X.xe s
def QM(X:Cx)(f:Value)(r:List V->Hp->VK->Prop):Prop:=
 ∀(pins:List (Addr×Obj)) (s:Shared) (σ:St) (H:Hp) (xs:List V) (us:List Value) (Q:VK),Inv X pins σ H s->Qe xs us->r xs H Q→
  wpAny (model X.prog X.w) X.A (call f us) (EP X pins σ Q) X.xe s
def QnG(X:Cx)(r:V->Hp->(Bool->Hp->Prop)->Prop):Prop:=
 ∀(pins:List (Addr×Obj)) (s:Shared) (σ:St) (H:Hp) (x:V) (v:Value) (Q:Bool->Hp->Prop),Inv X pins σ H s->RelV x v->r x H Q→
  wpAny (model X.prog X.w) X.A (truthy v) (TP X pins σ Q) X.xe s
noncomputable def tOp(r:R2)(ta tb:TE):TE:=λσ H Q=>ta σ H λx H1=>tb σ H1 λy H2=>r x y H2 Q
noncomputable def tUn(r:V->Hp->VK->Prop)(ta:TE):TE:=λσ H Q=>ta σ H λx H1=>r x H1 Q
noncomputable def rI(C:Int->Int->Prop)(g:Int->Int->V):R2:=λx y H Q=>∃i j,x= .int i/\y= .int j/\C i j/\Q (g i j) H
noncomputable def rI0(g:Int->Int->V):R2:=λx y H Q=>∃i j,x= .int i/\y= .int j/\Q (g i j) H
noncomputable def rU(g:Int->V):V->Hp->VK->Prop:=λx H Q=>∃i,x= .int i/\Q (g i) H
section
variable {X:Cx}{a b c:Expr}{ta tb tc:TE}{pos:Pos}
theorem Qgq(ha:PE X a ta)(hb:PE X b tb){pins:List (Addr×Obj)}{s:Shared}{σ:St}{H:Hp}{R:V->V->Hp->Prop}(I:Inv X pins σ H s)
  (h:ta σ H λx H1=>tb σ H1 λy H2=>R x y H2) {Q:Value->Shared->Prop}{f:Value->Value->Sem Value}
  (hf:∀v u s2 x y H2,Inv X pins σ H2 s2->RelV x v->RelV y u->R x y H2->wpAny (model X.prog X.w) X.A (f v u) Q X.xe s2):
  wpAny (model X.prog X.w) X.A (eval a X.env) (λv s₁=>wpAny (model X.prog X.w) X.A (eval b X.env) (λu s₂=>wpAny (model X.prog X.w) X.A (f v u) Q X.xe s₂) X.xe s₁) X.xe s:=by
 refine thn (ha pins s σ H _ I h) λv s1=>exJ λx H1 I1 r1 q1=>?_
 refine thn (hb pins s1 σ H1 _ I1 q1) λu s2=>exJ λy H2 I2 r2 q2=>?_
 exact hf v u s2 x y H2 I2 r1 r2 q2
theorem QgH{op:Operator}{r:R2}(ho:OpR X (binaryOp op) r)(ha:PE X a ta)(hb:PE X b tb):PE X (.BinOp a op b pos) (tOp r ta tb):=by
 intro pins s σ H Q I h
 exact wpAny_BinOp (Qgq ha hb I h λv u s2 x y H2 I2 rx ry q=>ho pins s2 σ H2 x y v u Q I2 rx ry q)
theorem Qmm{op:UnaryOp}{r:V->Hp->VK->Prop}(ho:UnR X (unaryOp op) r)(ha:PE X a ta):PE X (.UnaryOp op a pos) (tUn r ta):=by
 intro pins s σ H Q I h
 exact UnaryOp_ (thn (ha pins s σ H _ I h) λv s1 ⟨x,H1,I1,r1,q1⟩=>ho pins s1 σ H1 x v Q I1 r1 q1)
theorem opI{f:Value->Value->Sem Value}{C:Int->Int->Prop}{g:Int->Int->Int}
  (rule:∀(i j:Int) (t u:Tok) (s:Shared) (Q:Value->Shared->Prop) (E:Value->Shared->Prop),C i j->Q (.int (g i j) s.toks) {s with toks:=s.toks+1}->wpAny (model X.prog X.w) X.A (f (.int i t) (.int j u)) Q E s):
  OpR X f (rI C λi j=> .int (g i j)):=by
 intro pins s σ H x y v u Q I rx ry h
 obtain⟨i,j,rfl,rfl,hc,q⟩:=h
 obtain⟨t,rfl⟩:=rx
 obtain⟨t',rfl⟩:=ry
 exact rule i j t t' s _ _ hc ⟨.int (g i j),H,I.tok _,⟨_,rfl⟩,q⟩
theorem Qlf{f:Value->Value->Sem Value}{g:Int->Int->Int}
  (rule:∀(i j:Int) (t u:Tok) (s:Shared) (Q:Value->Shared->Prop) (E:Value->Shared->Prop),Q (.int (g i j) s.toks) {s with toks:=s.toks+1}->wpAny (model X.prog X.w) X.A (f (.int i t) (.int j u)) Q E s):
  OpR X f (rI0 λi j=> .int (g i j)):=by
 intro pins s σ H x y v u Q I rx ry h
 obtain⟨i,j,rfl,rfl,q⟩:=h
 obtain⟨t,rfl⟩:=rx
 obtain⟨t',rfl⟩:=ry
 exact rule i j t t' s _ _ ⟨.int (g i j),H,I.tok _,⟨_,rfl⟩,q⟩
theorem Qgx{f:Value->Value->Sem Value}{g:Int->Int->Bool}
  (rule:∀(i j:Int) (t u:Tok) (s:Shared) (Q:Value->Shared->Prop) (E:Value->Shared->Prop),Q (.bool (g i j)) s->wpAny (model X.prog X.w) X.A (f (.int i t) (.int j u)) Q E s):
  OpR X f (rI0 λi j=> .bl (g i j)):=by
 intro pins s σ H x y v u Q I rx ry h
 obtain⟨i,j,rfl,rfl,q⟩:=h
 obtain⟨t,rfl⟩:=rx
 obtain⟨t',rfl⟩:=ry
 exact rule i j t t' s _ _ ⟨.bl (g i j),H,I,rfl,q⟩
def QlA(i j:Int):Prop:=(-(2^64)<i/\i<2^64)∨(-(2^64)<j/\j<2^64)
theorem QlA.ok{i j:Int}(h:QlA i j):IntMulOk i j:=by
 rcases h with⟨h1,h2⟩ | ⟨h1,h2⟩
 ·exact .of_left (intBits_le_64 h1 h2)
 ·exact .of_right (intBits_le_64 h1 h2)
theorem QkD:OpR X (binaryOp .Add) (rI0 λi j=> .int (i+j)):=Qlf λ_ _ _ _ _ _ _ q=>add_int q
theorem Qmc:OpR X (binaryOp .Sub) (rI0 λi j=> .int (i-j)):=Qlf λ_ _ _ _ _ _ _ q=>sub_int q
theorem unI{f:Value->Sem Value}{g:Int->Int}
  (rule:∀(i:Int) (t:Tok) (s:Shared) (Q:Value->Shared->Prop) (E:Value->Shared->Prop),Q (.int (g i) s.toks) {s with toks:=s.toks+1}->wpAny (model X.prog X.w) X.A (f (.int i t)) Q E s):
  UnR X f (rU λi=> .int (g i)):=by
 intro pins s σ H x v Q I rx h
 obtain⟨i,rfl,q⟩:=h
 obtain⟨t,rfl⟩:=rx
 exact rule i t s _ _ ⟨.int (g i),H,I.tok _,⟨_,rfl⟩,q⟩
theorem QkY:UnR X (unaryOp .USub) (rU λi=> .int (-i)):=unI λ_ _ _ _ _ q=>neg_int q
end
section
variable {X:Cx}{a b c:Expr}{ta tb tc:TE}{pos:Pos}
theorem Qg5{pins:List (Addr×Obj)}{σ:St}{H:Hp}{s:Shared}{Q:VK}{k k':Bool}(I:Inv X pins σ H s)(q:Q (.bl k) H)(e:k=k'):EP X pins σ Q (.bool k') s:=by
 subst e
 exact⟨.bl k,H,I,rfl,q⟩
theorem QmB:OpR X (compareOp .Lt) (rI0 λi j=> .bl (decide (i<j))):=Qgx λ_ _ _ _ _ _ _ q=>lt_int q
theorem Qmo:OpR X (compareOp .LtE) (rI0 λi j=> .bl (decide (i<=j))):=Qgx λ_ _ _ _ _ _ _ q=>le_int q
theorem QmN:OpR X (compareOp .Gt) (rI0 λi j=> .bl (decide (j<i))):=Qgx λ_ _ _ _ _ _ _ q=>gt_int q
theorem QmG:OpR X (compareOp .GtE) (rI0 λi j=> .bl (decide (j<=i))):=Qgx λ_ _ _ _ _ _ _ q=>ge_int q
theorem QgZ:OpR X (compareOp .In) (λx y H Q=>∃i j,x= .str i/\y= .str j/\Q (.bl (!(Builtin.Str.occurrences j i 0 j.length 1).isEmpty)) H):=by
 intro pins s σ H x y v u Q I rx ry h
 obtain⟨i,j,rfl,rfl,q⟩:=h
 obtain⟨t,rfl⟩:=rx
 obtain⟨t',rfl⟩:=ry
 exact in_str (Qg5 I q rfl)
theorem Qfu:OpR X (compareOp .NotIn) (λx y H Q=>∃i j,x= .str i/\y= .str j/\Q (.bl (!(!(Builtin.Str.occurrences j i 0 j.length 1).isEmpty))) H):=by
 intro pins s σ H x y v u Q I rx ry h
 obtain⟨i,j,rfl,rfl,q⟩:=h
 obtain⟨t,rfl⟩:=rx
 obtain⟨t',rfl⟩:=ry
 exact notIn_str (Qg5 I q rfl)
theorem OpR.or{f:Value->Value->Sem Value}{r r':R2}(h:OpR X f r)(h':OpR X f r'):OpR X f (λx y H Q=>r x y H Q∨r' x y H Q):=by
 intro pins s σ H x y v u Q I rx ry q
 rcases q with q | q
 ·exact h pins s σ H x y v u Q I rx ry q
 ·exact h' pins s σ H x y v u Q I rx ry q
theorem QnW(b:Expr){op:CmpOp}(h:op≠ .In:=by decide)(h2:op≠ .NotIn:=by decide):behindInMarks op b=false:=by
 have e1:(op == CmpOp.In)=false:=by cases op<;>first | rfl | exact absurd rfl h
 have e2:(op == CmpOp.NotIn)=false:=by cases op<;>first | rfl | exact absurd rfl h2
 cases b<;>simp[behindInMarks,e1,e2]
theorem Qj6{op:CmpOp}{r:R2}(ho:OpR X (compareOp op) r)(ha:PE X a ta)(hb:PE X b tb)(hm:behindInMarks op b=false):PE X (.Compare a [op] [b] pos) (tOp r ta tb):=by
 intro pins s σ H Q I h
 exact wpAny_Compare1 (Qgq ha hb I h λv u s2 x y H2 I2 rx ry q=>ho pins s2 σ H2 x y v u Q I2 rx ry q) hm
noncomputable def QmA(t:TE):TT:=λσ H Q=>t σ H λx H'=>∃k,x= .bl k/\Q k H'
theorem Qj1{op:CmpOp}{r:R2}(ho:OpR X (compareOp op) r)(ha:PE X a ta)(hb:PE X b tb)(hm:behindInMarks op b=false):PT X (.Compare a [op] [b] pos) (QmA (tOp r ta tb)):=by
 intro pins s σ H Q I h
 refine wpAny_isTrue_Compare1 (thn (ha pins s σ H _ I h) λv s1 ⟨x,H1,I1,r1,q1⟩=>thn (hb pins s1 σ H1 _ I1 q1) λu s2 ⟨y,H2,I2,r2,q2⟩=>
  thn (ho pins s2 σ H2 x y v u _ I2 r1 r2 q2) λc s3 ⟨z,H3,I3,r3,k,e,q3⟩=>?_) hm
 subst e
 cases r3
 exact wpAny_truthy_bool ⟨H3,I3,q3⟩
def QiK(K:PySem.W.Frag)(x:V)(H:Hp)(k:Bool):Prop:=
 match x with
 | .non=>k=false
 | .bl b=>k=b
 | .int i=>k=(i != 0)
 | .str y=>y.length<=sizeLine/\k=((y.length:Int) != 0)
 | .byt y=>y.size<=sizeLine/\k=((y.size:Int) != 0)
 | .ref p=>(∃xs,SqL K H p xs/\k= !xs.isEmpty)∨(∃xs,SqT K H p xs/\k= !xs.isEmpty)∨∃kvs,H p=some (.dK kvs)/\k= !kvs.isEmpty
 | _=>False
theorem QgL{κ:Type}{kvs:List (κ×V)}{vs:List (κ×Value)}(r:KV kvs vs):(!vs.isEmpty)= !kvs.isEmpty:=by
 cases r<;>rfl
theorem Qdc{xs:List V}{its:List Value}(r:Qe xs its):(!its.toArray.isEmpty)= !xs.isEmpty:=by
 cases r<;>simp
theorem Qbz:(sizeLine:Nat)<2^63:=by rw[sizeLine_eq];decide
theorem Qdr:QnG X (λx H Q=>∃k,QiK X.K x H k/\Q k H):=by
 intro pins s σ H x v Q I rx h
 obtain⟨k,e,q⟩:=h
 have hl:=Qbz
 have hs:sizeLine=16777216:=sizeLine_eq
 cases x with
 | non=>
  cases rx
  have e':k=false:=e
  subst e'
  exact truthy_none ⟨H,I,q⟩
 | bl b=>
  cases rx
  have e':k=b:=e
  subst e'
  exact wpAny_truthy_bool ⟨H,I,q⟩
 | int i=>
  obtain⟨t,rfl⟩:=rx
  have e':k=(i != 0):=e
  subst e'
  exact PySem.P.truthy_int ⟨H,I,q⟩
 | str y=>
  obtain⟨t,rfl⟩:=rx
  obtain⟨hy,e'⟩:y.length<=sizeLine/\k=((y.length:Int) != 0):=e
  subst e'
  exact PySem.P.truthy_str (by omega) ⟨H,I.tok _,q⟩
 | byt y=>
  obtain⟨t,rfl⟩:=rx
  obtain⟨hy,e'⟩:y.size<=sizeLine/\k=((y.size:Int) != 0):=e
  subst e'
  exact PySem.W.truthy_bytes (by omega) ⟨H,I.tok _,q⟩
 | ref p=>
  cases rx
  have e':(∃xs,SqL X.K H p xs/\k= !xs.isEmpty)∨(∃xs,SqT X.K H p xs/\k= !xs.isEmpty)∨∃kvs,H p=some (.dK kvs)/\k= !kvs.isEmpty:=e
  rcases e' with⟨xs,hx,e'⟩ | ⟨xs,hx,e'⟩ | ⟨kvs,hx,e'⟩
  ·subst e'
   obtain⟨its,r,pl,hz⟩:=I.list hx
   have hlen:=r.length
   exact wpAny_truthy_list pl.isList (by simp only[Zo];omega) ⟨H,I.tok _,by rw[Qdc r];exact q⟩
  ·subst e'
   obtain⟨its,r,pl,hz⟩:=I.tuple hx
   have hlen:=r.length
   exact truthy_tuple pl (by simp only[Zo];omega) ⟨H,I.tok _,by rw[Qdc r];exact q⟩
  ·subst e'
   obtain⟨hz,hS,vs,r,m⟩:kvs.length<=sizeLine/\(p == sysModules)=false/\∃vs,KV kvs vs/\s.heap.DictOf (QdY X.prog X.w) p vs:=I.hok p _ hx
   have hlen:kvs.length=vs.length:=Paired.length r
   exact wpAny_truthy_dict hS m (by omega) ⟨H,I.tok _,by rw[QgL r];exact q⟩
 | _=>exact(show False from e).elim
theorem QiA(ha:PE X a ta)(he:∀whole,isTrue a X.env whole=(do let v ← whole;standAt a.pos;holding [v] (truthy v))):
  PT X a (λσ H Q=>ta σ H λx H'=>∃k,QiK X.K x H' k/\Q k H'):=by
 intro pins s σ H Q I h
 exact isTrue_plain (thn (ha pins s σ H _ I h) λv s1 ⟨x,H1,I1,r1,q1⟩=>Qdr pins s1 σ H1 x v Q I1 r1 q1) (he _)
theorem Qgc:OpR X (binaryOp .Add) (λx y H Q=>∃i j,x= .str i/\y= .str j/\i.length+j.length<=sizeLine/\Q (.str (i++j)) H):=by
 intro pins s σ H x y v u Q I rx ry h
 obtain⟨i,j,rfl,rfl,hz,q⟩:=h
 obtain⟨t,rfl⟩:=rx
 obtain⟨t',rfl⟩:=ry
 exact add_str (λt' tk=>⟨.str (i++j),H,I.tok _,⟨_,rfl⟩,q⟩) hz
def QiY(b:Expr):Prop:=∀o i,subscripted b false o i=operate [o,i] (getItem o i)
theorem QfC(ha:PE X a ta)(hb:PE X b tb)(hs:QiY b):
  PE X (.Subscript a b pos) (tOp (λx y H Q=>∃z i c,x= .str z/\y= .int i/\0<=i/\i<2^63/\i<z.length/\z.cps[i.toNat]? =some c/\Q (.str ⟨#[c]⟩) H) ta tb):=by
 intro pins s σ H Q I h
 refine Subscript_ (Qgq ha hb I h λv u s2 x y H2 I2 rx ry q=>?_)
 obtain⟨z,i,c,rfl,rfl,h0,h63,h1,hc,q⟩:=q
 obtain⟨t,rfl⟩:=rx
 obtain⟨t',rfl⟩:=ry
 have e:seqIndex? i z.length=some i.toNat:=PySem.StrLaws.seqIndex_nonneg h0 h1
 exact tail_any (typeIs_str s2 z t) slot_str_getitem.lookup (getItem_str (c:=c) (by
  have e1:decide (i< -(2^63:Int))=false:=decide_eq_false (by omega)
  have e2:decide (i≥2^63)=false:=decide_eq_false (by omega)
  rw[e1,e2]<;>rfl) (by rw[e];exact hc) ⟨.str ⟨#[c]⟩,H2,I2.tok _,⟨_,rfl⟩,q⟩) (hs _ _)
theorem vals1{x:V}{us:List Value}(r:Qe [x] us):∃u,us=[u]/\RelV x u:=by
 cases r with
 | cons r1 r2=>cases r2;exact⟨_,rfl,r1⟩
theorem vals2{x y:V}{us:List Value}(r:Qe [x,y] us):∃u w',us=[u,w']/\RelV x u/\RelV y w':=by
 cases r with
 | cons r1 r2=>
  cases r2 with
  | cons r3 r4=>cases r4;exact⟨_,_,rfl,r1,r3⟩
theorem Qei:QM X (.type "int") (λxs H Q=>(∃i,xs=[.int i]/\Q (.int i) H)∨∃k,xs=[.bl k]/\Q (.int (if k then 1 else 0)) H):=by
 intro pins s σ H xs us Q I r h
 rcases h with⟨i,rfl,q⟩ | ⟨k,rfl,q⟩
 ·obtain⟨u,rfl,t,rfl⟩:=vals1 r
  exact call_int_int ⟨.int i,H,I,⟨_,rfl⟩,q⟩
 ·obtain⟨u,rfl,r1⟩:=vals1 r
  cases r1
  exact call_int_bool ⟨.int (if k then 1 else 0),H,I.tok _,⟨_,rfl⟩,q⟩
theorem Qfi:QM X (.type "str") (λxs H Q=>∃i,xs=[.int i]/\i.natAbs.log2<1920/\Q (.str (toString i)) H):=by
 intro pins s σ H xs us Q I r h
 obtain⟨i,rfl,hz,q⟩:=h
 obtain⟨u,rfl,t,rfl⟩:=vals1 r
 exact PySem.P.str_of_int hz ⟨.str _,H,I.tok _,⟨_,rfl⟩,q⟩
end
end L2
namespace L2
open PySem PySem.Spec PyProof.Rows
structure Ql6 (h:Heap) (x dx C:Addr) (mA:Str->Option Value):Prop where
 obj:h.get? x=some (PySem.W.instObj C dx)
 ns:h.Ns1 dx mA
 ne:dx≠x
theorem Qhh{h:Heap}{dx:Addr}{mA:Str->Option Value}(n:h.Ns1 dx mA):∃od,h.get? dx=some od/\∀name,PySem.W.lookIn name od=some (mA name):=by
 obtain⟨o,es,ep,ho,hd,hk,_,hm⟩:=n
 refine⟨o,ho,λname=>?_⟩
 have e:=hm name
 unfold nsFind findBy at e
 rw[← Array.find?_toList]at e
 unfold PySem.W.lookIn
 rw[hd]
 dsimp only
 split
 ·rename_i y q
  rw[q]at e
  exact congrArg some e
 ·rename_i q
  rw[q]at e
  have a:es.toList.any (·.refKey)=false:=by
   rw[List.any_eq_false]
   intro y hy
   obtain⟨z,t,hkey⟩:=hk y (Array.mem_toList_iff.mp hy)
   simp[DictEntry.refKey,hkey]
  have a':¬es.toList.any (·.refKey)=true:=by rw[a];exact ZT
  rw[if_neg a']
  exact congrArg some e
theorem Ql6.look{h:Heap}{x dx C:Addr}{mA:Str->Option Value}(I:Ql6 h x dx C mA):∃od,PySem.W.InstAt h x (PySem.W.instObj C dx) C (some od)/\∀name,PySem.W.lookIn name od=some (mA name):=
 let ⟨od,ho,hl⟩:=Qhh I.ns
 ⟨od,⟨I.obj,rfl,rfl,ho⟩,hl⟩
section
variable {prog:Program}{w:World}{A:Around}{E:Value->Shared->Prop}{s:Shared}{K:PySem.W.Frag}{x dx C f:Addr}{mA:Str->Option Value}{name:Str}{v:Value}
end
theorem Qa4.some_of{v:V}{o:Option Value}(r:Qa4 (some v) o):∃u,o=some u/\RelV v u:=by
 cases o with
 | none=>exact(show False from r).elim
 | some u=>exact⟨u,rfl,r⟩
theorem Qa4.none_of{o:Option Value}(r:Qa4 none o):o=none:=by
 cases o with
 | none=>rfl
 | some u=>exact(show False from r).elim
section
variable {P:Program}{w:World}{H H':Hp}{h h':Heap}{a C dx:Addr}{fs fs':List (Str×V)}
end
structure Cls (K:PySem.W.Frag) (C:Addr):Prop where
 pg:PySem.W.plainGet K C Str.empty=true
 hd:PySem.W.hasDictIn K C=true
 po:PySem.W.plainOver K C=true
 sa:PySem.W.findIn K (.ref C) "__setattr__" =some (some (.builtin "object.__setattr__"))
theorem Cls.get{K:PySem.W.Frag}{C:Addr}(c:Cls K C)(f:Str):PySem.W.plainGet K C f=true:=c.pg
structure Con (K:PySem.W.Frag) (C:Addr) (f:Str) (v:V) (u:Value):Prop where
 at_:PySem.W.findIn K (.ref C) f=some (some u)
 rel:RelV v u
 get:PySem.W.specialIn K u "__get__" =some none
 cp:PySem.W.copiedNames.contains f=false
structure QnZ (K:PySem.W.Frag) (C:Addr) (m:Str) (f:Addr):Prop where
 at_:PySem.W.findIn K (.ref C) m=some (some (.ref f))
 fn:PySem.W.isFn K (.ref f)=true
 kp:PySem.W.keepIn K (.ref f)=true
section
variable {X:Cx}{pins:List (Addr×Obj)}{σ:St}{H:Hp}{s:Shared}{a C dx:Addr}{fs:List (Str×V)}{f:Str}{v:V}{A:Around}{E:Value->Shared->Prop}
theorem Inv.made(I:Inv X pins σ H s):Inv X pins σ (upd (upd H s.heap.objs.size (.own (s.heap.objs.size+1))) (s.heap.objs.size+1) (.ins C s.heap.objs.size []))
  {s with heap:=(s.heap.push PySem.W.emptyDict).push (PySem.W.instObj C s.heap.objs.size)}:=by
 have e1:(s.heap.push PySem.W.emptyDict).get? s.heap.objs.size=some PySem.W.emptyDict:=Zw s.heap rfl
 have e2:((s.heap.push PySem.W.emptyDict).push (PySem.W.instObj C s.heap.objs.size)).get? (s.heap.objs.size+1)=some (PySem.W.instObj C s.heap.objs.size):=by
  have:=Zw (s.heap.push PySem.W.emptyDict) (o:=PySem.W.instObj C s.heap.objs.size) rfl
  rwa[Zaj]at this
 have e3:(s.heap.push PySem.W.emptyDict).Ns s.heap.objs.size (λ_=>none):=⟨PySem.W.emptyDict,#[],_,e1,rfl,(λe he=>absurd he (by simp)),λ_=>rfl⟩
 have I1:=I.laid (a:=s.heap.objs.size) (o:= .own (s.heap.objs.size+1)) (h':=s.heap.push PySem.W.emptyDict) (t':=s.toks) (λb u q=>Zn _ q) (Zj _) ⟨_,e1⟩
 refine I1.laid (a:=s.heap.objs.size+1) (o:= .ins C s.heap.objs.size []) (t':=s.toks) (λb u q=>Zn _ q) (Nat.le_of_eq (Zaj _ _)) ?_
 have ne:s.heap.objs.size≠s.heap.objs.size+1:=ZE (Nat.lt_succ_self _)
 refine⟨by rw[Ql ne,QJ],ZJ _,ne,e2,λ_=>none,(Heap.Ns1.of_empty e3).at λo q=>Zn _ q,λ_=>True.intro,λy hy=>absurd rfl hy⟩
end
section
variable {X:Cx}{o e value:Expr}{f:Str}{pos pos' tpos:Pos}{ta tv:TE}
end
section
variable {X:Cx}{pins:List (Addr×Obj)}{σ:St}{H:Hp}{s:Shared}{A:Around}{E:Value->Shared->Prop}{Q:Value->Shared->Prop}{c:Value}{b:Bool}
end
end L2
namespace L2
open PySem PySem.Spec PyProof.Rows
structure Qx (k:Nat) (A:Around):Prop where
 hd:A.handled=none
 dp:A.depth+3*k+5<recursionLimit
 un:A.units+16*k+200<cLine
theorem Qx.mono{j k:Nat}{A:Around}(r:Qx k A)(h:j<=k):Qx j A:=⟨r.hd,by have:=r.dp;omega,by have:=r.un;omega⟩
theorem Qx.deeper{k:Nat}{A:Around}(r:Qx (k+1) A)(env:Env):Qx k (A.deeper env):=
 ⟨r.hd,by have:=r.dp;show A.depth+1+3*k+5<_;omega,by have:=r.un;show A.units+3+16*k+200<_;omega⟩
theorem Qx.in1{k:Nat}{A:Around}(r:Qx (k+1) A):Qx k A.in1:=
 ⟨r.hd,by have:=r.dp;show A.depth+3*k+5<_;omega,by have:=r.un;show A.units+1+16*k+200<_;omega⟩
theorem Qf9{A:Around}{C:Addr}{us:List Value}{kw:List (Str×Value)}:(A.under (.builtin "type.__call__" ⟨.ref C::us,kw⟩)).depth=A.depth+1:=by
 first | rfl | simp[Around.under,Code.weight,Code.isCreation,Code.isGuard,Code.isCaller,Code.frames,Code.isFrame,guardIds]
theorem Qga{A:Around}{C:Addr}{us:List Value}{kw:List (Str×Value)}:(A.under (.builtin "type.__call__" ⟨.ref C::us,kw⟩)).units=A.units+1:=by
 first | rfl | simp[Around.under,Code.cUnits,Code.frames,Code.isFrame]
theorem Qx.make{k:Nat}{A:Around}(r:Qx (k+1) A)(C:Addr)(us:List Value)(kw:List (Str×Value)):Qx k (A.under (.builtin "type.__call__" ⟨.ref C::us,kw⟩)):=
 ⟨r.hd,by have:=r.dp;rw[Qf9];omega,by have:=r.un;rw[Qga];omega⟩
theorem Qx.depth{k:Nat}{A:Around}(r:Qx k A):A.depth<recursionLimit:=by have:=r.dp;omega
theorem Qx.units{k:Nat}{A:Around}(r:Qx k A):A.units+64<cLine:=by have:=r.un;omega
noncomputable def Qgy:TA:=λ_ H Q=>Q [] H
noncomputable def Qgb(ta:TE)(tr:TA):TA:=λσ H Q=>ta σ H λx H1=>tr σ H1 λxs H2=>Q (x::xs) H2
section
variable {X:Cx}{e:Expr}{es:List Expr}{te:TE}{t:TA}{pos:Pos}
theorem Qco:PA X [] Qgy:=λ_ _ _ _ H Q I h=>Calls.spliced_nil ⟨[],H,I,.nil,h⟩
theorem QaQ(ha:PE X e te)(hr:PA X es t)(hs:starEach (e::es) X.env=(false,eval e X.env)::starEach es X.env:=by rfl):PA X (e::es) (Qgb te t):=by
 intro pos pins s σ H Q I h
 rw[hs]
 show wpAny _ _ (spliced ((false,eval e X.env)::backTo pos (starEach es X.env))) _ _ s
 refine Calls.spliced_cons (thn (ha pins s σ H _ I h) λu s1=>exJ λx H1 I1 r1 q1=>?_)
 exact thn (hr pos pins s1 σ H1 _ I1 q1) λus s2 ⟨xs,H2,I2,r2,q2⟩=>⟨x::xs,H2,I2,.cons r1 r2,q2⟩
noncomputable def Qne(t:TA):TE:=λσ H Q=>t σ H λxs H1=>xs.length<=sizeLine/\∀p,H1 p=none->Q (.ref p) (upd H1 p (.tup xs))
noncomputable def Qns(t:TA):TE:=λσ H Q=>t σ H λxs H1=>xs.length<=sizeLine/\∀p,H1 p=none->Q (.ref p) (upd H1 p (.lst xs))
theorem QkE{x1}(h:PA X es t):PE X (.Tuple es x1 pos) (Qne t):=by
 intro pins s σ H Q I hq
 refine wpAny_Tuple_spliced (thn (h pos pins s σ H _ I hq) λus s1 ⟨xs,H1,I1,r,z,q⟩=>⟨by rw[← r.length];exact z,?_⟩)
 have hf:H1 s1.heap.objs.size=none:=I1.hok.fresh (Zj _)
 refine⟨.ref s1.heap.objs.size,upd H1 s1.heap.objs.size (.tup xs),I1.laid (t':=s1.toks) (λb u e=>Zn _ e) (Zj _) ?_,rfl,q _ hf⟩
 exact⟨z,us,r,⟨_,Zw _ rfl,rfl,_,rfl⟩⟩
theorem QkT(h:PA X es t):PE X (.List es pos) (Qns t):=by
 intro pins s σ H Q I hq
 refine wpAny_List_spliced (thn (h pos pins s σ H _ I hq) λus s1 ⟨xs,H1,I1,r,z,q⟩=>⟨by rw[← r.length];exact z,?_⟩)
 have hf:H1 s1.heap.objs.size=none:=I1.hok.fresh (Zj _)
 refine⟨.ref s1.heap.objs.size,upd H1 s1.heap.objs.size (.lst xs),I1.laid (t':=s1.toks) (λb u e=>Zn _ e) (Zj _) ?_,rfl,q _ hf⟩
 exact⟨z,us,0,r,Zw _ rfl⟩
end
noncomputable abbrev Sp:=List V->Hp->VK->XK->Prop
noncomputable abbrev CXT:=List Env->Hp->Shared->XK->Value->Shared->Prop
structure Qbt (P:Program) (w:World) (K:PySem.W.Frag) (mg:Str->Option Value) (base:Heap) (A:Around) (outer:List Env) (s:Shared) (H:Hp):Prop where
 frames:A.frames=some outer
 mod:Mod K mg base
 bs:∀b o,base.get? b=some o->s.heap.get? b=some o/\H b=none
 bsz:base.objs.size<=s.heap.objs.size
 QaV:s.heap.FunFrames base outer
 frf:∀b∈frs outer,H b=none
 hok:HOk P w H s.heap
 bare:AllBare s.gens
def CE(outer:List Env)(P:Program)(w:World)(H:Hp)(s:Shared)(Q:VK)(u:Value)(s':Shared):Prop:=
 ∃v H',s'.os=s.os/\AllBare s'.gens/\Un (frs outer) [] H H' s.heap s'.heap/\HOk P w H' s'.heap/\RelV v u/\Q v H'
def CR(CX:CXT)(outer:List Env)(P:Program)(w:World)(H:Hp)(s:Shared)(Q:VK)(E:XK)(r:Result)(s':Shared):Prop:=
 match r with
 | .ok (.ret u)=>CE outer P w H s Q u s'
 | .ok _=>False
 | .error e=>CX outer H s E e s'
structure Q1 (P:Program) (w:World) (K:PySem.W.Frag) (mg:Str->Option Value) (base:Heap) (CX:CXT) (k:Nat) (f:Addr) (fd:FuncData) (ps:List Str) (sp:Sp):Prop where
 len:∀vs H Q E,sp vs H Q E->vs.length=ps.length
 run:∀(A:Around) (outer:List Env) (s:Shared) (H:Hp) (args:Args) (us:List Value) (vs:List V) (Q:VK) (E:XK),Qx k A->Qbt P w K mg base A outer s H->BindsTo s fd args (ps.zip us)->Qe vs us->sp vs H Q E→
  codeAny (model P w) A (.call (.ref f) args) (CR CX outer P w H s Q E) s
theorem Q1.mono{P:Program}{w:World}{K:PySem.W.Frag}{mg:Str->Option Value}{base:Heap}{CX:CXT}{j k:Nat}{f:Addr}{fd:FuncData}{ps:List Str}{sp:Sp}(F:Q1 P w K mg base CX j f fd ps sp)(h:j<=k):
  Q1 P w K mg base CX k f fd ps sp:=⟨F.len,λA outer s H args us vs Q E hr=>F.run A outer s H args us vs Q E (hr.mono h)⟩
theorem Q1.imp{P:Program}{w:World}{K:PySem.W.Frag}{mg:Str->Option Value}{base:Heap}{CX:CXT}{k:Nat}{f:Addr}{fd:FuncData}{ps:List Str}{sp sp':Sp}(F:Q1 P w K mg base CX k f fd ps sp)
  (h:∀vs H Q E,sp' vs H Q E->sp vs H Q E):Q1 P w K mg base CX k f fd ps sp':=
 ⟨λvs H Q E q=>F.len vs H Q E (h _ _ _ _ q),λA outer s H args us vs Q E hr he hb hv hs=>F.run A outer s H args us vs Q E hr he hb hv (h _ _ _ _ hs)⟩
theorem Qbt.make{P:Program}{w:World}{K:PySem.W.Frag}{mg:Str->Option Value}{base:Heap}{A:Around}{outer:List Env}{s:Shared}{H:Hp}(e:Qbt P w K mg base A outer s H)(C:Addr)(us:List Value)(kw:List (Str×Value)):
  Qbt P w K mg base (A.under (.builtin "type.__call__" ⟨.ref C::us,kw⟩)) outer s H:=⟨by first | exact e.frames | (simpa[Around.under,Code.envs,Code.isFrame,pushEnvs]using e.frames),e.mod,e.bs,e.bsz,e.QaV,e.frf,e.hok,e.bare⟩
theorem Qbt.in1{P:Program}{w:World}{K:PySem.W.Frag}{mg:Str->Option Value}{base:Heap}{A:Around}{outer:List Env}{s:Shared}{H:Hp}(e:Qbt P w K mg base A outer s H):
  Qbt P w K mg base A.in1 outer s H:=⟨e.frames,e.mod,e.bs,e.bsz,e.QaV,e.frf,e.hok,e.bare⟩
section
variable {X:Cx}{pins:List (Addr×Obj)}{σ:St}{H:Hp}{s s':Shared}
theorem Inv.Qno(I:Inv X pins σ H s):Qbt X.prog X.w X.K X.mg X.base X.A X.stack s H:=
 ⟨I.ok.frames,I.ok.mod,I.bs,Zr I.ok.bsz I.sz,I.stack,I.QfI,I.hok,I.bare⟩
theorem Inv.after{Q:VK}{u:Value}(I:Inv X pins σ H s)(h:CE X.stack X.prog X.w H s Q u s'):EP X pins σ Q u s':=by
 obtain⟨v,H',os,bare,un,hok,r,q⟩:=h
 obtain⟨hh,g,d,t,os'⟩:=s'
 obtain rfl:os'=s.os:=os
 exact⟨v,H',I.call (h':=hh) (g':=g) (d':=d) (t':=t) (ch:=[]) un hok bare (λb z=>absurd z (by simp)),r,q⟩
end
noncomputable def Qgr(sp:Sp)(dvs:List V)(E:XK)(t:TA):TE:=λσ H Q=>t σ H λvs H1=>sp (vs++dvs) H1 Q E
def Binds(K:PySem.W.Frag)(fd:FuncData)(ps:List Str)(ds:List Value):Prop:=
 ∀(s:Shared) (us:List Value),K.In s.heap->(us++ds).length=ps.length->BindsTo s fd ⟨us,[]⟩ (ps.zip (us++ds))
theorem Binds.all{K:PySem.W.Frag}{fd:FuncData}{ps:List Str}(h:∀us:List Value,us.length=ps.length->bindArgs fd ⟨us,[]⟩=pure (ps.zip us)):Binds K fd ps []:=λs us _ hl=>by
 rw[List.append_nil]at hl ⊢
 exact .of_eq (h us hl)
def Qdt(CX:CXT)(X:Cx)(E:XK):Prop:=∀(pins:List (Addr×Obj)) (σ:St) (H:Hp) (s:Shared) (e:Value) (s':Shared),Inv X pins σ H s->CX X.stack H s E e s'->X.xe e s'
section
variable {X:Cx}{CX:CXT}{k:Nat}{f C:Addr}{fd:FuncData}{ps:List Str}{sp:Sp}{dvs:List V}{ds:List Value}{E:XK}{x m:Str}{p pos apos:Pos}{e o:Expr}{es:List Expr}{ta:TE}{t:TA}
theorem QhA{pins:List (Addr×Obj)}{σ:St}{H:Hp}{s:Shared}{Q:VK}{us:List Value}{vs:List V}(F:Q1 X.prog X.w X.K X.mg X.base CX k f fd ps sp)(hr:Qx k X.A)(hb:Binds X.K fd ps ds)(hd:Qe dvs ds)(hx:Qdt CX X E)
  (I:Inv X pins σ H s) (r:Qe vs us) (h:sp (vs++dvs) H Q E):wpAny (model X.prog X.w) X.A (call (.ref f) us) (EP X pins σ Q) X.xe s:=by
 have r2:Qe (vs++dvs) (us++ds):=r.append hd
 have hl:(us++ds).length=ps.length:=by rw[← r2.length];exact F.len _ _ _ _ h
 refine wpAny_call (codeAny_mono (F.run X.A X.stack s H ⟨us,[]⟩ (us++ds) (vs++dvs) Q E hr I.Qno (hb s us I.kIn hl) r2 h) λr s' hq=>?_)
 cases r with
 | error e=>exact hx pins σ H s e s' I hq
 | ok fl=>
  cases fl with
  | ret u=>exact I.after hq
  | next=>exact False.elim hq
  | brk=>exact False.elim hq
  | cont=>exact False.elim hq
theorem Qjr(F:Q1 X.prog X.w X.K X.mg X.base CX k f fd ps sp)(hr:Qx k X.A)(hg:Gl X x)(hm:X.mg x=some (.ref f))(hk:PySem.W.keepIn X.K (.ref f)=true)(hb:Binds X.K fd ps ds)(hd:Qe dvs ds)(hx:Qdt CX X E)
  (ha:PA X (e::es) t) (hdb:(x == ("__debug__" :Str))=false:=by decide) (he:starEach (e::es) X.env=(false,eval e X.env)::starEach es X.env:=by rfl) (hpl:(backTo pos (starEach es X.env)).any (·.1)=false:=by rfl):
  PE X (.Call (.Name x p) (e::es) [] pos) (Qgr sp dvs E t):=by
 intro pins s σ H Q I h
 refine wpAny_Call_Name_kw (QdG I hg hm ?_ hdb)
 refine PySem.W.callWith_K (h₀:=X.base) I.ok.mod.kin hk (thn (ha pos pins s σ H _ I h) λus s1 ⟨vs,H1,I1,r,q⟩=>⟨I1.kIn,?_⟩) he hpl
 exact QhA F hr hb hd hx I1 r q
theorem QiB(F:Q1 X.prog X.w X.K X.mg X.base CX k f fd ps sp)(hr:Qx k X.A)(hg:Gl X x)(hm:X.mg x=some (.ref f))(hk:PySem.W.keepIn X.K (.ref f)=true)(hb:Binds X.K fd ps ds)(hd:Qe dvs ds)(hx:Qdt CX X E)
  (hdb:(x == ("__debug__" :Str))=false:=by decide):PE X (.Call (.Name x p) [] [] pos) (Qgr sp dvs E Qgy):=by
 intro pins s σ H Q I h
 refine wpAny_Call_Name_kw (QdG I hg hm ?_ hdb)
 exact PySem.W.callWith_K0 I.kIn hk (QhA (us:=[]) F hr hb hd hx I .nil h)
structure Mk (K:PySem.W.Frag) (C f:Addr):Prop where
 makes:PySem.W.makesIn K C=true
 init:PySem.W.findIn K (.ref C) "__init__" =some (some (.ref f))
 fn:PySem.W.isFn K (.ref f)=true
 kp:PySem.W.keepIn K (.ref C)=true
end
section
variable {X:Cx}{CX:CXT}{k:Nat}{f C:Addr}{fd:FuncData}{ps ks:List Str}{sp:Sp}{E:XK}{x m:Str}{p pos apos kpos:Pos}{e o:Expr}{es:List Expr}{kws:List Keyword}{te ta:TE}{t tk:TA}{nm:Option Str}
structure QnV (K:PySem.W.Frag) (fd:FuncData) (ps ks:List Str) (g:List Value->List Value->List Value) (gV:List V->List V->List V):Prop where
 to:∀(s:Shared) (us ws:List Value),K.In s.heap->(g us ws).length=ps.length->BindsTo s fd ⟨us,ks.zip ws⟩ (ps.zip (g us ws))
 rel:∀{vs:List V}{us:List Value}{zs:List V}{ws:List Value},Qe vs us->Qe zs ws->Qe (gV vs zs) (g us ws)
variable {g:List Value->List Value->List Value}{gV:List V->List V->List V}
end
structure Qat (N P:List Str) (sc:Scope):Prop where
 kind:sc.kind= .function
 co:sc.isCoroutine=false
 gen:sc.isGenerator=false
 nd:N.Nodup
 pre:N.take P.length=P
 par:∀x∈P,sc.names.lookup x=some .local ∨sc.names.lookup x=some .cell
 nofree:∀y∈sc.names,y.2≠ .free
theorem Qeo{kindOf:Str->Option NameKind}{x:Str}:∀{binds:List (Str×Value)}{m:Str->Option Value},(∀v,(x,v)∉binds)->bindL kindOf binds m x=m x
 | [],_,_=>rfl
 | (n,v)::r,m,h=>by
  unfold bindL
  rw[Qeo λw hw=>h w (Za _ hw)]
  split
  ·have:x≠n:=by rintro rfl;exact h v Zi
   simp[this]
  ·rfl
theorem Qec{kindOf:Str->Option NameKind}{x:Str}:∀{binds:List (Str×Value)}{m:Str->Option Value},(∀v,(x,v)∉binds)->bindC kindOf binds m x=m x
 | [],_,_=>rfl
 | (n,v)::r,m,h=>by
  unfold bindC
  rw[Qec λw hw=>h w (Za _ hw)]
  split
  ·rfl
  ·have:x≠n:=by rintro rfl;exact h v Zi
   simp[this]
theorem Qej{kindOf:Str->Option NameKind}{x:Str}{v:Value}:∀{P:List Str}{vs:List Value}{i:Nat}{m:Str->Option Value},P.Nodup->P[i]? =some x->vs[i]? =some v->kindOf x=some .local →
  bindL kindOf (P.zip vs) m x=some v
 | [],_,_,_,_,h,_,_=>by simp at h
 | _::_,[],_,_,_,_,h,_=>by simp at h
 | p::P,w::vs,0,m,nd,h1,h2,hk=>by
  simp at h1 h2;subst h1;subst h2
  show bindL kindOf ((p,w)::P.zip vs) m p=_
  unfold bindL
  rw[Qeo λv hv=>(ZW.mp nd).1 (ZaH hv).1,if_pos hk]
  simp
 | p::P,w::vs,i+1,m,nd,h1,h2,hk=>by
  show bindL kindOf ((p,w)::P.zip vs) m x=_
  unfold bindL
  exact Qej (i:=i) (ZW.mp nd).2 (by simpa using h1) (by simpa using h2) hk
theorem Qep{kindOf:Str->Option NameKind}{x:Str}{v:Value}:∀{P:List Str}{vs:List Value}{i:Nat}{m:Str->Option Value},P.Nodup->P[i]? =some x->vs[i]? =some v->kindOf x≠some .local →
  bindC kindOf (P.zip vs) m x=some v
 | [],_,_,_,_,h,_,_=>by simp at h
 | _::_,[],_,_,_,_,h,_=>by simp at h
 | p::P,w::vs,0,m,nd,h1,h2,hk=>by
  simp at h1 h2;subst h1;subst h2
  show bindC kindOf ((p,w)::P.zip vs) m p=_
  unfold bindC
  rw[Qec λv hv=>(ZW.mp nd).1 (ZaH hv).1,if_neg hk]
  simp
 | p::P,w::vs,i+1,m,nd,h1,h2,hk=>by
  show bindC kindOf ((p,w)::P.zip vs) m x=_
  unfold bindC
  exact Qep (i:=i) (ZW.mp nd).2 (by simpa using h1) (by simpa using h2) hk
noncomputable def start(N:List Str)(vs:List V):St:=vs.map some++List.replicate (N.length-vs.length) none
noncomputable def Qcl(CX:CXT)(P:Program)(w:World)(K:PySem.W.Frag)(mg:Str->Option Value)(base:Heap)(N:List Str)(qual:Str)(scope:Scope)(f:Addr)(cd:Value)(A:Around)(outer:List Env)(s:Shared)(H:Hp)(E:XK):Cx where
 prog:=P
 w:=w
 K:=K
 mg:=mg
 base:=base
 A:=A.deeper (envOfC qual scope s.heap.objs.size f cd)
 N:=N
 s₀:=s
 H₀:=H
 env:=envOfC qual scope s.heap.objs.size f cd
 outer:=outer
 stack:=envOfC qual scope s.heap.objs.size f cd::outer
 ex:=[]
 calm:=decide (A.handled=none)
 fn:=λ_=>true
 pn:=[]
 xe:=λe s'=>wpAny (model P w) (A.deeper (envOfC qual scope s.heap.objs.size f cd)) (leaving (envOfC qual scope s.heap.objs.size f cd) e) (λ_ s''=>CX outer H s E e s'') (λe' s''=>CX outer H s E e' s'') s'
theorem Qfa{sc:Scope}{n:Nat}{x:Str}(h:sc.names.lookup x=some .cell):∃c,(cellsFrom n sc.names []).lookup x=some c:=by
 have q:=ZaF sc.names n [] (.inl h)
 exact Option.isSome_iff_exists.mp q
theorem Qhr{CX:CXT}{P:Program}{w:World}{K:PySem.W.Frag}{mg:Str->Option Value}{base:Heap}{N ps:List Str}{qual:Str}{scope:Scope}{f:Addr}{cd:Value}{A:Around}{outer:List Env}{s s1:Shared}{H:Hp}{E:XK}{us:List Value}{vs:List V}
  (S:Qat N ps scope) (e0:Qbt P w K mg base A outer s H) (hl:vs.length=ps.length) (r:Qe vs us)
  (x:InCallC s s.heap.objs.size (bindL (envOfC qual scope s.heap.objs.size f cd).kindOf (ps.zip us) λ_=>none) (cellsFrom (s.heap.objs.size+1) scope.names []) (bindC (envOfC qual scope s.heap.objs.size f cd).kindOf (ps.zip us) λ_=>none) s1):
  Inv (Qcl CX P w K mg base N qual scope f cd A outer s H E) [] (start N vs) H s1:=by
 have hpl:ps.length<=N.length:=by have:=congrArg List.length S.pre;rw[Zab]at this;omega
 obtain⟨h1,tk,rfl,hk⟩:=x.done
 have noA:∀b:Addr,b∉(Qcl CX P w K mg base N qual scope f cd A outer s H E).ex:=λb z=>absurd (show b∈([]:List Addr)from z) (by simp)
 refine⟨⟨e0.mod,S.kind,rfl,rfl,Zj _,λy z c h1 h2=>?_,λy hy=>?_,λy c _ h=>?_,λh=>of_decide_eq_true h,Around.frames_deeper e0.frames,.inr ⟨rfl,rfl⟩,λb z=>absurd z (noA b),e0.bs,e0.bsz,λb _ _=>noA b,λb z=>absurd z (noA b),e0.QaV,e0.frf⟩,
  rfl,e0.bare,Un.kept hk,⟨_,x.toInCall.ns,λi y v h1 h2 h3=>?_⟩,λy c h=>⟨_,x.cell y c h⟩,e0.hok.fresh (Zj _),λy c h=>?_,λp hp=>absurd (show p∈([]:List (Addr×Obj))from hp) (by simp),e0.hok.kept hk,?_⟩
 ·exact name_of_addr x.apart (ZG h1) (ZG h2)
 ·have hy:scope.names.lookup y=some .cell∨scope.names.lookup y=some .free:=hy
  rcases hy with hy | hy
  ·exact Qfa hy
  ·exact absurd rfl (S.nofree _ (ZG hy))
 ·exact Nat.le_of_lt (x.above y c (ZG h))
 ·have hi:i<vs.length:=by
   unfold start at h2
   by_cases hi:i<vs.length
   ·exact hi
   ·rw[Zax (by simpa using hi)]at h2
    rw[ZaD]at h2
    split at h2<;>cases h2
  have ha:vs[i]? =some v:=by
   unfold start at h2
   rw[ZN (by simpa using hi),Zz]at h2
   cases e:vs[i]? with
   | none=>rw[e]at h2;cases h2
   | some a=>rw[e]at h2;cases h2;rfl
  obtain⟨u,hu,rv⟩:=r.get ha
  have hp:ps[i]? =some y:=by
   rw[← S.pre,List.getElem?_take_of_lt (by omega)];exact h1
  have ndP:ps.Nodup:=by rw[← S.pre];exact S.nd.sublist (List.take_sublist _ _)
  refine⟨u,rv,?_⟩
  rcases S.par y (ZY hp)with k | k
  ·exact .inl ⟨k,Qej ndP hp hu k⟩
  ·obtain⟨c,e⟩:=Qfa (n:=s.heap.objs.size+1) k
   refine .inr ⟨.inl k,c,e,?_⟩
   have q:=x.cell y c e
   rw[Qep ndP hp hu (by show scope.names.lookup y≠_;rw[k];decide)]at q
   exact q
 ·exact e0.hok.fresh (Nat.le_of_lt (x.above y c (ZG h)))
 ·unfold start
  show _=N.length
  rw[Zp,Zv,List.length_replicate]
  omega
theorem Qm1{CX:CXT}{P:Program}{w:World}{K:PySem.W.Frag}{mg:Str->Option Value}{base:Heap}{k:Nat}{f:Addr}{name qual:Str}{params:Arguments}{body:List Stmt}{scope:Scope}{dV kV doc pm cdv ct oc:Value}{an od:Option Addr}
  {osl:Array (Option Value)}{N ps:List Str}{sp:Sp}(lk:K.lookup f=some ⟨oc,od,.func (PySem.W.fnOf name qual params body scope dV kV doc pm an cdv ct),osl⟩) (hcd:PySem.W.codeIn K cdv qual=true) (S:Qat N ps scope)
  (len:∀vs H Q E,sp vs H Q E->vs.length=ps.length)
  (hbody:∀(A:Around) (outer:List Env) (s:Shared) (H:Hp) (vs:List V) (Q:VK) (E:XK),Qx k (A.deeper (envOfC qual scope s.heap.objs.size f cdv))->sp vs H Q E→
   ∃t,PSs (Qcl CX P w K mg base N qual scope f cdv A outer s H E) body t/\t {nx:=λ_ H'=>Q .non H',rt:=Q} (start N vs) H):
  Q1 P w K mg base CX (k+1) f (PySem.W.fnOf name qual params body scope dV kV doc pm an cdv ct) ps sp:=by
 refine⟨len,λA outer s H args us vs Q E hr e0 hb r hsp=>?_⟩
 have hl:=len _ _ _ _ hsp
 have KX:K.In s.heap:=e0.mod.kin.keeps λb o e=>(e0.bs b o e).1
 have lim:s.heap.NoLimit:=e0.mod.nolimit.keeps λb o e=>(e0.bs b o e).1
 have hkind:∀y∈ps.zip us,scope.names.lookup y.1=some .local ∨(scope.names.lookup y.1=some .cell/\((cellsFrom (s.heap.objs.size+1) scope.names []).lookup y.1).isSome=true):=λhpt hy=>by
  obtain⟨n,v⟩:=hpt
  rcases S.par n (ZaH hy).1 with q | q
  ·exact .inl q
  ·exact .inr ⟨q,ZaF _ _ _ (.inl q)⟩
 refine codeAny_call_function hr.depth (KX _ _ lk) rfl S.co S.gen rfl (PySem.W.codeRec_of KX hcd) (hb _ _ _ _ ?_)
 refine wpAny_newFunctionEnv_cells S.kind hkind λenv he s1 x=>?_
 subst he
 refine⟨lim.keeps x.toInCall.keep,codeAny_func ?_⟩
 obtain⟨t,ht,hq⟩:=hbody A outer s H vs Q E (hr.deeper _) hsp
 have I:Inv (Qcl CX P w K mg base N qual scope f cdv A outer s H E) [] (start N vs) H s1:=Qhr S e0 hl r x
 refine wpAny_mono (ht [] s1 (start N vs) H _ I hq) (λfl s' hs=>?_) λe s' hs=>hs
 have fin:∀{σ':St}{H':Hp}{v:V}{u:Value},Inv (Qcl CX P w K mg base N qual scope f cdv A outer s H E) [] σ' H' s'->RelV v u->Q v H'->CE outer P w H s Q u s':=
  λ{σ' H' v u} J rv q=>⟨v,H',J.os,J.bare,J.base,J.hok,rv,q⟩
 cases fl with
 | ret u=>
  obtain⟨v,σ',H',J,rv,q⟩:=hs
  exact fin J rv q
 | next=>
  obtain⟨σ',H',J,q⟩:=hs
  exact fin (v:=V.non) (u:=Value.none) J rfl q
 | brk=>
  obtain⟨_,_,_,q⟩:=hs
  exact False.elim q
 | cont=>
  obtain⟨_,_,_,q⟩:=hs
  exact False.elim q
end L2
namespace L2
open PySem PySem.Spec PyProof.Rows
section
variable {X:Cx}{x:Str}{p pos:Pos}{e:Expr}{es:List Expr}{t:TA}{id T:String}{r:List V->Hp->VK->Prop}
noncomputable def tCB(r:List V->Hp->VK->Prop)(t:TA):TE:=λσ H Q=>t σ H λvs H1=>r vs H1 Q
theorem QeN(hc:QM X (.builtin id) r)(hg:Gl X x)(hm:X.mg x=none)(hv:bootBuiltins x=some (.builtin id))(ha:PA X (e::es) t)(hn:x≠ "__name__" :=by decide)(hdb:(x == ("__debug__" :Str))=false:=by decide)
  (he:starEach (e::es) X.env=(false,eval e X.env)::starEach es X.env:=by rfl) (hpl:(backTo pos (starEach es X.env)).any (·.1)=false:=by rfl):PE X (.Call (.Name x p) (e::es) [] pos) (tCB r t):=by
 intro pins s σ H Q I h
 refine wpAny_Call_Name_kw (Qct I hg hm hv ?_ hn hdb)
 exact PyProof.Rows.callWith_builtin1 (thn (ha pos pins s σ H _ I h) λus s1 ⟨vs,H1,I1,r1,q1⟩=>hc pins s1 σ H1 vs us Q I1 r1 q1) he hpl
theorem Qef(hc:QM X (.type T) r)(hg:Gl X x)(hm:X.mg x=none)(hv:bootBuiltins x=some (.type T))(ha:PA X (e::es) t)(hn:x≠ "__name__" :=by decide)(hdb:(x == ("__debug__" :Str))=false:=by decide)
  (he:starEach (e::es) X.env=(false,eval e X.env)::starEach es X.env:=by rfl) (hpl:(backTo pos (starEach es X.env)).any (·.1)=false:=by rfl):PE X (.Call (.Name x p) (e::es) [] pos) (tCB r t):=by
 intro pins s σ H Q I h
 refine wpAny_Call_Name_kw (Qct I hg hm hv ?_ hn hdb)
 exact Zae (thn (ha pos pins s σ H _ I h) λus s1 ⟨vs,H1,I1,r1,q1⟩=>hc pins s1 σ H1 vs us Q I1 r1 q1) he hpl
end
end L2
namespace HT
open PySem PyProof.Rows
section
open PySem.SeqAt
open PySem.AutoSeq1 (wpAny_loadPart')
open PySem.MeetsSeq PySem.MeetsSeq2 PySem.MeetsSeq3
end
section
variable {prog:Program}{w:World}{A:Around}{E:Value->Shared->Prop}{s:Shared}
noncomputable def sIx(n d:Nat):Option Int->Nat
 | none=>d
 | some v=>if v<0 then(v+(n:Int)).toNat else min v.toNat n
theorem Qiv(n d:Nat):sIx n d none=d:=rfl
theorem Qkk(n d k:Nat):sIx n d (some (k:Int))=min k n:=by
 show(if(k:Int)<0 then((k:Int)+(n:Int)).toNat else min (k:Int).toNat n)=min k n
 rw[if_neg (by omega),Int.toNat_natCast]
end
end HT
namespace L2
open PySem PySem.Spec PyProof.Rows
noncomputable abbrev TO:=St->Hp->(Option Int->Hp->Prop)->Prop
def PO(X:Cx)(e:Option Expr)(t:TO):Prop:=
 ∀(pins:List (Addr×Obj)) (s:Shared) (σ:St) (H:Hp) (Q:Option Int->Hp->Prop),Inv X pins σ H s->t σ H Q→
  wpAny (model X.prog X.w) X.A (evalPart e X.env) (λu s'=>∃o H',Inv X pins σ H' s'/\IsPart u o/\Q o H') X.xe s
noncomputable def Qj2:TO:=λ_ H Q=>Q none H
noncomputable def QmJ(t:TE):TO:=λσ H Q=>t σ H λx H1=>∃i,x= .int i/\Q (some i) H1
theorem intsAre_of{ns:List Int}:∀{us:List Value},Qe (ns.map V.int) us->IntsAre us ns:=by
 induction ns with
 | nil=>intro us r;rw[Zah]at r;cases r;exact .nil
 | cons n ns ih=>
  intro us r
  rw[Zl]at r
  cases r with
  | cons r1 r2=>
   obtain⟨t,e⟩:=r1
   subst e
   exact .cons n t (ih r2)
section
variable {X:Cx}{e:Expr}{te:TE}{lo hi:Option Expr}{tl th:TO}{pos p2:Pos}
theorem Qkd:PO X none Qj2:=by
 intro pins s σ H Q I h
 rw[evalPart_none]
 exact wpAny_pure ⟨none,H,I,.none,h⟩
theorem Qkh(h:PE X e te):PO X (some e) (QmJ te):=by
 intro pins s σ H Q I hw
 rw[evalPart_some]
 refine thn (h pins s σ H _ I hw) λu s1=>exJ λx H1 I1 r1 q1=>?_
 obtain⟨i,rfl,q⟩:=q1
 obtain⟨t,rfl⟩:=r1
 exact⟨some i,H1,I1,.int i t,q⟩
def SlR(X:Cx)(r:V->Option Int->Option Int->Hp->VK->Prop):Prop:=
 ∀(pins:List (Addr×Obj)) (s:Shared) (σ:St) (H:Hp) (x:V) (v vl vu:Value) (lo hi:Option Int) (sl:Addr) (Q:VK),Inv X pins σ H s->RelV x v->s.heap.IsSliceOf sl vl vu .none->IsPart vl lo->IsPart vu hi->r x lo hi H Q→
  ∃T id,typeLookup (.type T) "__getitem__" =pure (some (.builtin id))/\s.TypeIs v T/\wpAny (model X.prog X.w) X.A (getItem v (.ref sl)) (EP X pins σ Q) X.xe s
theorem SlR.or{r r':V->Option Int->Option Int->Hp->VK->Prop}(h:SlR X r)(h':SlR X r'):SlR X (λx lo hi H Q=>r x lo hi H Q∨r' x lo hi H Q):=by
 intro pins s σ H x v vl vu lo hi sl Q I rx hs pl pu q
 rcases q with q | q
 ·exact h pins s σ H x v vl vu lo hi sl Q I rx hs pl pu q
 ·exact h' pins s σ H x v vl vu lo hi sl Q I rx hs pl pu q
noncomputable def tSl(r:V->Option Int->Option Int->Hp->VK->Prop)(te:TE)(tl th:TO):TE:=λσ H Q=>te σ H λx H1=>tl σ H1 λl H2=>th σ H2 λu H3=>r x l u H3 Q
theorem Qiw{r:V->Option Int->Option Int->Hp->VK->Prop}(hr:SlR X r)(he:PE X e te)(hl:PO X lo tl)(hu:PO X hi th):PE X (.Subscript e (.Slice lo hi none p2) pos) (tSl r te tl th):=by
 intro pins s σ H Q I h
 refine Subscript_ (thn (he pins s σ H _ I h) λv s1=>exJ λx H1 I1 r1 q1=>?_)
 refine wpAny_Slice (thn (hl pins s1 σ H1 _ I1 q1) λvl s2 ⟨l,H2,I2,pl,q2⟩=>thn (hu pins s2 σ H2 _ I2 q2) λvu s3=>exJ λu H3 I3 pu q3=>?_)
 rw[evalPart_none]
 refine wpAny_pure ?_
 have I4:Inv X pins σ H3 {s3 with heap:=s3.heap.push {cls:= .type "slice",data:= .fields #[vl,vu,.none]}}:=I3.kept (t':=s3.toks) λb ob q=>Zn _ q
 obtain⟨T,id,hT,ht,hg⟩:=hr pins {s3 with heap:=s3.heap.push {cls:= .type "slice",data:= .fields #[vl,vu,.none]}} σ H3 x v vl vu l u s3.heap.objs.size Q I4 r1 (Heap.IsSliceOf.new ..) pl pu q3
 show wpAny (model X.prog X.w) X.A (subscriptTail e (.Slice lo hi none p2) v (.ref s3.heap.objs.size)) (EP X pins σ Q) X.xe {s3 with heap:=s3.heap.push {cls:= .type "slice",data:= .fields #[vl,vu,.none]}}
 exact tail_any (ops:=[.ref s3.heap.objs.size,v]) ht hT hg (by with_unfolding_all rfl)
noncomputable def QdE(xs:List V)(lo hi:Option Int):List V:=(xs.drop (HT.sIx xs.length 0 lo)).take (HT.sIx xs.length xs.length hi-HT.sIx xs.length 0 lo)
theorem Qfz(xs:List V)(lo hi:Option Int):(QdE xs lo hi).length<=xs.length:=by
 unfold QdE
 rw[Zab,List.length_drop]
 omega
end
end L2
namespace L2
open PySem PySem.Spec PyProof.Rows
noncomputable def ixN(n:Nat)(i:Int):Option Nat:=if 0<=i then(if i<n then some i.toNat else none)else if-(n:Int)<=i then some (i+n).toNat else none
noncomputable def atI{α:Type}(xs:List α)(i:Int):Option α:=(ixN xs.length i).bind λj=>xs[j]?
theorem Qd0{n:Nat}{i:Int}{j:Nat}(h:ixN n i=some j):seqIndex? i n=some j/\j<n/\ -(n:Int)<=i/\i<n:=by
 unfold ixN at h
 by_cases h0:0<=i
 ·rw[if_pos h0]at h
  by_cases h1:i<n
  ·rw[if_pos h1]at h
   have e:i.toNat=j:=Option.some.inj h
   exact⟨by rw[seqIndex_of h0 h1,e],by omega,by omega,h1⟩
  ·rw[if_neg h1]at h;cases h
 ·rw[if_neg h0]at h
  by_cases h1: -(n:Int)<=i
  ·rw[if_pos h1]at h
   have e:(i+n).toNat=j:=Option.some.inj h
   exact⟨by rw[seqIndex_neg (by omega) h1,e],by omega,h1,by omega⟩
  ·rw[if_neg h1]at h;cases h
theorem QfH{α:Type}{xs:List α}{i:Int}{v:α}(h:atI xs i=some v):∃j,seqIndex? i xs.length=some j/\xs[j]? =some v/\j<xs.length/\ -(xs.length:Int)<=i/\i<xs.length:=by
 unfold atI at h
 cases e:ixN xs.length i with
 | none=>rw[e]at h;cases h
 | some j=>
  rw[e]at h
  obtain⟨h1,h2,h3,h4⟩:=Qd0 e
  exact⟨j,h1,h,h2,h3,h4⟩
def QcC(b:Expr):Prop:=∀o i,subscripted b false o i=operate [o,i] (getItem o i)
def IxR(X:Cx)(r:R2):Prop:=
 ∀(value slice:Expr) (pins:List (Addr×Obj)) (s:Shared) (σ:St) (H:Hp) (x y:V) (v u:Value) (Q:VK),Inv X pins σ H s->RelV x v->RelV y u->r x y H Q→
  subscripted slice false v u=operate [v,u] (getItem v u)->wpAny (model X.prog X.w) X.A (subscriptTail value slice v u) (EP X pins σ Q) X.xe s
def MtR(X:Cx)(id:String)(r:V->List V->Hp->VK->Prop):Prop:=
 ∀(pins:List (Addr×Obj)) (s:Shared) (σ:St) (H:Hp) (x:V) (xs:List V) (v:Value) (us:List Value) (Q:VK),Inv X pins σ H s->RelV x v->Qe xs us->r x xs H Q→
  wpAny (model X.prog X.w) X.A (call (.builtin id) (v::us)) (EP X pins σ Q) X.xe s
section
variable {X:Cx}{a b:Expr}{ta tb:TE}{pos:Pos}
theorem IxR.or{r r':R2}(h:IxR X r)(h':IxR X r'):IxR X (λx y H Q=>r x y H Q∨r' x y H Q):=by
 intro value slice pins s σ H x y v u Q I rx ry q hs
 rcases q with q | q
 ·exact h value slice pins s σ H x y v u Q I rx ry q hs
 ·exact h' value slice pins s σ H x y v u Q I rx ry q hs
theorem MtR.or{id:String}{r r':V->List V->Hp->VK->Prop}(h:MtR X id r)(h':MtR X id r'):MtR X id (λx xs H Q=>r x xs H Q∨r' x xs H Q):=by
 intro pins s σ H x xs v us Q I rx rs q
 rcases q with q | q
 ·exact h pins s σ H x xs v us Q I rx rs q
 ·exact h' pins s σ H x xs v us Q I rx rs q
theorem Qi7{r:R2}(hr:IxR X r)(ha:PE X a ta)(hb:PE X b tb)(hs:QcC b):PE X (.Subscript a b pos) (tOp r ta tb):=by
 intro pins s σ H Q I h
 exact Subscript_ (Qgq ha hb I h λv u s2 x y H2 I2 rx ry q=>hr a b pins s2 σ H2 x y v u Q I2 rx ry q (hs _ _))
noncomputable def Qnk(K:PySem.W.Frag):R2:=λx y H Q=>∃p xs i v,x= .ref p/\y= .int i/\SqL K H p xs/\atI xs i=some v/\Q v H
noncomputable def QnH(K:PySem.W.Frag):R2:=λx y H Q=>∃p xs i v,x= .ref p/\y= .int i/\SqT K H p xs/\atI xs i=some v/\Q v H
theorem QfE:IxR X (Qnk X.K):=by
 intro value slice pins s σ H x y v u Q I rx ry h hs
 obtain⟨p,xs,i,z,rfl,rfl,hq,he,q⟩:=h
 cases rx
 obtain⟨t,rfl⟩:=ry
 obtain⟨its,r,pl,hz⟩:=I.list hq
 obtain⟨j,h1,h2,h3,h4,h5⟩:=QfH he
 obtain⟨w,ew,rw'⟩:=r.get h2
 have hl:=r.length
 have hn:=Qbz
 have fin:EP X pins σ Q w s:=⟨z,H,I,rw',q⟩
 by_cases h0:0<=i
 ·have hj:i.toNat=j:=by
   rw[seqIndex_of h0 h5]at h1
   exact Option.some.inj h1
  exact item_listR pl.isList h0 (by omega) (by rw[hj];simpa using ew) fin hs
 ·have hj:(i+(its.toArray.size:Int)).toNat=j:=by
   rw[seqIndex_neg (by omega) h4]at h1
   rw[Zo,← hl]
   exact Option.some.inj h1
  exact subscriptTail_builtinR (x:=w) pl.isList.typeIs slot_list_getitem.lookup
   (wpAny_getItem_list_neg (Q:=λr s'=>r=w/\EP X pins σ Q r s') pl.isList (by omega) (by rw[Zo]<;>omega) (by omega) (by rw[hj];simpa using ew) ⟨rfl,fin⟩) hs
theorem Qg8:IxR X (QnH X.K):=by
 intro value slice pins s σ H x y v u Q I rx ry h hs
 obtain⟨p,xs,i,z,rfl,rfl,hq,he,q⟩:=h
 cases rx
 obtain⟨t,rfl⟩:=ry
 obtain⟨its,r,pl,hz⟩:=I.tuple hq
 obtain⟨j,h1,h2,h3,h4,h5⟩:=QfH he
 obtain⟨w,ew,rw'⟩:=r.get h2
 have hl:=r.length
 have hn:=Qbz
 have fin:EP X pins σ Q w s:=⟨z,H,I,rw',q⟩
 exact subscriptTail_builtinR (x:=w) pl.typeIs slot_tuple_getitem.lookup
  (getItem_tuple (j:=j) (Q:=λr s'=>r=w/\EP X pins σ Q r s') pl (by omega) (by omega) (by rw[Zo,← hl];exact h1) (by simpa using ew) ⟨rfl,fin⟩) hs
theorem QgV(its:List Value)(n j:Nat)(u:Value):Obj.mapSeq (·.setIfInBounds j u) {cls:= .type "list",data:= .seq its.toArray n}={cls:= .type "list",data:= .seq (its.set j u).toArray n}:=by
 simp[Obj.mapSeq]
theorem Inv.lst{pins:List (Addr×Obj)}{σ:St}{H:Hp}{s:Shared}{p:Addr}{xs:List V}(I:Inv X pins σ H s)(h:H p=some (.lst xs)):
  ∃(its:List Value) (n:Nat),Qe xs its/\s.heap.get? p=some {cls:= .type "list",data:= .seq its.toArray n}/\xs.length<=sizeLine:=by
 obtain⟨z,its,n,r,e⟩:=I.hok p _ h
 exact⟨its,n,r,e,z⟩
theorem Inv.Qkw{pins:List (Addr×Obj)}{σ:St}{H:Hp}{s:Shared}{p:Addr}{xs ys:List V}{its its':List Value}{n n':Nat}{f:Obj->Obj}(I:Inv X pins σ H s)(h:H p=some (.lst xs))
  (ho:s.heap.get? p=some {cls:= .type "list",data:= .seq its.toArray n}) (hf:f {cls:= .type "list",data:= .seq its.toArray n}={cls:= .type "list",data:= .seq its'.toArray n'}) (r:Qe ys its') (hz:ys.length<=sizeLine) (t:Nat):
  Inv X pins σ (upd H p (.lst ys)) {s with heap:=s.heap.update p f,toks:=t}:=by
 have e:(s.heap.update p f).get? p=some {cls:= .type "list",data:= .seq its'.toArray n'}:=by
  rw[Heap.get?_update_self f ho (by rw[hf]<;>rfl),hf]
 refine I.write (x:=p) (e:=p) (by rw[h];trivial) (.inl rfl) (λb u hb q=>(Heap.get?_update_other _ _ (Ne.symm hb)).trans q) ⟨_,e⟩ ?_
 exact⟨hz,its',n',r,e⟩
noncomputable def Qi1:V->V->V->Hp->(Hp->Prop)->Prop:=λo i v H Q=>∃p xs k j,o= .ref p/\i= .int k/\H p=some (.lst xs)/\ixN xs.length k=some j/\Q (upd H p (.lst (xs.set j v)))
theorem set_list:Qkt X Qi1:=by
 intro pins s σ H o i v ov iv u Q I ro ri rv h
 obtain⟨p,xs,k,j,rfl,rfl,hp,hj,q⟩:=h
 cases ro
 obtain⟨t,rfl⟩:=ri
 obtain⟨its,n,r,ho,hz⟩:=I.lst hp
 obtain⟨h1,h2,h3,h4⟩:=Qd0 hj
 have hl:=r.length
 have hn:=Qbz
 have I':Inv X pins σ (upd H p (.lst (xs.set j v))) {s with heap:=s.heap.update p (Obj.mapSeq (·.setIfInBounds j u))}:=
  I.Qkw hp ho (QgV its n j u) (r.set rv j) (by rw[ZaI];exact hz) s.toks
 by_cases h0:0<=k
 ·have hk:k.toNat=j:=by
   rw[seqIndex_of h0 h4]at h1
   exact Option.some.inj h1
  exact PySem.W.ki_setAt ho h0 (by omega) (by rw[Zo,← hl];exact h4) (by rw[hk];exact⟨_,I',q⟩)
 ·have hk:(k+(its.toArray.size:Int)).toNat=j:=by
   rw[seqIndex_neg (by omega) h3]at h1
   rw[Zo,← hl]
   exact Option.some.inj h1
  exact PySem.W.ki_setBack ho (by omega) (by rw[Zo,← hl];exact h3) (by omega) (by rw[hk];exact⟨_,I',q⟩)
theorem QeV(lo hi:Option Int)(n:Nat):(sliceBounds lo hi none n).1=((HT.sIx n 0 lo:Nat):Int)/\(sliceBounds lo hi none n).2.1=((HT.sIx n n hi:Nat):Int)/\(sliceBounds lo hi none n).2.2=1:=by
 refine⟨?_,?_,rfl⟩
 ·cases lo with
  | none=>simp[sliceBounds,HT.sIx]
  | some i=>
   simp only[sliceBounds,HT.sIx,Option.getD_none,show(1:Int)>0 by decide,if_true]
   by_cases h:i<0
   ·simp only[h,if_true]<;>omega
   ·simp only[h,if_false]<;>omega
 ·cases hi with
  | none=>simp[sliceBounds,HT.sIx]
  | some i=>
   simp only[sliceBounds,HT.sIx,Option.getD_none,show(1:Int)>0 by decide,if_true]
   by_cases h:i<0
   ·simp only[h,if_true]<;>omega
   ·simp only[h,if_false]<;>omega
theorem Qev(its:List Value)(lo hi:Option Int):slicePick its.toArray lo hi none=((its.drop (HT.sIx its.length 0 lo)).take (HT.sIx its.length its.length hi-HT.sIx its.length 0 lo)).toArray:=by
 obtain⟨h1,h2,h3⟩:=QeV lo hi its.toArray.size
 unfold slicePick
 rw[h1,h2,h3]
 simp only[sliceRange_one,pick_run,Zo]<;>rfl
noncomputable def Qnm(K:PySem.W.Frag):V->Option Int->Option Int->Hp->VK->Prop:=λx lo hi H Q=>∃a xs,x= .ref a/\SqL K H a xs/\∀p,H p=none->Q (.ref p) (upd H p (.lst (QdE xs lo hi)))
theorem Qju:SlR X (Qnm X.K):=by
 intro pins s σ H x v vl vu lo hi sl Q I rx hs pl pu h
 obtain⟨a,xs,rfl,hx,q⟩:=h
 cases rx
 obtain⟨its,r,ht,hz⟩:=I.list hx
 have hlen:=r.length
 refine⟨"list",_,slot_list_getitem.lookup,ht.isList.typeIs,?_⟩
 refine wpAny_getItem_list_slice ht.isList hs pl pu .none (by simp) ?_ (by rw[Zo]<;>omega)
 rw[Qev,← hlen]
 refine⟨.ref s.heap.objs.size,_,I.laid (t':=s.toks) (o:= .lst (QdE xs lo hi)) (λb ob q=>Zn _ q) (Zj _) ?_,rfl,q _ (I.hok.fresh (Zj _))⟩
 exact⟨Zr (Qfz xs lo hi) hz,_,0,(r.drop (HT.sIx xs.length 0 lo)).take (HT.sIx xs.length xs.length hi-HT.sIx xs.length 0 lo),Zw _ rfl⟩
theorem Qfd:QM X (.builtin "len") (λxs H Q=>∃p ys,xs=[.ref p]/\(SqL X.K H p ys∨SqT X.K H p ys)/\Q (.int ys.length) H):=by
 intro pins s σ H xs us Q I r h
 obtain⟨p,ys,rfl,hq,q⟩:=h
 obtain⟨u,rfl,rx⟩:=vals1 r
 cases rx
 have hn:=Qbz
 rcases hq with hq | hq
 ·obtain⟨its,r',pl,hz⟩:=I.list hq
  have hlen:=r'.length
  exact Calls.call_len_list pl.isList (by simp only[Zo]<;>omega) ⟨.int ys.length,H,I.tok _,⟨s.toks+1,by rw[Zo,hlen]⟩,q⟩
 ·obtain⟨its,r',pl,hz⟩:=I.tuple hq
  have hlen:=r'.length
  exact len_tuple pl (by simp only[Zo]<;>omega) ⟨.int ys.length,H,I.tok _,⟨s.toks+1,by rw[Zo,hlen]⟩,q⟩
theorem Qft:QM X (.builtin "len") (λxs H Q=>∃z,xs=[.str z]/\z.length<=sizeLine/\Q (.int z.length) H):=by
 intro pins s σ H xs us Q I r h
 obtain⟨z,rfl,hz,q⟩:=h
 obtain⟨u,rfl,t,rfl⟩:=vals1 r
 have hn:=Qbz
 exact len_str (by omega) ⟨.int z.length,H,I.tok _,⟨_,rfl⟩,q⟩
theorem QM.or{f:Value}{r r':List V->Hp->VK->Prop}(h:QM X f r)(h':QM X f r'):QM X f (λxs H Q=>r xs H Q∨r' xs H Q):=by
 intro pins s σ H xs us Q I rs q
 rcases q with q | q
 ·exact h pins s σ H xs us Q I rs q
 ·exact h' pins s σ H xs us Q I rs q
theorem QeQ:QM X (.type "list") (λxs H Q=>∃p ys,xs=[.ref p]/\(SqL X.K H p ys∨SqT X.K H p ys)/\∀l,H l=none->Q (.ref l) (upd H l (.lst ys))):=by
 intro pins s σ H xs us Q I r h
 obtain⟨p,ys,rfl,hq,q⟩:=h
 obtain⟨u,rfl,rx⟩:=vals1 r
 cases rx
 have fin:∀(its:List Value),Qe ys its->ys.length<=sizeLine->∀(h':Heap) (c':Nat),(∀b o',s.heap.get? b=some o'->h'.get? b=some o')→
   h'.get? s.heap.objs.size=some {cls:= .type "list",dict:=none,data:= .seq its.toArray c',slots:= #[]}->EP X pins σ Q (.ref s.heap.objs.size) {s with heap:=h'}:=λits r' hz h' c' kp e=>
  ⟨.ref s.heap.objs.size,_,I.laid (t':=s.toks) kp (Zj _) (show Qaf X.prog X.w _ h' _ (.lst ys)from⟨hz,its,c',r',e⟩),rfl,q _ (I.hok.fresh (Zj _))⟩
 rcases hq with hq | hq
 ·obtain⟨its,r',pl,hz⟩:=I.list hq
  have hlen:=r'.length
  obtain⟨o,ho,hc,n,hd⟩:=pl.isList
  exact call_list_seq p (.inl rfl) ho hc hd (λh' c' kp e=>fin its r' hz h' c' kp e) (by simp only[Zo]<;>omega)
 ·obtain⟨its,r',pl,hz⟩:=I.tuple hq
  have hlen:=r'.length
  obtain⟨o,ho,hc,n,hd⟩:=pl
  exact call_list_seq p (.inr rfl) ho hc hd (λh' c' kp e=>fin its r' hz h' c' kp e) (by simp only[Zo]<;>omega)
def tyV(K:PySem.W.Frag)(T:String)(x:V)(H:Hp):Prop:=match x with
 | .str _=>T= "str"
 | .int _=>T= "int"
 | .ref p=>(T= "list" /\∃xs,SqL K H p xs)∨(T= "tuple" /\∃o,K.lookup p=some o/\o.cls= .type "tuple" /\o.dict=none)∨
   (T= "dict" /\((∃kvs,H p=some (.dK kvs))∨∃kvs,H p=some (.dT kvs)))∨(T= "set" /\∃S n,H p=some (.set S n))
 | _=>False
theorem Qg1{pins:List (Addr×Obj)}{σ:St}{H:Hp}{s:Shared}{T:String}{x:V}{v:Value}(I:Inv X pins σ H s)(r:RelV x v)(ty:tyV X.K T x H):
  s.TypeIs v T/\∀a,v= .ref a->∃ob,s.heap.get? a=some ob/\ob.dict=none:=by
 cases x with
 | str z=>
  obtain⟨t,rfl⟩:=r
  cases(show T= "str" from ty)
  exact⟨typeIs_str s z t,λ_ e=>nomatch e⟩
 | int i=>
  obtain⟨t,rfl⟩:=r
  cases(show T= "int" from ty)
  exact⟨typeIs_int s i t,λ_ e=>nomatch e⟩
 | ref p=>
  cases r
  rcases ty with⟨rfl,xs,hq⟩ | ⟨rfl,o,hk,hc,hd⟩ | ⟨rfl,hk⟩ | ⟨rfl,S,n,hk⟩
  ·obtain⟨its,_,pl,_⟩:=I.list hq
   refine⟨pl.isList.typeIs,λa e=>?_⟩
   cases e
   obtain⟨o,n,e,c,hd,_⟩:=pl
   exact⟨o,e,hd⟩
  ·refine⟨⟨o,I.kIn p o hk,hc⟩,λa e=>?_⟩
   cases e
   exact⟨o,I.kIn _ o hk,hd⟩
  ·have z:∃o,s.heap.get? p=some o/\o.ExactDict:=by
    rcases hk with⟨kvs,hk⟩ | ⟨kvs,hk⟩
    ·obtain⟨_,_,_,_,o,_,_,e,ex,_⟩:=I.hok p _ hk
     exact⟨o,e,ex⟩
    ·obtain⟨_,_,_,_,o,_,_,e,ex,_⟩:=I.hok p _ hk
     exact⟨o,e,ex⟩
   obtain⟨o,e,ex⟩:=z
   refine⟨⟨o,e,ex.1⟩,λa e2=>?_⟩
   cases e2
   exact⟨o,e,ex.2.1⟩
  ·obtain⟨o,_,_,_,e,ex,_⟩:=I.hok p _ hk
   refine⟨⟨o,e,ex.1⟩,λa e2=>?_⟩
   cases e2
   exact⟨o,e,ex.2.1⟩
 | _=>exact False.elim ty
noncomputable def QnL(K:PySem.W.Frag)(T:String)(r:V->List V->Hp->VK->Prop)(to:TE):TE:=λσ H Q=>to σ H λx H1=>tyV K T x H1/\r x [] H1 Q
noncomputable def tBM(K:PySem.W.Frag)(T:String)(r:V->List V->Hp->VK->Prop)(to:TE)(t:TA):TE:=λσ H Q=>to σ H λx H1=>tyV K T x H1/\t σ H1 λxs H2=>r x xs H2 Q
variable {o e:Expr}{es:List Expr}{to:TE}{t:TA}{name:Str}{apos cpos:Pos}{T id:String}{r:V->List V->Hp->VK->Prop}
theorem QlU(pa:PlainAttrs T)(slot:Slot T name id)(hty:typeOf (.builtin id)=pure (.type "method_descriptor"))(hm:MtR X id r)(ho:PE X o to)
  (hbase:attributeBase o name X.env (eval o X.env)=eval o X.env:=by rfl) (hline:(apos.endLine == cpos.line)=true:=by rfl):PE X (.Call (.Attribute o name apos) [] [] cpos) (QnL X.K T r to):=by
 intro pins s σ H Q I h
 refine wpAny_Call_method0_late hbase hline (thn (ho pins s σ H _ I h) λv s1 hpt=>?_)
 obtain⟨x,H1,I1,r1,ty,q1⟩:=hpt
 obtain⟨h1,h2⟩:=Qg1 I1 r1 ty
 exact⟨T,id,pa,slot,hty,h1,h2,Calls.callWith_builtin rfl (PySem.evalArgs_none (hm pins s1 σ H1 x [] v [] Q I1 r1 .nil q1))⟩
theorem Qja(pa:PlainAttrs T)(slot:Slot T name id)(hty:typeOf (.builtin id)=pure (.type "method_descriptor"))(hm:MtR X id r)(ho:PE X o to)(ha:PA X (e::es) t)
  (hbase:attributeBase o name X.env (eval o X.env)=eval o X.env:=by rfl)
  (hfew:((backTo cpos (starEach (e::es) X.env)).all (λx=> !x.1) && (backToKw cpos (keywordEach [] X.env)).all (λx=>x.1.isSome)
   && decide ((e::es).length+([]:List Keyword).length+(if([]:List Keyword).isEmpty then 0 else 1)<30))=true:=by rfl)
  (hline:(apos.endLine == cpos.line)=true:=by rfl) (hs:starEach (e::es) X.env=(false,eval e X.env)::starEach es X.env:=by rfl) (hplain:(backTo cpos (starEach es X.env)).any (·.1)=false:=by rfl):
  PE X (.Call (.Attribute o name apos) (e::es) [] cpos) (tBM X.K T r to t):=by
 intro pins s σ H Q I h
 refine wpAny_Call_method_late hbase hfew hline rfl (thn (ho pins s σ H _ I h) λv s1 hpt=>?_)
 obtain⟨x,H1,I1,r1,ty,q1⟩:=hpt
 obtain⟨h1,h2⟩:=Qg1 I1 r1 ty
 refine⟨T,id,pa,slot,hty,h1,h2,?_⟩
 have hA:=ha cpos pins s1 σ H1 _ I1 q1
 rw[hs]at hA ⊢
 refine Calls.callWith_builtin (by show(false || (backTo cpos (starEach es X.env)).any (·.1))=false;rw[hplain]<;>rfl) (Calls.evalArgs_plain ?_)
 exact thn hA λus s2 ⟨vs,H2,I2,r2,q2⟩=>hm pins s2 σ H2 x vs v us Q I2 r1 r2 q2
end
end L2
namespace L2
open PySem PySem.Spec PyProof.Rows
def MtM(X:Cx)(id:String)(r:V->List V->Hp->VK->Prop):Prop:=
 ∀(pins:List (Addr×Obj)) (s:Shared) (σ:St) (H:Hp) (x:V) (xs:List V) (v:Value) (us:List Value) (Q:VK),Inv X pins σ H s->RelV x v->Qe xs us->r x xs H Q→
  wpAny (model X.prog X.w) X.A (call (.builtin id) (v::us)) (EP X pins σ Q) X.xe s
theorem Qe.one{x:V}{us:List Value}(r:Qe [x] us):∃u,us=[u]/\RelV x u:=vals1 r
theorem Qe.two{x y:V}{us:List Value}(r:Qe [x,y] us):∃u v,us=[u,v]/\RelV x u/\RelV y v:=vals2 r
theorem Qe.zero:∀{us:List Value},Qe [] us->us=[]
 | _,.nil=>rfl
theorem Qe.rep{xs:List V}{us:List Value}(h:Qe xs us):∀k:Nat,Qe (List.replicate k xs).flatten (List.replicate k us).flatten
 | 0=> .nil
 | k+1=>by
  rw[ZH,ZH,ZL,ZL]
  exact Qe.append h (Qe.rep h k)
theorem foldl_rep(its:List Value):∀(k:Nat) (acc:List Value),
  List.foldl (λx1 x2=>x1++x2) acc.toArray (List.replicate k its.toArray)=(acc++(List.replicate k its).flatten).toArray
 | 0,acc=>by simp
 | k+1,acc=>by
  have e:acc.toArray++its.toArray=(acc++its).toArray:=by simp
  have e2:(acc++its)++(List.replicate k its).flatten=acc++(List.replicate (k+1) its).flatten:=by
   rw[ZH,ZL,ZZ]
  rw[← e2,← foldl_rep its k (acc++its),← e,ZH,List.foldl_cons]
section
variable {X:Cx}{pins:List (Addr×Obj)}{σ:St}{H:Hp}{s:Shared}{l b:Addr}{xs ys zs:List V}
theorem Inv.QnI{its its':List Value}{n:Nat}{f:Array Value->Array Value}{t':Nat}(I:Inv X pins σ H s)(hH:H l=some (.lst xs))
  (e:s.heap.get? l=some {cls:= .type "list",data:= .seq its.toArray n}) (hf:f its.toArray=its'.toArray) (hv:Qe ys its') (hz:ys.length<=sizeLine):
  Inv X pins σ (upd H l (.lst ys)) {s with heap:=s.heap.update l (Obj.mapSeq f),toks:=t'}:=by
 have q:=PySem.IsL.update e f
 rw[hf]at q
 refine I.write (x:=l) (e:=l) (by rw[hH];exact trivial) (.inl rfl) (λb' u hb hu=>(Heap.get?_update_other s.heap (Obj.mapSeq f) (Ne.symm hb)).trans hu) ⟨_,q⟩ ?_
 exact⟨hz,its',_,hv,q⟩
theorem Inv.Ql4{its:List Value}{t':Nat}(I:Inv X pins σ H s)(hv:Qe ys its)(hz:ys.length<=sizeLine):
  Inv X pins σ (upd H s.heap.objs.size (.lst ys)) {s with heap:=s.heap.push {cls:= .type "list",data:= .seq its.toArray},toks:=t'}:=
 I.laid (λ_ _ q=>Zn _ q) (Zj _) ⟨hz,its,0,hv,Zw _ rfl⟩
theorem Inv.fresh(I:Inv X pins σ H s):H s.heap.objs.size=none:=I.hok.fresh (Zj _)
theorem Inv.QlW(I:Inv X pins σ H s)(hH:H l=some (.lst xs)):xs.length<=sizeLine/\∃(its:List Value) (n:Nat),Qe xs its/\xs.length=its.length/\s.heap.get? l=some {cls:= .type "list",data:= .seq its.toArray n}:=by
 obtain⟨z,its,n,r,e⟩:=I.hok l _ hH
 exact⟨z,its,n,r,r.length,e⟩
theorem QiW{n:Nat}(h:n<=sizeLine):Builtin.List.listTooLong n=false:=by
 unfold Builtin.List.listTooLong
 exact decide_eq_false (by omega)
end
section
variable {X:Cx}
noncomputable def QfG:V->List V->Hp->VK->Prop:=λx vs H Q=>∃l xs y,x= .ref l/\vs=[y]/\H l=some (.lst xs)/\xs.length<sizeLine/\Q .non (upd H l (.lst (xs++[y])))
theorem Qek:MtM X "list.append" QfG:=by
 intro pins s σ H x vs v us Q I rx rv h
 obtain⟨l,xs,y,rfl,rfl,hH,hz,q⟩:=h
 cases rx
 obtain⟨u,rfl,ru⟩:=rv.one
 obtain⟨z,its,n,r,hl,e⟩:=I.QlW hH
 refine call_meets F.slot_list_append ⟨_,e,rfl⟩ F.entry_list_append (F.args_list_append_2 _ _) (PySem.list_append l its.toArray n u (by rw[Zo];omega)) ⟨e,?_⟩
 refine⟨.non,_,I.QnI (its':=its++[u]) hH e (by simp) (r.append (.cons ru .nil)) ?_,rfl,q⟩
 rw[Zp,Zam]
 omega
theorem len_rep{α:Type}(xs:List α)(k:Nat):(List.replicate k xs).flatten.length=k*xs.length:=by
 induction k with
 | zero=>simp
 | succ k ih=>rw[ZH,ZL,Zp,ih,Nat.succ_mul,Nat.add_comm]
end
section
variable {prog:Program}{w:World}{A:Around}{E:Value->Shared->Prop}{s:Shared}
end
section
variable {X:Cx}
end
end L2
namespace Att
open PySem PySem.W PySem.Calls PyProof.Rows
theorem Qdq{P:Params}{h:Heap}:∀(ns:List Int) (vs:List Value),WellAll P h vs (ns.map WData.int)->IntsAre vs ns:=by
 intro ns
 induction ns with
 | nil=>
  intro vs w
  rw[Zah]at w
  cases w
  exact .nil
 | cons n ns ih=>
  intro vs w
  rw[Zl]at w
  cases w with
  | cons a b=>
   cases a
   exact .cons _ _ (ih _ b)
theorem Qg9{l:OpenLaw}{n:Nat}(hn:l.most=some n){P:Params}{h:Heap}{args:List WData}{vals:List Value}
  (hpre:l.row.toRowW.claim.pre args=true) (hwl:WellAll P h vals args):
  ∃a vs ns,vals=[Value.ref a]/\args=[WData.list (ns.map WData.int)]/\h.get? a=some {cls:= .type "list",data:= .seq vs.toArray}/\IntsAre vs ns/\ns.length<=n:=by
 have hsh:WShape.hasAll [] args [.list .int]=true:=(pre_splitW hpre).1
 have hc:l.pre.holds [] {args:=args}=true:=(pre_splitW hpre).2
 obtain⟨d,r,rfl,h1,h2⟩:=hasAllW_cons hsh
 obtain rfl:=hasAllW_nil h2
 obtain⟨xs,rfl,h3⟩:=hasW_list h1
 obtain⟨ns,rfl⟩:=items_int h3
 have hlen:ns.length<=n:=by
  unfold OpenLaw.pre at hc
  have h4:(WTm.not (.lt (.lit (.int (n:Int))) (.len (.arg 0)))).holds [] {args:=[.list (ns.map .int)]}=true:=by
   have h4:=(holds_andW hc).1
   rw[hn]at h4
   exact h4
  have h5:=condW_of h4 (w_not (w_lt w_lit (w_len_list (w_arg rfl))))
  rw[Zv]at h5
  refine Nat.le_of_not_lt λq=>?_
  have q':(n:Int)<((ns.length:Nat):Int):=by omega
  first
   | (rw[decide_eq_true q']at h5;exact absurd h5 (by decide))
   | (simp at h5;omega)
 cases hwl with
 | cons w1 w2=>
  cases w2
  cases w1 with
  | list ho hall=>exact⟨_,_,ns,rfl,rfl,ho,Qdq ns _ hall,hlen⟩
theorem QhT(l:OpenLaw)(args:List WData):l.row.toRowW.claim.post args (.bool true) args=true:=
 postW_of (r:=l.row.toRowW) (X:=(true == true))
  (show WShape.has [] (.bool true) .bool=true by first | rfl | decide | simp[WShape.has,WShape.arms,WShape.armsAll])
  (show(WTm.eq .res (.lit (.bool true))).value [] {args:=args,res:=some (.bool true),after:=args}=some (.bool (true == true))from w_eq_bool (w_res rfl) w_lit) rfl
theorem QcL{l:OpenLaw}{n:Nat}{q:Program}{loose:List Str}{XP:(Str->Option Value)->Heap->Prop}{YP:World->Heap->Prop}{d:DefRec}
  (hn:l.most=some n) (hdf:d.params.defaults=[])
  (call:∀(w:World) (s₀ s₁:Shared) (mg mb:Str->Option Value) (fa:Addr) (o:Obj) (pm cd doc:Value) (a:Addr) (vs:List Value) (ns:List Int),
   Ground q loose [] XP w s₀ mg mb s₁.heap->YP w s₁.heap→
   s₁.heap.get? fa=some o->o.data= .func (docDef d.name d.params d.body d.scope pm cd doc)->s₁.heap.CodeRec cd d.name->mg d.name=some (.ref fa)→
   s₁.heap.get? a=some {cls:= .type "list",data:= .seq vs.toArray}->IntsAre vs ns->ns.length<=n->s₁.gens= #[]→
   codeAny (model l.prog w) callerA (.call (.ref fa) ⟨[.ref a],[]⟩) (λr s'=>r= .ok (.ret (.bool true))/\OldK s₁.heap s'.heap/\s'.os=s₁.os/\AllBare s'.gens) s₁):
  WalkO q loose XP YP l.row.toRowW d [] (λf vs=>PySem.call f vs):=by
 intro w s₀ s₁ mg mb G Y fa o pm cd doc dV kV ho hd hcd hD hmg hg args vals as hpre hlay hrd hwl hlo
 obtain rfl:dV= .none:=Dflts.none hD hdf
 obtain rfl:kV= .none:=Dflts.noKw hD
 obtain⟨a,vs,ns,rfl,rfl,hobj,hints,hlen⟩:=Qg9 hn hpre hwl
 refine enter_call (codeAny_mono (call w s₀ s₁ mg mb fa o pm cd doc a vs ns G Y ho (fd_plain hd) hcd hmg hobj hints hlen hg) λr s' hq=>?_)
 obtain⟨rfl,h2,h3,h4⟩:=hq
 exact⟨.inl ⟨.bool true,.bool true,[],rfl,λ_=>rfl,.bool true,QhT l _,λ_=>⟨List.Pairwise.nil,λ_ hm=>(nomatch hm)⟩⟩,h2,h3,h4⟩
section
variable {prog:Program}{w:World}{A:Around}{E:Value->Shared->Prop}{s:Shared}{K:Frag}
noncomputable def ledger(h:Heap)(L d:Addr):List (Addr×Obj):=(List.range h.objs.size).filterMap λa=>if a=L∨a=d then none else(h.get? a).map λo=>(a,o)
end
end Att
namespace L2
open PySem PySem.Spec PyProof.Rows
theorem Qcy:∀{vs:List Value}{ns:List Int},IntsAre vs ns->Qe (ns.map V.int) vs
 | _,_,.nil=> .nil
 | _,_,.cons n t h=> .cons ⟨t,rfl⟩ (Qcy h)
def Qiq(H:Hp):Prop:=∀b,H b=none∨∃o xs,H b=some (.frz o (.lst xs))
theorem QeM{P:Program}{w:World}{K:PySem.W.Frag}{mg mb:Str->Option Value}{CX:CXT}{k:Nat}{fa a:Addr}{fd:FuncData}{x:Str}{sp:Sp}{s₁:Shared}{vs:List Value}{ns:List Int}
  (KX:K.In s₁.heap) (hns:s₁.heap.Ns mainGlobals mg) (hb:s₁.heap.Ns builtinsNs mb) (hbb:∀x:Str,x≠ "__name__" ->mb x=bootBuiltins x) (hlim:s₁.heap.NoLimit) (hg:s₁.gens= #[])
  (ha:s₁.heap.get? a=some {cls:= .type "list",data:= .seq vs.toArray}) (hi:IntsAre vs ns) (hl:ns.length<=sizeLine) (hr:Qx k callerA)
  (F:∀base:Heap,K.In base->base.Ns mainGlobals mg->Q1 P w K mg base CX k fa fd [x] sp) (hbind:∀(s:Shared) (u:Value),BindsTo s fd ⟨[u],[]⟩ [(x,u)])
  (hsp:∀H:Hp,Qiq H->SqL K H a (ns.map V.int)->sp [.ref a] H (λv _=>v= .bl true) λ_ _ _=>False)
  (hCX:∀H e s',CX [] H s₁ (λ_ _ _=>False) e s'->False):
  codeAny (model P w) callerA (.call (.ref fa) ⟨[.ref a],[]⟩) (λr s'=>r= .ok (.ret (.bool true))/\OldK s₁.heap s'.heap/\s'.os=s₁.os/\AllBare s'.gens) s₁:=by
 have rv:=Qcy hi
 have lenV:=hi.length
 have core:∀H:Hp,Qiq H->SqL K H a (ns.map V.int)->HOk P w H s₁.heap->(∀b,H b≠none->b=a)->(H a≠none->K.lookup a=none)→
   codeAny (model P w) callerA (.call (.ref fa) ⟨[.ref a],[]⟩) (λr s'=>r= .ok (.ret (.bool true))/\OldK s₁.heap s'.heap/\s'.os=s₁.os/\AllBare s'.gens) s₁:=by
  intro H hO hS hok hA hK
  have base_of:∀{b:Addr}{o:Obj},s₁.heap.get? b=some o->H b=none->(Qca s₁.heap H).get? b=some o:=λe n=>Qil e n
  have noA:∀{b:Addr}{o:Obj}{es:Array DictEntry}{ep:Nat},s₁.heap.get? b=some o->o.data= .dict es ep->H b=none:=λ{b o es ep} e d=>by
   cases q:H b with
   | none=>rfl
   | some u=>
    have e':b=a:=hA b (by rw[q];simp)
    subst e'
    rw[ha]at e;cases e
    have d':Data.seq vs.toArray _=Data.dict es ep:=d
    cases d'
  have nsK:∀{b:Addr}{m:Str->Option Value},s₁.heap.Ns b m->(Qca s₁.heap H).Ns b m:=λ{b m} ⟨o,es,ep,e,d,r⟩=>⟨o,es,ep,base_of e (noA e d),d,r⟩
  have hKb:K.In (Qca s₁.heap H):=λb o e=>base_of (KX b o e) (by
   cases q:H b with
   | none=>rfl
   | some u=>
    have e':b=a:=hA b (by rw[q];simp)
    subst e'
    rw[hK (by rw[q];simp)]at e;cases e)
  have hM:Mod K mg (Qca s₁.heap H):=⟨hKb,nsK hns,⟨mb,nsK hb,hbb⟩,let ⟨mc,h1,h2⟩:=hlim;⟨mc,nsK h1,h2⟩⟩
  have e0:Qbt P w K mg (Qca s₁.heap H) callerA [] s₁ H:=⟨rfl,hM,λb o e=>Qkg e,Nat.le_of_eq (Qha _ _),trivial,λb hb=>absurd (show b∈([]:List Addr)from hb) (by simp),hok,.of_eq hg⟩
  refine codeAny_mono ((F _ hKb (nsK hns)).run callerA [] s₁ H ⟨[.ref a],[]⟩ [.ref a] [.ref a] _ _ hr e0 (hbind s₁ (.ref a)) (.cons rfl .nil) (hsp H hO hS)) λr s' h=>?_
  cases r with
  | error e=>exact(hCX H e s' h).elim
  | ok fl=>
   cases fl with
   | next=>exact False.elim h
   | brk=>exact False.elim h
   | cont=>exact False.elim h
   | ret u=>
    obtain⟨v,H',os,bare,un,hok',r',q⟩:=h
    have q':v= .bl true:=q
    subst q'
    obtain rfl:u=Value.bool true:=r'
    refine⟨rfl,OldK.of_keep λb o e=>?_,os,bare⟩
    cases q:H b with
    | none=>exact un.keep b o e q (by intro z;exact absurd (show b∈([]:List Addr)from z) (by simp)) (by simp)
    | some u=>
     rcases hO b with z | ⟨ob,xs,z⟩
     ·rw[q]at z;cases z
     ·have z2:=un.frzs b ob _ z
      obtain⟨e1,_⟩:=hok b _ z
      obtain⟨e2,_⟩:=hok' b _ z2
      rw[e]at e1;cases e1
      exact e2
 cases hk:K.lookup a with
 | some o=>
  have e:=KX a o hk
  rw[ha]at e
  cases e
  refine core (λ_=>none) (λ_=> .inl rfl) (.inr ⟨_,vs.toArray,_,hk,rfl,rfl,rfl,by rw[Zo,lenV];exact hl,by simpa using rv⟩) (λb u z=>by have z':(none:Option HO)=some u:=z;cases z') (λb z=>absurd rfl z) λz=>absurd rfl z
 | none=>
  refine core (λb=>if b=a then some (.frz {cls:= .type "list",data:= .seq vs.toArray} (.lst (ns.map V.int)))else none) (λb=>?_) (.inl (.inr ⟨{cls:= .type "list",data:= .seq vs.toArray},if_pos rfl⟩)) (λb u z=>?_) (λb z=>?_) λ_=>hk
  ·by_cases hb:b=a
   ·exact .inr ⟨_,_,if_pos hb⟩
   ·exact .inl (if_neg hb)
  ·by_cases hb:b=a
   ·have z':=(if_pos hb).symm.trans z
    cases z'
    subst hb
    exact⟨ha,by rw[Zv];exact hl,vs,_,rv,ha⟩
   ·have z':=(if_neg hb).symm.trans z
    cases z'
  ·by_cases hb:b=a
   ·exact hb
   ·exact absurd (if_neg hb) z
end L2
namespace L2
open PySem PySem.Spec PyProof.Rows
noncomputable abbrev KOf{K:PySem.W.Frag}{h:Heap}(_:K.In h):PySem.W.Frag:=K
theorem QnU{l:PySem.W.OpenLaw}{n k:Nat}{q:Program}{loose:List Str}{XP:(Str->Option Value)->Heap->Prop}{YP:World->Heap->Prop}{d:DefRec}{K:Params->PySem.W.Frag}{CX:World->CXT}{sp:World->Sp}{x:Str}
  (hn:l.most=some n) (hn2:n<=sizeLine) (hdf:d.params.defaults=[]) (hr:Qx k callerA)
  (hY:∀(w:World) (h:Heap),YP w h->(K w.params).In h)
  (F:∀(w:World) (mg:Str->Option Value) (fa:Addr) (h:Heap),(K w.params).In h->h.Ns mainGlobals mg->mg d.name=some (.ref fa)→
   ∃fd:FuncData,(∀(s:Shared) (u:Value),BindsTo s fd ⟨[u],[]⟩ [(x,u)])∧
    ∀base:Heap,(K w.params).In base->base.Ns mainGlobals mg->Q1 l.prog w (K w.params) mg base (CX w) k fa fd [x] (sp w))
  (hsp:∀(w:World) (H:Hp) (a:Addr) (ns:List Int),ns.length<=n->Qiq H->SqL (K w.params) H a (ns.map V.int)->sp w [.ref a] H (λv _=>v= .bl true) λ_ _ _=>False)
  (hCX:∀(w:World) (H:Hp) (s:Shared) (e:Value) (s':Shared),CX w [] H s (λ_ _ _=>False) e s'->False):
  PySem.W.WalkO q loose XP YP l.row.toRowW d [] (λf vs=>PySem.call f vs):=by
 refine Att.QcL hn hdf λw s₀ s₁ mg mb fa o pm cd doc a vs ns G Y ho hd hcd hmg hobj hints hlen hg=>?_
 have KX:=hY w _ Y
 obtain⟨fd,hb,hF⟩:=F w mg fa _ KX G.T.g hmg
 exact QeM KX G.T.g G.T.b G.T.builtins G.T.nolimit hg hobj hints (Zr hlen hn2) hr hF hb (λH hO hS=>hsp w H a ns hlen hO hS) λH e s'=>hCX w H s₁ e s'
end L2
namespace L2
open PySem PySem.Spec PyProof.Rows
noncomputable def Qbb(s:Stmt):Arguments:=match s with
 | .FunctionDef _ a _ _ _ _ _ _ _ _=>a
 | _=>{posonlyargs:=[],args:=[],vararg:=none,kwonlyargs:=[],kw_defaults:=[],kwarg:=none,defaults:=[]}
noncomputable def QY(s:Stmt):List Stmt:=match s with
 | .FunctionDef _ _ b _ _ _ _ _ _ _=>b
 | _=>[]
noncomputable def Qd(s:Stmt):Scope:=match s with
 | .FunctionDef _ _ _ _ _ _ sc _ _ _=>sc
 | _=>{kind:= .function,names:=[],isGenerator:=false,isCoroutine:=false}
noncomputable abbrev CX0:CXT:=λ_ _ _ _ _ _=>False
noncomputable abbrev E0:XK:=λ_ _ _=>False
theorem Qjg{X:Cx}:Qdt CX0 X E0:=λ_ _ _ _ _ _ _ h=>h.elim
structure Fun (K:PySem.W.Frag) (x qual:Str) (st:Stmt) (f:Addr) (fd:FuncData):Prop where
 ex:∃(oc:Value) (od:Option Addr) (kV doc pm:Value) (an:Option Addr) (cdv ct:Value) (osl:Array (Option Value)),
  fd=PySem.W.fnOf x qual (Qbb st) (QY st) (Qd st) .none kV doc pm an cdv ct/\K.lookup f=some ⟨oc,od,.func fd,osl⟩/\PySem.W.codeIn K cdv qual=true
 kp:PySem.W.keepIn K (.ref f)=true
section
variable {P:Program}{w:World}{K:PySem.W.Frag}{mg:Str->Option Value}{base:Heap}
theorem Fun.ok{x qual:Str}{st:Stmt}{f:Addr}{fd:FuncData}{N ps:List Str}{k:Nat}{sp:Sp}(F:Fun K x qual st f fd)(S:Qat N ps (Qd st))(len:∀vs H Q E,sp vs H Q E->vs.length=ps.length)
  (hbody:∀(cdv:Value) (A:Around) (outer:List Env) (s:Shared) (H:Hp) (vs:List V) (Q:VK) (E:XK),Qx k (A.deeper (envOfC qual (Qd st) s.heap.objs.size f cdv))->sp vs H Q E→
   ∃t,PSs (Qcl CX0 P w K mg base N qual (Qd st) f cdv A outer s H E).nox (QY st) t/\t {nx:=λ_ H'=>Q .non H',rt:=Q} (start N vs) H):Q1 P w K mg base CX0 (k+1) f fd ps sp:=by
 obtain⟨oc,od,kV,doc,pm,an,cdv,ct,osl,rfl,lk,hcd⟩:=F.ex
 refine Qm1 lk hcd S len λA outer s H vs Q E hr hsp=>?_
 obtain⟨t,h,q⟩:=hbody cdv A outer s H vs Q E hr hsp
 exact⟨t,h.nox,q⟩
theorem Fun.binds{x qual:Str}{st:Stmt}{f:Addr}{fd:FuncData}{ps:List Str}(F:Fun K x qual st f fd)
  (h:∀(kV doc pm:Value) (an:Option Addr) (cdv ct:Value) (us:List Value),us.length=ps.length->bindArgs (PySem.W.fnOf x qual (Qbb st) (QY st) (Qd st) .none kV doc pm an cdv ct) ⟨us,[]⟩=pure (ps.zip us)):Binds K fd ps []:=by
 obtain⟨oc,od,kV,doc,pm,an,cdv,ct,osl,rfl,lk,hcd⟩:=F.ex
 exact .all (h kV doc pm an cdv ct)
theorem QkC{x qual:Str}{st:Stmt}{f:Addr}{oc:Value}{od an:Option Addr}{osl:Array (Option Value)}{kV doc pm cdv ct:Value}(l:K.lookup f=some ⟨oc,od,.func (PySem.W.fnOf x qual (Qbb st) (QY st) (Qd st) .none kV doc pm an cdv ct),osl⟩)
  (c:PySem.W.codeIn K cdv qual=true) (k:PySem.W.keepIn K (.ref f)=true):Fun K x qual st f (PySem.W.fnOf x qual (Qbb st) (QY st) (Qd st) .none kV doc pm an cdv ct):=⟨⟨oc,od,kV,doc,pm,an,cdv,ct,osl,rfl,l,c⟩,k⟩
end
section
variable {X:Cx}
end
theorem Qk2{A B:Prop}(h:B):if false=true then A else B:=by
 rw[if_neg ZT]
 exact h
theorem QkB{A B:Prop}(h:A):if true=true then A else B:=by
 rw[if_pos rfl]
 exact h
def Qj(H H':Hp):Prop:=∀b o,H b=some o->H' b=some o
theorem Qj.refl(H:Hp):Qj H H:=λ_ _ h=>h
theorem Qj.trans{H H1 H2:Hp}(a:Qj H H1)(b:Qj H1 H2):Qj H H2:=λc o h=>b c o (a c o h)
theorem Qj.free{H H':Hp}(e:Qj H H'){l:Addr}(h:H' l=Option.none):H l=Option.none:=by
 cases q:H l with
 | none=>rfl
 | some o=>
  rw[e l o q]at h
  cases h
theorem Qj.seq{K:PySem.W.Frag}{H H':Hp}{a:Addr}{xs:List V}(e:Qj H H')(h:SqL K H a xs):SqL K H' a xs:=by
 rcases h with(h | ⟨o,h⟩) | h
 ·exact .inl (.inl (e _ _ h))
 ·exact .inl (.inr ⟨o,e _ _ h⟩)
 ·exact .inr h
end L2
namespace L2
open PySem PySem.Spec PyProof.Rows
section
variable {κ:Type} [DecidableEq κ]
noncomputable def Qa3(kvs:List (κ×V))(k:κ):Option V:=(kvs.find? λkv=>decide (kv.1=k)).map (·.2)
noncomputable def putK(kvs:List (κ×V))(k:κ)(v:V):List (κ×V):=
 if(kvs.any λkv=>decide (kv.1=k))=true then kvs.map (λkv=>if kv.1=k then(kv.1,v)else kv)else kvs++[(k,v)]
noncomputable def Qjh(kvs:List (κ×V))(k:κ):List (κ×V):=kvs.filter λkv=>decide (kv.1≠k)
theorem QcS{p:κ×V}{r:List (κ×V)}{k:κ}(e:p.1=k):Qa3 (p::r) k=some p.2:=by simp[Qa3,List.find?_cons,e]
theorem QcP{p:κ×V}{r:List (κ×V)}{k:κ}(e:¬p.1=k):Qa3 (p::r) k=Qa3 r k:=by simp[Qa3,List.find?_cons,e]
theorem Qe6(k:κ):∀kvs:List (κ×V),(kvs.any λkv=>decide (kv.1=k))=(Qa3 kvs k).isSome
 | []=>rfl
 | p::r=>by
  rw[ZaL]
  by_cases e:p.1=k
  ·simp only[QcS e,decide_eq_true e,Bool.true_or,Option.isSome_some]
  ·rw[QcP e,decide_eq_false e,Bool.false_or];exact Qe6 k r
theorem Qa4.QgY{o:Option V}{u:Option Value}(r:Qa4 o u):o.isSome=u.isSome:=by
 cases o with
 | none=>cases u with
  | none=>rfl
  | some _=>exact(show False from r).elim
 | some _=>cases u with
  | none=>exact(show False from r).elim
  | some _=>rfl
theorem Qa4.getD{o:Option V}{u:Option Value}{d:V}{d':Value}(r:Qa4 o u)(rd:RelV d d'):RelV (o.getD d) (u.getD d'):=by
 cases o with
 | none=>cases u with
  | none=>exact rd
  | some _=>exact(show False from r).elim
 | some _=>cases u with
  | none=>exact(show False from r).elim
  | some _=>exact r
theorem KV.val{kvs:List (κ×V)}{vs:List (κ×Value)}(r:KV kvs vs)(k:κ):Qa4 (Qa3 kvs k) (valueAt vs k):=by
 unfold KV at r
 induction r with
 | nil=>exact True.intro
 | @cons p q ps qs h t ih=>
  obtain⟨h1,h2⟩:=h
  by_cases e:p.1=k
  ·have e':q.1=k:=h1.symm.trans e
   have b:valueAt (q::qs) k=some q.2:=by simp[valueAt,List.find?_cons,e']
   rw[QcS e,b];exact h2
  ·have e':¬q.1=k:=λz=>e (h1.trans z)
   have b:valueAt (q::qs) k=valueAt qs k:=by simp[valueAt,List.find?_cons,e']
   rw[QcP e,b];exact ih
theorem KV.any{kvs:List (κ×V)}{vs:List (κ×Value)}(r:KV kvs vs)(k:κ):(kvs.any λkv=>decide (kv.1=k))=vs.any λkv=>decide (kv.1=k):=by
 unfold KV at r
 induction r with
 | nil=>rfl
 | cons h t ih=>rw[ZaL,ZaL,ih,h.1]
theorem KV.QiX{kvs:List (κ×V)}{vs:List (κ×Value)}(r:KV kvs vs)(k:κ){y:V}{u:Value}(ry:RelV y u):
  KV (kvs.map λkv=>if kv.1=k then(kv.1,y)else kv) (vs.map λkv=>if kv.1=k then(kv.1,u)else kv):=by
 unfold KV at r ⊢
 induction r with
 | nil=>exact .nil
 | @cons p q ps qs h t ih=>
  rw[Zl,Zl]
  refine .cons ?_ ih
  obtain⟨h1,h2⟩:=h
  by_cases e:p.1=k
  ·rw[if_pos e,if_pos (h1.symm.trans e)];exact⟨h1,ry⟩
  ·rw[if_neg e,if_neg (λz=>e (h1.trans z))];exact⟨h1,h2⟩
theorem KV.put{kvs:List (κ×V)}{vs:List (κ×Value)}(r:KV kvs vs)(k:κ){y:V}{u:Value}(ry:RelV y u):KV (putK kvs k y) (stored vs k u):=by
 unfold putK stored
 rw[r.any k]
 by_cases e:(vs.any λkv=>decide (kv.1=k))=true
 ·rw[if_pos e,if_pos e];exact r.QiX k ry
 ·rw[if_neg e,if_neg e];exact Paired.snoc r ⟨rfl,ry⟩
theorem KV.drop{kvs:List (κ×V)}{vs:List (κ×Value)}(r:KV kvs vs)(k:κ):KV (Qjh kvs k) (without vs k):=by
 unfold KV at r ⊢
 unfold Qjh without
 induction r with
 | nil=>exact .nil
 | @cons p q ps qs h t ih=>
  obtain⟨h1,h2⟩:=h
  rw[List.filter_cons,List.filter_cons]
  by_cases e:p.1=k
  ·have a:¬decide (p.1≠k)=true:=by simp[e]
   have b:¬decide (q.1≠k)=true:=by simp[h1.symm.trans e]
   rw[if_neg a,if_neg b];exact ih
  ·have e':¬q.1=k:=λz=>e (h1.trans z)
   have a:decide (p.1≠k)=true:=by simp[e]
   have b:decide (q.1≠k)=true:=by simp[e']
   rw[if_pos a,if_pos b];exact .cons ⟨h1,h2⟩ ih
theorem KV.keys{kvs:List (κ×V)}{vs:List (κ×Value)}(r:KV kvs vs):kvs.map (·.1)=vs.map (·.1):=by
 unfold KV at r
 induction r with
 | nil=>rfl
 | cons h t ih=>rw[Zl,Zl,ih,h.1]
theorem KV.length{kvs:List (κ×V)}{vs:List (κ×Value)}(r:KV kvs vs):kvs.length=vs.length:=Paired.length r
end
noncomputable abbrev KT(H:Hp):List (List Key×V)->List (List Key×Addr×Value)->Prop:=Paired λp q=>p.1=q.1/\H q.2.1=some (.tup (p.1.map kV))/\RelV p.2 q.2.2
theorem KT.val{H:Hp}{kvs:List (List Key×V)}{xs:List (List Key×Addr×Value)}(r:KT H kvs xs)(k:List Key):Qa4 (Qa3 kvs k) ((atKey xs k).map (·.2)):=by
 induction r with
 | nil=>exact True.intro
 | @cons p q ps qs h t ih=>
  obtain⟨h1,_,h2⟩:=h
  by_cases e:p.1=k
  ·have e':q.1=k:=h1.symm.trans e
   have b:atKey (q::qs) k=some q.2:=by simp[atKey,List.find?_cons,e']
   rw[QcS e,b];exact h2
  ·have e':¬q.1=k:=λz=>e (h1.trans z)
   have b:atKey (q::qs) k=atKey qs k:=by simp[atKey,List.find?_cons,e']
   rw[QcP e,b];exact ih
theorem KT.QiX{H:Hp}{kvs:List (List Key×V)}{xs:List (List Key×Addr×Value)}(r:KT H kvs xs)(k:List Key){y:V}{u:Value}(ry:RelV y u):
  KT H (kvs.map λkv=>if kv.1=k then(kv.1,y)else kv) (xs.map (putAt k u)):=by
 induction r with
 | nil=>exact .nil
 | @cons p q ps qs h t ih=>
  rw[Zl,Zl]
  refine .cons ?_ ih
  obtain⟨h1,h2,h3⟩:=h
  unfold putAt
  by_cases e:p.1=k
  ·rw[if_pos e,if_pos (h1.symm.trans e)];exact⟨h1,h2,ry⟩
  ·rw[if_neg e,if_neg (λz=>e (h1.trans z))];exact⟨h1,h2,h3⟩
theorem KT.put{H:Hp}{kvs:List (List Key×V)}{xs:List (List Key×Addr×Value)}(r:KT H kvs xs)(k:List Key){b:Addr}{y:V}{u:Value}(hb:H b=some (.tup (k.map kV)))(ry:RelV y u):
  KT H (putK kvs k y) (storedH xs k b u):=by
 have e:(kvs.any λkv=>decide (kv.1=k))=(atKey xs k).isSome:=by
  rw[Qe6,(r.val k).QgY,Option.isSome_map]
 unfold putK storedH
 rw[e]
 by_cases q:(atKey xs k).isSome=true
 ·rw[if_pos q,if_pos q];exact r.QiX k ry
 ·rw[if_neg q,if_neg q];exact Paired.snoc r ⟨rfl,hb,ry⟩
theorem KT.keeps{H H':Hp}{kvs:List (List Key×V)}{xs:List (List Key×Addr×Value)}(r:KT H kvs xs)(ht:∀b ys,H b=some (.tup ys)->H' b=some (.tup ys)):KT H' kvs xs:=
 Paired.Qix r λ_ _ z=>⟨z.1,ht _ _ z.2.1,z.2.2⟩
section
variable {P:Program}{w:World}{H:Hp}{h:Heap}{a:Addr}
end
def QgS(H:Hp)(a:Addr)(y:V)(r:Option V):Prop:=
 (∃kvs k,Rd H a (.dK kvs)/\y=kV k/\r=Qa3 kvs k)∨∃kvs k b,Rd H a (.dT kvs)/\y= .ref b/\H b=some (.tup (k.map kV))/\r=Qa3 kvs k
def Qgp(H:Hp)(a:Addr)(y v:V)(H':Hp):Prop:=
 (∃kvs k,H a=some (.dK kvs)/\y=kV k/\kvs.length<sizeLine/\H'=upd H a (.dK (putK kvs k v)))∨
 ∃kvs k b,H a=some (.dT kvs)/\y= .ref b/\H b=some (.tup (k.map kV))/\kvs.length<sizeLine/\H'=upd H a (.dT (putK kvs k v))
theorem QgS.k{H:Hp}{a:Addr}{kvs:List (Key×V)}{k:Key}(e:H a=some (.dK kvs)):QgS H a (kV k) (Qa3 kvs k):= .inl ⟨kvs,k,.inl e,rfl,rfl⟩
theorem QgS.t{H:Hp}{a b:Addr}{kvs:List (List Key×V)}{k:List Key}(e:H a=some (.dT kvs))(eb:H b=some (.tup (k.map kV))):QgS H a (.ref b) (Qa3 kvs k):= .inr ⟨kvs,k,b,.inl e,rfl,eb,rfl⟩
theorem Qgp.k{H:Hp}{a:Addr}{kvs:List (Key×V)}{k:Key}{v:V}(e:H a=some (.dK kvs))(hl:kvs.length<sizeLine):Qgp H a (kV k) v (upd H a (.dK (putK kvs k v))):= .inl ⟨kvs,k,e,rfl,hl,rfl⟩
theorem Qgp.t{H:Hp}{a b:Addr}{kvs:List (List Key×V)}{k:List Key}{v:V}(e:H a=some (.dT kvs))(eb:H b=some (.tup (k.map kV)))(hl:kvs.length<sizeLine):
  Qgp H a (.ref b) v (upd H a (.dT (putK kvs k v))):= .inr ⟨kvs,k,b,e,rfl,eb,hl,rfl⟩
section
variable {X:Cx}{pins:List (Addr×Obj)}{σ:St}{H:Hp}{s:Shared}{a:Addr}{y v:V}{u r:Value}{o:Option V}{A:Around}{E:Value->Shared->Prop}
end
section
variable {X:Cx}{pins:List (Addr×Obj)}{σ:St}{H:Hp}{s:Shared}{a:Addr}{kvs:List (Key×V)}{k:Key}{u:Value}{A:Around}{E:Value->Shared->Prop}
end
section
variable {X:Cx}{o i e value:Expr}{pos pos' tpos:Pos}{td ty tv:TE}
end
section
variable {X:Cx}{pos:Pos}
end
end L2
namespace HS
open PySem PySem.Spec L2 PyProof.Rows
noncomputable def Itx(x:Str):It:=⟨λi _=>i<x.cps.size,λi H v H'=>H'=H/\∃c,x.cps[i]? =some c/\v= .str ⟨#[c]⟩,λi _=>i=x.cps.size⟩
theorem Qin{P:Program}{w:World}{K:PySem.W.Frag}{tg:Expr}{it:Addr}{x:Str}{t:Tok}{T:String}(hW:∀A':Around,A'.handled=none->Walks P w A' it [it] [it] x.cps.size (SignAt x) (λi h=>h.IsStrIter it T x t i))
  (hT:["enumerate","zip","dict_itemiterator","dict_reverseitemiterator","odict_iterator","itertools.zip_longest","itertools.pairwise"].contains T=false)
  (hS:∀(A:Around) (i:Nat) (s:Shared) (Q:Value->Shared->Prop) (E:Value->Shared->Prop),s.heap.IsStrIter it T x t i->Q (.ref it) s->wpAny (model P w) A (pyIter (.ref it)) Q E s):Turn P w K tg (Itx x) [it] it (λi h=>h.IsStrIter it T x t i) where
 mem:=by simp
 obj:=λi h st b hb=>by
  have e:b=it:=by simpa using hb
  subst e
  obtain⟨o,e,c,d⟩:=st
  exact⟨o,e,λv z=>by rw[d]at z;cases z⟩
 keep:=λi h h' st k=>let ⟨o,e,r⟩:=st;⟨o,k it (by simp) o e,r⟩
 item:=by
  intro X hP hw hK hc i pins s σ H E I hf st hg
  subst hP hw hK
  obtain⟨f0,f1,f2,f3,f4,f5⟩:=hf it (by simp)
  refine(hW X.A (I.ok.hd hc)).item i s _ _ hg st λv h' tk hv st' kk=>?_
  obtain⟨c,u,hcx,rfl⟩:=hv
  have I1:Inv X pins σ H {s with heap:=h',toks:=tk}:=I.turned (λb o hb e=>kk b o (by simpa using hb) e) f0 f1 f3 f4 f5
  obtain⟨o,e,c',d⟩:=id st'
  exact⟨_,rfl,Qex (s:={s with heap:=h',toks:=tk}) (n:=T) e c' d hT ⟨.str ⟨#[c]⟩,H,I1,⟨u,rfl⟩,⟨rfl,c,hcx,rfl⟩,st',λb hb=>(hf b hb).1⟩⟩
 done:=by
  intro X hP hw hK hc i pins s σ H E I hf st hg
  subst hP hw hK
  obtain⟨f0,f1,f2,f3,f4,f5⟩:=hf it (by simp)
  have hg:i=x.cps.size:=hg
  subst hg
  exact(hW X.A (I.ok.hd hc)).done s _ _ st λh' tk kk=>⟨rfl,I.turned (λb o hb e=>kk b o (by simpa using hb) e) f0 f1 f3 f4 f5⟩
 self:=λA i s Q E st h=>hS A i s Q E st h
noncomputable def Qnd(tl:TE):TI:=λσ H R=>tl σ H λx H1=>∃y,x= .str y/\R (Itx y) H1
theorem QkV{X:Cx}{tg l:Expr}{tl:TE}(hl:PE X l tl):PI X tg l (Qnd tl):=by
 intro pins s σ H R I h
 refine thn (hl pins s σ H _ I h) λv s1=>exJ λx H1 I1 r1 q1=>?_
 obtain⟨y,e,q⟩:=q1
 subst e
 obtain⟨t,rfl⟩:=(show ∃t,v=Value.str y t from r1)
 have fin:∀(o:Obj) (T:String),(∀A':Around,A'.handled=none->Walks X.prog X.w A' s1.heap.objs.size [s1.heap.objs.size] [s1.heap.objs.size] y.cps.size (SignAt y) (λi h=>h.IsStrIter s1.heap.objs.size T y t i))->["enumerate","zip","dict_itemiterator","dict_reverseitemiterator","odict_iterator","itertools.zip_longest","itertools.pairwise"].contains T=false→
   (∀(A:Around) (i:Nat) (s:Shared) (Q:Value->Shared->Prop) (E:Value->Shared->Prop),s.heap.IsStrIter s1.heap.objs.size T y t i->Q (.ref s1.heap.objs.size) s->wpAny (model X.prog X.w) A (pyIter (.ref s1.heap.objs.size)) Q E s)→
   (s1.heap.push o).IsStrIter s1.heap.objs.size T y t 0->PIE X pins σ tg R (.ref s1.heap.objs.size) {s1 with heap:=s1.heap.push o}:=λo T hW hT hS h0=>by
  refine⟨s1.heap.objs.size,[s1.heap.objs.size],_,_,H1,rfl,I1.kept (t':=s1.toks) λb o e=>Zn _ e,Qin hW hT hS,h0,λb hb=>?_,q⟩
  have e:b=s1.heap.objs.size:=by simpa using hb
  subst e
  exact I1.Qe3 (Zj _) (I1.hok.fresh (Zj _))
 cases ha:y.cps.all (· <128)
 ·exact wpAny_pyIter_wide ha (fin _ _ (λA' hA=>Walks.strWide hA _ y t) (by decide) (λA i s Q E st h=>wpAny_pyIter_striter_wide st h) ⟨_,Zw _ rfl,rfl,rfl⟩)
 ·exact wpAny_pyIter_ascii ha (fin _ _ (λA' hA=>Walks.strAscii hA _ y t) (by decide) (λA i s Q E st h=>wpAny_pyIter_striter_ascii st h) ⟨_,Zw _ rfl,rfl,rfl⟩)
section
variable {X:Cx}
theorem QjS{e:Expr}{t u:TE}(h1:PE X e t)(h2:PE X e u):PE X e (λσ H Q=>t σ H Q∨u σ H Q):=λpins s σ H Q I q=>q.elim (h1 pins s σ H Q I) (h2 pins s σ H Q I)
theorem QeL{v:Value}{o:Option Int}(h:IsPart v o):∃l:Option (Int×Tok),v=partValue l/\o=l.map (·.1):=by
 cases h with
 | none=>exact⟨none,rfl,rfl⟩
 | int i t=>exact⟨some (i,t),rfl,rfl⟩
theorem Qlu:SlR X (λx lo hi H Q=>∃z,x= .str z/\z.length<=sizeLine/\Q (.str (Txt.slice z lo hi)) H):=by
 intro pins s σ H x v vl vu lo hi sl Q I rx hs pl pu q
 obtain⟨z,rfl,hz,q⟩:=q
 obtain⟨t,rfl⟩:=(show ∃t,v=Value.str z t from rx)
 obtain⟨l,rfl,rfl⟩:=QeL pl
 obtain⟨u,rfl,rfl⟩:=QeL pu
 obtain⟨o,ho,hc,hd⟩:=hs
 exact⟨"str",_,F.slot_str_getitem.lookup,typeIs_str _ _ _,wpAny_getItem_str_slice (l:=l) (u:=u) (st:=none) ⟨o,ho,hc,hd⟩ rfl (post_val_or_str ⟨Zr (Txt.slice_le z _ _) hz,λt' k=>⟨.str _,H,I.tok _,⟨t',rfl⟩,q⟩⟩)⟩
theorem Qeh:∀l:List (Str×Tok),Qe (l.map λp=>V.str p.1) (strValues l)
 | []=> .nil
 | p::l=> .cons ⟨p.2,rfl⟩ (Qeh l)
theorem Qeg:∀{ts:List Str}{its:List Value},Qe (ts.map V.str) its->∃l:List (Str×Tok),its=strValues l/\l.map (·.1)=ts
 | [],its,h=>by cases h;exact⟨[],rfl,rfl⟩
 | t::ts,its,h=>by
  cases h with
  | cons r h=>
   obtain⟨l,rfl,e⟩:=Qeg h
   obtain⟨k,rfl⟩:=r
   exact⟨(t,k)::l,rfl,by rw[Zl,e]⟩
theorem Qg6:MtR X "str.split" (λx xs H Q=>∃z y,x= .str z/\xs=[.str y]/\(y.length == 0)=false/\z.length+2<=sizeLine/\∀l,H l=none->Q (.ref l) (L2.upd H l (.lst ((Txt.split z y).map .str)))):=by
 intro pins s σ H x xs v us Q I rx rs q
 obtain⟨z,y,rfl,rfl,hy,hsz,q⟩:=q
 obtain⟨t,rfl⟩:=(show ∃t,v=Value.str z t from rx)
 obtain⟨u',rfl,ru⟩:=vals1 rs
 obtain⟨u,rfl⟩:=(show ∃t,u'=Value.str y t from ru)
 have hn:(Builtin.Str.partsBetween z (Builtin.Str.occurrences z y 0 z.length (z.length+1)) y.length).length<=sizeLine:=by
  have e1:=StrLaws.occ_length_le_len z y 0 z.length (z.length+1)
  rw[length_partsBetween];omega
 have fin:∀(l:List (Str×Tok)) (k:Nat),l.length<=sizeLine->l.map (·.1)=Txt.split z y->EP X pins σ Q (.ref s.heap.objs.size) {s with heap:=s.heap.push {cls:= .type "list",data:= .seq (strValues l).toArray},toks:=k}:=λl k hl e=>by
  have e2:(Txt.split z y).map V.str=l.map λp=>V.str p.1:=by rw[← e,Zak];rfl
  refine⟨.ref s.heap.objs.size,_,I.laid (t':=k) (λb o h=>Zn _ h) (Zj _) (show Qaf X.prog X.w _ _ _ (.lst ((Txt.split z y).map .str))from⟨by rw[e2,Zv];exact hl,strValues l,0,by rw[e2];exact Qeh l,Zw _ rfl⟩),rfl,q _ (I.hok.fresh (Zj _))⟩
 cases h1:(decide (z.length<y.length) || decide (Builtin.Str.strKind z<Builtin.Str.strKind y))
 ·cases hf:(Builtin.Str.occurrences z y 0 z.length (z.length+1)).isEmpty
  ·refine call_meets F.slot_str_split (typeIs_str _ _ _) F.entry_str_split (F.args_str_split_2 _ _) (meets_str_split_sep z y t u h1 hy hf (by omega) hn) ?_
   show wants _ _ _ {s with toks:=_,heap:=s.heap.push {cls:= .type "list",data:= .seq (strsFrom s.toks (Builtin.Str.partsBetween z (Builtin.Str.occurrences z y 0 z.length (z.length+1)) y.length)).toArray}}
   rw[strsFrom_eq]
   have en:=numbered_texts s.toks (Builtin.Str.partsBetween z (Builtin.Str.occurrences z y 0 z.length (z.length+1)) y.length)
   exact fin (numbered s.toks _) _ (by rw[← Zv (f:=(·.1)),en];exact hn) (en.trans ((if_neg (ne_true_of_eq_false h1)).trans (if_neg (ne_true_of_eq_false hf))).symm)
  ·exact call_meets F.slot_str_split (typeIs_str _ _ _) F.entry_str_split (F.args_str_split_2 _ _) (meets_str_split_not_found z y t u h1 hy hf) (fin [(z,t)] s.toks (show 1<=sizeLine by decide) ((if_neg (ne_true_of_eq_false h1)).trans (if_pos hf)).symm)
 ·exact call_meets F.slot_str_split (typeIs_str _ _ _) F.entry_str_split (F.args_str_split_2 _ _) (meets_str_split_cannot_occur z y t u h1) (fin [(z,t)] s.toks (show 1<=sizeLine by decide) (if_pos h1).symm)
theorem QjL:MtR X "str.join" (λx xs H Q=>∃z p ts,x= .str z/\xs=[.ref p]/\SqL X.K H p (ts.map V.str)/\JoinOk z ts=true/\Q (.str (Txt.join z ts)) H):=by
 intro pins s σ H x xs v us Q I rx rs q
 obtain⟨z,p,ts,rfl,rfl,hq,hj,q⟩:=q
 obtain⟨t,rfl⟩:=(show ∃t,v=Value.str z t from rx)
 obtain⟨u',rfl,ru⟩:=vals1 rs
 cases ru
 obtain⟨its,rv,pl,hz⟩:=I.list hq
 obtain⟨l,rfl,e⟩:=Qeg rv
 exact SC.join pl.isList e hj λt' k=>⟨.str _,H,I.tok _,⟨t',rfl⟩,q⟩
theorem QhG:MtR X "str.startswith" (λx xs H Q=>∃z y,x= .str z/\xs=[.str y]/\Q (.bl (Txt.startswith z y)) H):=by
 intro pins s σ H x xs v us Q I rx rs q
 obtain⟨z,y,rfl,rfl,q⟩:=q
 obtain⟨t,rfl⟩:=(show ∃t,v=Value.str z t from rx)
 obtain⟨u',rfl,ru⟩:=vals1 rs
 obtain⟨u,rfl⟩:=(show ∃t,u'=Value.str y t from ru)
 exact SC.startswith ⟨.bl _,H,I,rfl,q⟩
theorem Qfn:QM X (.type "int") (λxs H Q=>∃z n,xs=[.str z]/\PySem.intText? z=some n/\z.length<=640/\Q (.int n) H):=by
 intro pins s σ H xs us Q I rs q
 obtain⟨z,n,rfl,hn,hl,q⟩:=q
 obtain⟨u',rfl,ru⟩:=vals1 rs
 obtain⟨u,rfl⟩:=(show ∃t,u'=Value.str z t from ru)
 exact PySem.W.KIN.call_text hn hl ⟨.int n,H,I.tok _,⟨_,rfl⟩,q⟩
end
end HS
namespace L2
open PySem PySem.Spec PyProof.Rows
theorem QdN(env:Env)(body:Str×NameKind->List (Str×Addr)->Sem (ForInStep (List (Str×Addr))))
  (hb:∀n k cs,body (n,k) cs=if(k == NameKind.free)=true then(do let c ← cellOf env n;pure (ForInStep.yield ((n,c)::cs)))else pure (ForInStep.yield cs)):
  ∀(names:List (Str×NameKind)) (acc:List (Str×Addr)),(∀y∈names,y.2= .free->∃c,env.cells.lookup y.1=some c)->(∀x c,acc.lookup x=some c->env.cells.lookup x=some c)→
   ∃cl,forIn names acc body=(pure cl:Sem _)/\(∀x c,cl.lookup x=some c->env.cells.lookup x=some c)/\(∀x,acc.lookup x≠none->cl.lookup x≠none)/\∀y∈names,y.2= .free->cl.lookup y.1≠none
 | [],acc,_,ha=>⟨acc,rfl,ha,λ_ h=>h,λy hy=>by simp at hy⟩
 | (n,k)::r,acc,hn,ha=>by
  rw[List.forIn_cons,hb]
  have hr:∀y∈r,y.2= .free->∃c,env.cells.lookup y.1=some c:=λy hy=>hn y (Za _ hy)
  by_cases hk:k= .free
  ·subst hk
   obtain⟨c,hc⟩:=hn (n,.free) Zi rfl
   have hce:cellOf env n=pure c:=by unfold cellOf;rw[show env.cells.lookup n=some c from hc]
   rw[if_pos (by rfl),hce]
   obtain⟨cl,e,h1,h2,h3⟩:=QdN env body hb r ((n,c)::acc) hr (λx c' e=>by
    rw[Zk]at e
    cases q:x == n with
    | true=>rw[q]at e;cases e;rw[beq_iff_eq]at q;rw[q];exact hc
    | false=>rw[q]at e;exact ha x c' e)
   have hcons:∀x,((n,c)::acc).lookup x≠none->cl.lookup x≠none:=h2
   refine⟨cl,by simpa using e,h1,λx hx=>hcons x ?_,λy hy hf=>?_⟩
   ·rw[Zk];cases x == n with
    | true=>simp
    | false=>exact hx
   ·rcases Zu.mp hy with rfl | hy
    ·exact hcons _ (by simp[Zk])
    ·exact h3 y hy hf
  ·rw[if_neg (by simpa using hk)]
   obtain⟨cl,e,h1,h2,h3⟩:=QdN env body hb r acc hr ha
   refine⟨cl,by simpa using e,h1,h2,λy hy hf=>?_⟩
   rcases Zu.mp hy with rfl | hy
   ·exact absurd hf hk
   ·exact h3 y hy hf
theorem Qj8(h:∀y∈scope.names,y.2= .free->∃c,env.cells.lookup y.1=some c):
  ∃cl,closureFor scope env=pure cl/\(∀x c,cl.lookup x=some c->env.cells.lookup x=some c)/\∀y∈scope.names,y.2= .free->∃c,cl.lookup y.1=some c:=by
 unfold closureFor
 obtain⟨cl,e,h1,_,h3⟩:=QdN env (λx cs=>match x with | (name,kind)=>if(kind == NameKind.free)=true then(do let c ← cellOf env name;pure (ForInStep.yield ((name,c)::cs)))else pure (ForInStep.yield cs)) (λ_ _ _=>rfl) scope.names [] h (λx c e=>by simp at e)
 refine⟨cl,?_,h1,λy hy hf=>Option.ne_none_iff_exists'.mp (h3 y hy hf)⟩
 show(forIn scope.names [] _ >>= λr=>pure r)=_
 rw[e];rfl
noncomputable def cxc(X:Cx)(N':List Str)(scope:Scope)(cl:List (Str×Addr))(C:Addr)(fp:List Addr)(s3:Shared)(H3:Hp):Cx:=
 {X with N:=N',s₀:=s3,H₀:=H3,env:=compEnvC scope cl C X.env,outer:=X.stack,ex:=fp,fn:=λx=>decide (scope.names.lookup x=some .cell),pn:=[],xe:=λ_ _=>False}
def PTs(X:Cx)(ifs:List Expr)(t:TT):Prop:=
 ∀(pins:List (Addr×Obj)) (s:Shared) (σ:St) (H:Hp) (Q:Bool->Hp->Prop),Inv X pins σ H s->t σ H Q→
  wpAny (model X.prog X.w) X.A (forIn ifs true λc r=>if r=true then do let ok ← isTrue c X.env (eval c X.env);pure (ForInStep.yield ok)else pure (ForInStep.yield r)) (TP X pins σ Q) X.xe s
noncomputable def QnN:TT:=λ_ H Q=>Q true H
theorem Qjj:PTs X [] QnN:=λ_ _ _ H _ I h=>wpAny_tests_nil ⟨H,I,h⟩
theorem Qjy(h:PT X c t):PTs X [c] t:=λpins s σ H Q I q=>wpAny_tests_one (h pins s σ H Q I q)
def Qdk(X:Cx)(N':List Str)(scope:Scope)(σ σ':St):Prop:=
 σ'.length=N'.length/\∀(j:Nat) (x:Str) (v:V),N'[j]? =some x->σ'[j]? =some (some v)->scope.names.lookup x=some .free/\∃i:Nat,X.N[i]? =some x/\σ[i]? =some (some v)/\(X.env.kindOf x=some .cell∨X.env.kindOf x=some .free)
noncomputable def QeE(wi:TI)(cap:St->St->Prop)(g:TG)(tc:TT)(te:TE):TE:=λσ H Q=>wi σ H λJ H1=>∃σc,cap σ σc/\∀D,H1 D=none->∃W:Nat->Nat->List V->Hp->Prop,
 (∃m,W 0 m [] (upd H1 D (.lst [])))/\∀i m acc H2,W i m acc H2->(J.stop i H2/\Q (.ref D) H2)∨
  (J.go i H2/\∀x H3,J.yld i H2 x H3->g x σc H3 λσ2 H4=>(∀(j:Nat) v,σc[j]? =some (some v)->σ2[j]? =some (some v))/\tc σ2 H4 λb H5=>if b=true then
   te σ2 H5 λy H6=>H6 D=some (.lst acc)/\acc.length<sizeLine/\∃m',m'<m/\W (i+1) m' (acc++[y]) (upd H6 D (.lst (acc++[y])))
   else ∃m',m'<m/\W (i+1) m' acc H5)
theorem Qaa{env:Env}:∀{names:List (Str×NameKind)}{x:Str},names.lookup x=some .free→
  (names.map λ(n,k)=>if(k == NameKind.free && env.scope.kind == .function && env.kindOf n == some .cell)then(n,NameKind.cell)else(n,k)).lookup x=some .cell∨
  (names.map λ(n,k)=>if(k == NameKind.free && env.scope.kind == .function && env.kindOf n == some .cell)then(n,NameKind.cell)else(n,k)).lookup x=some .free
 | [],_,h=>by simp at h
 | (n,k)::r,x,h=>by
  have ih:= @Qaa env r x
  rw[Zl]
  cases hx:x == n with
  | true=>
   simp only[Zk,hx]at h
   cases h
   dsimp only
   split
   ·left;simp[Zk,hx]
   ·right;simp[Zk,hx]
  | false=>
   simp only[Zk,hx]at h
   dsimp only
   split
   ·simp only[Zk,hx];exact ih h
   ·simp only[Zk,hx];exact ih h
theorem Qa0{env:Env}:∀{names:List (Str×NameKind)}{x:Str},
  ((names.map λ(n,k)=>if(k == NameKind.free && env.scope.kind == .function && env.kindOf n == some .cell)then(n,NameKind.cell)else(n,k)).lookup x=some .cell∨
  (names.map λ(n,k)=>if(k == NameKind.free && env.scope.kind == .function && env.kindOf n == some .cell)then(n,NameKind.cell)else(n,k)).lookup x=some .free)→
  ∃k,(x,k)∈names/\(k= .free∨k= .cell)
 | [],_,h=>by simp at h
 | (n,k)::r,x,h=>by
  have ih:= @Qa0 env r x
  rw[Zl]at h
  cases hx:x == n with
  | true=>
   have hn:x=n:=by simpa using hx
   subst hn
   dsimp only at h
   split at h
   ·rename_i hc
    simp only[Zf]at hc
    refine⟨k,Zi,.inl (by simpa using hc.1.1)⟩
   ·simp only[Zk,hx]at h
    refine⟨k,Zi,?_⟩
    rcases h with h | h
    ·exact .inr (Option.some.inj h)
    ·exact .inl (Option.some.inj h)
  | false=>
   dsimp only at h
   have:∃k,(x,k)∈r/\(k= .free∨k= .cell):=by
    apply ih
    split at h
    ·simpa only[Zk,hx]using h
    ·simpa only[Zk,hx]using h
   obtain⟨k',h1,h2⟩:=this
   exact⟨k',Za _ h1,h2⟩
theorem QbA:∀(names:List (Str×NameKind)) (n:Nat) (acc:List (Str×Addr)) (x:Str) (c:Addr),(cellsFrom n names acc).lookup x=some c->acc.lookup x=some c∨(n<=c/\(x,NameKind.cell)∈names)
 | [],_,_,_,_,h=> .inl h
 | (nm,k)::r,n,acc,x,c,h=>by
  unfold cellsFrom at h
  split at h
  ·rename_i hk
   have hk:k= .cell:=by simpa using hk
   rcases QbA r (n+1) ((nm,n)::acc) x c h with h | ⟨h1,h2⟩
   ·rw[Zk]at h
    cases q:x == nm with
    | true=>
     rw[q]at h
     cases h
     have:x=nm:=by simpa using q
     exact .inr ⟨Zj _,by rw[this,hk];exact Zi⟩
    | false=>rw[q]at h;exact .inl h
   ·exact .inr ⟨by omega,Za _ h2⟩
  ·rcases QbA r n acc x c h with h | ⟨h1,h2⟩
   ·exact .inl h
   ·exact .inr ⟨h1,Za _ h2⟩
theorem QeO:∀(names:List (Str×NameKind)) (n:Nat) (acc:List (Str×Addr)) (x:Str) (c:Addr),(x,NameKind.cell)∈names->(cellsFrom n names acc).lookup x=some c->n<=c
 | (nm,k)::r,n,acc,x,c,hm,h=>by
  unfold cellsFrom at h
  split at h
  ·by_cases hr:(x,NameKind.cell)∈r
   ·have:=QeO r (n+1) _ x c hr h
    omega
   ·have hx:x=nm:=by
     rcases Zu.mp hm with e | e
     ·exact(Prod.mk.inj e).1
     ·exact absurd e hr
    rcases QbA r (n+1) ((nm,n)::acc) x c h with h | ⟨h1,_⟩
    ·rw[Zk,show(x == nm)=true by simpa using hx]at h
     cases h
     exact Zj _
    ·omega
  ·rename_i hk
   rcases Zu.mp hm with e | e
   ·exact absurd (by rw[← (Prod.mk.inj e).2];rfl) hk
   ·exact QeO r n acc x c e h
theorem QeI:∀(names:List (Str×NameKind)) (n:Nat) (acc:List (Str×Addr)),(∀x y c,acc.lookup x=some c->acc.lookup y=some c->x=y)->(∀x c,acc.lookup x=some c->c<n)→
  ∀x y c,(cellsFrom n names acc).lookup x=some c->(cellsFrom n names acc).lookup y=some c->x=y
 | [],_,_,hi,_,x,y,c,h1,h2=>hi x y c h1 h2
 | (nm,k)::r,n,acc,hi,hb,x,y,c,h1,h2=>by
  unfold cellsFrom at h1 h2
  split at h1
  ·rename_i hk
   rw[if_pos hk]at h2
   refine QeI r (n+1) ((nm,n)::acc) (λx y c h1 h2=>?_) (λx c h=>?_) x y c h1 h2
   ·rw[Zk]at h1 h2
    cases qx:x == nm with
    | true=>
     rw[qx]at h1
     cases h1
     cases qy:y == nm with
     | true=>rw[show x=nm by simpa using qx,show y=nm by simpa using qy]
     | false=>rw[qy]at h2;exact absurd (hb y _ h2) (ZF _)
    | false=>
     rw[qx]at h1
     cases qy:y == nm with
     | true=>rw[qy]at h2;cases h2;exact absurd (hb x _ h1) (ZF _)
     | false=>rw[qy]at h2;exact hi x y c h1 h2
   ·rw[Zk]at h
    cases qx:x == nm with
    | true=>rw[qx]at h;cases h;exact Nat.lt_succ_self _
    | false=>rw[qx]at h;exact ZaA (hb x c h)
  ·rename_i hk
   rw[if_neg hk]at h2
   exact QeI r n acc hi hb x y c h1 h2
theorem QbM:∀(names:List (Str×NameKind)) (n:Nat) (acc:List (Str×Addr)) (x:Str),(∃c,acc.lookup x=some c)->∃c,(cellsFrom n names acc).lookup x=some c
 | [],_,_,_,h=>h
 | (nm,k)::r,n,acc,x,h=>by
  unfold cellsFrom
  split
  ·refine QbM r (n+1) _ x ?_
   rw[Zk]
   cases x == nm with
   | true=>exact⟨n,rfl⟩
   | false=>exact h
  ·exact QbM r n acc x h
theorem Qfg:∀(names:List (Str×NameKind)) (n:Nat) (acc:List (Str×Addr)) (x:Str),(x,NameKind.cell)∈names->∃c,(cellsFrom n names acc).lookup x=some c
 | (nm,k)::r,n,acc,x,hm=>by
  unfold cellsFrom
  rcases Zu.mp hm with e | e
  ·obtain⟨e1,e2⟩:=Prod.mk.inj e
   subst e1
   rw[← e2,if_pos (by rfl)]
   exact QbM r (n+1) _ x ⟨n,by simp[Zk]⟩
  ·split
   ·exact Qfg r (n+1) _ x e
   ·exact Qfg r n acc x e
theorem QdD(lo:Nat):∀(names:List (Str×NameKind)) (h:Heap) (acc:List (Str×Addr)),(∀x c,acc.lookup x=some c->lo<=c->h.IsCell c none)->lo<=h.objs.size→
  ∀x c,(cellsFrom h.objs.size names acc).lookup x=some c->lo<=c->(pushCells h names).IsCell c none
 | [],_,_,ha,_,x,c,e,hl=>ha x c e hl
 | (nm,k)::r,h,acc,ha,hlo,x,c,e,hl=>by
  unfold cellsFrom at e
  unfold pushCells
  split at e
  ·rename_i hk
   rw[if_pos hk]
   have hs:=Zaj h {cls:= .type "cell",data:= .cell none}
   refine QdD lo r (h.push {cls:= .type "cell",data:= .cell none}) ((nm,h.objs.size)::acc) (λx c e hl=>?_) (by rw[hs];omega) x c (by rw[hs];exact e) hl
   rw[Zk]at e
   cases q:x == nm with
   | true=>rw[q]at e;cases e;exact⟨_,Zw _ rfl,rfl⟩
   | false=>rw[q]at e;exact(ha x c e hl).keeps λb o e=>Zn _ e
  ·rename_i hk
   rw[if_neg hk]
   exact QdD lo r h acc ha hlo x c e hl
theorem Qgh
  (hQ:∀h':Heap,h'.Ns s.heap.objs.size (λ_=>none)->(∀b o,s.heap.get? b=some o->h'.get? b=some o)->((∀x c,cl.lookup x=some c->c<s.heap.objs.size)->∀x c,(cellsFrom (s.heap.objs.size+1) scope.names cl).lookup x=some c->s.heap.objs.size+1<=c->h'.IsCell c none)→
   Q (newEnv scope s.heap.objs.size globals (cellsFrom (s.heap.objs.size+1) scope.names cl) qual none .none (some env) builtins) {s with heap:=h'}):
  wpAny M A (newFunctionEnv scope globals cl [] qual none .none (some env) builtins) Q E s:=by
 simp only[newFunctionEnv,Option.isSome_some,if_true]
 refine wpAny_bind (wpAny_alloc ?_)
 refine wpAny_bind (wpAny_layCells _ (λname kind cells=>by cases hkc:kind == NameKind.cell<;>simp[hkc]) _ _ _ _ ?_)
 have hs:=Zaj s.heap {cls:= .type "dict",data:= .dict #[]}
 rw[show({s with heap:=s.heap.push {cls:= .type "dict",data:= .dict #[]}}:Shared).heap.objs.size=s.heap.objs.size+1 from hs]
 refine wpAny_bind (wpAny_pure (wpAny_pure ?_))
 refine hQ _ ((Heap.Ns.new s.heap (.type "dict")).keeps (pushCells_keeps _ _)) (λb o e=>pushCells_keeps _ _ b o (Zn _ e)) λhb x c e hl=>?_
 refine QdD (s.heap.objs.size+1) scope.names (s.heap.push {cls:= .type "dict",data:= .dict #[]}) cl (λx c e hl=>?_) (by rw[hs];exact Zj _) x c (by rw[hs];exact e) hl
 exact absurd (Zm (hb x c e) (Zr (ZaB _) hl)) (ZF _)
section
variable {X:Cx}{tg iter elt:Expr}{ifs:List Expr}{scope:Scope}{N':List Str}{pos:Pos}
structure QaX (X:Cx) (N':List Str) (scope:Scope):Prop where
 kind:scope.kind= .function
 own:∀y∈scope.names,y.2= .cell->scope.names.lookup y.1=some .cell
 loc:∀y∈scope.names,y.2= .local ->scope.names.lookup y.1=some .local
 free:∀y∈scope.names,y.2= .free->X.env.kindOf y.1=some .cell∨X.env.kindOf y.1=some .free
theorem Qip{pins:List (Addr×Obj)}{σ σc:St}{H3:Hp}{s3:Shared}{fp:List Addr}{cl:List (Str×Addr)}{h':Heap}{tk:Nat}(S:QaX X N' scope)(I:Inv X pins σ H3 s3)
  (hf:∀b∈fp,QaF X pins H3 b) (hfl:∀b∈fp,b<s3.heap.objs.size) (hc1:∀x c,cl.lookup x=some c->X.env.cells.lookup x=some c) (hc2:∀y∈scope.names,y.2= .free->∃c,cl.lookup y.1=some c) (cap:Qdk X N' scope σ σc)
  (hns:h'.Ns s3.heap.objs.size (λ_=>none)) (hk:∀b o,s3.heap.get? b=some o->h'.get? b=some o)
  (hown:(∀x c,cl.lookup x=some c->c<s3.heap.objs.size)->∀x c,(cellsFrom (s3.heap.objs.size+1) scope.names cl).lookup x=some c->s3.heap.objs.size+1<=c->h'.IsCell c none):
  Inv (cxc X N' scope (cellsFrom (s3.heap.objs.size+1) scope.names cl) s3.heap.objs.size fp s3 H3) [] σc H3 {s3 with heap:=h',toks:=tk}:=by
 have nold:∀b,b∈fp->b≠s3.heap.objs.size:=λb hb e=>absurd (hfl b hb) (by rw[e];exact ZF _)
 have cellOld:∀x c,cl.lookup x=some c->∃v,s3.heap.IsCell c v:=λx c e=>I.cell x c (hc1 x c e)
 have cellLt:∀x c,cl.lookup x=some c->c<s3.heap.objs.size:=λx c e=>let ⟨v,q⟩:=cellOld x c e;q.lt
 have cellNew:∀c v,s3.heap.IsCell c v->h'.IsCell c v:=λc v ⟨o,ho,hd⟩=>⟨o,hk c o ho,hd⟩
 have hown:=hown cellLt
 have look:∀x c,(cellsFrom (s3.heap.objs.size+1) scope.names cl).lookup x=some c->cl.lookup x=some c∨(s3.heap.objs.size+1<=c/\(x,NameKind.cell)∈scope.names):=QbA scope.names _ cl
 refine⟨⟨I.ok.mod,S.kind,I.ok.glob,I.ok.blt,Zj _,QeI scope.names _ cl (λx y c h1 h2=>I.ok.inj x y c (hc1 x c h1) (hc1 y c h2)) (λx c e=>ZaA (cellLt x c e)),λx hx=>?_,λx c e1 e2=>?_,I.ok.hd,I.ok.frames,.inl rfl,λb hb=>⟨nold b hb,λx c e=>?_⟩,
  I.bs,Zr I.ok.bsz I.sz,λb o e hb=>?_,λb hb hs=>?_,I.stack,I.QfI⟩,rfl,I.bare,Un.kept hk,⟨_,hns,λj x v h1 h2 h3=>?_⟩,λx c e=>?_,I.hok.fresh (Zj _),λx c e=>?_,λp hp=>absurd (show p∈([]:List (Addr×Obj))from hp) (by simp),I.hok.kept hk,cap.1⟩
 ·obtain⟨k,hm,hk'⟩:=Qa0 hx
  rcases hk' with rfl | rfl
  ·exact QbM scope.names _ cl x (hc2 _ hm rfl)
  ·exact Qfg scope.names _ cl x hm
 ·have e1:decide (scope.names.lookup x=some .cell)=true:=e1
  have:=QeO scope.names _ cl x c (ZG (of_decide_eq_true e1)) e2
  exact Zr (ZaB _) this
 ·rcases look x c e with e | ⟨e,_⟩
  ·exact(hf b hb).2.2.2.2.1 x c (hc1 x c e)
  ·intro z
   rw[z]at e
   exact absurd (Zm (hfl b hb) (Zr (ZaB _) e)) (ZF _)
 ·rcases(hf b hb).2.2.2.1 with z | z
  ·exact I.ok.noex b o e z
  ·exact absurd (Zm (Zq e) (Zr I.ok.bsz z)) (ZF _)
 ·rcases Zu.mp (I.Qdb b hs)with e | z
  ·exact(hf b hb).2.1 e
  ·exact(hf b hb).2.2.1 z
 ·obtain⟨hl,i,e1,e2,e3⟩:=cap.2 j x v h1 h2
  obtain⟨m,hn,look'⟩:=I.loc
  obtain⟨u,r,l⟩:=look' i x v e1 e2 (e3.elim (λz=> .inr (.inl z)) λz=> .inr (.inr z))
  refine⟨u,r,.inr ⟨Qaa hl,?_⟩⟩
  rcases l with⟨k,_⟩ | ⟨_,c,ec,hcell⟩
  ·rcases e3 with z | z<;>(rw[k]at z;cases z)
  ·obtain⟨c',ec'⟩:=QbM scope.names (s3.heap.objs.size+1) cl x (hc2 (x,.free) (ZG hl) rfl)
   rcases look x c' ec' with q | ⟨_,q⟩
   ·have:=hc1 x c' q
    rw[ec]at this;cases this
    exact⟨c,ec',cellNew c _ hcell⟩
   ·have:=S.own _ q rfl
    rw[hl]at this
    cases this
 ·rcases look x c e with q | ⟨q,_⟩
  ·obtain⟨v,q⟩:=cellOld x c q
   exact⟨v,cellNew c v q⟩
  ·exact⟨none,hown x c e q⟩
 ·rcases look x c e with q | ⟨q,_⟩
  ·exact I.freeC x c (hc1 x c q)
  ·exact I.hok.fresh (by omega)
theorem Qhw(J:Nat->Shared->Prop)
  (turn:∀n s,J n s->wpAny (model prog w) A (pyNext it) (λr s1=>match r with
   | none=>R (.ok .next) s1
   | some v=>wpAny (model prog w) A (letOwnedTupleGo tg it v) (λ_ s2=>wpAny (model prog w) A (assign tg env v) (λ_ s3=>
     wpAny (model prog w) A (forIn ifs true λc r=>if r=true then do let ok ← isTrue c env (eval c env);pure (ForInStep.yield ok)else pure (ForInStep.yield r)) (λok s4=>
      if ok=true then wpAny (model prog w) A (eval elt env) (λx s5=>wpAny (model prog w) A (call (.builtin "list.append") [acc,x]) (λ_ s6=>∃m,m<n/\J m s6) (λ_ _=>False) s5) (λ_ _=>False) s4
      else ∃m,m<n/\J m s4) (λ_ _=>False) s3) (λ_ _=>False) s2) (λ_ _=>False) s1) (λ_ _=>False) s)
  (n:Nat) (h:J n s0):codeAny (model prog w) A (.compLoop (.ListComp elt [⟨tg,iter,ifs,0⟩] scope pos) 0 it acc env) R s0:=by
 have up:∀{α:Type}{t:Sem α}{Q:α->Shared->Prop}{E:Value->Shared->Prop}{s:Shared},wpAny (model prog w) A t Q (λ_ _=>False) s->wpAny (model prog w) A t Q E s:=λh=>wpAny_mono h (λ_ _ q=>q) λ_ _ f=>f.elim
 refine codeAny_loop (by rfl) J (λk sk hk=>?_) n h
 show wpAny (model prog w) A ((compTurn (.ListComp elt [⟨tg,iter,ifs,0⟩] scope pos) 0 it acc env).onRaise (λx=>do noteFrame x env;theTreesLotGoes x)) _ _ sk
 refine wpAny_noted (up ?_)
 rw[compTurn_list]
 refine wpAny_bind (wpAny_standAt (wpAny_bind (thn (turn k sk hk) λr s1 h1=>?_)))
 cases r with
 | none=>exact wpAny_pure h1
 | some v=>
  refine wpAny_bind (thn h1 λ_ s2 h2=>wpAny_bind (thn h2 λ_ s3 h3=>wpAny_bind (thn h3 λok s4 h4=>?_)))
  cases ok with
  | false=>exact wpAny_pure ⟨rfl,h4⟩
  | true=>exact wpAny_bind (wpAny_bind (thn h4 λx s5 h5=>wpAny_bind (thn h5 λ_ s6 h6=>wpAny_pure (wpAny_pure ⟨rfl,h6⟩))))
theorem Qio{it D C:Addr}{fp:List Addr}{tn:Nat->Heap->Prop}{J:It}{cl:List (Str×Addr)}{s3 s4:Shared}{H3:Hp}{σc:St}{g:TG}{tc:TT}{te:TE}{Q:Hp->Prop}(hcalm:X.calm=true)
  (T:Turn X.prog X.w X.K tg J fp it tn)
  (hg:PG (cxc X N' scope cl C fp s3 H3) tg g) (ht:PTs (cxc X N' scope cl C fp s3 H3) ifs tc) (he:PE (cxc X N' scope cl C fp s3 H3) elt te)
  (I:Inv (cxc X N' scope cl C fp s3 H3) [] σc H3 s4) (st:tn 0 s4.heap) (ff:∀b∈fp,QaF (cxc X N' scope cl C fp s3 H3) [] H3 b)
  (W:Nat->Nat->List V->Hp->Prop) (hw:∃m,W 0 m [] H3)
  (turn:∀i m acc H2,W i m acc H2->(J.stop i H2/\Q H2)∨
   (J.go i H2/\∀x H5,J.yld i H2 x H5->g x σc H5 λσ2 H6=>(∀(j:Nat) v,σc[j]? =some (some v)->σ2[j]? =some (some v))/\tc σ2 H6 λb H7=>if b=true then
    te σ2 H7 λy H8=>H8 D=some (.lst acc)/\acc.length<sizeLine/\∃m',m'<m/\W (i+1) m' (acc++[y]) (upd H8 D (.lst (acc++[y])))
    else ∃m',m'<m/\W (i+1) m' acc H7))
  {R:Result->Shared->Prop}(hR:∀H' s',Inv (cxc X N' scope cl C fp s3 H3) [] σc H' s'->Q H'->R (.ok .next) s'):
  codeAny (model X.prog X.w) X.A (.compStart (.ListComp elt [⟨tg,iter,ifs,0⟩] scope pos) 0 (.ref it) (.ref D) (compEnvC scope cl C X.env)) R s4:=by
 obtain⟨m0,w0⟩:=hw
 have stat:∀{H':Hp},(∀b∈fp,H' b=none)->∀b∈fp,QaF (cxc X N' scope cl C fp s3 H3) [] H' b:=λhn b hb=>⟨hn b hb,(ff b hb).2⟩
 have loop:codeAny (model X.prog X.w) X.A (.compLoop (.ListComp elt [⟨tg,iter,ifs,0⟩] scope pos) 0 (.ref it) (.ref D) (compEnvC scope cl C X.env)) R s4:=by
  refine Qhw (λn s'=>∃i acc H',Inv (cxc X N' scope cl C fp s3 H3) [] σc H' s'/\tn i s'.heap/\(∀b∈fp,H' b=none)/\W i n acc H') ?_ m0 ⟨0,[],H3,I,st,λb hb=>(ff b hb).1,w0⟩
  rintro n s5 ⟨i,acc,H5,I5,st5,fr5,w5⟩
  rcases turn i n acc H5 w5 with⟨stop,q⟩ | ⟨go,step⟩
  ·refine thn (T.done (cxc X N' scope cl C fp s3 H3) rfl rfl rfl hcalm i [] s5 σc H5 _ I5 (stat fr5) st5 stop) λr s6 hpt=>?_
   obtain⟨hr,I6⟩:=hpt
   subst hr
   exact hR H5 s6 I6 q
  ·refine thn (T.item (cxc X N' scope cl C fp s3 H3) rfl rfl rfl hcalm i [] s5 σc H5 _ I5 (stat fr5) st5 go) λr s6 hpt=>?_
   obtain⟨u,hr,h6⟩:=hpt
   subst hr
   refine thn h6 λ_ s7 hpt=>?_
   obtain⟨x,H7,I7,r7,y7,st7,fr7⟩:=hpt
   have I7':=I7.pinned (stat fr7) (T.obj _ _ st7)
   refine thn (hg _ s7 σc H7 x u _ I7' r7 (step x H7 y7)) λ_ s8=>exJ λσ8 H8 I8 k8 q8=>?_
   refine thn (ht _ s8 σ8 H8 _ I8 q8) λok s9 hpt=>?_
   obtain⟨H9,I9,q9⟩:=hpt
   have again:∀{H':Hp}{s':Shared}{acc':List V},Inv (cxc X N' scope cl C fp s3 H3) ([]++Qcx fp s7.heap) σ8 H' s'->(∃m',m'<n/\W (i+1) m' acc' H')→
     ∃m,m<n/\∃i acc H',Inv (cxc X N' scope cl C fp s3 H3) [] σc H' s'/\tn i s'.heap/\(∀b∈fp,H' b=none)/\W i m acc H':=λ{H' s' acc'} I' ⟨m',hm,w'⟩=>by
    have pin:∀b∈fp,∀o,s7.heap.get? b=some o->s'.heap.get? b=some o/\H' b=none:=λb hb o e=>by
     have z:=I'.pin (b,o) (Zb _ (Zb _ (Qb4 hb e)))
     exact⟨z.1,z.2.1⟩
    refine⟨m',hm,i+1,acc',H',?_,T.keep _ _ _ st7 λb hb o e=>(pin b hb o e).1,λb hb=>?_,w'⟩
    ·exact I'.QbX.weak (I.len.trans I8.len.symm) k8
    ·obtain⟨o,e,_⟩:=T.obj _ _ st7 b hb
     exact(pin b hb o e).2
   cases ok with
   | false=>
    rw[if_neg ZT]at q9 ⊢
    exact again I9 q9
   | true=>
    rw[if_pos rfl]at q9 ⊢
    refine thn (he _ s9 σ8 H9 _ I9 q9) λyv s10 hpt=>?_
    obtain⟨y,H10,I10,r10,e10,l10,q10⟩:=hpt
    refine thn (Qek _ s10 σ8 H10 (.ref D) [y] (.ref D) [yv] (λv H11=>H11=upd H10 D (.lst (acc++[y]))) I10 rfl (.cons r10 .nil) ⟨D,acc,y,rfl,rfl,e10,l10,rfl⟩) λ_ s11 hpt=>?_
    obtain⟨_,H11,I11,_,e11⟩:=hpt
    subst e11
    exact again I11 q10
 exact codeAny_compStart_list loop (T.self _ 0 _ _ _ st loop)
theorem Qfe{wi:TI}{g:TG}{tc:TT}{te:TE}{cp:Pos}{use:Option (Value->Sem Unit)}{pins:List (Addr×Obj)}{s:Shared}{σ:St}{H:Hp}{QV:Value->Shared->Prop}{Q:VK}(hcalm:X.calm=true)(S:QaX X N' scope)(hi:PI X tg iter wi)
  (hin:∀cl C fp s3 H3,PG (cxc X N' scope cl C fp s3 H3) tg g/\PTs (cxc X N' scope cl C fp s3 H3) ifs tc/\PE (cxc X N' scope cl C fp s3 H3) elt te)
  (hs:∀x,foldedSetIterable iter X.env x=pure x) (I:Inv X pins σ H s) (h:QeE wi (Qdk X N' scope) g tc te σ H Q)
  (fin:∀(D C:Addr) (H':Hp) (s':Shared),Inv X pins σ H' s'->H' C=none->C≠X.env.locals->X.s₀.heap.objs.size<=C->(∀x c,X.env.cells.lookup x=some c->c≠C)->(∀p∈X.pn++pins,p.1≠C)->(∃m,s'.heap.Ns C m)->Q (.ref D) H'→
   compPost (model X.prog X.w) X.A X.xe use QV (.ref D) C (.ok .next) s'):
  wpAny (model X.prog X.w) X.A (comprehension (.ListComp elt [⟨tg,iter,ifs,0⟩] scope pos) scope X.env cp (newList []) false (eval iter X.env) use) QV X.xe s:=by
 obtain⟨cl,hcl,hc1,hc2⟩:=Qj8 λy hy hf=>I.ok.has y.1 (S.free y hy hf)
 refine wpAny_comprehension_free rfl hs hcl S.kind S.loc ?_
 refine thn (hi pins s σ H _ I h) λv s1 h1=>thn h1 λitv s2 h2=>?_
 obtain⟨it,fp,tn,J,H2,e,I2,T,st2,f2,σc,cap,hw⟩:=h2
 subst e
 have hD0:H2 s2.heap.objs.size=none:=I2.hok.fresh (Zj _)
 obtain⟨W,hW0,turn⟩:=hw _ hD0
 have fpl:∀b∈fp,b<s2.heap.objs.size:=λb hb=>let ⟨o,e,_⟩:=T.obj _ _ st2 b hb;Zq e
 have hlist:∀D:Addr,D=s2.heap.objs.size->∃x,x=D:=λD _=>⟨D,rfl⟩
 refine wpAny_newObj_type ?_
 have I3:Inv X pins σ (upd H2 s2.heap.objs.size (.lst [])) {s2 with heap:=s2.heap.push {cls:= .type "list",dict:=none,data:= .seq ([]:List Value).toArray}}:=
  I2.laid (t':=s2.toks) (λb o e=>Zn _ e) (Zj _) ⟨ZJ _,[],0,.nil,Zw _ rfl⟩
 generalize hs3:({s2 with heap:=s2.heap.push {cls:= .type "list",dict:=none,data:= .seq ([]:List Value).toArray}}:Shared)=s3 at I3
 have hs3':s3.heap=s2.heap.push {cls:= .type "list",dict:=none,data:= .seq ([]:List Value).toArray}:=by rw[← hs3]
 have sz3:s3.heap.objs.size=s2.heap.objs.size+1:=by rw[hs3',Zaj]
 have old3:∀b o,s2.heap.get? b=some o->s3.heap.get? b=some o:=λb o e=>by rw[hs3'];exact Zn _ e
 have f3:∀b∈fp,QaF X pins (upd H2 s2.heap.objs.size (.lst [])) b:=λb hb=>⟨by rw[Ql (ZE (fpl b hb))];exact(f2 b hb).1,(f2 b hb).2⟩
 have fpl3:∀b∈fp,b<s3.heap.objs.size:=λb hb=>by rw[sz3];exact ZaA (fpl b hb)
 refine Qgh (λh4 hns4' keep4 hown4=>?_)
 have I4:=Qip (tk:=s3.toks) S I3 f3 fpl3 hc1 hc2 cap hns4' keep4 hown4
 have hout:∀H' s',Inv (cxc X N' scope (cellsFrom (s3.heap.objs.size+1) scope.names cl) s3.heap.objs.size fp s3 (upd H2 s2.heap.objs.size (.lst []))) [] σc H' s'->Inv X pins σ H' s':=λH' s' J'=>
  I3.Qmv J'.os J'.base J'.hok J'.bare λb hb=>⟨(f3 b hb).2.2.2.1,(f3 b hb).2.1,(f3 b hb).2.2.2.2.1,(f3 b hb).2.2.2.2.2⟩
 obtain⟨hg,ht,he⟩:=hin (cellsFrom (s3.heap.objs.size+1) scope.names cl) s3.heap.objs.size fp s3 (upd H2 s2.heap.objs.size (.lst []))
 have fc:∀b∈fp,QaF (cxc X N' scope (cellsFrom (s3.heap.objs.size+1) scope.names cl) s3.heap.objs.size fp s3 (upd H2 s2.heap.objs.size (.lst []))) [] (upd H2 s2.heap.objs.size (.lst [])) b:=λb hb=>
  ⟨(f3 b hb).1,ZE (fpl3 b hb),λhs'=>(Zu.mp (I3.Qdb b hs')).elim (f3 b hb).2.1 (f3 b hb).2.2.1,.inl hb,λx c e=>(by
   rcases QbA scope.names _ cl x c e with e | ⟨e,_⟩
   ·exact(f3 b hb).2.2.2.2.1 x c (hc1 x c e)
   ·intro z
    rw[z]at e
    exact absurd (Zm (fpl3 b hb) (Zr (ZaB _) e)) (ZF _)),λp hp=>absurd (show p∈([]:List (Addr×Obj))from hp) (by simp)⟩
 have hC1:s3.heap.objs.size≠X.env.locals:=Ne.symm (ZE I3.lt)
 refine Qio (W:=W) hcalm T hg ht he I4 (T.keep _ _ _ st2 λb hb o e=>keep4 b o (old3 b o e)) fc hW0 turn λH' s' J' q=>?_
 have O:=hout H' s' J'
 refine fin _ _ H' s' O J'.free hC1 (Zr I3.sz (Zj _)) (λx c e z=>?_) (λp hp z=>?_) (let ⟨m,hn,_⟩:=J'.loc;⟨m,hn⟩) q
 ·obtain⟨v,o,ho,_⟩:=I3.cell x c e
  exact absurd (Zq ho) (by rw[z];exact ZF _)
 ·exact absurd (Zq (I3.pin p hp).1) (by rw[z];exact ZF _)
theorem Inv.Qjd(I:Inv X pins σ H s)(hs:Heap.SameBut C s.heap h')(hn:H C=none)(hL:C≠X.env.locals)(h1:X.s₀.heap.objs.size<=C)
  (h2:∀x c,X.env.cells.lookup x=some c->c≠C) (h3:∀p∈X.pn++pins,p.1≠C):Inv X pins σ H {s with heap:=h'}:=
 I.turned (t':=s.toks) (λb o hb e=>(hs.2 b hb).trans e) hn hL (.inr h1) h2 h3
theorem QfD(hcalm:X.calm=true)(S:QaX X N' scope)(hi:PI X tg iter wi)
  (hin:∀cl C fp s3 H3,PG (cxc X N' scope cl C fp s3 H3) tg g/\PTs (cxc X N' scope cl C fp s3 H3) ifs tc/\PE (cxc X N' scope cl C fp s3 H3) elt te)
  (hs:∀x,foldedSetIterable iter X.env x=pure x:=by intro _;rfl):PE X (.ListComp elt [⟨tg,iter,ifs,0⟩] scope pos) (QeE wi (Qdk X N' scope) g tc te):=by
 intro pins s σ H Q I h
 rw[eval_ListComp]
 refine Qfe hcalm S hi hin hs I h λD C H' s' O h1 h2 h3 h4 h5 hpt q=>?_
 obtain⟨m,hm⟩:=hpt
 exact⟨m,hm,λh' hs'=>⟨.ref D,H',O.Qjd hs' h1 h2 h3 h4 h5,rfl,q⟩⟩
theorem Qkb(hN:X.N.Nodup)(hx1:X.N[i]? =some x)(hx:Loc X.env.scope x)(hf:X.fn x=true∨X.env.scope.names.lookup x=some .local)(hcalm:X.calm=true)(S:QaX X N' scope)(hi:PI X tg iter wi)
  (hin:∀cl C fp s3 H3,PG (cxc X N' scope cl C fp s3 H3) tg g/\PTs (cxc X N' scope cl C fp s3 H3) ifs tc/\PE (cxc X N' scope cl C fp s3 H3) elt te)
  (hs:∀x,foldedSetIterable iter X.env x=pure x:=by intro _;rfl):
  PS X (.Assign [.Name x pos'] (.ListComp elt [⟨tg,iter,ifs,0⟩] scope pos) spos) (QeP (QeE wi (Qdk X N' scope) g tc te) (QcH i)):=by
 have hb:∃b,swapsWith (.ListComp elt [⟨tg,iter,ifs,0⟩] scope pos) (some (.Name x pos')) spos.line X.env=pure b:=⟨_,rfl⟩
 obtain⟨b,hb⟩:=hb
 cases b with
 | false=>exact Qfr hN hx1 hx (QfD hcalm S hi hin hs) hb hf
 | true=>
  intro pins s σ H D I h
  rw[exec_Assign_Name_used _ _ _ _ hb]
  refine wpAny_bind (wpAny_standAt (wpAny_bind ?_))
  show wpAny _ X.A (do let _ ← comprehension (.ListComp elt [⟨tg,iter,ifs,0⟩] scope pos) scope X.env _ (newList []) false (eval iter X.env) (some (assign (.Name x pos') X.env))) _ _ s
  refine wpAny_bind (thn (Qfe hcalm S hi hin hs I h λDl C H' s' O h1 h2 h3 h4 h5 ⟨m,hm⟩ q=>?_) λ_ s' hq=>wpAny_pure (wpAny_pure hq))
  refine wpAny_assign_Name (Qd7 O hN hx1 hx (v:= .ref Dl) rfl (λs2 I2 hsb=>?_) hf)
  obtain⟨a,sb,ha⟩:=hsb
  have haC:C≠a:=by
   rcases ha with rfl | ha
   ·exact h2
   ·exact Ne.symm (h4 _ _ ha)
  exact⟨m,hm.sameBut sb haC,λh' hs'=>⟨_,H',I2.Qjd hs' h1 h2 h3 h4 h5,q⟩⟩
end
end L2
namespace L2
open PySem PySem.Spec PyProof.Rows
section
theorem Inv.Qmg{t':Nat}{ch:List Addr}{T:Addr}{ts:List V}(I:Inv X pins σ H s)(hf:∀b∈ch,QaF X pins H b)(k:∀b o,b∉ch->s.heap.get? b=some o->h'.get? b=some o)(hp:∀b∈ch,∃o,h'.get? b=some o)
  (hT:s.heap.objs.size<=T) (hnew:ts.length<=sizeLine/\∃its:List Value,Qe ts its/\IsTup h' T its.toArray):Inv X pins σ (upd H T (.tup ts)) {s with heap:=h',toks:=t'}:=by
 have hn:H T=none:=I.hok.fresh hT
 have neT:∀b u,H b=some u->b≠T:=λb u e=>QS e hn
 have nch:∀b u,H b=some u->b∉ch:=λb u e hb=>by rw[(hf b hb).1]at e;cases e
 have ltT:∀b o,s.heap.get? b=some o->b≠T:=λb o e=>ZE (Zm (Zq e) hT)
 refine I.step (g':=s.gens) (d':=s.drawn) (ch:=ch) (λb hb=>?_) (λb o _ _ hc e _=>k b o hc e) (λb o _ _ hc e _=>⟨o.slots,k b o hc e⟩) (λb o _ e n=>by rw[Ql (ltT b o e)];exact n)
  (λb o hc e=>⟨o,k b o hc e⟩) (λb xs e=>by rw[Ql (neT b _ e)];exact e) (λb o u e=>by rw[Ql (neT b _ e)];exact e) (λb ps e=>⟨#[],by rw[Ql (neT b _ e),e];simp⟩) (λm hm=>?_) (λb u e=>?_) I.bare
 ·obtain⟨f0,f1,f2,f3,f4,f5⟩:=hf b hb
  exact⟨f3,f1,f4,f5⟩
 ·obtain⟨o,es,ep,ho,r⟩:=hm
  exact⟨o,es,ep,k _ o (λz=>(hf _ z).2.1 rfl) ho,r⟩
 ·by_cases hb:b=T
  ·subst hb
   rw[QJ]at e
   cases e
   exact hnew
  ·rw[Ql hb]at e
   refine(I.hok b u e).Qci (λc v hc q=>k c v ?_ q) (λc q=>by rw[Ql (neT c _ q)];exact q) λc xs q=>by rw[Ql (neT c _ q)];exact q
   rcases hc with z | z
   ·rw[z];exact nch b u e
   ·exact nch c _ z
theorem Inv.turns{t':Nat}{ch:List Addr}(I:Inv X pins σ H s)(hf:∀b∈ch,QaF X pins H b)(k:∀b o,b∉ch->s.heap.get? b=some o->h'.get? b=some o):Inv X pins σ H {s with heap:=h',toks:=t'}:=by
 have nch:∀b u,H b=some u->b∉ch:=λb u e hb=>by rw[(hf b hb).1]at e;cases e
 refine I.step (g':=s.gens) (d':=s.drawn) (ch:=ch) (λb hb=>?_) (λb o _ _ hc e _=>k b o hc e) (λb o _ _ hc e _=>⟨o.slots,k b o hc e⟩) (λb o _ e n=>n)
  (λb o hc e=>⟨o,k b o hc e⟩) (λb xs e=>e) (λb o u e=>e) (λb ps e=>⟨#[],by rw[e];simp⟩) (λm hm=>?_) (λb u e=>?_) I.bare
 ·obtain⟨f0,f1,f2,f3,f4,f5⟩:=hf b hb
  exact⟨f3,f1,f4,f5⟩
 ·obtain⟨o,es,ep,ho,r⟩:=hm
  exact⟨o,es,ep,k _ o (λz=>(hf _ z).2.1 rfl) ho,r⟩
 ·refine(I.hok b u e).Qci (λc v hc q=>k c v ?_ q) (λc q=>q) λc xs q=>q
  rcases hc with z | z
  ·rw[z];exact nch b u e
  ·exact nch c _ z
end
theorem mm0{a:Addr}{l:List Addr}:a∈a::l:= .head _
theorem mm1{a b:Addr}{l:List Addr}:a∈b::a::l:= .tail _ mm0
theorem mm2{a b c:Addr}{l:List Addr}:a∈b::c::a::l:= .tail _ mm1
theorem mm3{a b c d:Addr}{l:List Addr}:a∈b::c::d::a::l:= .tail _ mm2
theorem mm4{a b c d e:Addr}{l:List Addr}:a∈b::c::d::e::a::l:= .tail _ mm3
theorem nmm{a b:Addr}{l:List Addr}(hb:b∉l)(ha:a∈l):b≠a:=λe=>hb (e▸ha)
theorem fa1{p:Addr->Prop}{a:Addr}{l:List Addr}(h:p a)(t:∀x∈l,p x):∀x∈a::l,p x:=List.forall_mem_cons.2 ⟨h,t⟩
def NL(h:Heap)(b:Addr):Prop:=∃o,h.get? b=some o/\o.cls≠ .type "list" /\∀v,o.data≠ .cell v
theorem NL.it{h:Heap}(q:h.IsListIter b l k):NL h b:=by
 obtain⟨o,ho,hc,hd⟩:=q
 exact⟨o,ho,by rw[hc];simp,λv z=>by rw[hd]at z;cases z⟩
theorem NL.zip(hz:IsZip h z T1 T2 x):NL h z:=⟨_,hz,by simp,λv z=>by cases z⟩
theorem NL.tup{h:Heap}(q:h.get? b=some {cls:= .type "tuple",data:= .seq a}):NL h b:=⟨_,q,by simp,λv z=>by cases z⟩
theorem NL.obj(n:NL h b):∃o,h.get? b=some o/\∀v,o.data≠ .cell v:=let ⟨o,e,_,v⟩:=n;⟨o,e,v⟩
theorem NL.ex(n:NL h b):∃o,h.get? b=some o:=let ⟨o,e,_⟩:=n;⟨o,e⟩
theorem NL.lt(n:NL h b):b<h.objs.size:=let ⟨_,e⟩:=n.ex;Zq e
theorem NL.apart{X:Cx}{H:Hp}{s:Shared}(n:NL s.heap b)(I:Inv X pins σ H s)(hn:H b=none)(hq:SqL X.K H l ys):l≠b:=λe=>by
 subst e
 rcases hq with(hq | ⟨_,hq⟩) | ⟨o',its,k,hk,hc',_⟩
 ·rw[hn]at hq;cases hq
 ·rw[hn]at hq;cases hq
 ·obtain⟨o,ho,hc,_⟩:=n
  rw[I.kIn l o' hk]at ho
  exact hc (Option.some.inj ho▸hc')
section
end
noncomputable def Itz(K:PySem.W.Frag)(a b:Addr):It:=
 ⟨λi H=>∃xs ys x y,SqL K H a xs/\SqL K H b ys/\xs[i]? =some x/\ys[i]? =some y,λi H v H'=>∃p x y,v= .ref p/\H p=none/\H'=upd H p (.tup [x,y])/\(∀xs,SqL K H a xs->xs[i]? =some x)/\∀ys,SqL K H b ys->ys[i]? =some y,
  λi H=>∃xs ys,SqL K H a xs/\SqL K H b ys/\(xs.length<=i∨ys.length<=i)⟩
structure QfQ (z TI TO i1 i2:Addr):Prop where
 a:TI≠z
 b:TO≠z
 c:i1≠z
 d:i2≠z
 e:TI≠TO
 f:TI≠i1
 g:TI≠i2
 h:TO≠i1
 i:TO≠i2
 j:i1≠i2
theorem Qdf{h:Heap}(hz:IsZip h z T1 T2 x)(hA:IsPair h T1 a b)(hB:IsPair h T2 c d)(h1:h.IsListIter i1 l1 k)(h2:h.IsListIter i2 l2 k):∀b∈[z,T1,T2,i1,i2],NL h b:=
 fa1 (.zip hz) (fa1 (.tup hA) (fa1 (.tup hB) (fa1 (.it h1) (fa1 (.it h2) λ_ h=>nomatch h))))
theorem QhW{X:Cx}{s:Shared}(D:QfQ z T1 T2 i1 i2)(I:Inv X pins σ H s)(hf:∀b∈[z,T1,T2,i1,i2],QaF X pins H b)(O:∀b∈[z,T1,T2,i1,i2],NL s.heap b)(hq1:SqL X.K H l1 xs)(hq2:SqL X.K H l2 ys):ZipApart z T1 T2 i1 i2 l1 l2:=by
 have A1:=λb hb=>(O b hb).apart I (hf b hb).1 hq1
 have A2:=λb hb=>(O b hb).apart I (hf b hb).1 hq2
 exact⟨D.a,D.b,D.c,D.d,D.e,D.f,D.g,D.h,D.i,D.j,A1 z mm0,A1 T2 mm2,A1 i1 mm3,A1 i2 mm4,A2 z mm0,A2 T2 mm2,A2 i1 mm3,A2 i2 mm4⟩
theorem Qit{P:Program}{w:World}{K:PySem.W.Frag}{es:List Expr}{tk:Nat}{tpos:Pos}(l1 l2 z TI TO i1 i2:Addr)(D:QfQ z TI TO i1 i2):
  Turn P w K (.Tuple es tk tpos) (Itz K l1 l2) [z,TI,TO,i1,i2] z (λi h=>IsZip h z TI TO .none/\IsPair h TI (.ref i1) (.ref i2)/\(∃a b,IsPair h TO a b)/\h.IsListIter i1 l1 i/\h.IsListIter i2 l2 i) where
 mem:=mm0
 obj:=λi h st b hb=>by
  obtain⟨hz,hTI,⟨p,q,hTO⟩,h1,h2⟩:=st
  exact(Qdf hz hTI hTO h1 h2 b hb).obj
 keep:=λi h h' st k=>by
  obtain⟨hz,hTI,⟨p,q,hTO⟩,h1,h2⟩:=st
  exact⟨k z mm0 _ hz,k TI mm1 _ hTI,⟨p,q,k TO mm2 _ hTO⟩,h1.at (k i1 mm3),h2.at (k i2 mm4)⟩
 item:=by
  intro X hP hw hK hc i pins s σ H E I hf st hg
  subst hP hw hK
  obtain⟨hz,hTI,⟨a0,b0,hTO⟩,h1,h2⟩:=st
  obtain⟨xs,ys,x,y,hq1,hq2,hx,hy⟩:=hg
  obtain⟨its,rv,p,hzz⟩:=I.list hq1
  obtain⟨its2,rv2,p2,hzz2⟩:=I.list hq2
  obtain⟨u,hu,ru⟩:=rv.get hx
  obtain⟨u2,hu2,ru2⟩:=rv2.get hy
  have O:=Qdf hz hTI hTO h1 h2
  refine wpAny_pyNext_zip_item (QhW D I hf O hq1 hq2) hz hTI hTO h1 h2 p.isList p2.isList (x:=u) (y:=u2) (by simpa using hu) (by simpa using hu2) λh3 z3 TO3 a3 b3 T3 sz3 k3=>?_
  refine⟨.ref s.heap.objs.size,rfl,wpAny_letOwnedTupleGo_zip z3 λh4 z4 hs4=>?_⟩
  replace hs4:Heap.SameBut z h3 h4:=hs4
  have kk:∀b o,b∉[z,TI,TO,i1,i2]->s.heap.get? b=some o->h4.get? b=some o:=λb o hb q=>
   hs4.extBut b o (nmm hb mm0) (k3 b o (nmm hb mm0) (nmm hb mm2) (nmm hb mm3) (nmm hb mm4) q)
  have TI4:IsPair h4 TI (.ref i1) (.ref i2):=hs4.extBut _ _ D.a (k3 _ _ D.a D.e D.f D.g hTI)
  have TO4:IsPair h4 TO u u2:=hs4.extBut _ _ D.b TO3
  have a4:h4.IsListIter i1 l1 (i+1):=a3.extBut hs4.extBut D.c
  have b4:h4.IsListIter i2 l2 (i+1):=b3.extBut hs4.extBut D.d
  exact⟨.ref s.heap.objs.size,upd H s.heap.objs.size (.tup [x,y]),I.Qmg (t':=s.toks) hf kk (λb hb=>(Qdf z4 TI4 TO4 a4 b4 b hb).ex) (Zj _) ⟨by show 2<=sizeLine;decide,_,.cons ru (.cons ru2 .nil),_,(hs4.2 _ (Nat.ne_of_gt (O z mm0).lt)).trans T3,rfl,_,rfl⟩,rfl,
   ⟨_,x,y,rfl,I.hok.fresh (Zj _),rfl,λzs hy'=>by rw[I.Qc0 hy' hq1];exact hx,λzs hy'=>by rw[I.Qc0 hy' hq2];exact hy⟩,⟨z4,TI4,⟨_,_,TO4⟩,a4,b4⟩,λb hb=>by rw[Ql (ZE (O b hb).lt)];exact(hf b hb).1⟩
 done:=by
  intro X hP hw hK hc i pins s σ H E I hf st hg
  subst hP hw hK
  obtain⟨hz,hTI,⟨a0,b0,hTO⟩,h1,h2⟩:=st
  obtain⟨xs,ys,hq1,hq2,hx⟩:=hg
  obtain⟨its,rv,p,hzz⟩:=I.list hq1
  obtain⟨its2,rv2,p2,hzz2⟩:=I.list hq2
  have hl:=rv.length
  have hl2:=rv2.length
  refine wpAny_pyNext_zip_end (I.ok.hd hc) (QhW D I hf (Qdf hz hTI hTO h1 h2) hq1 hq2) hz hTI hTO h1 h2 p.isList p2.isList (by rcases hx with hx | hx;(left;simp;omega);(right;simp;omega)) λh3 k3=>⟨rfl,?_⟩
  exact I.turns (t':=s.toks) hf λb o hb q=>k3 b o (nmm hb mm0) (nmm hb mm2) (nmm hb mm3) (nmm hb mm4) q
 self:=λ_ _ _ _ _ st h=>wpAny_pyIter_zip st.1 h
section
noncomputable def QnE(K:PySem.W.Frag)(ta:TA):TI:=λσ H R=>ta σ H λvs H1=>∃a b,vs=[.ref a,.ref b]/\(∃xs,SqL K H1 a xs)/\(∃ys,SqL K H1 b ys)/\R (Itz K a b) H1
theorem Qll{a b:Expr}{ta:TA}{p pos:Pos}{es:List Expr}{tk:Nat}{tpos:Pos}(hg:Gl X "zip")(hm:X.mg "zip" =none)(ha:PA X [a,b] ta)(hs:starEach [a,b] X.env=[(false,eval a X.env),(false,eval b X.env)])(hs2:starEach [b] X.env=[(false,eval b X.env)]):
  PI X (.Tuple es tk tpos) (.Call (.Name "zip" p) [a,b] [] pos) (QnE X.K ta):=by
 intro pins s σ H R I h
 refine Call_ (Qct I hg hm PyProof.Rows.boot_zip (Zae (thn (ha pos pins s σ H _ I h) λus s1 ⟨vs,H1,I1,r1,q1⟩=>?_) (by rw[hs,hs2]) (by rw[hs2];rfl)))
 obtain⟨l,l2,e,⟨xs,hq⟩,⟨ys,hq2⟩,q⟩:=q1
 subst e
 obtain⟨u,u2,rfl,ru,ru2⟩:=vals2 r1
 cases ru
 cases ru2
 obtain⟨its,rv,pl,hz⟩:=I1.list hq
 obtain⟨its2,rv2,pl2,hz2⟩:=I1.list hq2
 refine call_zip_2 pl.isList pl2.isList λh2 hz hTI hTO h1 h2' hsz hk2=>?_
 have I2:Inv X pins σ H1 {s1 with heap:=h2}:=I1.kept (t':=s1.toks) hk2
 refine wpAny_pyIter_zip hz ⟨_,[s1.heap.objs.size+4,s1.heap.objs.size+2,s1.heap.objs.size+3,s1.heap.objs.size,s1.heap.objs.size+1],_,_,H1,rfl,I2,Qit l l2 _ _ _ _ _ ⟨?_,?_,?_,?_,?_,?_,?_,?_,?_,?_⟩,⟨hz,hTI,⟨_,_,hTO⟩,h1,h2'⟩,λb hb=>?_,q⟩
 iterate 10 (exact(by intro e;first | (have e':(s1.heap.objs.size:Nat)+_=_:=e;omega) | (have e':(s1.heap.objs.size:Nat)=_:=e;omega)))
 have hle:s1.heap.objs.size<=b:=by
  simp only[Zu,List.not_mem_nil,or_false]at hb
  rcases hb with rfl | rfl | rfl | rfl | rfl<;>first | exact Zj _ | exact Nat.le_add_right _ _
 exact I1.Qe3 hle (I1.hok.fresh hle)
end
end L2
namespace L2
open PySem PySem.Spec
section
variable {prog:Program}{w:World}{A:Around}{E:Value->Shared->Prop}{s:Shared}
structure Six (z TI TO i1 i2 i3:Addr):Prop where
 TIz:TI≠z
 TOz:TO≠z
 i1z:i1≠z
 i2z:i2≠z
 i3z:i3≠z
 TITO:TI≠TO
 TIi1:TI≠i1
 TIi2:TI≠i2
 TIi3:TI≠i3
 TOi1:TO≠i1
 TOi2:TO≠i2
 TOi3:TO≠i3
 i12:i1≠i2
 i13:i1≠i3
 i23:i2≠i3
end
section
variable {prog:Program}{w:World}{A:Around}{E:Value->Shared->Prop}{s:Shared}
end
open PyProof.Rows
section
end
end L2
namespace HS
open PySem PySem.Spec PyProof.Rows L2
inductive D where
 | non | bl (b:Bool) | int (i:Int) | str (x:Str) | tup (xs:List D) | lst (xs:List D) | exc (x:Str) | dk (ks:List (List Int))
mutual
noncomputable def D.flat:D->Bool
 | .lst _=>false
 | .tup xs=>Qq xs
 | .non=>true
 | .bl _=>true
 | .int _=>true
 | .str _=>true
 | .exc _=>true
 | .dk _=>false
noncomputable def Qq:List D->Bool
 | []=>true
 | d::ds=>d.flat && Qq ds
end
mutual
noncomputable def D.nl:D->Nat
 | .lst xs=>nls xs+1
 | .tup xs=>nls xs
 | .non=>0
 | .bl _=>0
 | .int _=>0
 | .str _=>0
 | .exc _=>0
 | .dk _=>1
noncomputable def nls:List D->Nat
 | []=>0
 | d::ds=>d.nl+nls ds
end
mutual
theorem Qba:∀(d:D),d.flat=true->d.nl=0
 | .non,_=>rfl
 | .bl _,_=>rfl
 | .int _,_=>rfl
 | .str _,_=>rfl
 | .exc _,_=>rfl
 | .dk _,h=>by simp[D.flat]at h
 | .tup xs,h=>by simp only[D.nl];simp only[D.flat]at h;exact QcQ xs h
 | .lst xs,h=>by simp[D.flat]at h
theorem QcQ:∀(ds:List D),Qq ds=true->nls ds=0
 | [],_=>rfl
 | d::ds,h=>by simp only[Qq,Zf]at h;simp only[nls,Qba d h.1,QcQ ds h.2]
end
def Fix(K:PySem.W.Frag)(H:Hp)(a:Addr)(vs:List V):Prop:=
 (∃o,H a=some (.frz o (.lst vs)))∨
  ∃(its:List Value) (n:Nat),K.lookup a=some {cls:= .type "list",data:= .seq its.toArray n}/\vs.length<=sizeLine/\Qe vs its
def QnJ(a C:Addr)(h:Heap):Prop:=∃o vs,h.get? a=some o/\o.cls= .ref C/\o.data= .fields vs
def ExcAt(K:PySem.W.Frag)(H:Hp)(a:Addr)(x:Str):Prop:=∃C,PySem.W.nsIn K mainGlobals x=some (some (.ref C))/\H a=some (.ext (QnJ a C))
theorem Qgd{K:PySem.W.Frag}{H H':Hp}{a:Addr}{x:Str}(s:Qj H H')(h:ExcAt K H a x):ExcAt K H' a x:=by
 obtain⟨C,h1,h2⟩:=h
 exact⟨C,h1,s _ _ h2⟩
theorem Qhb{K:PySem.W.Frag}{H:Hp}{a p:Addr}{x:Str}{zs ys:List V}(hp:H p=some (.lst zs))(h:ExcAt K H a x):ExcAt K (upd H p (.lst ys)) a x:=by
 obtain⟨C,h1,h2⟩:=h
 exact⟨C,h1,by rw[Ql (QeC h2 hp (by intro z;cases z))];exact h2⟩
noncomputable def dkC(ks:List (List Int)):List (List Key×V):=ks.map λk=>(k.map Sum.inl,V.bl true)
mutual
noncomputable def Rp(K:PySem.W.Frag)(H:Hp):D->V->List Addr->Prop
 | .non,v,F=>v= .non/\F=[]
 | .bl b,v,F=>v= .bl b/\F=[]
 | .int i,v,F=>v= .int i/\F=[]
 | .str x,v,F=>v= .str x/\F=[]
 | .exc x,v,F=>(∃a,v= .ref a/\ExcAt K H a x)/\F=[]
 | .dk ks,v,F=>∃a,v= .ref a/\F=[a]/\H a=some (.dT (dkC ks))
 | .tup ds,v,F=>∃a vs,v= .ref a/\SqT K H a vs/\Rps K H ds vs F
 | .lst ds,v,F=>ds.length<=sizeLine/\∃a vs,v= .ref a/\((∃G,F=a::G/\H a=some (.lst vs)/\Rps K H ds vs G)∨(Fix K H a vs/\Rps K H ds vs F))
noncomputable def Rps(K:PySem.W.Frag)(H:Hp):List D->List V->List Addr->Prop
 | [],vs,F=>vs=[]/\F=[]
 | d::ds,vs,F=>∃v ws F1 F2,vs=v::ws/\F=F1++F2/\Rp K H d v F1/\Rps K H ds ws F2
end
theorem QeK{K:PySem.W.Frag}{H H':Hp}{a:Addr}{vs:List V}(s:Qj H H')(h:SqT K H a vs):SqT K H' a vs:=by
 rcases h with(h | ⟨o,h⟩) | h
 ·exact .inl (.inl (s _ _ h))
 ·exact .inl (.inr ⟨o,s _ _ h⟩)
 ·exact .inr h
theorem Qfl{K:PySem.W.Frag}{H H':Hp}{a:Addr}{vs:List V}(s:Qj H H')(h:Fix K H a vs):Fix K H' a vs:=by
 rcases h with⟨o,h⟩ | h
 ·exact .inl ⟨o,s _ _ h⟩
 ·exact .inr h
theorem Qf0{K:PySem.W.Frag}{H:Hp}{a p:Addr}{vs zs ys:List V}(hp:H p=some (.lst zs))(h:SqT K H a vs):SqT K (upd H p (.lst ys)) a vs:=by
 rcases h with(h | ⟨o,h⟩) | h
 ·exact .inl (.inl (by rw[Ql (QeC h hp (by intro z;cases z))];exact h))
 ·exact .inl (.inr ⟨o,by rw[Ql (QeC h hp (by intro z;cases z))];exact h⟩)
 ·exact .inr h
theorem QjV{K:PySem.W.Frag}{H:Hp}{a p:Addr}{vs zs ys:List V}(hp:H p=some (.lst zs))(h:Fix K H a vs):Fix K (upd H p (.lst ys)) a vs:=by
 rcases h with⟨o,h⟩ | h
 ·exact .inl ⟨o,by rw[Ql (QeC h hp (by intro z;cases z))];exact h⟩
 ·exact .inr h
section
variable {K:PySem.W.Frag}{H H':Hp}
mutual
theorem Rp.same(s:Qj H H'):∀{d:D}{v:V}{F:List Addr},Rp K H d v F->Rp K H' d v F
 | .exc _,_,_,h=>by
  simp only[Rp]at h ⊢
  obtain⟨⟨a,e,q⟩,z⟩:=h
  exact⟨⟨a,e,Qgd s q⟩,z⟩
 | .dk _,_,_,h=>by
  simp only[Rp]at h ⊢
  obtain⟨a,e,eF,q⟩:=h
  exact⟨a,e,eF,s _ _ q⟩
 | .non,_,_,h=>h
 | .bl _,_,_,h=>h
 | .int _,_,_,h=>h
 | .str _,_,_,h=>h
 | .tup ds,_,_,h=>by
  simp only[Rp]at h ⊢
  obtain⟨a,vs,e,q,r⟩:=h
  exact⟨a,vs,e,QeK s q,Rps.same s r⟩
 | .lst ds,_,_,h=>by
  simp only[Rp]at h ⊢
  obtain⟨hz,a,vs,e,⟨G,eF,q,r⟩ | ⟨q,r⟩⟩:=h
  ·exact⟨hz,a,vs,e,.inl ⟨G,eF,s _ _ q,Rps.same s r⟩⟩
  ·exact⟨hz,a,vs,e,.inr ⟨Qfl s q,Rps.same s r⟩⟩
theorem Rps.same(s:Qj H H'):∀{ds:List D}{vs:List V}{F:List Addr},Rps K H ds vs F->Rps K H' ds vs F
 | [],_,_,h=>h
 | d::ds,_,_,h=>by
  simp only[Rps]at h ⊢
  obtain⟨v,ws,F1,F2,e,eF,r,q⟩:=h
  exact⟨v,ws,F1,F2,e,eF,Rp.same s r,Rps.same s q⟩
end
mutual
theorem Rp.upd{p:Addr}{zs ys:List V}(hp:H p=some (.lst zs)):∀{d:D}{v:V}{F:List Addr},Rp K H d v F->p∉F->Rp K (upd H p (.lst ys)) d v F
 | .exc _,_,_,h,_=>by
  simp only[Rp]at h ⊢
  obtain⟨⟨a,e,q⟩,z⟩:=h
  exact⟨⟨a,e,Qhb hp q⟩,z⟩
 | .dk _,_,_,h,hn=>by
  simp only[Rp]at h ⊢
  obtain⟨a,e,eF,q⟩:=h
  subst eF
  exact⟨a,e,rfl,by rw[Ql (λz=>hn (by rw[z];exact Zi))];exact q⟩
 | .non,_,_,h,_=>h
 | .bl _,_,_,h,_=>h
 | .int _,_,_,h,_=>h
 | .str _,_,_,h,_=>h
 | .tup ds,_,_,h,hn=>by
  simp only[Rp]at h ⊢
  obtain⟨a,vs,e,q,r⟩:=h
  exact⟨a,vs,e,Qf0 hp q,Rps.upd hp r hn⟩
 | .lst ds,_,_,h,hn=>by
  simp only[Rp]at h ⊢
  obtain⟨hz,a,vs,e,⟨G,eF,q,r⟩ | ⟨q,r⟩⟩:=h
  ·subst eF
   have h1:a≠p:=λz=>hn (by rw[z];exact Zi)
   exact⟨hz,a,vs,e,.inl ⟨G,rfl,by rw[Ql h1];exact q,Rps.upd hp r λz=>hn (Za _ z)⟩⟩
  ·exact⟨hz,a,vs,e,.inr ⟨QjV hp q,Rps.upd hp r hn⟩⟩
theorem Rps.upd{p:Addr}{zs ys:List V}(hp:H p=some (.lst zs)):∀{ds:List D}{vs:List V}{F:List Addr},Rps K H ds vs F->p∉F->Rps K (upd H p (.lst ys)) ds vs F
 | [],_,_,h,_=>h
 | d::ds,_,_,h,hn=>by
  simp only[Rps]at h ⊢
  obtain⟨v,ws,F1,F2,e,eF,r,q⟩:=h
  subst eF
  exact⟨v,ws,F1,F2,e,rfl,Rp.upd hp r λz=>hn (Zc _ z),Rps.upd hp q λz=>hn (Zb _ z)⟩
end
mutual
theorem Rp.mem:∀{d:D}{v:V}{F:List Addr},Rp K H d v F->∀a∈F,∃u,H a=some u
 | .non,_,_,h,a,ha=>by simp only[Rp]at h;rw[h.2]at ha;simp at ha
 | .bl _,_,_,h,a,ha=>by simp only[Rp]at h;rw[h.2]at ha;simp at ha
 | .int _,_,_,h,a,ha=>by simp only[Rp]at h;rw[h.2]at ha;simp at ha
 | .str _,_,_,h,a,ha=>by simp only[Rp]at h;rw[h.2]at ha;simp at ha
 | .exc _,_,_,h,a,ha=>by simp only[Rp]at h;rw[h.2]at ha;simp at ha
 | .dk _,_,_,h,a,ha=>by simp only[Rp]at h;obtain⟨b,e,eF,q⟩:=h;subst eF;rw[Zt.mp ha];exact⟨_,q⟩
 | .tup ds,_,_,h,a,ha=>by
  simp only[Rp]at h
  obtain⟨_,vs,e,q,r⟩:=h
  exact Rps.mem r a ha
 | .lst ds,_,_,h,a,ha=>by
  simp only[Rp]at h
  obtain⟨_,b,vs,e,⟨G,eF,q,r⟩ | ⟨q,r⟩⟩:=h
  ·subst eF
   rcases Zu.mp ha with z | z
   ·exact⟨_,by rw[z];exact q⟩
   ·exact Rps.mem r a z
  ·exact Rps.mem r a ha
theorem Rps.mem:∀{ds:List D}{vs:List V}{F:List Addr},Rps K H ds vs F->∀a∈F,∃u,H a=some u
 | [],_,_,h,a,ha=>by simp only[Rps]at h;rw[h.2]at ha;simp at ha
 | d::ds,_,_,h,a,ha=>by
  simp only[Rps]at h
  obtain⟨v,ws,F1,F2,e,eF,r,q⟩:=h
  subst eF
  rcases Zx.mp ha with z | z
  ·exact Rp.mem r a z
  ·exact Rps.mem q a z
end
mutual
theorem Rp.Qad:∀{d:D}{v:V}{F:List Addr},Rp K H d v F->d.flat=true->F=[]
 | .non,_,_,h,_=>by simp only[Rp]at h;exact h.2
 | .bl _,_,_,h,_=>by simp only[Rp]at h;exact h.2
 | .int _,_,_,h,_=>by simp only[Rp]at h;exact h.2
 | .str _,_,_,h,_=>by simp only[Rp]at h;exact h.2
 | .exc _,_,_,h,_=>by simp only[Rp]at h;exact h.2
 | .dk _,_,_,h,hf=>by simp[D.flat]at hf
 | .tup ds,_,_,h,hf=>by
  simp only[Rp]at h
  simp only[D.flat]at hf
  obtain⟨_,vs,e,q,r⟩:=h
  exact Rps.Qad r hf
 | .lst ds,_,_,h,hf=>by simp[D.flat]at hf
theorem Rps.Qad:∀{ds:List D}{vs:List V}{F:List Addr},Rps K H ds vs F->Qq ds=true->F=[]
 | [],_,_,h,_=>by simp only[Rps]at h;exact h.2
 | d::ds,_,_,h,hf=>by
  simp only[Rps]at h
  simp only[Qq,Zf]at hf
  obtain⟨v,ws,F1,F2,e,eF,r,q⟩:=h
  rw[eF,Rp.Qad r hf.1,Rps.Qad q hf.2];rfl
end
mutual
theorem Rp.QA:∀{d:D}{v:V}{F:List Addr},Rp K H d v F->F.length<=d.nl
 | .non,_,_,h=>by simp only[Rp]at h;rw[h.2];exact ZJ _
 | .bl _,_,_,h=>by simp only[Rp]at h;rw[h.2];exact ZJ _
 | .int _,_,_,h=>by simp only[Rp]at h;rw[h.2];exact ZJ _
 | .str _,_,_,h=>by simp only[Rp]at h;rw[h.2];exact ZJ _
 | .exc _,_,_,h=>by simp only[Rp]at h;rw[h.2];exact ZJ _
 | .dk _,_,_,h=>by simp only[Rp]at h;obtain⟨b,e,eF,q⟩:=h;subst eF;exact Zj _
 | .tup ds,_,_,h=>by
  simp only[Rp]at h
  obtain⟨_,vs,e,q,r⟩:=h
  simp only[D.nl]
  exact Rps.QA r
 | .lst ds,_,_,h=>by
  simp only[Rp]at h
  simp only[D.nl]
  obtain⟨_,b,vs,e,⟨G,eF,q,r⟩ | ⟨q,r⟩⟩:=h
  ·rw[eF,ZC];have:=Rps.QA r;omega
  ·have:=Rps.QA r;omega
theorem Rps.QA:∀{ds:List D}{vs:List V}{F:List Addr},Rps K H ds vs F->F.length<=nls ds
 | [],_,_,h=>by simp only[Rps]at h;rw[h.2];exact ZJ _
 | d::ds,_,_,h=>by
  simp only[Rps]at h
  obtain⟨v,ws,F1,F2,e,eF,r,q⟩:=h
  simp only[nls]
  rw[eF,Zp]
  have:=Rp.QA r
  have:=Rps.QA q
  omega
end
theorem Rps.length:∀{ds:List D}{vs:List V}{F:List Addr},Rps K H ds vs F->ds.length=vs.length
 | [],_,_,h=>by simp only[Rps]at h;rw[h.1];rfl
 | d::ds,_,_,h=>by
  simp only[Rps]at h
  obtain⟨v,ws,F1,F2,e,eF,r,q⟩:=h
  rw[e,ZC,ZC,Rps.length q]
theorem Rps.append:∀{ds es:List D}{vs ws:List V}{F G:List Addr},Rps K H ds vs F->Rps K H es ws G->Rps K H (ds++es) (vs++ws) (F++G)
 | [],_,_,_,_,_,h,g=>by simp only[Rps]at h;rw[h.1,h.2];exact g
 | d::ds,_,_,_,_,_,h,g=>by
  simp only[Rps,Zao]at h ⊢
  obtain⟨v,ws,F1,F2,e,eF,r,q⟩:=h
  subst e eF
  exact⟨v,_,F1,_,rfl,by rw[ZZ],r,Rps.append q g⟩
theorem Rps.get:∀{ds:List D}{vs:List V}{F:List Addr}{i:Nat}{d:D},Rps K H ds vs F->ds[i]? =some d->∃v F1 G F2,vs[i]? =some v/\F=F1++(G++F2)/\Rp K H d v G/\(F.length=nls ds->G.length=d.nl)
 | [],_,_,_,_,_,e=>by simp at e
 | d::ds,_,_,0,_,h,e=>by
  simp only[Rps]at h
  obtain⟨v,ws,F1,F2,e1,eF,r,q⟩:=h
  simp at e;subst e e1 eF
  refine⟨v,[],F1,F2,by simp,rfl,r,λhl=>?_⟩
  simp only[nls,Zp]at hl
  have:=Rp.QA r
  have:=Rps.QA q
  omega
 | d::ds,_,_,i+1,_,h,e=>by
  simp only[Rps]at h
  obtain⟨v,ws,F1,F2,e1,eF,r,q⟩:=h
  obtain⟨v',G1,G,G2,h1,h2,h3,h4⟩:=Rps.get q (by simpa using e)
  have l1:=Rp.QA r
  have l2:=Rps.QA q
  subst e1 eF
  refine⟨v',F1++G1,G,G2,by simpa using h1,by rw[h2,ZZ],h3,λhl=>h4 ?_⟩
  simp only[nls,Zp]at hl
  omega
theorem Fix.sq{K:PySem.W.Frag}{H:Hp}{a:Addr}{vs:List V}(h:Fix K H a vs):SqL K H a vs:=by
 rcases h with⟨o,h⟩ | ⟨its,n,h,hz,r⟩
 ·exact .inl (.inr ⟨o,h⟩)
 ·exact .inr ⟨_,its.toArray,n,h,rfl,rfl,rfl,by rw[Zo,← r.length];exact hz,by simpa using r⟩
theorem _root_.L2.Inv.Qfs(I:Inv X pins σ H s)(h:H a=some (.lst vs)∨Fix X.K H a vs):
  vs.length<=sizeLine/\∃(its:List Value) (n:Nat),Qe vs its/\vs.length=its.length/\s.heap.get? a=some {cls:= .type "list",data:= .seq its.toArray n}:=by
 rcases h with h | ⟨o,h⟩ | ⟨its,n,h,hz,r⟩
 ·exact I.QlW h
 ·obtain⟨e,hz,its,n,r,e2⟩:=I.hok a _ h
  exact⟨hz,its,n,r,r.length,e2⟩
 ·exact⟨hz,its,n,r,r.length,I.kIn _ _ h⟩
theorem Rp.lst_inv{K:PySem.W.Frag}{H:Hp}{ds:List D}{v:V}{F:List Addr}(h:Rp K H (.lst ds) v F):
  ∃a vs G,v= .ref a/\(H a=some (.lst vs)∨Fix K H a vs)/\Rps K H ds vs G/\ds.length<=sizeLine/\(F=a::G∨F=G):=by
 simp only[Rp]at h
 obtain⟨hz,a,vs,e,⟨G,eF,q,r⟩ | ⟨q,r⟩⟩:=h
 ·exact⟨a,vs,G,e,.inl q,r,hz,.inl eF⟩
 ·exact⟨a,vs,F,e,.inr q,r,hz,.inr rfl⟩
theorem Qu{K:PySem.W.Frag}{H:Hp}{a:Addr}{vs:List V}(h:H a=some (.lst vs)∨Fix K H a vs):SqL K H a vs:=h.elim (λh=>SqL.of h) Fix.sq
theorem Rp.QQ{K:PySem.W.Frag}{H:Hp}{ds:List D}{v:V}{F:List Addr}(h:Rp K H (.tup ds) v F):∃a vs,v= .ref a/\SqT K H a vs/\Rps K H ds vs F:=by
 simp only[Rp]at h
 exact h
theorem Rp.QbD{K:PySem.W.Frag}{H:Hp}{ds:List D}{a:Addr}{vs:List V}{G:List Addr}(h:H a=some (.lst vs))(r:Rps K H ds vs G)(hz:ds.length<=sizeLine):Rp K H (.lst ds) (.ref a) (a::G):=by
 simp only[Rp]
 exact⟨hz,a,vs,rfl,.inl ⟨G,rfl,h,r⟩⟩
theorem Rp.Qhq{K:PySem.W.Frag}{H:Hp}{ds:List D}{a:Addr}{vs:List V}{G:List Addr}(h:H a=some (.tup vs))(r:Rps K H ds vs G):Rp K H (.tup ds) (.ref a) G:=by
 simp only[Rp]
 exact⟨a,vs,rfl,SqT.of h,r⟩
theorem Rp.int_inv{K:PySem.W.Frag}{H:Hp}{i:Int}{v:V}{F:List Addr}(h:Rp K H (.int i) v F):v= .int i:=by simp only[Rp]at h;exact h.1
theorem Rp.Qby{K:PySem.W.Frag}{H:Hp}{i:Bool}{v:V}{F:List Addr}(h:Rp K H (.bl i) v F):v= .bl i:=by simp only[Rp]at h;exact h.1
theorem Rp.QdQ{K:PySem.W.Frag}{H:Hp}{v:V}{F:List Addr}(h:Rp K H .non v F):v= .non:=by simp only[Rp]at h;exact h.1
theorem Rp.str_inv{K:PySem.W.Frag}{H:Hp}{i:Str}{v:V}{F:List Addr}(h:Rp K H (.str i) v F):v= .str i:=by simp only[Rp]at h;exact h.1
theorem Rp.int_mk{K:PySem.W.Frag}{H:Hp}{i:Int}:Rp K H (.int i) (.int i) []:=by simp[Rp]
theorem Rp.Qae{K:PySem.W.Frag}{H:Hp}{i:Bool}:Rp K H (.bl i) (.bl i) []:=by simp[Rp]
theorem Rp.QhK{K:PySem.W.Frag}{H:Hp}:Rp K H .non .non []:=by simp[Rp]
theorem Rp.str_mk{K:PySem.W.Frag}{H:Hp}{i:Str}:Rp K H (.str i) (.str i) []:=by simp[Rp]
theorem QaB(h:H p=none):Qj H (L2.upd H p o):=λb u e=>by rw[Ql (QS e h)];exact e
end
end HS
namespace HS
open PySem PySem.Spec L2
noncomputable abbrev En:=List (Option (D×Bool))
structure R where
 d:D
 fr:Bool
 M:List Nat
structure RA where
 ds:List D
 fr:Bool
 M:List Nat
noncomputable abbrev DE:=En->Option R
noncomputable abbrev DA:=En->Option RA
noncomputable abbrev DT:=En->Option Bool
structure Rel (K:PySem.W.Frag) (H0:Hp) (A0:List Addr) (hs:List (V×D×List Addr)) (ρ:En) (F:Nat->List Addr) (σ:St) (H:Hp):Prop where
 len:ρ.length=σ.length
 val:∀(i:Nat) d b,ρ[i]? =some (some (d,b))->∃v,σ[i]? =some (some v)/\Rp K H d v (F i)
 own:∀(i:Nat) d,ρ[i]? =some (some (d,true))->(F i).length=d.nl/\(F i).Nodup/\(∀a∈F i,H0 a=none)/\(∀(j:Nat) d' b',j≠i->ρ[j]? =some (some (d',b'))->∀a∈F i,a∉F j)/\∀t∈hs,∀a∈F i,a∉t.2.2
 src:∀(i:Nat) d b,ρ[i]? =some (some (d,b))->∀a∈F i,H0 a=none∨a∈A0
 held:∀t∈hs,Rp K H t.2.1 t.1 t.2.2/\∀a∈t.2.2,H0 a=none∨a∈A0
 same:Qj H0 H
def Src(ρ:En)(F:Nat->List Addr)(H:Hp)(M:List Nat)(G:List Addr):Prop:=
 ∀a∈G,H a=none∨∃(i:Nat) (d:D) (b:Bool),ρ[i]? =some (some (d,b))/\a∈F i/\(b=true->i∈M)
noncomputable def nw(H:Hp)(a:Addr):Nat:=match H a with | none=>1 | some _=>0
def Cnt(F:Nat->List Addr)(H:Hp)(M:List Nat)(G:List Addr):Prop:=
 ∀a,G.count a<=nw H a+((M.map F).flatten).count a
def QK(ρ:En)(M:List Nat):Prop:=∀i∈M,∃d,ρ[i]? =some (some (d,true))
structure Qp (K:PySem.W.Frag) (ρ:En) (F:Nat->List Addr) (H H':Hp) (r:R) (v:V) (G:List Addr):Prop where
 same:Qj H H'
 rp:Rp K H' r.d v G
 src:Src ρ F H r.M G
 cnt:r.fr=true->Cnt F H r.M G/\G.length=r.d.nl
 own:QK ρ r.M
structure QmV (K:PySem.W.Frag) (ρ:En) (F:Nat->List Addr) (H H':Hp) (r:RA) (vs:List V) (G:List Addr):Prop where
 same:Qj H H'
 rp:Rps K H' r.ds vs G
 src:Src ρ F H r.M G
 cnt:r.fr=true->Cnt F H r.M G/\G.length=nls r.ds
 own:QK ρ r.M
noncomputable def tV(K:PySem.W.Frag)(H0:Hp)(A0:List Addr)(f:DE):TE:=λσ H Q=>∃ρ hs F r,Rel K H0 A0 hs ρ F σ H/\f ρ=some r/\∀v H' G,Qp K ρ F H H' r v G->Q v H'
noncomputable def tVA(K:PySem.W.Frag)(H0:Hp)(A0:List Addr)(f:DA):TA:=λσ H Q=>∃ρ hs F r,Rel K H0 A0 hs ρ F σ H/\f ρ=some r/\∀v H' G,QmV K ρ F H H' r v G->Q v H'
noncomputable def tVT(K:PySem.W.Frag)(H0:Hp)(A0:List Addr)(f:DT):TT:=λσ H Q=>∃ρ hs F b,Rel K H0 A0 hs ρ F σ H/\f ρ=some b/\∀H',Qj H H'->Q b H'
def SE(X:Cx)(e:Expr)(f:DE):Prop:=∀H0 A0,PE X e (tV X.K H0 A0 f)
def SA(X:Cx)(es:List Expr)(f:DA):Prop:=∀H0 A0,PA X es (tVA X.K H0 A0 f)
def ST(X:Cx)(e:Expr)(f:DT):Prop:=∀H0 A0,PT X e (tVT X.K H0 A0 f)
theorem _root_.L2.PE.mono(h:PE X e t)(m:∀σ H Q,t' σ H Q->t σ H Q):PE X e t':=λpins s σ H Q I q=>h pins s σ H Q I (m σ H Q q)
theorem _root_.L2.PT.mono(h:PT X e t)(m:∀σ H Q,t' σ H Q->t σ H Q):PT X e t':=λpins s σ H Q I q=>h pins s σ H Q I (m σ H Q q)
theorem _root_.L2.PA.mono(h:PA X e t)(m:∀σ H Q,t' σ H Q->t σ H Q):PA X e t':=λpos pins s σ H Q I q=>h pos pins s σ H Q I (m σ H Q q)
section
theorem Rel.ext(r:Rel K H0 A0 hs ρ F σ H)(s:Qj H H'):Rel K H0 A0 hs ρ F σ H' where
 len:=r.len
 val:=λi d b e=>let ⟨v,h1,h2⟩:=r.val i d b e;⟨v,h1,h2.same s⟩
 own:=r.own
 src:=r.src
 held:=λt ht=>⟨(r.held t ht).1.same s,(r.held t ht).2⟩
 same:=r.same.trans s
theorem Rel.mem(r:Rel K H0 A0 hs ρ F σ H)(e:ρ[i]? =some (some (d,b)))(h:a∈F i):∃u,H a=some u:=
 let ⟨_,_,h2⟩:=r.val i d b e;h2.mem a h
theorem QaN(h:H a=some o):nw H a=0:=by simp[nw,h]
theorem QG(h:H a=none):nw H a=1:=by simp[nw,h]
theorem Rel.fl0(r:Rel K H0 A0 hs ρ F σ H)(ow:QK ρ M)(h:H a=none):((M.map F).flatten).count a=0:=by
 rw[ZA]
 intro hm
 obtain⟨l,hl,ha⟩:=Zap.mp hm
 obtain⟨i,hi,rfl⟩:=Zy.mp hl
 obtain⟨d,e⟩:=ow i hi
 obtain⟨vs,q⟩:=r.mem e ha
 rw[h]at q;cases q
theorem Cnt.append(r:Rel K H0 A0 hs ρ F σ H)(c1:Cnt F H M1 G1)(c2:Cnt F H1 M2 G2)(s:Qj H H1)(m1:∀a∈G1,∃u,H1 a=some u):Cnt F H (M1++M2) (G1++G2):=λa=>by
 rw[ZI,ZM,List.flatten_append,ZI]
 have h1:=c1 a
 have h2:=c2 a
 cases q:H1 a with
 | some o=>rw[QaN q]at h2;omega
 | none=>
  rw[QG q]at h2
  have h3:H a=none:=s.free q
  rw[QG h3]at h1 ⊢
  have h4:G1.count a=0:=ZA.mpr λhm=>by obtain⟨vs,z⟩:=m1 a hm;rw[q]at z;cases z
  omega
theorem Src.append(c1:Src ρ F H M1 G1)(c2:Src ρ F H1 M2 G2)(s:Qj H H1):Src ρ F H (M1++M2) (G1++G2):=λa ha=>by
 rcases Zx.mp ha with h | h
 ·rcases c1 a h with z | ⟨i,d,b,e,m,w⟩
  ·exact .inl z
  ·exact .inr ⟨i,d,b,e,m,λhb=>Zc _ (w hb)⟩
 ·rcases c2 a h with z | ⟨i,d,b,e,m,w⟩
  ·exact .inl (s.free z)
  ·exact .inr ⟨i,d,b,e,m,λhb=>Zb _ (w hb)⟩
theorem QK.append(h1:QK ρ M1)(h2:QK ρ M2):QK ρ (M1++M2):=λi hi=>(Zx.mp hi).elim (h1 i) (h2 i)
theorem QK.nil:QK ρ []:=λi hi=>by simp at hi
theorem Src.nil:Src ρ F H M []:=λa ha=>by simp at ha
theorem Cnt.nil:Cnt F H M []:=λa=>by simp
theorem Qp.flat(s:Qj H H')(r:Rp K H' d v [])(hf:d.flat=true:=by rfl):Qp K ρ F H H' ⟨d,true,[]⟩ v []:=⟨s,r,Src.nil,λ_=>⟨Cnt.nil,(Qba d hf).symm⟩,QK.nil⟩
theorem Qp.sub(p:Qp K ρ F H H1 r v G)(rp:Rp K H1 d u G')(hs:∀a,G'.count a<=G.count a)(hn:G.length=r.d.nl->G'.length=d.nl):Qp K ρ F H H1 ⟨d,r.fr,r.M⟩ u G' where
 same:=p.same
 rp:=rp
 src:=λa ha=>p.src a (by
  have:=hs a
  have h1:0<G'.count a:=ZP.mpr ha
  exact ZP.mp (by omega))
 cnt:=λh=>⟨λa=>Zr (hs a) ((p.cnt h).1 a),hn (p.cnt h).2⟩
 own:=p.own
noncomputable def R.norm(r:R):R:=if r.d.flat then⟨r.d,true,[]⟩else r
theorem R.QaY(r:R):r.norm.d=r.d:=by unfold R.norm;split<;>rfl
theorem Qp.norm(p:Qp K ρ F H H' r v G):Qp K ρ F H H' r.norm v G:=by
 unfold R.norm
 split
 ·rename_i h
  have:=p.rp.Qad h
  subst this
  exact .flat p.same p.rp h
 ·exact p
end
noncomputable def Qg(i:Nat):DE:=λρ=>match ρ[i]? with
 | some (some (d,b))=>if d.flat then some ⟨d,true,[]⟩else if b then some ⟨d,true,[i]⟩else some ⟨d,false,[]⟩
 | _=>none
noncomputable def dC(d:D):DE:=λ_=>some ⟨d,true,[]⟩
section
theorem Qk0(h:PE X (.Name x pos) (Qgl i)):SE X (.Name x pos) (Qg i):=λH0 A0=>h.mono λσ H Q=>exK λρ hs F r rel e q=>by
 unfold Qg at e
 split at e
 ·rename_i d b q1
  obtain⟨v,h1,h2⟩:=rel.val i d b q1
  refine⟨v,h1,q v H (F i) ?_⟩
  split at e
  ·rename_i hf
   cases e
   have:=h2.Qad hf
   rw[this]at h2 ⊢
   exact .flat (Qj.refl _) h2 hf
  ·split at e
   ·rename_i hb
    cases e
    subst hb
    exact⟨Qj.refl _,h2,λa ha=> .inr ⟨i,d,true,q1,ha,λ_=>by simp⟩,λ_=>⟨λa=>(by simp),(rel.own i d q1).1⟩,λj hj=>by simp at hj;subst hj;exact⟨d,q1⟩⟩
   ·rename_i hb
    cases e
    simp at hb
    subst hb
    exact⟨Qj.refl _,h2,λa ha=> .inr ⟨i,d,false,q1,ha,λz=>by cases z⟩,λz=>(by cases z),QK.nil⟩
 ·cases e
theorem QdL(h:PE X e (tC v))(r:∀K H,Rp K H d v [])(hf:d.flat=true):SE X e (dC d):=λH0 A0=>h.mono λσ H Q=>exK λρ hs F r' rel e q=>by
 cases e
 exact q v H [] (.flat (Qj.refl _) (r _ _) hf)
theorem two{K:PySem.W.Frag}{H0:Hp}{A0:List Addr}{fa fb:DE}{σ:St}{H:Hp}{hs:List (V×D×List Addr)}{ρ:En}{F:Nat->List Addr}{ra rb:R}{Rr:V->V->Hp->Prop}(rel:Rel K H0 A0 hs ρ F σ H)(ea:fa ρ=some ra)(eb:fb ρ=some rb)
  (k:∀x y H1 H2 G1 G2,Qp K ρ F H H1 ra x G1->Qp K ρ F H1 H2 rb y G2->Rr x y H2):tV K H0 A0 fa σ H λx H1=>tV K H0 A0 fb σ H1 λy H2=>Rr x y H2:=
 ⟨ρ,hs,F,ra,rel,ea,λx H1 G1 p1=>⟨ρ,hs,F,rb,rel.ext p1.same,eb,λy H2 G2 p2=>k x y H1 H2 G1 G2 p1 p2⟩⟩
noncomputable def dOp(g:D->D->Option D)(fa fb:DE):DE:=λρ=>(fa ρ).bind λra=>(fb ρ).bind λrb=>(g ra.d rb.d).map λd=>⟨d,true,[]⟩
theorem QdH(e:dOp g fa fb ρ=some r):∃ra rb d,fa ρ=some ra/\fb ρ=some rb/\g ra.d rb.d=some d/\r=⟨d,true,[]⟩:=by
 unfold dOp at e
 cases h1:fa ρ with
 | none=>rw[h1]at e;cases e
 | some ra=>
  cases h2:fb ρ with
  | none=>rw[h1,h2]at e;cases e
  | some rb=>
   rw[h1,h2]at e
   cases h3:g ra.d rb.d with
   | none=>simp[h3]at e
   | some d=>simp[h3]at e;exact⟨ra,rb,d,rfl,rfl,h3,e.symm⟩
def Qag(K:PySem.W.Frag)(g:D->D->Option D)(r:R2):Prop:=∀a b d,g a b=some d->d.flat=true/\∀H x y F G (Q:VK),Rp K H a x F->Rp K H b y G->(∀v,(∀H',Rp K H' d v [])->Q v H)->r x y H Q
theorem QeF(ho:OpR X (binaryOp op) r)(hg:Qag X.K g r)(ha:SE X a fa)(hb:SE X b fb):SE X (.BinOp a op b pos) (dOp g fa fb):=λH0 A0=>
 (QgH ho (ha H0 A0) (hb H0 A0)).mono λσ H Q=>exK λρ hs F r' rel e q=>by
  obtain⟨ra,rb,d,ea,eb,eg,rfl⟩:=QdH e
  refine two rel ea eb λx y H1 H2 G1 G2 p1 p2=>(hg _ _ _ eg).2 H2 x y G1 G2 Q (p1.rp.same p2.same) p2.rp λv hv=>?_
  exact q v H2 [] (.flat (p1.same.trans p2.same) (hv H2) (hg _ _ _ eg).1)
theorem Qk3(ho:OpR X (compareOp op) r)(hg:Qag X.K g r)(ha:SE X a fa)(hb:SE X b fb)(hm:behindInMarks op b=false):SE X (.Compare a [op] [b] pos) (dOp g fa fb):=λH0 A0=>
 (Qj6 ho (ha H0 A0) (hb H0 A0) hm).mono λσ H Q=>exK λρ hs F r' rel e q=>by
  obtain⟨ra,rb,d,ea,eb,eg,rfl⟩:=QdH e
  refine two rel ea eb λx y H1 H2 G1 G2 p1 p2=>(hg _ _ _ eg).2 H2 x y G1 G2 Q (p1.rp.same p2.same) p2.rp λv hv=>?_
  exact q v H2 [] (.flat (p1.same.trans p2.same) (hv H2) (hg _ _ _ eg).1)
end
noncomputable def Qcq(i j:Int):Int:=if 0<=j then i / j else i.fdiv j
noncomputable def Qcv(i j:Int):Int:=if 0<=j then i % j else i.fmod j
theorem Qjo(i j:Int):Qcq i j=i.fdiv j:=by
 unfold Qcq;split
 ·rw[Int.fdiv_eq_ediv_of_nonneg _ (by assumption)]
 ·rfl
theorem QjY(i j:Int):Qcv i j=i.fmod j:=by
 unfold Qcv;split
 ·rw[Int.fmod_eq_emod_of_nonneg _ (by assumption)]
 ·rfl
noncomputable def Qa5(i j:Int):Bool:=decide (i.natAbs<2^64) || decide (j.natAbs<2^64) || (decide (Builtin.Int.intBits i<=2^20) && decide (Builtin.Int.intBits j<=2^20))
noncomputable def Qb0(j:Int):Bool:=decide (j≠0) && decide (j.natAbs<2^8000)
noncomputable def gI(f:Int->Int->Option D)(a b:D):Option D:=match a,b with
 | .int i,.int j=>f i j
 | _,_=>none
noncomputable def Qbv:=gI λi j=>some (.int (i-j))
noncomputable def QdU:=gI λi j=>if Qb0 j then some (.int (Qcq i j))else none
noncomputable def Qb6:=gI λi j=>if j≠0 then some (.int (Qcv i j))else none
noncomputable def Qce:=gI λi j=>if 0<=j/\j<=1000/\i.natAbs<2^200 then some (.int (i^j.toNat))else none
noncomputable def gLt:=gI λi j=>some (.bl (decide (i<j)))
noncomputable def gLe:=gI λi j=>some (.bl (decide (i<=j)))
noncomputable def gGt:=gI λi j=>some (.bl (decide (j<i)))
noncomputable def gGe:=gI λi j=>some (.bl (decide (j<=i)))
theorem Qhz(h:gI f a b=some d):∃i j,a= .int i/\b= .int j/\f i j=some d:=by
 unfold gI at h
 split at h
 ·exact⟨_,_,rfl,rfl,h⟩
 ·cases h
section
theorem Qcg(hf:∀i j d,f i j=some d->d.flat=true)(h:∀i j d,f i j=some d->∀H (Q:VK),(∀v,(∀H',Rp K H' d v [])->Q v H)->r (.int i) (.int j) H Q):Qag K (gI f) r:=λa b d e=>by
 obtain⟨i,j,rfl,rfl,ef⟩:=Qhz e
 refine⟨hf i j d ef,λH x y F G Q ha hb q=>?_⟩
 rw[ha.int_inv,hb.int_inv]
 exact h i j d ef H Q q
theorem QlS:Qag K Qbv (rI0 λi j=> .int (i-j)):=Qcg (λi j d e=>by cases e;rfl) λi j d e H Q q=>by cases e;exact⟨i,j,rfl,rfl,q _ λ_=> .int_mk⟩
theorem Qir(h:Qa5 i j=true):IntMulOk i j:=by
 have small:∀k:Int,k.natAbs<2^64->Builtin.Int.intBits k<=64:=λk hk=>by
  unfold Builtin.Int.intBits
  split
  ·omega
  ·rename_i h0;have h0':k.natAbs≠0:=λz=>by simp_all
   have:=(ZaK h0').mpr hk;omega
 unfold Qa5 at h
 simp only[Bool.or_eq_true,Zf,decide_eq_true_eq]at h
 rcases h with(h | h) | ⟨h1,h2⟩
 ·exact .of_left (small i h)
 ·exact .of_right (small j h)
 ·exact .of_bits h1 h2
theorem QjG:OpR X (binaryOp .Mult) (rI (λi j=>Qa5 i j=true) λi j=> .int (i*j)):=opI λ_ _ _ _ _ _ _ hc q=>PyProof.Rows.mul_int q (Qir hc)
theorem Qjn:OpR X (binaryOp .FloorDiv) (rI (λi j=>Qb0 j=true) λi j=> .int (Qcq i j)):=opI λi j _ _ _ _ _ hc q=>by
 unfold Qb0 at hc
 simp only[Zf,decide_eq_true_eq]at hc
 rw[Qjo]at q
 refine PyProof.Rows.floordiv_int hc.1 q (.inl (PyProof.noPylong_of_log2 ?_))
 have h0:j.natAbs≠0:=by omega
 exact Nat.lt_trans ((ZaK h0).mpr hc.2) (by decide)
theorem Qkn:OpR X (binaryOp .Mod) (rI (λi j=>j≠0) λi j=> .int (Qcv i j)):=opI λi j _ _ _ _ _ hc q=>by
 rw[QjY]at q
 exact PyProof.Rows.mod_int' hc q
theorem QkI:Qag K QdU (rI (λi j=>Qb0 j=true) λi j=> .int (Qcq i j)):=Qcg (λi j d e=>by split at e<;>cases e;rfl) λi j d e H Q q=>by
 split at e
 ·cases e;exact⟨i,j,rfl,rfl,by assumption,q _ λ_=> .int_mk⟩
 ·cases e
theorem Qk1:Qag K Qb6 (rI (λi j=>j≠0) λi j=> .int (Qcv i j)):=Qcg (λi j d e=>by split at e<;>cases e;rfl) λi j d e H Q q=>by
 split at e
 ·cases e;exact⟨i,j,rfl,rfl,by assumption,q _ λ_=> .int_mk⟩
 ·cases e
theorem QjP:OpR X (binaryOp .Pow) (rI (λi j=>0<=j/\j<=1000/\i.natAbs<2^200) λi j=> .int (i^j.toNat)):=opI λi j _ _ _ _ _ hc q=>by
 refine PyProof.Rows.pow_int hc.1 ?_ q
 have hb:Builtin.Int.intBits i<=200:=by
  unfold Builtin.Int.intBits
  split
  ·omega
  ·rename_i h0;have h0':i.natAbs≠0:=λz=>by simp_all
   have:=(ZaK h0').mpr hc.2.2;omega
 have h1:((Builtin.Int.intBits i:Nat):Int)*j<=200*1000:=Int.mul_le_mul (by omega) hc.2.1 hc.1 (by decide)
 omega
theorem QlZ:Qag K Qce (rI (λi j=>0<=j/\j<=1000/\i.natAbs<2^200) λi j=> .int (i^j.toNat)):=Qcg (λi j d e=>by split at e<;>cases e;rfl) λi j d e H Q q=>by
 split at e
 ·rename_i h;cases e;exact⟨i,j,rfl,rfl,h,q _ λ_=> .int_mk⟩
 ·cases e
theorem Qmn:Qag K gLt (rI0 λi j=> .bl (decide (i<j))):=Qcg (λi j d e=>by cases e;rfl) λi j d e H Q q=>by cases e;exact⟨i,j,rfl,rfl,q _ λ_=> .Qae⟩
theorem Qm5:Qag K gLe (rI0 λi j=> .bl (decide (i<=j))):=Qcg (λi j d e=>by cases e;rfl) λi j d e H Q q=>by cases e;exact⟨i,j,rfl,rfl,q _ λ_=> .Qae⟩
theorem Qmr:Qag K gGt (rI0 λi j=> .bl (decide (j<i))):=Qcg (λi j d e=>by cases e;rfl) λi j d e H Q q=>by cases e;exact⟨i,j,rfl,rfl,q _ λ_=> .Qae⟩
theorem QmD:Qag K gGe (rI0 λi j=> .bl (decide (j<=i))):=Qcg (λi j d e=>by cases e;rfl) λi j d e H Q q=>by cases e;exact⟨i,j,rfl,rfl,q _ λ_=> .Qae⟩
end
theorem Qbd:∀(xs ys:List D),Qq (xs++ys)=(Qq xs && Qq ys)
 | [],ys=>by simp[Qq]
 | x::xs,ys=>by simp[Qq,Qbd xs ys,Bool.and_assoc]
noncomputable def Qab(ds:List D)(M:List Nat):R:=if Qq ds then⟨.lst ds,true,[]⟩else⟨.lst ds,false,M⟩
section
variable {K:PySem.W.Frag}{H0 H H':Hp}{A0:List Addr}{hs:List (V×D×List Addr)}{ρ:En}{F:Nat->List Addr}{σ:L2.St}
theorem Qp.Qab(s:Qj H H1)(hp:H1 p=none)(r:Rps K H1 ds vs G)(hz:ds.length<=sizeLine)(src:Src ρ F H M G)(ow:QK ρ M):
  Qp K ρ F H (upd H1 p (.lst vs)) (Qab ds M) (.ref p) (p::G):=by
 have s2:Qj H1 (upd H1 p (.lst vs)):=QaB hp
 have rp:Rp K (upd H1 p (.lst vs)) (.lst ds) (.ref p) (p::G):=Rp.QbD QJ (r.same s2) hz
 have hH:H p=none:=s.free hp
 unfold HS.Qab
 split
 ·rename_i hf
  have:=r.Qad hf
  subst this
  refine⟨s.trans s2,rp,λa ha=>?_,λ_=>⟨λa=>?_,by simp only[D.nl,QcQ ds hf];rfl⟩,QK.nil⟩
  ·have:a=p:=by simpa using ha
   subst this;exact .inl hH
  ·rw[List.count_singleton]
   split
   ·rename_i e;have e':p=a:=by simpa using e
    subst e';rw[QG hH];omega
   ·omega
 ·refine⟨s.trans s2,rp,λa ha=>?_,λz=>(by cases z),ow⟩
  rcases Zu.mp ha with rfl | h
  ·exact .inl hH
  ·exact src a h
end
noncomputable def Qbf(fa fb:DE):DE:=λρ=>(fa ρ).bind λra=>(fb ρ).bind λrb=>match ra.d,rb.d with
 | .int i,.int j=>some ⟨.int (i+j),true,[]⟩
 | .lst xs,.lst ys=>if xs.length+ys.length<=sizeLine then some (Qab (xs++ys) (ra.M++rb.M))else none
 | .str x,.str y=>if x.length+y.length<=sizeLine then some ⟨.str (x++y),true,[]⟩else none
 | _,_=>none
noncomputable def Qb8(fa fb:DE):DE:=λρ=>(fa ρ).bind λra=>(fb ρ).bind λrb=>match ra.d,rb.d with
 | .int i,.int j=>if Qa5 i j then some ⟨.int (i*j),true,[]⟩else none
 | .lst xs,.int j=>if xs.length*j.toNat<=sizeLine/\ -(2^63)<=j/\j<2^63/\Qq xs=true then some ⟨.lst (List.replicate j.toNat xs).flatten,true,[]⟩else none
 | _,_=>none
theorem QgC{fa fb:DE}{ρ:En}{k:R->R->Option R}{r:R}(e:((fa ρ).bind λra=>(fb ρ).bind λrb=>k ra rb)=some r):∃ra rb,fa ρ=some ra/\fb ρ=some rb/\k ra rb=some r:=by
 cases h1:fa ρ with
 | none=>rw[h1]at e;cases e
 | some ra=>
  cases h2:fb ρ with
  | none=>rw[h1,h2]at e;cases e
  | some rb=>rw[h1,h2]at e;exact⟨ra,rb,rfl,rfl,e⟩
theorem bind1{α β:Type}{x:Option α}{k:α->Option β}{r:β}(e:x.bind k=some r):∃a,x=some a/\k a=some r:=by
 cases x with
 | none=>cases e
 | some a=>exact⟨a,rfl,e⟩
section
noncomputable def Qmp(K:PySem.W.Frag):R2:=λx y H Q=>∃l c xs zs,x= .ref l/\y= .ref c/\(H l=some (.lst xs)∨Fix K H l xs)/\(H c=some (.lst zs)∨Fix K H c zs)/\xs.length+zs.length<=sizeLine/\∀p,H p=none->Q (.ref p) (upd H p (.lst (xs++zs)))
theorem mapR{α γ:Type}{x:Option α}{f:α->γ}{r:γ}{M:γ->Prop}(e:x.map f=some r)(g:∀a,x=some a->M (f a)):M r:=by
 obtain⟨a,h,rfl⟩:=Zd.mp e
 exact g a h
theorem Qb{α β:Type}{x:Option α}{k:α->Option β}{r:β}{G:Prop}(e:x.bind k=some r)(g:∀a,x=some a->k a=some r->G):G:=let ⟨a,h1,h2⟩:=bind1 e;g a h1 h2
theorem Qjv:OpR X (binaryOp .Add) (Qmp X.K):=by
 intro pins s σ H x y v u Q I rx ry h
 obtain⟨l,c,xs,zs,rfl,rfl,hH,hB,hz,q⟩:=h
 cases rx
 cases ry
 obtain⟨z,its,n,r,hl,e⟩:=I.Qfs hH
 obtain⟨z2,its2,n2,r2,hl2,e2⟩:=I.Qfs hB
 refine PySem.P.add_list e e2 ?_ (by rw[Zo,Zo];omega)
 have ea:its.toArray++its2.toArray=(its++its2).toArray:=by simp
 rw[ea]
 exact⟨.ref _,_,I.Ql4 (t':=s.toks) (r.append r2) (by rw[Zp];omega),rfl,q _ I.fresh⟩
theorem Qku(ha:SE X a fa)(hb:SE X b fb):SE X (.BinOp a .Add b pos) (Qbf fa fb):=λH0 A0=>
 (QgH ((QkD.or Qjv).or Qgc) (ha H0 A0) (hb H0 A0)).mono λσ H Q=>exK λρ hs F r' rel e q=>by
  obtain⟨ra,rb,ea,eb,ek⟩:=QgC e
  refine two rel ea eb λx y H1 H2 G1 G2 p1 p2=>?_
  have p1':=p1.rp.same p2.same
  have p2':=p2.rp
  have c1:=p1.src.append p2.src p1.same
  have o1:=p1.own.append p2.own
  revert ek
  revert p1' p2'
  cases ra.d<;>cases rb.d<;>intro p1' p2' ek<;>first | (cases ek;done) | skip
  ·cases ek
   rw[p1'.int_inv,p2'.int_inv]
   left
   exact .inl ⟨_,_,rfl,rfl,q _ H2 [] (.flat (p1.same.trans p2.same) .int_mk)⟩
  ·rename_i xs ys
   dsimp only at ek
   split at ek
   ·rename_i hz
    cases ek
    rw[p1'.str_inv,p2'.str_inv]
    exact .inr ⟨_,_,rfl,rfl,hz,q _ H2 [] (.flat (p1.same.trans p2.same) .str_mk)⟩
   ·cases ek
  ·rename_i xs ys
   dsimp only at ek
   split at ek
   ·rename_i hz
    cases ek
    obtain⟨l,vs,L1,rfl,hl,rl,zl,el⟩:=p1'.lst_inv
    obtain⟨c,ws,L2',rfl,hc,rc,zc,ec⟩:=p2'.lst_inv
    have n1:=rl.length
    have n2:=rc.length
    left
    refine .inr ⟨l,c,vs,ws,rfl,rfl,hl,hc,by omega,λp hp=>?_⟩
    refine q _ _ (p::(L1++L2')) (Qp.Qab (p1.same.trans p2.same) hp (rl.append rc) (by rw[Zp];exact hz) (λa ha=>c1 a ?_) o1)
    rcases Zx.mp ha with h | h
    ·refine Zc _ ?_
     rcases el with rfl | rfl
     ·exact Za _ h
     ·exact h
    ·refine Zb _ ?_
     rcases ec with rfl | rfl
     ·exact Za _ h
     ·exact h
   ·cases ek
noncomputable def Qmf(K:PySem.W.Frag):R2:=λx y H Q=>∃l k xs,x= .ref l/\y= .int k/\(H l=some (.lst xs)∨Fix K H l xs)/\ -(2^63)<=k/\k<2^63/\xs.length*k.toNat<=sizeLine∧
 ∀p,H p=none->Q (.ref p) (upd H p (.lst (List.replicate k.toNat xs).flatten))
theorem Qjz:OpR X (binaryOp .Mult) (Qmf X.K):=by
 intro pins s σ H x y v u Q I rx ry h
 obtain⟨l,k,xs,rfl,rfl,hH,h1,h2,hz,q⟩:=h
 cases rx
 obtain⟨t,rfl⟩:=ry
 obtain⟨z,its,n,r,hl,e⟩:=I.Qfs hH
 have hlen:its.toArray.size*k.toNat<=sizeLine:=by rw[Zo,← hl];exact hz
 have hcap:¬its.toArray.size*k.toNat>(2^63-1) / 8:=by
  have:(sizeLine:Nat)<=(2^63-1) / 8:=by decide
  omega
 have hfit:¬(!Builtin.List.listFitsIndex k)=true:=by
  rw[fitsIndex_both h1 h2]
  exact ZT
 have hlong:¬Builtin.List.listTooLong (its.toArray.size*k.toNat)=true:=by
  rw[QiW hlen]
  exact ZT
 have hnew:List.foldl (λx1 x2=>x1++x2) #[] (List.replicate (if its.toArray.isEmpty=true then 0 else k.toNat) its.toArray)=(List.replicate k.toNat its).flatten.toArray:=by
  have f0:∀m:Nat,List.foldl (λx1 x2=>x1++x2) #[] (List.replicate m its.toArray)=(List.replicate m its).flatten.toArray:=λm=>by
   have:=foldl_rep its m []
   rw[List.nil_append]at this
   exact this
  rw[f0]
  cases its with
  | nil=>simp
  | cons a r'=>rw[if_neg (by simp)]
 open PyProof.Rows in
 refine wpAny_binaryOp_repeat_ref (by decide) ⟨_,e,rfl⟩ (λs'=>typeIs_int s' k t) noFill_list_mul F.fills_int_mul F.slot_int_rmul repeat_list F.slot_int_index.lookup
  (call_meets F.slot_int_rmul (typeIs_int s k t) F.entry_int_rmul (F.args_int_rmul_2 _ _) (int___rmul___int_list k t l its.toArray n)
   ⟨e,rfl,⟨_,e,rfl⟩,call_meets F.slot_list_mul ⟨_,e,rfl⟩ F.entry_list_mul (F.args_list_mul_2 _ _) (AutoListH.list___mul___list_int_3 l its.toArray n k t hfit hcap hlong) ⟨e,?_⟩⟩)
 rw[hnew]
 exact⟨.ref _,_,I.Ql4 (t':=s.toks) (r.rep k.toNat) (by rw[len_rep,Nat.mul_comm];exact hz),rfl,q _ I.fresh⟩
theorem Qem(h:Qq xs=true):∀n:Nat,Qq (List.replicate n xs).flatten=true
 | 0=>by simp[Qq]
 | n+1=>by rw[ZH,ZL,Qbd,h,Qem h n];rfl
theorem Rps.rep(h:Rps K H ds vs []):∀n:Nat,Rps K H (List.replicate n ds).flatten (List.replicate n vs).flatten []
 | 0=>by simp[Rps]
 | n+1=>by rw[ZH,ZL,ZH,ZL];exact h.append (Rps.rep h n)
theorem Ql3(ha:SE X a fa)(hb:SE X b fb):SE X (.BinOp a .Mult b pos) (Qb8 fa fb):=λH0 A0=>
 (QgH (QjG.or Qjz) (ha H0 A0) (hb H0 A0)).mono λσ H Q=>exK λρ hs F r' rel e q=>by
  obtain⟨ra,rb,ea,eb,ek⟩:=QgC e
  refine two rel ea eb λx y H1 H2 G1 G2 p1 p2=>?_
  have p1':=p1.rp.same p2.same
  have p2':=p2.rp
  revert ek
  revert p1' p2'
  cases ra.d<;>cases rb.d<;>intro p1' p2' ek<;>first | (cases ek;done) | skip
  ·dsimp only at ek
   split at ek
   ·rename_i hm
    cases ek
    rw[p1'.int_inv,p2'.int_inv]
    exact .inl ⟨_,_,rfl,rfl,hm,q _ H2 [] (.flat (p1.same.trans p2.same) .int_mk)⟩
   ·cases ek
  ·rename_i xs j
   dsimp only at ek
   split at ek
   ·rename_i hz
    cases ek
    obtain⟨hz1,hz2,hz3,hf⟩:=hz
    obtain⟨l,vs,L1,rfl,hl,rl,zl,el⟩:=p1'.lst_inv
    have n1:=rl.length
    have e0:=rl.Qad hf
    subst e0
    rw[p2'.int_inv]
    refine .inr ⟨l,j,vs,rfl,rfl,hl,hz2,hz3,by rw[← n1];exact hz1,λp hp=>?_⟩
    have w:HS.Qab (List.replicate j.toNat xs).flatten []=⟨.lst (List.replicate j.toNat xs).flatten,true,[]⟩:=by
     unfold HS.Qab;rw[if_pos (Qem hf _)]
    rw[← w]at q
    exact q _ _ (p::[]) (Qp.Qab (p1.same.trans p2.same) hp (rl.rep _) (by rw[len_rep,Nat.mul_comm];exact hz1) Src.nil QK.nil)
   ·cases ek
end
end HS
namespace HS
open PySem PySem.Spec L2
noncomputable def Qk:DA:=λ_=>some ⟨[],true,[]⟩
noncomputable def Qf(fa:DE)(fr:DA):DA:=λρ=>(fa ρ).bind λr=>(fr ρ).bind λrs=>some ⟨r.d::rs.ds,r.fr && rs.fr,r.M++rs.M⟩
noncomputable def Qk4(fa:DA):DE:=λρ=>(fa ρ).bind λr=>if r.ds.length<=64 then some ⟨.tup r.ds,r.fr,r.M⟩else none
noncomputable def QdO(fa:DA):DE:=λρ=>(fa ρ).bind λr=>if r.ds.length<=64 then some ⟨.lst r.ds,r.fr,r.M⟩else none
section
variable {X:Cx}{a b e:Expr}{es:List Expr}{fa fb:DE}{fs:DA}{pos:Pos}
theorem QbG:SA X [] Qk:=λH0 A0=>Qco.mono λσ H Q=>exK λρ hs F r' rel e q=>by
 cases e
 exact q [] H [] ⟨Qj.refl _,by simp[Rps],Src.nil,λ_=>⟨Cnt.nil,rfl⟩,QK.nil⟩
theorem QaR(ha:SE X e fa)(hr:SA X es fs)(hs:starEach (e::es) X.env=(false,eval e X.env)::starEach es X.env):SA X (e::es) (Qf fa fs):=λH0 A0=>
 (QaQ (ha H0 A0) (hr H0 A0) hs).mono λσ H Q=>exK λρ hs F r' rel e q=>by
  refine Qb e λr e1 e=>?_
  refine Qb e λrs e2 e=>?_
  cases e
  refine⟨ρ,hs,F,r,rel,e1,λx H1 G1 p1=>⟨ρ,hs,F,rs,rel.ext p1.same,e2,λxs H2 G2 p2=>?_⟩⟩
  refine q _ H2 (G1++G2) ⟨p1.same.trans p2.same,?_,p1.src.append p2.src p1.same,λh=>?_,p1.own.append p2.own⟩
  ·simp only[Rps]
   exact⟨x,xs,G1,G2,rfl,rfl,p1.rp.same p2.same,p2.rp⟩
  ·simp only[Zf]at h
   exact⟨(p1.cnt h.1).1.append rel (p2.cnt h.2).1 p1.same p1.rp.mem,by simp only[nls,Zp,(p1.cnt h.1).2,(p2.cnt h.2).2]⟩
theorem Qb9{n:Nat}(h:n<=64):n<=sizeLine:=Zr h (by decide)
theorem QlK{k:Nat}(ha:SA X es fs):SE X (.Tuple es k pos) (Qk4 fs):=λH0 A0=>
 (QkE (ha H0 A0)).mono λσ H Q=>exK λρ hs F r' rel e q=>by
  refine Qb e λr e1 e=>?_
  split at e
  ·rename_i hz
   cases e
   refine⟨ρ,hs,F,r,rel,e1,λxs H1 G p=>⟨by rw[← p.rp.length];exact Qb9 hz,λc hc=>q _ _ G ⟨p.same.trans (QaB hc),Rp.Qhq QJ (p.rp.same (QaB hc)),p.src,λh=>⟨(p.cnt h).1,by simp only[D.nl];exact(p.cnt h).2⟩,p.own⟩⟩⟩
  ·cases e
theorem Qkx(ha:SA X es fs):SE X (.List es pos) (QdO fs):=λH0 A0=>
 (QkT (ha H0 A0)).mono λσ H Q=>exK λρ hs F r' rel e q=>by
  refine Qb e λr e1 e=>?_
  split at e
  ·rename_i hz
   cases e
   refine⟨ρ,hs,F,r,rel,e1,λxs H1 G p=>⟨by rw[← p.rp.length];exact Qb9 hz,λc hc=>?_⟩⟩
   have hH:H c=none:=p.same.free hc
   refine q _ _ (c::G) ⟨p.same.trans (QaB hc),Rp.QbD QJ (p.rp.same (QaB hc)) (Qb9 hz),λz hz'=>?_,λh=>⟨λz=>?_,by simp only[D.nl,ZC,(p.cnt h).2]⟩,p.own⟩
   ·rcases Zu.mp hz' with rfl | h
    ·exact .inl hH
    ·exact p.src z h
   ·rw[ZX]
    have:=(p.cnt h).1 z
    split
    ·rename_i e'
     have e':c=z:=by simpa using e'
     subst e'
     have h0:G.count c=0:=ZA.mpr λhm=>by obtain⟨vs,w⟩:=p.rp.mem c hm;rw[hc]at w;cases w
     rw[QG hH];omega
    ·exact this
  ·cases e
noncomputable def D.items:D->Option (List D)
 | .lst xs=>some xs
 | .tup xs=>some xs
 | _=>none
noncomputable def QbY(fa fb:DE):DE:=λρ=>(fa ρ).bind λra=>(fb ρ).bind λrb=>match rb.d with
 | .int i=>match ra.d with
  | .str x=>if 0<=i/\i<2^63/\i<x.length then(x.cps[i.toNat]?).map λc=>⟨.str ⟨#[c]⟩,true,[]⟩else none
  | _=>(ra.d.items).bind λxs=>(atI xs i).map λd=>(R.norm ⟨d,ra.fr,ra.M⟩)
 | _=>none
theorem QjD{α β:Type}{xs:List α}{i:Int}{d:α}(h:atI xs i=some d):∃j:Nat,xs[j]? =some d/\∀(ys:List β),ys.length=xs.length->∀y,ys[j]? =some y->atI ys i=some y:=by
 unfold atI at h
 cases e:ixN xs.length i with
 | none=>rw[e]at h;cases h
 | some j=>
  rw[e]at h
  refine⟨j,h,λys hl y hy=>?_⟩
  unfold atI
  rw[hl,e]
  exact hy
theorem QlP(ha:SE X a fa)(hb:SE X b fb)(hs:QcC b):SE X (.Subscript a b pos) (QbY fa fb):=λH0 A0=>
 (QjS (Qi7 (QfE.or Qg8) (ha H0 A0) (hb H0 A0) hs) (QfC (ha H0 A0) (hb H0 A0) (λo i=>hs o i))).mono λσ H Q=>exK λρ hs F r' rel e q=>by
  obtain⟨ra,rb,ea,eb,ek⟩:=QgC e
  by_cases hx:∃x,ra.d= .str x
  ·obtain⟨z,hx⟩:=hx
   right
   refine two rel ea eb λx y H1 H2 G1 G2 p1 p2=>?_
   have p1':=p1.rp.same p2.same
   have p2':=p2.rp
   cases hb':rb.d with
   | int i=>
    rw[hb',hx]at ek
    rw[hx]at p1'
    rw[hb']at p2'
    have ek:(if 0<=i/\i<2^63/\i<z.length then(z.cps[i.toNat]?).map λc=>(⟨.str ⟨#[c]⟩,true,[]⟩:HS.R)else none)=some r':=ek
    split at ek
    ·rename_i hi
     obtain⟨c,hc,rfl⟩:=Zd.mp ek
     exact⟨z,i,c,p1'.str_inv,p2'.int_inv,hi.1,hi.2.1,hi.2.2,hc,q _ H2 [] (.flat (p1.same.trans p2.same) .str_mk)⟩
    ·cases ek
   | _=>rw[hb']at ek;cases ek
  left
  have ek:(match rb.d with | .int i=>(ra.d.items).bind λxs=>(atI xs i).map λd=>(R.norm ⟨d,ra.fr,ra.M⟩) | _=>none)=some r':=by
   rw[← ek]
   split
   ·split
    ·rename_i h;exact absurd ⟨_,h⟩ hx
    ·rfl
   ·rfl
  refine two rel ea eb λx y H1 H2 G1 G2 p1 p2=>?_
  have p1':=p1.rp.same p2.same
  have p2':=p2.rp
  have pp:Qp X.K ρ F H H2 ra x G1:=⟨p1.same.trans p2.same,p1',p1.src,p1.cnt,p1.own⟩
  cases hb':rb.d with
  | int i=>
   rw[hb']at ek p2'
   rw[p2'.int_inv]
   refine Qb ek λxs ex ek=>?_
   obtain⟨d,ed,ek⟩:=Zd.mp ek
   subst ek
   obtain⟨j,hj,hm⟩:=QjD ed
   have fin:∀(L:List Addr) (vs:List V),Rps X.K H2 xs vs L->(∀z,L.count z<=G1.count z)->(G1.length=ra.d.nl->L.length=nls xs)->∃v,atI vs i=some v/\Q v H2:=λL vs rl hc hn=>by
    obtain⟨v,F1,G,F2,hv,eF,rv,hx⟩:=rl.get hj
    refine⟨v,hm vs rl.length.symm v hv,q v H2 G (Qp.norm (Qp.sub pp rv (λz=>Zr ?_ (hc z)) λz=>hx (hn z)))⟩
    rw[eF,ZI,ZI];omega
   cases hra:ra.d with
   | lst ys=>
    rw[hra]at ex p1'
    cases ex
    obtain⟨l,vs,L,rfl,hl,rl,zl,el⟩:=p1'.lst_inv
    have hn:G1.length=ra.d.nl->L.length=nls xs:=λhz=>by
     have:=rl.QA
     simp only[hra,D.nl]at hz
     rcases el with rfl | rfl
     ·rw[ZC]at hz;omega
     ·omega
    have hc:∀z,L.count z<=G1.count z:=λz=>by
     rcases el with rfl | rfl
     ·rw[ZX];omega
     ·exact Zj _
    obtain⟨v,h1,h2⟩:=fin L vs rl hc hn
    exact .inl ⟨l,vs,i,v,rfl,rfl,Qu hl,h1,h2⟩
   | tup ys=>
    rw[hra]at ex p1'
    cases ex
    obtain⟨l,vs,rfl,hl,rl⟩:=p1'.QQ
    obtain⟨v,h1,h2⟩:=fin G1 vs rl (λz=>Zj _) λz=>(by simpa only[hra,D.nl]using z)
    exact .inr ⟨l,vs,i,v,rfl,rfl,hl,h1,h2⟩
   | _=>rw[hra]at ex;cases ex
  | _=>rw[hb']at ek;cases ek
noncomputable abbrev DO:=En->Option (Option Int)
noncomputable def Qbm:DO:=λ_=>some none
noncomputable def Qbp(f:DE):DO:=λρ=>(f ρ).bind λr=>match r.d with
 | .int i=>some (some i)
 | _=>none
noncomputable def tVO(K:PySem.W.Frag)(H0:Hp)(A0:List Addr)(f:DO):TO:=λσ H Q=>∃ρ hs F o,Rel K H0 A0 hs ρ F σ H/\f ρ=some o/\∀H',Qj H H'->Q o H'
def SO(X:Cx)(e:Option Expr)(f:DO):Prop:=∀H0 A0,PO X e (tVO X.K H0 A0 f)
theorem _root_.L2.PO.mono{X:Cx}{e:Option Expr}{t t':TO}(h:PO X e t)(m:∀σ H Q,t' σ H Q->t σ H Q):PO X e t':=by
 intro pins s σ H Q I q
 exact h pins s σ H Q I (m σ H Q q)
theorem QjN:SO X none Qbm:=λH0 A0=>Qkd.mono λσ H Q=>exK λρ hs F o rel e q=>by
 cases e
 exact q H (Qj.refl _)
theorem Qkj(h:SE X a fa):SO X (some a) (Qbp fa):=λH0 A0=>(Qkh (h H0 A0)).mono λσ H Q=>exK λρ hs F o rel e q=>by
 refine Qb e λr e1 e=>?_
 refine⟨ρ,hs,F,r,rel,e1,λv H1 G p=>?_⟩
 have rp:=p.rp
 cases hr:r.d with
 | int i=>
  rw[hr]at e rp
  cases e
  exact⟨i,rp.int_inv,q H1 p.same⟩
 | _=>rw[hr]at e;cases e
noncomputable def cutD(xs:List D)(lo hi:Option Int):List D:=(xs.drop (HT.sIx xs.length 0 lo)).take (HT.sIx xs.length xs.length hi-HT.sIx xs.length 0 lo)
noncomputable def Qcj(fa:DE)(lo hi:DO):DE:=λρ=>(fa ρ).bind λra=>(lo ρ).bind λl=>(hi ρ).bind λh=>match ra.d with
 | .lst xs=>some (Qab (cutD xs l h) ra.M)
 | .str x=>if x.length<=sizeLine then some ⟨.str (Txt.slice x l h),true,[]⟩else none
 | _=>none
theorem Rps.drop:∀{ds:List D}{vs:List V}{F:List Addr}{K:PySem.W.Frag}{H:Hp}(n:Nat),Rps K H ds vs F->∃G,Rps K H (ds.drop n) (vs.drop n) G/\∀a∈G,a∈F
 | [],vs,F,K,H,n,h=>by simp only[Rps]at h;rw[h.1,h.2];exact⟨[],by simp[Rps],λ_ h=>h⟩
 | d::ds,vs,F,K,H,0,h=>⟨F,by simpa using h,λ_ h=>h⟩
 | d::ds,vs,F,K,H,n+1,h=>by
  simp only[Rps]at h
  obtain⟨v,ws,F1,F2,e,eF,r,q⟩:=h
  subst e eF
  obtain⟨G,h1,h2⟩:=Rps.drop n q
  exact⟨G,by simpa using h1,λa ha=>Zb _ (h2 a ha)⟩
theorem Rps.take:∀{ds:List D}{vs:List V}{F:List Addr}{K:PySem.W.Frag}{H:Hp}(n:Nat),Rps K H ds vs F->∃G,Rps K H (ds.take n) (vs.take n) G/\∀a∈G,a∈F
 | [],vs,F,K,H,n,h=>by simp only[Rps]at h;rw[h.1,h.2];exact⟨[],by simp[Rps],λ_ h=>h⟩
 | d::ds,vs,F,K,H,0,h=>⟨[],by simp[Rps],λ_ h=>by simp at h⟩
 | d::ds,vs,F,K,H,n+1,h=>by
  simp only[Rps]at h
  obtain⟨v,ws,F1,F2,e,eF,r,q⟩:=h
  subst e eF
  obtain⟨G,h1,h2⟩:=Rps.take n q
  refine⟨F1++G,?_,λa ha=>?_⟩
  ·simp only[List.take_succ_cons,Rps]
   exact⟨v,_,F1,G,rfl,rfl,r,h1⟩
  ·rcases Zx.mp ha with h | h
   ·exact Zc _ h
   ·exact Zb _ (h2 a h)
theorem QkX{lo hi:Option Expr}{fl fh:DO}{p2:Pos}(ha:SE X a fa)(hl:SO X lo fl)(hh:SO X hi fh):SE X (.Subscript a (.Slice lo hi none p2) pos) (Qcj fa fl fh):=λH0 A0=>
 (Qiw (Qju.or Qlu) (ha H0 A0) (hl H0 A0) (hh H0 A0)).mono λσ H Q=>exK λρ hs F r' rel e q=>by
  refine Qb e λra e1 e=>?_
  refine Qb e λl e2 e=>?_
  refine Qb e λh e3 e=>?_
  refine⟨ρ,hs,F,ra,rel,e1,λx H1 G1 p1=>⟨ρ,hs,F,l,rel.ext p1.same,e2,λH2 s2=>⟨ρ,hs,F,h,(rel.ext p1.same).ext s2,e3,λH3 s3=>?_⟩⟩⟩
  have rp:=p1.rp.same (s2.trans s3)
  cases hra:ra.d with
  | lst xs=>
   rw[hra]at e rp
   cases e
   obtain⟨c,vs,L,rfl,hc,rl,zl,el⟩:=rp.lst_inv
   left
   refine⟨c,vs,rfl,Qu hc,λp hp=>?_⟩
   obtain⟨G2,h2,m2⟩:=rl.drop (HT.sIx xs.length 0 l)
   obtain⟨G3,h3,m3⟩:=h2.take (HT.sIx xs.length xs.length h-HT.sIx xs.length 0 l)
   have n1:=rl.length
   rw[show QdE vs l h=(vs.drop (HT.sIx xs.length 0 l)).take (HT.sIx xs.length xs.length h-HT.sIx xs.length 0 l) by unfold QdE;rw[n1]]
   refine q _ _ (p::G3) (Qp.Qab (p1.same.trans (s2.trans s3)) hp h3 ?_ (λz hz=>p1.src z ?_) p1.own)
   ·unfold cutD;rw[Zab,List.length_drop];omega
   ·have:=m2 z (m3 z hz)
    rcases el with rfl | rfl
    ·exact Za _ this
    ·exact this
  | str x=>
   rw[hra]at e rp
   dsimp only at e
   split at e
   ·rename_i hz
    cases e
    exact .inr ⟨x,rp.str_inv,hz,q _ H3 [] (.flat (p1.same.trans (s2.trans s3)) .str_mk)⟩
   ·cases e
  | _=>rw[hra]at e;cases e
noncomputable def dBf(g:List D->Option D)(fs:DA):DE:=λρ=>(fs ρ).bind λr=>(g r.ds).map λd=>⟨d,true,[]⟩
def QbB(K:PySem.W.Frag)(g:List D->Option D)(r:List V->Hp->VK->Prop):Prop:=∀ds d,g ds=some d->d.flat=true/\∀H vs F (Q:VK),Rps K H ds vs F->(∀v,(∀H',Rp K H' d v [])->Q v H)->r vs H Q
theorem Qje{x:Str}{id:String}{g:List D->Option D}{r:List V->Hp->VK->Prop}{p:Pos}(hc:QM X (.builtin id) r)(hk:QbB X.K g r)(hg:Gl X x)(hm:X.mg x=none)(hv:bootBuiltins x=some (.builtin id))(ha:SA X (e::es) fs)(hn:x≠ "__name__")(hdb:(x == ("__debug__" :Str))=false)
  (he:starEach (e::es) X.env=(false,eval e X.env)::starEach es X.env) (hpl:(backTo pos (starEach es X.env)).any (·.1)=false):SE X (.Call (.Name x p) (e::es) [] pos) (dBf g fs):=λH0 A0=>
 (QeN hc hg hm hv (ha H0 A0) hn hdb he hpl).mono λσ H Q=>exK λρ hs F r' rel e q=>by
  refine Qb e λra e1 e=>?_
  obtain⟨d,ed,e⟩:=Zd.mp e
  subst e
  exact⟨ρ,hs,F,ra,rel,e1,λvs H1 G p1=>(hk _ _ ed).2 H1 vs G Q p1.rp λv hv=>q v H1 [] (.flat p1.same (hv _) (hk _ _ ed).1)⟩
theorem Rps.one{K:PySem.W.Frag}{H:Hp}{d:D}{vs:List V}{F:List Addr}(h:Rps K H [d] vs F):∃v,vs=[v]/\Rp K H d v F:=by
 simp only[Rps]at h
 obtain⟨v,ws,F1,F2,rfl,rfl,r,rfl,rfl⟩:=h
 exact⟨v,rfl,by simpa using r⟩
theorem Rps.two{K:PySem.W.Frag}{H:Hp}{d e:D}{vs:List V}{F:List Addr}(h:Rps K H [d,e] vs F):∃v w F1 F2,vs=[v,w]/\Rp K H d v F1/\Rp K H e w F2:=by
 simp only[Rps]at h
 obtain⟨v,ws,F1,F2,rfl,rfl,r,w,ws',F3,F4,rfl,rfl,r2,rfl,rfl⟩:=h
 exact⟨v,w,F1,F3,rfl,r,r2⟩
noncomputable def QaP:List D->Option D
 | [.lst xs]=>some (.int xs.length)
 | [.tup xs]=>some (.int xs.length)
 | [.str x]=>if x.length<=sizeLine then some (.int x.length)else none
 | _=>none
noncomputable def Qi8(K:PySem.W.Frag):List V->Hp->VK->Prop:=λxs H Q=>(∃p ys,xs=[.ref p]/\(SqL K H p ys∨SqT K H p ys)/\Q (.int ys.length) H)∨∃z,xs=[.str z]/\z.length<=sizeLine/\Q (.int z.length) H
theorem Qhl{X:Cx}:QM X (.builtin "len") (Qi8 X.K):=Qfd.or Qft
theorem Ql1{K:PySem.W.Frag}:QbB K QaP (Qi8 K):=λds d e=>by
 unfold QaP at e
 split at e
 ·cases e
  refine⟨rfl,λH vs F Q r q=>?_⟩
  obtain⟨v,rfl,rp⟩:=r.one
  obtain⟨l,ws,L,rfl,hl,rl,zl,el⟩:=rp.lst_inv
  left
  exact⟨l,ws,rfl,.inl (Qu hl),by rw[← rl.length];exact q _ λ_=> .int_mk⟩
 ·cases e
  refine⟨rfl,λH vs F Q r q=>?_⟩
  obtain⟨v,rfl,rp⟩:=r.one
  obtain⟨l,ws,rfl,hl,rl⟩:=rp.QQ
  left
  exact⟨l,ws,rfl,.inr hl,by rw[← rl.length];exact q _ λ_=> .int_mk⟩
 ·split at e
  ·rename_i hz
   cases e
   refine⟨rfl,λH vs F Q r q=>?_⟩
   obtain⟨v,rfl,rp⟩:=r.one
   exact .inr ⟨_,by rw[rp.str_inv],hz,q _ λ_=> .int_mk⟩
  ·cases e
 ·cases e
noncomputable def dList(fs:DA):DE:=λρ=>(fs ρ).bind λr=>match r.ds with
 | [.lst xs]=>some (Qab xs r.M)
 | [.tup xs]=>if xs.length<=sizeLine then some (Qab xs r.M)else none
 | _=>none
end
end HS
namespace HS
open PySem PySem.Spec L2 PyProof.Rows
end HS
namespace HS
open PySem PySem.Spec L2
mutual
noncomputable def D.py:D->PyData
 | .non=> .none
 | .bl b=> .bool b
 | .int i=> .int i
 | .str x=> .str x
 | .tup xs=> .tuple (pys xs)
 | .lst xs=> .list (pys xs)
 | .exc _=> .none
 | .dk _=> .none
noncomputable def pys:List D->List PyData
 | []=>[]
 | d::ds=>d.py::pys ds
end
theorem QfT:∀ds:List D,pys ds=ds.map D.py
 | []=>rfl
 | d::ds=>by simp[pys,QfT ds]
noncomputable def D.sim:Nat->D->Bool
 | _,.non=>true
 | _,.bl _=>true
 | _,.int _=>true
 | _,.str x=>PyData.canLay0 (.str x)
 | 0,.tup xs=>xs.isEmpty
 | 0,.lst xs=>xs.isEmpty
 | n+1,.tup xs=>xs.all (D.sim n)
 | n+1,.lst xs=>xs.all (D.sim n)
 | _,.exc _=>false
 | _,.dk _=>false
theorem Qbi:∀{ds:List D},(∀d∈ds,d.py.canLay0=true)->PyData.canLayAll0 (pys ds)=true
 | [],_=>rfl
 | d::ds,h=>by
  simp only[pys,PyData.canLayAll0,Zf]
  exact⟨h d Zi,Qbi λe he=>h e (Za _ he)⟩
theorem Qbw:∀{ds:List D},(∀d∈ds,d.py.depth<=n)->PyData.depthAll (pys ds)<=n
 | [],_=>ZJ _
 | d::ds,h=>by
  simp only[pys,PyData.depthAll]
  exact Nat.max_le.mpr ⟨h d Zi,Qbw λe he=>h e (Za _ he)⟩
theorem QX:∀(n:Nat) (d:D),d.sim n=true->d.py.canLay0=true/\d.py.depth<=n+1
 | n,.exc _,h=>by cases n<;>cases h
 | n,.dk _,h=>by cases n<;>cases h
 | n,.non,_=>by simp[D.py,PyData.canLay0,PyData.depth]
 | n,.bl _,_=>by simp[D.py,PyData.canLay0,PyData.depth]
 | n,.int _,_=>by simp[D.py,PyData.canLay0,PyData.depth]
 | n,.str x,h=>by
  simp only[D.py,PyData.depth]
  refine⟨?_,ZJ _⟩
  cases n<;>exact h
 | 0,.tup xs,h=>by
  have:xs=[]:=by simpa[D.sim]using h
  subst this
  simp[D.py,pys,PyData.canLay0,PyData.canLayAll0,PyData.depth,PyData.depthAll]
 | 0,.lst xs,h=>by
  have:xs=[]:=by simpa[D.sim]using h
  subst this
  simp[D.py,pys,PyData.canLay0,PyData.canLayAll0,PyData.depth,PyData.depthAll]
 | n+1,.tup xs,h=>by
  simp only[D.sim,ZK]at h
  simp only[D.py,PyData.canLay0,PyData.depth]
  exact⟨Qbi λd hd=>(QX n d (h d hd)).1,Zas (Qbw λd hd=>(QX n d (h d hd)).2) 1⟩
 | n+1,.lst xs,h=>by
  simp only[D.sim,ZK]at h
  simp only[D.py,PyData.canLay0,PyData.depth]
  exact⟨Qbi λd hd=>(QX n d (h d hd)).1,Zas (Qbw λd hd=>(QX n d (h d hd)).2) 1⟩
noncomputable def deq(a b:D):Bool:=PyData.eqv a.py b.py
theorem QiZ(h:d.sim n=true):deq d d=true:=SeqAt.eqv_refl _ (QX n d h).1
mutual
noncomputable def D.noX:D->Bool
 | .exc _=>false
 | .dk _=>false
 | .tup xs=>QcY xs
 | .lst xs=>QcY xs
 | .non=>true
 | .bl _=>true
 | .int _=>true
 | .str _=>true
noncomputable def QcY:List D->Bool
 | []=>true
 | d::ds=>d.noX && QcY ds
end
theorem QdS:∀{ds:List D},(∀d∈ds,d.noX=true)->QcY ds=true
 | [],_=>rfl
 | d::ds,h=>by
  simp only[QcY,Zf]
  exact⟨h d Zi,QdS λe he=>h e (Za _ he)⟩
theorem Q9:∀(n:Nat) (d:D),d.sim n=true->d.noX=true
 | n,.exc _,h=>by cases n<;>cases h
 | n,.dk _,h=>by cases n<;>cases h
 | n,.non,_=>rfl
 | n,.bl _,_=>rfl
 | n,.int _,_=>rfl
 | n,.str x,_=>rfl
 | 0,.tup xs,h=>by
  have:xs=[]:=by simpa[D.sim]using h
  subst this;rfl
 | 0,.lst xs,h=>by
  have:xs=[]:=by simpa[D.sim]using h
  subst this;rfl
 | n+1,.tup xs,h=>by
  simp only[D.sim,ZK]at h
  simp only[D.noX]
  exact QdS λd hd=>Q9 n d (h d hd)
 | n+1,.lst xs,h=>by
  simp only[D.sim,ZK]at h
  simp only[D.noX]
  exact QdS λd hd=>Q9 n d (h d hd)
section
variable {X:Cx}{pins:List (Addr×Obj)}{σ:L2.St}{H:Hp}{s:Shared}
mutual
theorem Rp.reads(I:Inv X pins σ H s):∀{d:D}{v:V}{F:List Addr}{u:Value},d.noX=true->Rp X.K H d v F->RelV v u->∃as,Reads s.heap u d.py as
 | .exc _,v,_,u,hx,h,r=>by cases hx
 | .dk _,v,_,u,hx,h,r=>by cases hx
 | .non,v,_,u,hx,h,r=>by
  rw[h.QdQ]at r
  cases(show u=Value.none from r)
  exact⟨_,.none⟩
 | .bl b,v,_,u,hx,h,r=>by
  rw[h.Qby]at r
  cases(show u=Value.bool b from r)
  exact⟨_,.bool b⟩
 | .int i,v,_,u,hx,h,r=>by
  rw[h.int_inv]at r
  obtain⟨t,rfl⟩:=(show ∃t,u=Value.int i t from r)
  exact⟨_,.int i t⟩
 | .str i,v,_,u,hx,h,r=>by
  rw[h.str_inv]at r
  obtain⟨t,rfl⟩:=(show ∃t,u=Value.str i t from r)
  exact⟨_,.str i t⟩
 | .tup ds,v,_,u,hx,h,r=>by
  obtain⟨a,vs,rfl,hq,rs⟩:=h.QQ
  cases(show u=Value.ref a from r)
  obtain⟨its,rv,⟨o,h1,h2,n,h3⟩,_⟩:=I.tuple hq
  obtain⟨as,ra⟩:=Rps.reads I (by simpa only[D.noX]using hx) rs rv
  exact⟨_,.tuple h1 h2 h3 (by simpa using ra)⟩
 | .lst ds,v,_,u,hx,h,r=>by
  simp only[Rp]at h
  obtain⟨hz,a,vs,rfl,h⟩:=h
  have key:∃G,(H a=some (.lst vs)∨Fix X.K H a vs)/\Rps X.K H ds vs G:=by
   rcases h with⟨G,_,q,rs⟩ | ⟨q,rs⟩
   ·exact⟨G,.inl q,rs⟩
   ·exact⟨_,.inr q,rs⟩
  obtain⟨G,hq,rs⟩:=key
  cases(show u=Value.ref a from r)
  obtain⟨_,its,n,rv,_,e⟩:=I.Qfs hq
  obtain⟨as,ra⟩:=Rps.reads I (by simpa only[D.noX]using hx) rs rv
  exact⟨_,.list e rfl rfl (by simpa using ra)⟩
theorem Rps.reads(I:Inv X pins σ H s):∀{ds:List D}{vs:List V}{F:List Addr}{us:List Value},QcY ds=true->Rps X.K H ds vs F->Qe vs us->∃as,ReadsAll s.heap us (pys ds) as
 | [],vs,_,us,_,h,r=>by
  simp only[Rps]at h
  rw[h.1]at r
  cases r
  exact⟨_,.nil⟩
 | d::ds,vs,_,us,hx,h,r=>by
  simp only[QcY,Zf]at hx
  simp only[Rps]at h
  obtain⟨v,ws,F1,F2,rfl,rfl,h1,h2⟩:=h
  cases r with
  | cons r rr=>
   obtain⟨as,ra⟩:=Rp.reads I hx.1 h1 r
   obtain⟨bs,rb⟩:=Rps.reads I hx.2 h2 rr
   exact⟨_,.cons ra rb⟩
end
end
noncomputable def gEq(a b:D):Option D:=if a.sim 8 && b.sim 8 then some (.bl (deq a b))else none
noncomputable def gNe(a b:D):Option D:=if a.sim 8 && b.sim 8 then some (.bl (!deq a b))else none
noncomputable def Qgt(neg:Bool)(a b:D):Option D:=match a,b with
 | .str x,.str y=>some (.bl (if neg then !(!(Builtin.Str.occurrences y x 0 y.length 1).isEmpty)else !(Builtin.Str.occurrences y x 0 y.length 1).isEmpty))
 | _,_=>none
noncomputable def Qe4(neg:Bool):R2:=λx y H Q=>∃i j,x= .str i/\y= .str j/\Q (.bl (if neg then !(!(Builtin.Str.occurrences j i 0 j.length 1).isEmpty)else !(Builtin.Str.occurrences j i 0 j.length 1).isEmpty)) H
theorem QkJ{X:Cx}:OpR X (compareOp .In) (Qe4 false):=QgZ
theorem Qj0{X:Cx}:OpR X (compareOp .NotIn) (Qe4 true):=Qfu
theorem Qk6{K:PySem.W.Frag}{neg:Bool}:Qag K (Qgt neg) (Qe4 neg):=λa b d e=>by
 unfold Qgt at e
 split at e
 ·cases e
  exact⟨rfl,λH x y F G Q ha hb q=>⟨_,_,ha.str_inv,hb.str_inv,q _ λ_=> .Qae⟩⟩
 ·cases e
noncomputable def gIn(neg:Bool)(a b:D):Option D:=match b with
 | .lst xs=>if a.sim 8 && b.sim 8 then some (.bl (if neg then !(xs.any λy=>deq y a)else xs.any λy=>deq y a))else none
 | .tup xs=>if a.sim 8 && b.sim 8 then some (.bl (if neg then !(xs.any λy=>deq y a)else xs.any λy=>deq y a))else none
 | .str _=>Qgt neg a b
 | _=>none
theorem Qg4{neg:Bool}:∀a b d,gIn neg a b=some d->∃k,d= .bl k:=λa b d h=>by
 unfold gIn at h
 split at h
 ·split at h<;>cases h;exact⟨_,rfl⟩
 ·split at h<;>cases h;exact⟨_,rfl⟩
 ·unfold Qgt at h;split at h;(cases h;exact⟨_,rfl⟩);cases h
 ·cases h
noncomputable def Ql7(K:PySem.W.Frag):R2:=λx y H Q=>∃a b F G,Rp K H a x F/\Rp K H b y G/\a.sim 8=true/\b.sim 8=true/\Q (.bl (deq a b)) H
noncomputable def QlM(K:PySem.W.Frag):R2:=λx y H Q=>∃a b F G,Rp K H a x F/\Rp K H b y G/\a.sim 8=true/\b.sim 8=true/\Q (.bl (!deq a b)) H
section
variable {X:Cx}
theorem Qmb(hu:X.A.units+64<cLine):OpR X (compareOp .Eq) (Ql7 X.K):=by
 intro pins s σ H x y v u Q I rx ry h
 obtain⟨a,b,F,G,ha,hb,sa,sb,q⟩:=h
 obtain⟨as,ra⟩:=Rp.reads I (Q9 8 _ sa) ha rx
 obtain⟨bs,rb⟩:=Rp.reads I (Q9 8 _ sb) hb ry
 have h1:=QX 8 a sa
 have h2:=QX 8 b sb
 exact SeqAt.compareEq_reads ra rb h1.1 h2.1 (by have:=Nat.min_le_left a.py.depth b.py.depth;omega) ⟨.bl _,H,I,rfl,q⟩
theorem QlN(hu:X.A.units+64<cLine):OpR X (compareOp .NotEq) (QlM X.K):=by
 intro pins s σ H x y v u Q I rx ry h
 obtain⟨a,b,F,G,ha,hb,sa,sb,q⟩:=h
 obtain⟨as,ra⟩:=Rp.reads I (Q9 8 _ sa) ha rx
 obtain⟨bs,rb⟩:=Rp.reads I (Q9 8 _ sb) hb ry
 have h1:=QX 8 a sa
 have h2:=QX 8 b sb
 exact SeqAt.compareNe_reads ra rb h1.1 h2.1 (by have:=Nat.min_le_left a.py.depth b.py.depth;omega) ⟨.bl _,H,I,rfl,q⟩
theorem Qmu:Qag K gEq (Ql7 K):=λa b d e=>by
 unfold gEq at e
 split at e
 ·rename_i h
  simp only[Zf]at h
  cases e
  exact⟨rfl,λH x y F G Q ha hb q=>⟨a,b,F,G,ha,hb,h.1,h.2,q _ λ_=> .Qae⟩⟩
 ·cases e
theorem Qmy:Qag K gNe (QlM K):=λa b d e=>by
 unfold gNe at e
 split at e
 ·rename_i h
  simp only[Zf]at h
  cases e
  exact⟨rfl,λH x y F G Q ha hb q=>⟨a,b,F,G,ha,hb,h.1,h.2,q _ λ_=> .Qae⟩⟩
 ·cases e
noncomputable def QhZ(K:PySem.W.Frag)(neg:Bool):R2:=λx y H Q=>∃a b F G xs,Rp K H a x F/\Rp K H b y G/\a.sim 8=true/\b.sim 8=true/\(b= .lst xs∨b= .tup xs)/\Q (.bl (if neg then !(xs.any λy=>deq y a)else xs.any λy=>deq y a)) H
noncomputable def Qd3(K:PySem.W.Frag)(neg:Bool):R2:=λx y H Q=>QhZ K neg x y H Q
 ∨Qe4 neg x y H Q
theorem inS{K:PySem.W.Frag}{neg:Bool}{x y:V}{H:Hp}{Q:VK}(h:QhZ K neg x y H Q):Qd3 K neg x y H Q:=by first | exact h | exact .inl h
theorem Qhg{K:PySem.W.Frag}{neg:Bool}{x y:V}{H:Hp}{Q:VK}{P:Prop}(h:Qd3 K neg x y H Q)(h1:QhZ K neg x y H Q->P)
 (h3:Qe4 neg x y H Q->P)
 :P:=by
 unfold Qd3 at h
 first
  | exact h1 h
  | exact h.elim h1 h3
  | exact h.elim h1 λh=>h.elim h2 h3
theorem QhX(xs:List D)(a:D):((pys xs).any λy=>PyData.eqv y a.py)=xs.any λy=>deq y a:=by
 rw[QfT,List.any_map];rfl
theorem QkR(hu:X.A.units+64<cLine):OpR X (compareOp .In) (Qd3 X.K false):=by
 intro pins s σ H x y v u Q I rx ry h
 refine Qhg h (λh=>?_)
  (QkJ pins s σ H x y v u Q I rx ry)
 obtain⟨a,b,F,G,xs,ha,hb,sa,sb,hk,q⟩:=h
 obtain⟨as,ra⟩:=Rp.reads I (Q9 8 _ sa) ha rx
 obtain⟨bs,rb⟩:=Rp.reads I (Q9 8 _ sb) hb ry
 have h1:=QX 8 a sa
 have h2:=QX 8 b sb
 have q':Q (.bl ((pys xs).any λy=>PyData.eqv y a.py)) H:=by rw[QhX];exact q
 rcases hk with rfl | rfl
 ·exact SeqAt.in_list_reads rb ra h2.1 h1.1 (by have:=Zaq (PyData.depthAll (pys xs)) a.py.depth;omega) ⟨.bl _,H,I,rfl,q'⟩
 ·exact SeqAt.in_tuple_reads rb ra h2.1 h1.1 (by have:=Zaq (PyData.depthAll (pys xs)) a.py.depth;omega) ⟨.bl _,H,I,rfl,q'⟩
theorem Qg7(hu:X.A.units+64<cLine):OpR X (compareOp .NotIn) (Qd3 X.K true):=by
 intro pins s σ H x y v u Q I rx ry h
 refine Qhg h (λh=>?_)
  (Qj0 pins s σ H x y v u Q I rx ry)
 obtain⟨a,b,F,G,xs,ha,hb,sa,sb,hk,q⟩:=h
 obtain⟨as,ra⟩:=Rp.reads I (Q9 8 _ sa) ha rx
 obtain⟨bs,rb⟩:=Rp.reads I (Q9 8 _ sb) hb ry
 have h1:=QX 8 a sa
 have h2:=QX 8 b sb
 have q':Q (.bl (!(pys xs).any λy=>PyData.eqv y a.py)) H:=by rw[QhX];exact q
 rcases hk with rfl | rfl
 ·exact SeqAt.notIn_list_reads rb ra h2.1 h1.1 (by have:=Zaq (PyData.depthAll (pys xs)) a.py.depth;omega) ⟨.bl _,H,I,rfl,q'⟩
 ·exact SeqAt.notIn_tuple_reads rb ra h2.1 h1.1 (by have:=Zaq (PyData.depthAll (pys xs)) a.py.depth;omega) ⟨.bl _,H,I,rfl,q'⟩
theorem Qjb:Qag K (gIn neg) (Qd3 K neg):=λa b d e=>by
 unfold gIn at e
 split at e
 ·split at e
  ·rename_i h
   simp only[Zf]at h
   cases e
   exact⟨rfl,λH x y F G Q ha hb q=>inS ⟨a,_,F,G,_,ha,hb,h.1,h.2,.inl rfl,q _ λ_=> .Qae⟩⟩
  ·cases e
 ·split at e
  ·rename_i h
   simp only[Zf]at h
   cases e
   exact⟨rfl,λH x y F G Q ha hb q=>inS ⟨a,_,F,G,_,ha,hb,h.1,h.2,.inr rfl,q _ λ_=> .Qae⟩⟩
  ·cases e
 ·obtain⟨h1,h2⟩:=Qk6 (K:=K) _ _ _ e
  exact⟨h1,λH x y F G Q ha hb q=>by have:=h2 H x y F G Q ha hb q;first | exact .inr this | exact .inr (.inr this)⟩
 ·cases e
noncomputable def D.tyN:D->String
 | .non=> "NoneType" | .bl _=> "bool" | .int _=> "int" | .str _=> "str" | .tup _=> "tuple" | .lst _=> "list" | .exc _=> "?" | .dk _=> "?"
noncomputable def D.isE:D->Bool
 | .exc _=>true
 | .dk _=>true
 | _=>false
noncomputable def D.isa(T:String)(d:D):Option Bool:=if(T == "int" || T == "bool" || T == "list" || T == "tuple" || T == "str") && !d.isE then some (d.tyN == T || (d.tyN == "bool" && T == "int"))else none
theorem Qk5(I:Inv X pins σ H s)(rp:Rp X.K H d v F)(rx:RelV v u)(e:d.isa T=some b)(h:∀tk,Q (.bool b) {s with toks:=tk}):
  wpAny (model X.prog X.w) A (call (.builtin "isinstance") [u,.type T]) Q E s:=by
 have kit:PySem.W.kitOne X.K (.type d.tyN) (.type T)=some b:=by
  unfold D.isa at e
  split at e
  ·rename_i hT
   cases e
   simp only[Zf,Bool.or_eq_true,beq_iff_eq]at hT
   obtain⟨hT,hE⟩:=hT
   rcases hT with(((rfl | rfl) | rfl) | rfl) | rfl<;>cases d<;>first | rfl | (cases hE)
  ·cases e
 cases d with
 | exc x=>unfold D.isa at e;split at e;(rename_i hT;exfalso;simp only[Zf]at hT;exact nomatch hT.2);cases e
 | dk x=>unfold D.isa at e;split at e;(rename_i hT;exfalso;simp only[Zf]at hT;exact nomatch hT.2);cases e
 | non=>rw[rp.QdQ]at rx;cases(show u=Value.none from rx);exact Zac PySem.W.kitx_none I.kIn True.intro kit (λz=>nomatch z) h
 | bl y=>rw[rp.Qby]at rx;cases(show u=Value.bool y from rx);exact Zac PySem.W.kitx_bool I.kIn True.intro kit (λz=>nomatch z) h
 | int i=>rw[rp.int_inv]at rx;obtain⟨t,q⟩:=(show ∃t,u=Value.int i t from rx);cases q;exact Zac PySem.W.kitx_int I.kIn True.intro kit (λz=>nomatch z) h
 | str y=>rw[rp.str_inv]at rx;obtain⟨t,q⟩:=(show ∃t,u=Value.str y t from rx);cases q;exact Zac PySem.W.kitx_str I.kIn True.intro kit (λz=>nomatch z) h
 | tup ds=>
  obtain⟨a,vs,rfl,hq,_⟩:=rp.QQ
  cases(show u=Value.ref a from rx)
  obtain⟨its,rv,⟨o,h1,h2,n,h3⟩,_⟩:=I.tuple hq
  exact Zac PySem.W.kitx_tuple I.kIn ⟨o,h1,h2⟩ kit (λz=>nomatch z) h
 | lst ds=>
  obtain⟨a,vs,G,rfl,hq,_⟩:=rp.lst_inv
  cases(show u=Value.ref a from rx)
  obtain⟨_,its,n,rv,_,e1⟩:=I.Qfs hq
  exact Zac PySem.W.kitx_list I.kIn ⟨_,e1,rfl⟩ kit (λz=>nomatch z) h
noncomputable def Qny(K:PySem.W.Frag):List V->Hp->VK->Prop:=λxs H Q=>∃x T d F b,xs=[x,.ty T]/\Rp K H d x F/\d.isa T=some b/\Q (.bl b) H
theorem QiV:QM X (.builtin "isinstance") (Qny X.K):=by
 intro pins s σ H xs us Q I r h
 obtain⟨x,T,d,F,b,rfl,rp,e,q⟩:=h
 obtain⟨u,w,rfl,ru,rw'⟩:=vals2 r
 cases(show w=Value.type T from rw')
 exact Qk5 I rp ru e λtk=>⟨.bl b,H,I.tok _,rfl,q⟩
noncomputable def Qcn(T:String)(fa:DE):DE:=λρ=>(fa ρ).bind λr=>(r.d.isa T).map λb=>⟨.bl b,true,[]⟩
theorem Qlh(hg:Gl X "isinstance")(hm:X.mg "isinstance" =none)(ha:SE X a fa)(hT:PE X (.Name x p2) (tC (.ty T)))
  (he:starEach [a,.Name x p2] X.env=(false,eval a X.env)::starEach [.Name x p2] X.env):SE X (.Call (.Name "isinstance" p) [a,.Name x p2] [] pos) (Qcn T fa):=λH0 A0=>
 (QeN QiV hg hm PyProof.Rows.boot_isinstance (QaQ (ha H0 A0) (QaQ hT Qco) he) (by decide) (by decide) he (by rfl)).mono λσ H Q=>exK λρ hs F r' rel e q=>by
  refine Qb e λr e1 e=>?_
  obtain⟨b,eb,e⟩:=Zd.mp e
  subst e
  exact⟨ρ,hs,F,r,rel,e1,λv H1 G p=>⟨v,T,r.d,G,b,rfl,p.rp,eb,q _ H1 [] (.flat p.same .Qae)⟩⟩
noncomputable def D.tru:D->Option Bool
 | .non=>some false
 | .bl b=>some b
 | .int i=>some (i != 0)
 | .lst xs=>some (!xs.isEmpty)
 | .tup xs=>some (!xs.isEmpty)
 | .str _=>none
 | .exc _=>none
 | .dk _=>none
theorem QeG(h:Rp K H d v F)(e:d.tru=some b):QiK K v H b:=by
 have emp:∀{ds:List D}{vs:List V}{G:List Addr},Rps K H ds vs G->(!ds.isEmpty)= !vs.isEmpty:=λ{ds vs G} r=>by
  have:=r.length
  cases ds<;>cases vs<;>simp_all
 cases d with
 | non=>rw[h.QdQ];cases e;exact rfl
 | bl c=>rw[h.Qby];cases e;exact rfl
 | int i=>rw[h.int_inv];cases e;exact rfl
 | str i=>cases e
 | exc i=>cases e
 | dk i=>cases e
 | tup ds=>cases e;obtain⟨a,vs,rfl,hq,r⟩:=h.QQ;exact .inr (.inl ⟨vs,hq,emp r⟩)
 | lst ds=>cases e;obtain⟨a,vs,G,rfl,hq,r,_⟩:=h.lst_inv;exact .inl ⟨vs,Qu hq,emp r⟩
noncomputable def Qr(fa:DE):DT:=λρ=>(fa ρ).bind λr=>r.d.tru
noncomputable def QdV(f g:DT):DT:=λρ=>(f ρ).bind λb=>if b=true then g ρ else some false
noncomputable def bOr(f g:DT):DT:=λρ=>(f ρ).bind λb=>if b=true then some true else g ρ
noncomputable def Qbx(f:DT):DT:=λρ=>(f ρ).bind λb=>some (!b)
def SW(X:Cx)(e:Expr)(f:DT):Prop:=∀H0 A0,PW X e (tVT X.K H0 A0 f)
theorem _root_.L2.PW.mono(h:PW X e t)(m:∀σ H Q,t' σ H Q->t σ H Q):PW X e t':=λwh pins s σ H Q I q=>h wh pins s σ H Q I (m σ H Q q)
variable {a b e:Expr}{fa fb:DE}{ga gb gc:DT}{pos:Pos}{rest:List Expr}
theorem Qky(ha:SE X a fa)(he:∀whole,isTrue a X.env whole=(do let v ← whole;standAt a.pos;holding [v] (truthy v))):ST X a (Qr fa):=λH0 A0=>
 (QiA (ha H0 A0) he).mono λσ H Q=>exK λρ hs F b rel e q=>by
  refine Qb e λr e1 e=>?_
  exact⟨ρ,hs,F,r,rel,e1,λv H1 G p=>⟨b,QeG p.rp e,q H1 p.same⟩⟩
theorem QlL(ho:OpR X (compareOp op) r)(hg:Qag X.K g r)(hbl:∀a b d,g a b=some d->∃k,d= .bl k)(ha:SE X a fa)(hb:SE X b fb)(hm:behindInMarks op b=false):ST X (.Compare a [op] [b] pos) (Qr (dOp g fa fb)):=λH0 A0=>
 (Qj1 ho (ha H0 A0) (hb H0 A0) hm).mono λσ H Q=>exK λρ hs F k rel e q=>by
  refine Qb e λr' e0 e=>?_
  obtain⟨ra,rb,d,ea,eb,eg,rfl⟩:=QdH e0
  obtain⟨k',rfl⟩:=hbl _ _ _ eg
  cases e
  refine two rel ea eb λx y H1 H2 G1 G2 p1 p2=>(hg _ _ _ eg).2 H2 x y G1 G2 _ (p1.rp.same p2.same) p2.rp λv hv=>?_
  exact⟨_,(hv H2).Qby,q H2 (p1.same.trans p2.same)⟩
theorem Qlv(ha:ST X a ga):ST X (.UnaryOp .Not a pos) (Qbx ga):=λH0 A0=>
 (QlT (ha H0 A0)).mono λσ H Q=>exK λρ hs F b rel e q=>by
  refine Qb e λc e1 e=>?_
  cases e
  exact⟨ρ,hs,F,c,rel,e1,λH1 s1=>q H1 s1⟩
theorem Qjp(ha:ST X a ga):SW X (.BoolOp .And [a] pos) ga:=λH0 A0=>Qjw (ha H0 A0)
theorem QkO(ha:ST X a ga):SW X (.BoolOp .Or [a] pos) ga:=λH0 A0=>Qlk (ha H0 A0)
theorem QkF(ha:ST X a ga)(hb:SW X (.BoolOp .And (b::rest) pos) gb):SW X (.BoolOp .And (a::b::rest) pos) (QdV ga gb):=λH0 A0=>
 (QkZ (ha H0 A0) (hb H0 A0)).mono λσ H Q=>exK λρ hs F c rel e q=>by
  refine Qb e λd e1 e=>?_
  refine⟨ρ,hs,F,d,rel,e1,λH1 s1=>?_⟩
  cases d with
  | true=>exact⟨ρ,hs,F,c,rel.ext s1,e,λH2 s2=>q H2 (s1.trans s2)⟩
  | false=>cases e;exact q H1 s1
theorem Qmz(ha:ST X a ga)(hb:SW X (.BoolOp .Or (b::rest) pos) gb):SW X (.BoolOp .Or (a::b::rest) pos) (bOr ga gb):=λH0 A0=>
 (QmF (ha H0 A0) (hb H0 A0)).mono λσ H Q=>exK λρ hs F c rel e q=>by
  refine Qb e λd e1 e=>?_
  refine⟨ρ,hs,F,d,rel,e1,λH1 s1=>?_⟩
  cases d with
  | true=>cases e;exact q H1 s1
  | false=>exact⟨ρ,hs,F,c,rel.ext s1,e,λH2 s2=>q H2 (s1.trans s2)⟩
theorem SW.st(h:SW X e ga):ST X e ga:=λH0 A0=>(h H0 A0).pt
noncomputable def Qfj(fa fb:DE):DE:=λρ=>(fa ρ).bind λra=>(ra.d.tru).bind λb=>if b=true then fb ρ else some ra
noncomputable def dOr(fa fb:DE):DE:=λρ=>(fa ρ).bind λra=>(ra.d.tru).bind λb=>if b=true then some ra else fb ρ
noncomputable def Ql5(fa:DE):DE:=λρ=>(fa ρ).bind λra=>(ra.d.tru).bind λb=>some ⟨.bl (!b),true,[]⟩
noncomputable def dIf(g:DT)(fa fb:DE):DE:=λρ=>(g ρ).bind λb=>if b=true then fa ρ else fb ρ
theorem Qg2{op}(h:SE X a fa):SE X (.BoolOp op [a] pos) fa:=λH0 A0=>QlO (h H0 A0)
theorem Qp.ext(s:Qj H H1)(p:Qp K ρ F H1 H2 r v G)(rel:Rel K H0 A0 hs ρ F σ H):Qp K ρ F H H2 r v G where
 same:=s.trans p.same
 rp:=p.rp
 src:=λa ha=>(p.src a ha).elim (λz=> .inl (s.free z)) .inr
 cnt:=λh=>⟨λa=>Zr ((p.cnt h).1 a) (Zas (by
  cases q:H1 a with
  | none=>rw[QG q,QG (s.free q)];exact Zj _
  | some o=>rw[QaN q];exact ZJ _) _),(p.cnt h).2⟩
 own:=p.own
theorem QlB(ha:SE X a fa)(hb:SE X (.BoolOp .And (b::rest) pos) fb):SE X (.BoolOp .And (a::b::rest) pos) (Qfj fa fb):=λH0 A0=>by
 intro pins s σ H Q I ⟨ρ,hs,F,r,rel,e,q⟩
 refine Qb e λra e1 e=>?_
 refine Qb e λc e2 e=>?_
 refine PyProof.Rows.BoolOp_and (thn (ha H0 A0 pins s σ H _ I ⟨ρ,hs,F,ra,rel,e1,λv H' G p=>(⟨G,p⟩:∃G,Qp X.K ρ F H H' ra v G)⟩) λv s1 hpt=>?_)
 obtain⟨x,H1,I1,r1,G,p⟩:=hpt
 refine thn (Qdr pins s1 σ H1 x v (λk H2=>k=c/\H2=H1) I1 r1 ⟨c,QeG p.rp e2,rfl,rfl⟩) λk s2 hpt=>?_
 obtain⟨H2,I2,e3,e4⟩:=hpt
 subst e3 e4
 cases k with
 | true=>exact hb H0 A0 pins s2 σ _ Q I2 ⟨ρ,hs,F,r,rel.ext p.same,e,λw H3 G3 p3=>q w H3 G3 (p3.ext p.same rel)⟩
 | false=>cases e;exact⟨x,_,I2,r1,q x _ G p⟩
theorem Qmq(ha:SE X a fa)(hb:SE X (.BoolOp .Or (b::rest) pos) fb):SE X (.BoolOp .Or (a::b::rest) pos) (dOr fa fb):=λH0 A0=>by
 intro pins s σ H Q I ⟨ρ,hs,F,r,rel,e,q⟩
 refine Qb e λra e1 e=>?_
 refine Qb e λc e2 e=>?_
 refine PyProof.Rows.BoolOp_or (thn (ha H0 A0 pins s σ H _ I ⟨ρ,hs,F,ra,rel,e1,λv H' G p=>(⟨G,p⟩:∃G,Qp X.K ρ F H H' ra v G)⟩) λv s1 hpt=>?_)
 obtain⟨x,H1,I1,r1,G,p⟩:=hpt
 refine thn (Qdr pins s1 σ H1 x v (λk H2=>k=c/\H2=H1) I1 r1 ⟨c,QeG p.rp e2,rfl,rfl⟩) λk s2 hpt=>?_
 obtain⟨H2,I2,e3,e4⟩:=hpt
 subst e3 e4
 cases k with
 | false=>exact hb H0 A0 pins s2 σ _ Q I2 ⟨ρ,hs,F,r,rel.ext p.same,e,λw H3 G3 p3=>q w H3 G3 (p3.ext p.same rel)⟩
 | true=>cases e;exact⟨x,_,I2,r1,q x _ G p⟩
theorem QkP(ha:SE X a fa):SE X (.UnaryOp .Not a pos) (Ql5 fa):=λH0 A0=>by
 intro pins s σ H Q I ⟨ρ,hs,F,r,rel,e,q⟩
 refine Qb e λra e1 e=>?_
 refine Qb e λc e2 e=>?_
 cases e
 refine PyProof.Rows.UnaryOp_ (thn (ha H0 A0 pins s σ H _ I ⟨ρ,hs,F,ra,rel,e1,λv H' G p=>(⟨G,p⟩:∃G,Qp X.K ρ F H H' ra v G)⟩) λv s1 hpt=>?_)
 obtain⟨x,H1,I1,r1,G,p⟩:=hpt
 refine PyProof.Rows.not_of (thn (Qdr pins s1 σ H1 x v (λk H2=>k=c/\H2=H1) I1 r1 ⟨c,QeG p.rp e2,rfl,rfl⟩) λk s2 hpt=>?_)
 obtain⟨H2,I2,e3,e4⟩:=hpt
 subst e3 e4
 exact⟨.bl (!k),_,I2,rfl,q _ _ [] (.flat p.same .Qae)⟩
theorem Qmk(hc:ST X c gc)(ha:SE X a fa)(hb:SE X b fb):SE X (.IfExp c a b pos) (dIf gc fa fb):=λH0 A0=>
 (Qid (hc H0 A0) (ha H0 A0) (hb H0 A0)).mono λσ H Q=>exK λρ hs F r rel e q=>by
  refine Qb e λc e1 e=>?_
  refine⟨ρ,hs,F,c,rel,e1,λH1 s1=>?_⟩
  cases c with
  | true=>exact⟨ρ,hs,F,r,rel.ext s1,e,λv H2 G p=>q v H2 G (p.ext s1 rel)⟩
  | false=>exact⟨ρ,hs,F,r,rel.ext s1,e,λv H2 G p=>q v H2 G (p.ext s1 rel)⟩
noncomputable def Qle(fa:DE):DE:=λρ=>(fa ρ).bind λra=>match ra.d with
 | .int i=>some ⟨.int (-i),true,[]⟩
 | _=>none
theorem Ql9(ha:SE X a fa):SE X (.UnaryOp .USub a pos) (Qle fa):=λH0 A0=>
 (Qmm QkY (ha H0 A0)).mono λσ H Q=>exK λρ hs F r rel e q=>by
  refine Qb e λra e1 e=>?_
  refine⟨ρ,hs,F,ra,rel,e1,λv H1 G p=>?_⟩
  have rp:=p.rp
  cases hr:ra.d with
  | int i=>
   rw[hr]at e rp
   cases e
   exact⟨i,rp.int_inv,q _ H1 [] (.flat p.same .int_mk)⟩
  | _=>rw[hr]at e;cases e
end
end HS
namespace HS
open PySem PySem.Spec L2
section
def Qai(ρ ρ':En):Prop:=ρ'.length=ρ.length/\∀(i:Nat) d b,ρ'[i]? =some (some (d,b))->∃b',ρ[i]? =some (some (d,b'))/\(b=true->b'=true)
theorem Qai.refl:Qai ρ ρ:=⟨rfl,λi d b h=>⟨b,h,id⟩⟩
theorem Qai.trans(a:Qai ρ ρ')(b:Qai ρ' ρ''):Qai ρ ρ'':=⟨b.1.trans a.1,λi d c h=>by
 obtain⟨c',h1,h2⟩:=b.2 i d c h
 obtain⟨c'',h3,h4⟩:=a.2 i d c' h1
 exact⟨c'',h3,λz=>h4 (h2 z)⟩⟩
theorem Rel.weak(r:Rel K H0 A0 hs ρ F σ H)(w:Qai ρ ρ'):Rel K H0 A0 hs ρ' F σ H where
 len:=w.1.trans r.len
 val:=λi d b e=>let ⟨b',h,_⟩:=w.2 i d b e;r.val i d b' h
 own:=λi d e=>by
  obtain⟨b',h,hb⟩:=w.2 i d true e
  have:b'=true:=hb rfl
  subst this
  obtain⟨h1,h2,h3,h4,h5⟩:=r.own i d h
  exact⟨h1,h2,h3,λj d' b' hj e'=>let ⟨b'',h',_⟩:=w.2 j d' b' e';h4 j d' b'' hj h',h5⟩
 src:=λi d b e=>let ⟨b',h,_⟩:=w.2 i d b e;r.src i d b' h
 held:=r.held
 same:=r.same
noncomputable def kill:List Nat->En->En
 | [],ρ=>ρ
 | i::M,ρ=>kill M (ρ.set i none)
noncomputable def QaG:List Nat->En->En
 | [],ρ=>ρ
 | i::M,ρ=>QaG M (match ρ[i]? with
  | some (some (d,_))=>ρ.set i (some (d,false))
  | _=>ρ)
theorem Qhv(i:Nat):Qai ρ (ρ.set i none):=⟨by simp,λj d b h=>by
 by_cases hj:i=j
 ·subst hj
  by_cases hl:i<ρ.length
  ·rw[Zs hl]at h;cases h
  ·rw[ZD (by simp;omega)]at h;cases h
 ·rw[Zg hj]at h
  exact⟨b,h,id⟩⟩
theorem Qaj:∀(M:List Nat) (ρ:En),Qai ρ (kill M ρ)
 | [],ρ=> .refl
 | i::M,ρ=>(Qhv i).trans (Qaj M _)
theorem Qcz:∀(M:List Nat) (ρ:En) (i:Nat) (d:D) (b:Bool),i∈M->(kill M ρ)[i]? =some (some (d,b))->False
 | [],ρ,i,d,b,h,_=>by simp at h
 | j::M,ρ,i,d,b,h,e=>by
  rcases Zu.mp h with rfl | h
  ·obtain⟨b',e',_⟩:=(Qaj M (ρ.set i none)).2 i d b e
   by_cases hl:i<ρ.length
   ·rw[Zs hl]at e';cases e'
   ·rw[ZD (by simp;omega)]at e';cases e'
  ·exact Qcz M _ i d b h e
theorem Qh5(i:Nat):Qai ρ (match ρ[i]? with
  | some (some (d,_))=>ρ.set i (some (d,false))
  | _=>ρ):=by
 split
 ·rename_i d b e
  refine⟨by simp,λj d' b' h=>?_⟩
  by_cases hj:i=j
  ·subst hj
   have hl:i<ρ.length:=(Ze.mp e).1
   rw[Zs hl]at h
   cases h
   exact⟨b,e,λz=>by cases z⟩
  ·rw[Zg hj]at h
   exact⟨b',h,id⟩
 ·exact .refl
theorem Qav:∀(M:List Nat) (ρ:En),Qai ρ (QaG M ρ)
 | [],ρ=> .refl
 | i::M,ρ=>(Qh5 i).trans (Qav M _)
theorem Qdj:∀(M:List Nat) (ρ:En) (i:Nat) (d:D),i∈M->(QaG M ρ)[i]? =some (some (d,true))->False
 | [],ρ,i,d,h,_=>by simp at h
 | j::M,ρ,i,d,h,e=>by
  rcases Zu.mp h with rfl | h
  ·obtain⟨b',e',hb⟩:=(Qav M _).2 i d true e
   have:b'=true:=hb rfl
   subst this
   split at e'
   ·rename_i d' b e1
    have hl:i<ρ.length:=(Ze.mp e1).1
    rw[Zs hl]at e'
    cases e'
   ·rename_i h1
    exact h1 d true e'
  ·exact Qdj M _ i d h e
def Shr(H0:Hp)(A0:List Addr)(ρ:En)(F:Nat->List Addr)(G:List Addr):Prop:=
 ∀a∈G,(H0 a=none∨a∈A0)/\∀(i:Nat) d,ρ[i]? =some (some (d,true))->a∉F i
theorem Shr.of(r:Rel K H0 A0 hs ρ F σ H)(s:Src ρ F H M G):Shr H0 A0 (QaG M ρ) F G:=λa ha=>by
 have w:=Qav M ρ
 rcases s a ha with h | ⟨i,d,b,e,m,hm⟩
 ·refine⟨.inl (r.same.free h),λj d' e' hj=>?_⟩
  obtain⟨b',e2,_⟩:=w.2 j d' true e'
  obtain⟨vs,q⟩:=r.mem e2 hj
  rw[h]at q;cases q
 ·refine⟨r.src i d b e a m,λj d' e' hj=>?_⟩
  obtain⟨b',e2,hb⟩:=w.2 j d' true e'
  have:b'=true:=hb rfl
  subst this
  by_cases hij:i=j
  ·subst hij
   rw[e]at e2
   cases e2
   exact Qdj M ρ i _ (hm rfl) e'
  ·exact(r.own j d' e2).2.2.2.1 i d b hij e a hj m
theorem Rel.QiS(r:Rel K H0 A0 hs ρ F σ H)(rp:Rp K H d v G)(sh:Shr H0 A0 ρ F G):
  Rel K H0 A0 hs (ρ.set i (some (d,d.flat))) (λj=>if j=i then G else F j) (σ.set i (some v)) H where
 len:=by simp[r.len]
 val:=λj d' b e=>by
  by_cases hj:j=i
  ·subst hj
   have hl:j<ρ.length:=by
    by_cases hl:j<ρ.length
    ·exact hl
    ·rw[ZD (by simp;omega)]at e;cases e
   rw[Zs hl]at e
   cases e
   exact⟨v,by rw[Zs (by rw[← r.len];exact hl)],by rw[if_pos rfl];exact rp⟩
  ·rw[Zg (Ne.symm hj)]at e
   obtain⟨w,h1,h2⟩:=r.val j d' b e
   exact⟨w,by rw[Zg (Ne.symm hj)];exact h1,by rw[if_neg hj];exact h2⟩
 own:=λj d' e=>by
  by_cases hj:j=i
  ·subst hj
   have hl:j<ρ.length:=by
    by_cases hl:j<ρ.length
    ·exact hl
    ·rw[ZD (by simp;omega)]at e;cases e
   rw[Zs hl]at e
   have e1:=Option.some.inj (Option.some.inj e)
   have ed:d=d':=congrArg Prod.fst e1
   have ef:d.flat=true:=congrArg Prod.snd e1
   subst ed
   have:=rp.Qad ef
   subst this
   rw[if_pos rfl]
   exact⟨(Qba d ef).symm,Zay,λa ha=>by simp at ha,λ_ _ _ _ _ a ha=>by simp at ha,λ_ _ a ha=>by simp at ha⟩
  ·rw[Zg (Ne.symm hj)]at e
   obtain⟨h1,h2,h3,h4,h5⟩:=r.own j d' e
   rw[if_neg hj]
   refine⟨h1,h2,h3,λk d'' b hk ek a ha=>?_,h5⟩
   by_cases hki:k=i
   ·subst hki
    rw[if_pos rfl]
    exact λhG=>(sh a hG).2 j d' e ha
   ·rw[Zg (Ne.symm hki)]at ek
    rw[if_neg hki]
    exact h4 k d'' b hk ek a ha
 src:=λj d' b e a ha=>by
  by_cases hj:j=i
  ·subst hj
   rw[if_pos rfl]at ha
   exact(sh a ha).1
  ·rw[Zg (Ne.symm hj)]at e
   rw[if_neg hj]at ha
   exact r.src j d' b e a ha
 held:=r.held
 same:=r.same
theorem QmO(r:Rel K H0 A0 hs ρ F σ H)(ow:QK ρ M)(nd:M.Nodup)(a:Addr):((M.map F).flatten).count a<=1:=by
 induction M with
 | nil=>simp
 | cons i M ih=>
  rw[Zl,ZL,ZI]
  obtain⟨h1,h2⟩:=ZW.mp nd
  have ih':=ih (λj hj=>ow j (Za _ hj)) h2
  obtain⟨d,e⟩:=ow i Zi
  obtain⟨_,nd1,_,apart,_⟩:=r.own i d e
  by_cases ha:a∈F i
  ·have c1:(F i).count a<=1:=ZR.mp nd1 a
   have c2:((M.map F).flatten).count a=0:=ZA.mpr λhm=>by
    obtain⟨l,hl,hal⟩:=Zap.mp hm
    obtain⟨j,hj,rfl⟩:=Zy.mp hl
    obtain⟨d',e'⟩:=ow j (Za _ hj)
    exact apart j d' true (λz=>h1 (z▸hj)) e' a ha hal
   omega
  ·have:(F i).count a=0:=ZA.mpr ha
   omega
theorem Qp.fresh(r:Rel K H0 A0 hs ρ F σ H)(p:Qp K ρ F H H' rr v G)(hf:rr.fr=true)(nd:rr.M.Nodup):
  G.Nodup/\∀a∈G,H0 a=none/\(H a=none∨∃i d,i∈rr.M/\ρ[i]? =some (some (d,true))/\a∈F i):=by
 obtain⟨c,_⟩:=p.cnt hf
 refine⟨ZR.mpr λa=>?_,λa ha=>?_⟩
 ·have h1:=c a
  have h2:=QmO r p.own nd a
  cases q:H a with
  | none=>rw[QG q,r.fl0 p.own q]at h1;omega
  | some o=>rw[QaN q]at h1;omega
 ·cases q:H a with
  | none=>exact⟨r.same.free q,.inl rfl⟩
  | some o=>
   have h1:=c a
   rw[QaN q]at h1
   have h2:0<G.count a:=ZP.mpr ha
   obtain⟨l,hl,hal⟩:=Zap.mp (ZP.mp (by omega:0<((rr.M.map F).flatten).count a))
   obtain⟨i,hi,rfl⟩:=Zy.mp hl
   obtain⟨d,e⟩:=p.own i hi
   exact⟨(r.own i d e).2.2.1 a hal,.inr ⟨i,d,hi,e,hal⟩⟩
theorem Rel.Qlx(r:Rel K H0 A0 hs ρ F σ H)(p:Qp K ρ F H H' rr v G)(hf:rr.fr=true)(nd:rr.M.Nodup):
  Rel K H0 A0 hs ((kill rr.M ρ).set i (some (rr.d,true))) (λj=>if j=i then G else F j) (σ.set i (some v)) H':=by
 have r1:=(r.ext p.same).weak (Qaj rr.M ρ)
 obtain⟨gn,gs⟩:=p.fresh r hf nd
 have gl:=(p.cnt hf).2
 have apart:∀(j:Nat) d b,(kill rr.M ρ)[j]? =some (some (d,b))->∀a∈G,a∉F j:=λj d b e a ha hj=>by
  obtain⟨b',e',_⟩:=(Qaj rr.M ρ).2 j d b e
  rcases(gs a ha).2 with q | ⟨k,d',hk,ek,hak⟩
  ·obtain⟨vs,w⟩:=r.mem e' hj
   rw[q]at w;cases w
  ·have hjk:j≠k:=λz=>by subst z;exact Qcz rr.M ρ j d b hk e
   exact(r.own k d' ek).2.2.2.1 j d b' hjk e' a hak hj
 have apartH:∀t∈hs,∀a∈G,a∉t.2.2:=λt ht a ha hj=>by
  rcases(gs a ha).2 with q | ⟨k,d',hk,ek,hak⟩
  ·obtain⟨vs,w⟩:=(r.held t ht).1.mem a hj
   rw[q]at w;cases w
  ·exact(r.own k d' ek).2.2.2.2 t ht a hak hj
 have lt:∀{j:Nat}{x:Option (D×Bool)}{y:D×Bool},((kill rr.M ρ).set j x)[j]? =some (some y)->j<(kill rr.M ρ).length:=λ{j x y} e=>by
  by_cases hl:j<(kill rr.M ρ).length
  ·exact hl
  ·rw[ZD (by simp;omega)]at e;cases e
 refine⟨by simp[r1.len],λj d b e=>?_,λj d e=>?_,λj d b e a ha=>?_,r1.held,r1.same⟩
 ·by_cases hj:j=i
  ·subst hj
   have hl:=lt e
   rw[Zs hl]at e
   cases e
   exact⟨v,by rw[Zs (by rw[← r1.len];exact hl)],by rw[if_pos rfl];exact p.rp⟩
  ·rw[Zg (Ne.symm hj)]at e
   obtain⟨w,h1,h2⟩:=r1.val j d b e
   exact⟨w,by rw[Zg (Ne.symm hj)];exact h1,by rw[if_neg hj];exact h2⟩
 ·by_cases hj:j=i
  ·subst hj
   have hl:=lt e
   rw[Zs hl]at e
   cases e
   rw[if_pos rfl]
   refine⟨gl,gn,λa ha=>(gs a ha).1,λk d' b hk ek a ha=>?_,apartH⟩
   rw[Zg (Ne.symm hk)]at ek
   rw[if_neg hk]
   exact apart k d' b ek a ha
  ·rw[Zg (Ne.symm hj)]at e
   obtain⟨h1,h2,h3,h4,h5⟩:=r1.own j d e
   rw[if_neg hj]
   refine⟨h1,h2,h3,λk d' b hk ek a ha=>?_,h5⟩
   by_cases hki:k=i
   ·subst hki
    rw[if_pos rfl]
    exact λhG=>apart j d true e a hG ha
   ·rw[Zg (Ne.symm hki)]at ek
    rw[if_neg hki]
    exact h4 k d' b hk ek a ha
 ·by_cases hj:j=i
  ·subst hj
   rw[if_pos rfl]at ha
   exact .inl (gs a ha).1
  ·rw[Zg (Ne.symm hj)]at e
   rw[if_neg hj]at ha
   exact r1.src j d b e a ha
noncomputable def asg(i:Nat)(r:R)(ρ:En):En:=
 if r.norm.fr && decide r.norm.M.Nodup then(kill r.norm.M ρ).set i (some (r.d,true))else(QaG r.norm.M ρ).set i (some (r.d,r.d.flat))
theorem Rel.asg(r:Rel K H0 A0 hs ρ F σ H)(p:Qp K ρ F H H' rr v G):∃F',Rel K H0 A0 hs (asg i rr ρ) F' (σ.set i (some v)) H':=by
 have p':=p.norm
 unfold HS.asg
 split
 ·rename_i h
  simp only[Zf,decide_eq_true_eq]at h
  have:=r.Qlx (i:=i) p' h.1 h.2
  rw[rr.QaY]at this
  exact⟨_,this⟩
 ·have r1:=(r.ext p'.same).weak (Qav rr.norm.M ρ)
  have rp:=p'.rp
  rw[rr.QaY]at rp
  have sh:=Shr.of r p'.src
  exact⟨_,r1.QiS rp sh⟩
theorem Rel.hold(r:Rel K H0 A0 hs ρ F σ H)(h:∀t∈ts,Rp K H t.2.1 t.1 t.2.2/\Shr H0 A0 ρ F t.2.2):Rel K H0 A0 (ts++hs) ρ F σ H where
 len:=r.len
 val:=r.val
 own:=λi d e=>by
  obtain⟨h1,h2,h3,h4,h5⟩:=r.own i d e
  refine⟨h1,h2,h3,h4,λt ht a ha hm=>?_⟩
  rcases Zx.mp ht with z | z
  ·exact((h t z).2 a hm).2 i d e ha
  ·exact h5 t z a ha hm
 src:=r.src
 held:=λt ht=>by
  rcases Zx.mp ht with z | z
  ·exact⟨(h t z).1,λa ha=>((h t z).2 a ha).1⟩
  ·exact r.held t z
 same:=r.same
theorem Rel.QhU(r:Rel K H0 A0 (ts++hs) ρ F σ H):Rel K H0 A0 hs ρ F σ H where
 len:=r.len
 val:=r.val
 own:=λi d e=>let ⟨h1,h2,h3,h4,h5⟩:=r.own i d e;⟨h1,h2,h3,h4,λt ht=>h5 t (Zb _ ht)⟩
 src:=r.src
 held:=λt ht=>r.held t (Zb _ ht)
 same:=r.same
end
structure Ret (K:PySem.W.Frag) (H0:Hp) (A0:List Addr) (d:D) (fr:Bool) (v:V) (H':Hp) (G:List Addr):Prop where
 same:Qj H0 H'
 rp:Rp K H' d v G
 src:∀a∈G,H0 a=none∨a∈A0
 cnt:fr=true->G.Nodup/\G.length=d.nl/\∀a∈G,H0 a=none
noncomputable abbrev Den:=List D->Option (D×Bool)
noncomputable def spV(K:PySem.W.Frag)(n:Nat)(den:Den):Sp:=λvs H Q _=>∃ds F d fr,Rps K H ds vs F/\ds.length=n/\den ds=some (d,fr)/\∀v H' G,Ret K H F d fr v H' G->Q v H'
theorem Qj4{K:PySem.W.Frag}{n:Nat}{den:Den}{ps:List Str}(hn:ps.length=n):∀vs H Q E,spV K n den vs H Q E->vs.length=ps.length:=λvs H Q E ⟨ds,F,d,fr,r,hl,_⟩=>by rw[hn,← hl,r.length]
noncomputable def QE(n:Nat)(den:Den)(dfl:List D)(fs:DA):DE:=λρ=>(fs ρ).bind λr=>if r.ds.length+dfl.length=n then(den (r.ds++dfl)).map λq=>if q.2=true then⟨q.1,true,[]⟩else R.norm ⟨q.1,false,r.M⟩else none
section
variable {X:Cx}{e:Expr}{es:List Expr}{fs:DA}{pos p:Pos}{x:Str}{n k:Nat}{f:Addr}{fd:FuncData}{ps:List Str}{den:Den}{dfl:List D}{dvs:List V}{ds:List Value}
theorem Qd5{σ:L2.St}{H H0:Hp}{A0:List Addr}{Q:VK}(hdf:∀H,Rps X.K H dfl dvs []):tV X.K H0 A0 (QE n den dfl fs) σ H Q->Qgr (spV X.K n den) dvs E0 (tVA X.K H0 A0 fs) σ H Q:=exK λρ hs F r rel e q=>by
 refine Qb e λra e1 e=>?_
 split at e
 ·rename_i hl
  obtain⟨⟨d,fr⟩,e2,e⟩:=Zd.mp e
  refine⟨ρ,hs,F,ra,rel,e1,λvs H1 G p1=>⟨ra.ds++dfl,G++[],d,fr,p1.rp.append (hdf H1),by rw[Zp];exact hl,e2,λv H2 G2 rt=>?_⟩⟩
  subst e
  have src:Src ρ F H ra.M G2:=λa ha=>by
   rcases rt.src a ha with z | z
   ·exact .inl (p1.same.free z)
   ·rw[List.append_nil]at z
    exact p1.src a z
  split at q
  ·rename_i hf
   have hf:fr=true:=hf
   obtain⟨nd,hn,fresh⟩:=rt.cnt hf
   have hH:∀a∈G2,H a=none:=λa ha=>p1.same.free (fresh a ha)
   refine q v H2 G2 ⟨p1.same.trans rt.same,rt.rp,λa ha=> .inl (hH a ha),λ_=>⟨λa=>?_,hn⟩,QK.nil⟩
   by_cases ha:a∈G2
   ·rw[QG (hH a ha)];have:=ZR.mp nd a;omega
   ·rw[ZA.mpr ha];exact ZJ _
  ·refine q v H2 G2 (Qp.norm ⟨p1.same.trans rt.same,rt.rp,src,λz=>(by cases z),p1.own⟩)
 ·cases e
theorem QjU(Fk:Q1 X.prog X.w X.K X.mg X.base CX0 k f fd ps (spV X.K n den))(hr:Qx k X.A)(hg:Gl X x)(hm:X.mg x=some (.ref f))(hk:PySem.W.keepIn X.K (.ref f)=true)(hb:Binds X.K fd ps ds)(hd:Qe dvs ds)(hdf:∀H,Rps X.K H dfl dvs [])
  (ha:SA X (e::es) fs) (hdb:(x == ("__debug__" :Str))=false) (he:starEach (e::es) X.env=(false,eval e X.env)::starEach es X.env) (hpl:(backTo pos (starEach es X.env)).any (·.1)=false):
  SE X (.Call (.Name x p) (e::es) [] pos) (QE n den dfl fs):=λH0 A0=>
 (Qjr Fk hr hg hm hk hb hd Qjg (ha H0 A0) hdb he hpl).mono λσ H Q h=>Qd5 hdf h
theorem Qh6(Fk:Q1 X.prog X.w X.K X.mg X.base CX0 k f fd ps (spV X.K n den))(hr:Qx k X.A)(hg:Gl X x)(hm:X.mg x=some (.ref f))(hk:PySem.W.keepIn X.K (.ref f)=true)(hb:Binds X.K fd ps ds)(hd:Qe dvs ds)(hdf:∀H,Rps X.K H dfl dvs [])
  (hdb:(x == ("__debug__" :Str))=false):SE X (.Call (.Name x p) [] [] pos) (QE n den dfl Qk):=λH0 A0=>
 (QiB Fk hr hg hm hk hb hd Qjg hdb).mono λσ H Q h=>by
  have h':=Qd5 hdf h
  obtain⟨ρ,hs,F,r,rel,e,q⟩:=h'
  cases e
  exact q [] H [] ⟨Qj.refl _,by simp[Rps],Src.nil,λ_=>⟨Cnt.nil,rfl⟩,QK.nil⟩
end
structure IR where
 items:List D
 M:List Nat
noncomputable abbrev DI:=En->Option IR
def Qfm(K:PySem.W.Frag)(H:Hp)(ts:List (V×D×List Addr)):Prop:=∀t∈ts,Rp K H t.2.1 t.1 t.2.2
structure Walk (K:PySem.W.Frag) (J:It) (ts:List (V×D×List Addr)) (ds:List D):Prop where
 stop:∀H,Qfm K H ts->J.stop ds.length H
 go:∀i H,i<ds.length->Qfm K H ts->J.go i H
 yld:∀(i:Nat) d H x H',ds[i]? =some d->Qfm K H ts->J.yld i H x H'->Qj H H'/\∃G,Rp K H' d x G/\∀a∈G,∃t∈ts,a∈t.2.2
noncomputable def tI(K:PySem.W.Frag)(H0:Hp)(A0:List Addr)(f:DI):TI:=λσ H Rr=>∃ρ hs F ir,Rel K H0 A0 hs ρ F σ H/\f ρ=some ir∧
 ∀J H1 ts,Qj H H1->Walk K J ts ir.items->(∀t∈ts,Rp K H1 t.2.1 t.1 t.2.2/\Src ρ F H ir.M t.2.2)->QK ρ ir.M->ir.items.length<=sizeLine->Rr J H1
def SI(X:Cx)(tg e:Expr)(f:DI):Prop:=∀H0 A0,PI X tg e (tI X.K H0 A0 f)
theorem _root_.L2.PI.mono(h:PI X tg e t)(m:∀σ H Q,t' σ H Q->t σ H Q):PI X tg e t':=λpins s σ H Q I q=>h pins s σ H Q I (m σ H Q q)
section
variable {X:Cx}{tg a b:Expr}{fa fb:DE}{fs:DA}{pos p:Pos}
theorem Rps.nth{K:PySem.W.Frag}{H:Hp}{ds:List D}{vs:List V}{F:List Addr}{i:Nat}{d:D}(h:Rps K H ds vs F)(e:ds[i]? =some d):∃v G,vs[i]? =some v/\Rp K H d v G/\∀a∈G,a∈F:=by
 obtain⟨v,F1,G,F2,h1,h2,h3,_⟩:=h.get e
 exact⟨v,G,h1,h3,λa ha=>by rw[h2];exact Zb _ (Zc _ ha)⟩
noncomputable def Qng(K:PySem.W.Frag)(tl:TE):TI:=λσ H Rr=>tl σ H λx H1=>(∃a,x= .ref a/\(∃xs,SqL K H1 a xs)/\Rr (Itl K a) H1)∨(∃a,x= .ref a/\(∃xs,SqT K H1 a xs)/\Rr (Itt K a) H1)
theorem Qlp(hl:PE X l tl):PI X tg l (Qng X.K tl):=by
 intro pins s σ H Rr I h
 refine thn (hl pins s σ H _ I h) λv s1=>exJ λx H1 I1 r1 q1=>?_
 rcases q1 with⟨a,e,⟨xs,hq⟩,q⟩ | ⟨a,e,⟨xs,hq⟩,q⟩
 ·subst e
  cases r1
  obtain⟨its,rv,pl,hz⟩:=I1.list hq
  refine wpAny_pyIter_list pl.isList ⟨s1.heap.objs.size,[s1.heap.objs.size],_,_,H1,rfl,I1.kept (t':=s1.toks) λb o e=>Zn _ e,Qhx a _,⟨_,Zw _ rfl,rfl,rfl⟩,λb hb=>?_,q⟩
  have e:b=s1.heap.objs.size:=by simpa using hb
  subst e
  exact I1.Qe3 (Zj _) (I1.hok.fresh (Zj _))
 ·subst e
  cases r1
  obtain⟨its,rv,pl,hz⟩:=I1.tuple hq
  refine wpAny_pyIter_tuple (show s1.heap.IsTuple a its.toArray from pl) ⟨s1.heap.objs.size,[s1.heap.objs.size],_,_,H1,rfl,I1.kept (t':=s1.toks) λb o e=>Zn _ e,Qgf a _,⟨_,Zw _ rfl,rfl,rfl⟩,λb hb=>?_,q⟩
  have e:b=s1.heap.objs.size:=by simpa using hb
  subst e
  exact I1.Qe3 (Zj _) (I1.hok.fresh (Zj _))
noncomputable def Q8(fa:DE):DI:=λρ=>(fa ρ).bind λr=>match r.d with
 | .lst xs=>some ⟨xs,r.M⟩
 | .tup xs=>if xs.length<=sizeLine then some ⟨xs,r.M⟩else none
 | .str x=>if x.cps.size<=sizeLine then some ⟨x.cps.toList.map λc=> .str ⟨#[c]⟩,[]⟩else none
 | _=>none
theorem Qm4{t u:TI}(h1:PI X tg l t)(h2:PI X tg l u):PI X tg l (λσ H R=>t σ H R∨u σ H R):=λpins s σ H R I q=>q.elim (h1 pins s σ H R I) (h2 pins s σ H R I)
theorem Qh7{K:PySem.W.Frag}{x:Str}:Walk K (Itx x) [] (x.cps.toList.map λc=> .str ⟨#[c]⟩) where
 stop:=λH h=>by show _=x.cps.size;rw[Zv,ZS]
 go:=λi H hi h=>by rw[Zv,ZS]at hi;exact hi
 yld:=λi d H v H' e h y=>by
  obtain⟨rfl,c,hc,rfl⟩:=y
  rw[Zz,Array.getElem?_toList,hc]at e
  cases e
  exact⟨Qj.refl _,[],.str_mk,λa ha=>by simp at ha⟩
theorem Qg3{K:PySem.W.Frag}{c:Addr}{ds:List D}{G:List Addr}:Walk K (Itl K c) [(.ref c,.lst ds,G)] ds where
 stop:=λH h=>by
  obtain⟨l,vs,L,e,hl,rl,zl,el⟩:=(h _ (Zt.mpr rfl)).lst_inv
  cases e
  exact⟨vs,Qu hl,by rw[rl.length];exact Zj _⟩
 go:=λi H hi h=>by
  obtain⟨l,vs,L,e,hl,rl,zl,el⟩:=(h _ (Zt.mpr rfl)).lst_inv
  cases e
  have:i<vs.length:=by rw[← rl.length];exact hi
  exact⟨vs,vs[i],Qu hl,by simp[this]⟩
 yld:=λi d H x H' e h y=>by
  obtain⟨l,vs,L,e1,hl,rl,zl,el⟩:=(h _ (Zt.mpr rfl)).lst_inv
  cases e1
  obtain⟨rfl,y⟩:=y
  obtain⟨v,G',h1,h2,h3⟩:=rl.nth e
  have:=y vs (Qu hl)
  rw[h1]at this
  cases this
  refine⟨Qj.refl _,G',h2,λz hz=>⟨_,Zt.mpr rfl,?_⟩⟩
  have:=h3 z hz
  rcases el with rfl | rfl
  ·exact Za _ this
  ·exact this
theorem Qiz{K:PySem.W.Frag}{c:Addr}{ds:List D}{G:List Addr}:Walk K (Itt K c) [(.ref c,.tup ds,G)] ds where
 stop:=λH h=>by
  obtain⟨l,vs,e,hl,rl⟩:=(h _ (Zt.mpr rfl)).QQ
  cases e
  exact⟨vs,hl,by rw[rl.length];exact Zj _⟩
 go:=λi H hi h=>by
  obtain⟨l,vs,e,hl,rl⟩:=(h _ (Zt.mpr rfl)).QQ
  cases e
  have:i<vs.length:=by rw[← rl.length];exact hi
  exact⟨vs,vs[i],hl,by simp[this]⟩
 yld:=λi d H x H' e h y=>by
  obtain⟨l,vs,e1,hl,rl⟩:=(h _ (Zt.mpr rfl)).QQ
  cases e1
  obtain⟨rfl,y⟩:=y
  obtain⟨v,G',h1,h2,h3⟩:=rl.nth e
  have:=y vs hl
  rw[h1]at this
  cases this
  exact⟨Qj.refl _,G',h2,λz hz=>⟨_,Zt.mpr rfl,h3 z hz⟩⟩
theorem Qlj(ha:SE X a fa):SI X tg a (Q8 fa):=λH0 A0=>
 (Qm4 (Qlp (ha H0 A0)) (QkV (ha H0 A0))).mono λσ H Rr=>exK λρ hs F ir rel e q=>by
 refine Qb e λr e1 e=>?_
 by_cases hx:∃x,r.d= .str x
 ·obtain⟨x,hx⟩:=hx
  rw[hx]at e
  dsimp only at e
  split at e
  ·rename_i hz
   cases e
   refine .inr ⟨ρ,hs,F,r,rel,e1,λv H1 G p=>?_⟩
   have rp:=p.rp
   rw[hx]at rp
   exact⟨x,rp.str_inv,q _ H1 [] p.same Qh7 (λt ht=>by simp at ht) QK.nil (by rw[Zv,ZS];exact hz)⟩
  ·cases e
 left
 refine⟨ρ,hs,F,r,rel,e1,λv H1 G p=>?_⟩
 have rp:=p.rp
 cases hr:r.d with
 | lst xs=>
  rw[hr]at e rp
  cases e
  obtain⟨c,vs,L,rfl,hl,rl,zl,el⟩:=rp.lst_inv
  refine .inl ⟨c,rfl,⟨vs,Qu hl⟩,q _ H1 [(.ref c,.lst xs,G)] p.same Qg3 (λt ht=>?_) p.own zl⟩
  rw[Zt.mp ht]
  exact⟨rp,p.src⟩
 | tup xs=>
  rw[hr]at e rp
  dsimp only at e
  split at e
  ·rename_i hz
   cases e
   obtain⟨c,vs,rfl,hl,rl⟩:=rp.QQ
   refine .inr ⟨c,rfl,⟨vs,hl⟩,q _ H1 [(.ref c,.tup xs,G)] p.same Qiz (λt ht=>?_) p.own hz⟩
   rw[Zt.mp ht]
   exact⟨rp,p.src⟩
  ·cases e
 | str x=>exact absurd ⟨x,hr⟩ hx
 | _=>rw[hr]at e;cases e
noncomputable def Qd2(lo:Int)(n:Nat):List D:=(List.range n).map λ(k:Nat)=> .int (lo+(k:Int))
theorem QcO:(Qd2 lo n).length=n:=by simp[Qd2]
theorem Qh8(h:(Qd2 lo n)[i]? =some d):i<n/\d= .int (lo+i):=by
 unfold Qd2 at h
 rw[Zz]at h
 cases q:(List.range n)[i]? with
 | none=>rw[q]at h;cases h
 | some k=>
  rw[q]at h
  obtain⟨h1,h2⟩:=Ze.mp q
  simp at h1 h2
  subst h2
  exact⟨h1,(Option.some.inj h).symm⟩
theorem QgG:Walk K (Itr lo n) [] (Qd2 lo n) where
 stop:=λH _=>by rw[QcO];exact Zj _
 go:=λi H hi _=>by rw[QcO]at hi;exact hi
 yld:=λi d H x H' e _ y=>by
  obtain⟨h1,rfl⟩:=Qh8 e
  obtain⟨rfl,rfl⟩:=y
  exact⟨Qj.refl _,[],.int_mk,λz hz=>by simp at hz⟩
noncomputable def QfN(fa:DE):DI:=λρ=>(fa ρ).bind λr=>match r.d with
 | .int j=>if j<=16777216/\ -(2^62)<=j then some ⟨Qd2 0 j.toNat,[]⟩else none
 | _=>none
theorem QaT:(sizeLine:Nat)=16777216:=sizeLine_eq
theorem QhI(hg:Gl X "range")(hm:X.mg "range" =none)(ha:SE X a fa)(hs:starEach [a] X.env=[(false,eval a X.env)]):SI X tg (.Call (.Name "range" p) [a] [] pos) (QfN fa):=λH0 A0=>
 (Qhd hg hm (QaQ (ha H0 A0) Qco hs) hs).mono λσ H Rr=>exK λρ hs F ir rel e q=>by
  refine Qb e λr e1 e=>?_
  refine⟨ρ,hs,F,r,rel,e1,λv H1 G pp=>?_⟩
  have rp:=pp.rp
  cases hr:r.d with
  | int j=>
   rw[hr]at e rp
   dsimp only at e
   split at e
   ·rename_i hz
    cases e
    rw[rp.int_inv]
    refine⟨j,rfl,hz.2,by omega,q _ H1 [] pp.same QgG (λt ht=>by simp at ht) QK.nil ?_⟩
    rw[QcO,QaT];omega
   ·cases e
  | _=>rw[hr]at e;cases e
noncomputable def Qb5(xs ys:List D):List D:=(xs.zip ys).map λq=> .tup [q.1,q.2]
theorem QcU:(Qb5 xs ys).length=min xs.length ys.length:=by simp[Qb5]
theorem Qik{xs ys:List D}{i:Nat}{d:D}(h:(Qb5 xs ys)[i]? =some d):∃e f,xs[i]? =some e/\ys[i]? =some f/\d= .tup [e,f]:=by
 unfold Qb5 at h
 rw[Zz]at h
 cases q:(xs.zip ys)[i]? with
 | none=>rw[q]at h;cases h
 | some e=>
  rw[q]at h
  obtain⟨h1,h2⟩:=List.getElem?_zip_eq_some.mp q
  exact⟨e.1,e.2,h1,h2,(Option.some.inj h).symm⟩
theorem Qh1{K:PySem.W.Frag}{c c':Addr}{xs ys:List D}{G G':List Addr}:Walk K (Itz K c c') [(.ref c,.lst xs,G),(.ref c',.lst ys,G')] (Qb5 xs ys) where
 stop:=λH h=>by
  obtain⟨l,vs,L,e,hl,rl,zl,el⟩:=(h _ (Zi)).lst_inv
  obtain⟨l',vs',L',e',hl',rl',zl',el'⟩:=(h _ (Za _ Zi)).lst_inv
  cases e
  cases e'
  refine⟨vs,vs',Qu hl,Qu hl',?_⟩
  rw[QcU,← rl.length,← rl'.length];omega
 go:=λi H hi h=>by
  obtain⟨l,vs,L,e,hl,rl,zl,el⟩:=(h _ (Zi)).lst_inv
  obtain⟨l',vs',L',e',hl',rl',zl',el'⟩:=(h _ (Za _ Zi)).lst_inv
  cases e
  cases e'
  rw[QcU]at hi
  have h1:i<vs.length:=by rw[← rl.length];omega
  have h2:i<vs'.length:=by rw[← rl'.length];omega
  exact⟨vs,vs',vs[i],vs'[i],Qu hl,Qu hl',by simp[h1],by simp[h2]⟩
 yld:=λi d H x H' e h y=>by
  obtain⟨l,vs,L,e1,hl,rl,zl,el⟩:=(h _ (Zi)).lst_inv
  obtain⟨l',vs',L',e1',hl',rl',zl',el'⟩:=(h _ (Za _ Zi)).lst_inv
  cases e1
  cases e1'
  obtain⟨d1,d2,ea,eb,rfl⟩:=Qik e
  obtain⟨pp,u,u',rfl,hp,rfl,y,y'⟩:=y
  obtain⟨v,G1,h1,h2,h3⟩:=rl.nth ea
  obtain⟨v',G2,h1',h2',h3'⟩:=rl'.nth eb
  have:=y vs (Qu hl)
  rw[h1]at this
  cases this
  have:=y' vs' (Qu hl')
  rw[h1']at this
  cases this
  have s:=QaB (o:= .tup [u,u']) hp
  refine⟨s,G1++G2,Rp.Qhq QJ ?_,λz hz=>?_⟩
  ·simp only[Rps]
   exact⟨u,[u'],G1,G2,rfl,rfl,h2.same s,u',[],G2,[],rfl,by simp,h2'.same s,rfl,rfl⟩
  ·rcases Zx.mp hz with hz | hz
   ·refine⟨_,Zi,?_⟩
    have:=h3 z hz
    rcases el with rfl | rfl
    ·exact Za _ this
    ·exact this
   ·refine⟨_,Za _ Zi,?_⟩
    have:=h3' z hz
    rcases el' with rfl | rfl
    ·exact Za _ this
    ·exact this
noncomputable def QgX(fa fb:DE):DI:=λρ=>(fa ρ).bind λr=>(fb ρ).bind λr'=>match r.d,r'.d with
 | .lst xs,.lst ys=>some ⟨Qb5 xs ys,r.M++r'.M⟩
 | _,_=>none
theorem QlJ(hg:Gl X "zip")(hm:X.mg "zip" =none)(ha:SE X a fa)(hb:SE X b fb)(hs:starEach [a,b] X.env=[(false,eval a X.env),(false,eval b X.env)])(hs2:starEach [b] X.env=[(false,eval b X.env)]):
  SI X (.Tuple es tk tpos) (.Call (.Name "zip" p) [a,b] [] pos) (QgX fa fb):=λH0 A0=>
 (Qll hg hm (QaQ (ha H0 A0) (QaQ (hb H0 A0) Qco hs2) (by rw[hs,hs2])) hs hs2).mono λσ H Rr=>exK λρ hs F ir rel e q=>by
  refine Qb e λr e1 e=>?_
  refine Qb e λr' e2 e=>?_
  refine⟨ρ,hs,F,r,rel,e1,λv H1 G pp=>⟨ρ,hs,F,r',rel.ext pp.same,e2,λv' H2 G' pp'=>?_⟩⟩
  have rp:=pp.rp.same pp'.same
  have rp':=pp'.rp
  cases hr:r.d with
  | lst xs=>
   cases hr':r'.d with
   | lst ys=>
    rw[hr,hr']at e
    rw[hr]at rp
    rw[hr']at rp'
    cases e
    obtain⟨c,vs,L,rfl,hl,rl,zl,el⟩:=rp.lst_inv
    obtain⟨c',vs',L',rfl,hl',rl',zl',el'⟩:=rp'.lst_inv
    refine⟨c,c',rfl,⟨vs,Qu hl⟩,⟨vs',Qu hl'⟩,q _ H2 [(.ref c,.lst xs,G),(.ref c',.lst ys,G')] (pp.same.trans pp'.same) Qh1 (λt ht=>?_) (pp.own.append pp'.own) (by rw[QcU];omega)⟩
    have sa:=pp.src.append pp'.src pp.same
    rcases Zu.mp ht with rfl | ht
    ·exact⟨rp,λz hz=>sa z (Zc _ hz)⟩
    ·rw[Zt.mp ht]
     exact⟨rp',λz hz=>sa z (Zb _ hz)⟩
   | _=>rw[hr,hr']at e;cases e
  | _=>rw[hr]at e;cases e
end
end HS
namespace HS
open PySem L2
section
end
end HS
namespace HS
open PySem PySem.Spec L2
inductive Tg where
 | nm (i:Nat)
 | tp (is:List Nat)
noncomputable def Tg.slots:Tg->List Nat
 | .nm i=>[i]
 | .tp is=>is
noncomputable def QaH:List Nat->List D->En->En
 | i::is,d::ds,ρ=>QaH is ds (ρ.set i (some (d,d.flat)))
 | _,_,ρ=>ρ
noncomputable def Q5:Tg->D->En->Option En
 | .nm i,d,ρ=>some (ρ.set i (some (d,d.flat)))
 | .tp is,.tup xs,ρ=>if xs.length=is.length then some (QaH is xs ρ)else none
 | .tp is,.lst xs,ρ=>if xs.length=is.length then some (QaH is xs ρ)else none
 | .tp _,_,_=>none
noncomputable def tG(K:PySem.W.Frag)(H0:Hp)(A0:List Addr)(t:Tg):TG:=λv σ H Q=>∃ρ hs F d G ρ',Rel K H0 A0 hs ρ F σ H/\Rp K H d v G/\Shr H0 A0 ρ F G/\Q5 t d ρ=some ρ'∧
 ∀σ' F',Rel K H0 A0 hs ρ' F' σ' H->(∀j,j∉t.slots->σ'[j]? =σ[j]?)->(∀j a,a∈F' j->a∈F j∨a∈G)->Q σ' H
def SG(X:Cx)(tg:Expr)(t:Tg):Prop:=∀H0 A0,PG X tg (tG X.K H0 A0 t)
theorem _root_.L2.PG.mono{X:Cx}{tg:Expr}{t t':TG}(h:PG X tg t)(m:∀v σ H Q,t' v σ H Q->t v σ H Q):PG X tg t':=λpins s σ H v u Q I r q=>h pins s σ H v u Q I r (m v σ H Q q)
noncomputable def Qdo:List Nat->TGs
 | []=>Ql2
 | i::is=>Qi9 (QcH i) (Qdo is)
theorem Shr.set{H0:Hp}{A0:List Addr}{ρ:En}{F:Nat->List Addr}{G G1:List Addr}{i:Nat}{d:D}(h:Shr H0 A0 ρ F G)(hf:d.flat=true->G1=[]):Shr H0 A0 (ρ.set i (some (d,d.flat))) (λj=>if j=i then G1 else F j) G:=λa ha=>by
 refine⟨(h a ha).1,λj d' e=>?_⟩
 by_cases hj:j=i
 ·subst hj
  show ¬a∈(if j=j then G1 else F j)
  rw[if_pos rfl]
  have hl:j<ρ.length:=by
   by_cases hl:j<ρ.length
   ·exact hl
   ·rw[ZD (by simp;omega)]at e;cases e
  rw[Zs hl]at e
  have e1:=Option.some.inj (Option.some.inj e)
  rw[hf (congrArg Prod.snd e1)]
  simp
 ·rw[Zg (Ne.symm hj)]at e
  show ¬a∈(if j=i then G1 else F j)
  rw[if_neg hj]
  exact(h a ha).2 j d' e
theorem QcV{K:PySem.W.Frag}{H0:Hp}{A0:List Addr}{hs:List (V×D×List Addr)}:∀(is:List Nat) (ds:List D) (vs:List V) (ρ:En) (F:Nat->List Addr) (σ:L2.St) (H:Hp) (G:List Addr) (Q:L2.St->Hp->Prop),
  Rel K H0 A0 hs ρ F σ H->Rps K H ds vs G->Shr H0 A0 ρ F G->ds.length=is.length→
  (∀σ' F',Rel K H0 A0 hs (QaH is ds ρ) F' σ' H->(∀j,j∉is->σ'[j]? =σ[j]?)->(∀j a,a∈F' j->a∈F j∨a∈G)->Q σ' H)->Qdo is vs σ H Q
 | [],ds,vs,ρ,F,σ,H,G,Q,rel,rp,sh,hl,q=>by
  have:ds=[]:=by simpa using hl
  subst this
  simp only[Rps]at rp
  exact⟨rp.1,q σ F rel (λ_ _=>rfl) λ_ _ h=> .inl h⟩
 | i::is,[],vs,ρ,F,σ,H,G,Q,rel,rp,sh,hl,q=>by simp at hl
 | i::is,d::ds,vs,ρ,F,σ,H,G,Q,rel,rp,sh,hl,q=>by
  simp only[Rps]at rp
  obtain⟨v,ws,G1,G2,rfl,rfl,r1,r2⟩:=rp
  refine⟨v,ws,rfl,?_⟩
  have sh1:Shr H0 A0 ρ F G1:=λa ha=>sh a (Zc _ ha)
  have sh2:Shr H0 A0 ρ F G2:=λa ha=>sh a (Zb _ ha)
  refine QcV is ds ws _ _ _ H G2 Q (rel.QiS r1 sh1) r2 (sh2.set r1.Qad) (by simpa using hl) λσ' F' rel' k m=>q σ' F' rel' (λj hj=>?_) λj a ha=>?_
  ·have h1:j≠i:=λz=>hj (by rw[z];exact Zi)
   rw[k j λz=>hj (Za _ z),Zg (Ne.symm h1)]
  ·rcases m j a ha with z | z
   ·by_cases hj:j=i
    ·rw[if_pos hj]at z;exact .inr (Zc _ z)
    ·rw[if_neg hj]at z;exact .inl z
   ·exact .inr (Zb _ z)
section
variable {X:Cx}{tg:Expr}{pos:Pos}
theorem Qj7{i:Nat}{x:Str}(h:PG X (.Name x pos) (QcH i)):SG X (.Name x pos) (.nm i):=λH0 A0=>h.mono λv σ H Q hpt=>by
 obtain⟨ρ,hs,F,d,G,ρ',rel,rp,sh,e,q⟩:=hpt
 cases e
 refine q _ _ (rel.QiS rp sh) (λj hj=>?_) λj a ha=>?_
 ·have:j≠i:=λz=>hj (by simp[Tg.slots,z])
  rw[Zg (Ne.symm this)]
 ·by_cases hj:j=i
  ·rw[if_pos hj]at ha;exact .inr ha
  ·rw[if_neg hj]at ha;exact .inl ha
theorem Qj3{es:List Expr}{k:Nat}{t:TGs}{n:Nat}(hc:X.calm=true)(h:PGs X es t)
  (hn:(assignEach es X.env).length=n) (hst:(assignEach es X.env).findIdx? (·.1)=none):PG X (.Tuple es k pos) (λv σ H Q=>∃a xs,v= .ref a/\SqL X.K H a xs/\xs.length=n/\t xs σ H Q):=by
 intro pins s σ H v u Q I r hw
 obtain⟨a,xs,e1,hq,hl,hw⟩:=hw
 subst e1
 cases r
 obtain⟨its,rv,ht,hz⟩:=I.list hq
 rw[PyProof.Rows.assign_Tuple]
 refine wpAny_bind (wpAny_standAt ?_)
 unfold unpack
 rw[hn,hst,show n=its.toArray.size by simp[← hl,rv.length]]
 refine wpAny_bind (wpAny_holding (PySem.W.kun_itemsOf (I.ok.hd hc) ht.isList λh' hx=>?_))
 have I1:Inv X pins σ H {s with heap:=h'}:=I.kept (t':=s.toks) λb o e=>hx b o (ZE (Zq e)) e
 exact h pins _ σ H xs _ Q I1 (by simpa using rv) hw
theorem Qma{es:List Expr}{k:Nat}{is:List Nat}(hc:X.calm=true)(h:PGs X es (Qdo is))(hn:(assignEach es X.env).length=is.length)(hst:(assignEach es X.env).findIdx? (·.1)=none):SG X (.Tuple es k pos) (.tp is):=λH0 A0=>
 λpins s σ H v u Q I r hpt=>by
  obtain⟨ρ,hs,F,d,G,ρ',rel,rp,sh,e,q⟩:=hpt
  cases d with
  | tup xs=>
   simp only[Q5]at e
   split at e
   ·rename_i hl
    cases e
    obtain⟨a,vs,rfl,hq,rs⟩:=rp.QQ
    exact Qk7 hc h hn hst pins s σ H _ u Q I r ⟨a,vs,rfl,hq,by rw[← rs.length];exact hl,QcV is xs vs ρ F σ H G Q rel rs sh hl q⟩
   ·cases e
  | lst xs=>
   simp only[Q5]at e
   split at e
   ·rename_i hl
    cases e
    obtain⟨a,vs,L,rfl,hq,rs,_,eG⟩:=rp.lst_inv
    have sub:∀b∈L,b∈G:=λb hb=>by
     rcases eG with rfl | rfl
     ·exact Za _ hb
     ·exact hb
    exact Qj3 hc h hn hst pins s σ H _ u Q I r ⟨a,vs,rfl,Qu hq,by rw[← rs.length];exact hl,QcV is xs vs ρ F σ H L Q rel rs (λb hb=>sh b (sub b hb)) hl λσ' F' rel' k m=>q σ' F' rel' k λj b hb=>(m j b hb).imp id (sub b)⟩
   ·cases e
  | _=>simp only[Q5]at e;cases e
end
noncomputable def Qa8(cap:List (Option Nat))(ρ:En):En:=cap.map λo=>o.bind λi=>match ρ[i]? with
 | some (some (d,_))=>some (d,d.flat)
 | _=>none
noncomputable def Qgz(cap:List (Option Nat))(ρ:En):List Nat:=cap.filterMap λo=>o.bind λi=>match ρ[i]? with
 | some (some (d,b))=>if b && !d.flat then some i else none
 | _=>none
noncomputable def Qbn(t:Tg)(ft:DT)(fe:DE)(ρc:En)(acc:List D×Bool)(d:D):Option (List D×Bool):=
 (Q5 t d ρc).bind λρ1=>(ft ρ1).bind λc=>if c=true then(fe ρ1).map λr=>(acc.1++[r.d],acc.2 && r.norm.fr)else some acc
noncomputable def Qax(fi:DI)(t:Tg)(cap:List (Option Nat))(ft:DT)(fe:DE):DE:=λρ=>(fi ρ).bind λir=>
 (ir.items.foldlM (Qbn t ft fe (Qa8 cap ρ)) ([],true)).map λq=>if q.2=true then⟨.lst q.1,true,[]⟩else⟨.lst q.1,false,ir.M++Qgz cap ρ⟩
def Qaq(ρ:En):Prop:=∀(j:Nat) d,ρ[j]? =some (some (d,true))->d.flat=true
theorem Qaq.set{ρ:En}(h:Qaq ρ)(i:Nat)(d:D):Qaq (ρ.set i (some (d,d.flat))):=λj d' e=>by
 by_cases hj:j=i
 ·subst hj
  have hl:j<ρ.length:=by
   by_cases hl:j<ρ.length
   ·exact hl
   ·rw[ZD (by simp;omega)]at e;cases e
  rw[Zs hl]at e
  have e1:=Option.some.inj (Option.some.inj e)
  have h1:d=d':=congrArg Prod.fst e1
  have h2:d.flat=true:=congrArg Prod.snd e1
  rw[← h1];exact h2
 ·rw[Zg (Ne.symm hj)]at e
  exact h j d' e
theorem Qaq.QaH:∀(is:List Nat) (ds:List D) {ρ:En},Qaq ρ->Qaq (QaH is ds ρ)
 | [],_,_,h=>h
 | _::_,[],_,h=>h
 | i::is,d::ds,_,h=>Qaq.QaH is ds (h.set i d)
theorem Qaq.bind{t:Tg}{d:D}{ρ ρ':En}(h:Qaq ρ)(e:Q5 t d ρ=some ρ'):Qaq ρ':=by
 cases t with
 | nm i=>cases e;exact h.set i d
 | tp is=>
  cases d with
  | tup xs=>
   simp only[Q5]at e
   split at e
   ·cases e;exact h.QaH is xs
   ·cases e
  | lst xs=>
   simp only[Q5]at e
   split at e
   ·cases e;exact h.QaH is xs
   ·cases e
  | _=>simp only[Q5]at e;cases e
theorem Qc2(cap:List (Option Nat))(ρ:En):Qaq (Qa8 cap ρ):=λj d e=>by
 unfold Qa8 at e
 rw[Zz]at e
 cases q:cap[j]? with
 | none=>rw[q]at e;cases e
 | some o=>
  rw[q]at e
  cases o with
  | none=>cases e
  | some i=>
   simp only[Zad,Zh,Option.some.injEq]at e
   split at e
   ·have e1:=Option.some.inj e
    have h1:=congrArg Prod.fst e1
    have h2:=congrArg Prod.snd e1
    dsimp only at h1 h2
    rw[← h1];exact h2
   ·cases e
theorem Qd6{cap:List (Option Nat)}{ρ:En}{j:Nat}{d:D}{b:Bool}(e:(Qa8 cap ρ)[j]? =some (some (d,b))):∃i b',cap[j]? =some (some i)/\ρ[i]? =some (some (d,b')):=by
 unfold Qa8 at e
 rw[Zz]at e
 cases q:cap[j]? with
 | none=>rw[q]at e;cases e
 | some o=>
  rw[q]at e
  cases o with
  | none=>cases e
  | some i=>
   simp only[Zad,Zh,Option.some.injEq]at e
   split at e
   ·rename_i d' b' hi
    have e1:=Option.some.inj e
    have h1:d'=d:=congrArg Prod.fst e1
    subst h1
    exact⟨i,b',rfl,hi⟩
   ·cases e
def Qfk(X:Cx)(ifs:List Expr)(f:DT):Prop:=∀H0 A0,PTs X ifs (tVT X.K H0 A0 f)
noncomputable def Qbr:DT:=λ_=>some true
theorem Qie{X:Cx}:Qfk X [] Qbr:=λH0 A0 pins s σ H Q I=>exK λρ hs F b rel e q=>by
 cases e
 exact Qjj pins s σ H Q I (q H (Qj.refl _))
theorem QiG{X:Cx}{c:Expr}{f:DT}(h:ST X c f):Qfk X [c] f:=λH0 A0=>Qjy (h H0 A0)
structure Qez (X:Cx) (N':List Str) (scope:Scope) (cap:List (Option Nat)) (tgs:List Nat):Prop where
 len:cap.length=N'.length
 get:∀(j i:Nat),cap[j]? =some (some i)->∃x,N'[j]? =some x/\scope.names.lookup x=some .free/\X.N[i]? =some x/\(X.env.kindOf x=some .cell∨X.env.kindOf x=some .free)
 apart:∀(j i:Nat),cap[j]? =some (some i)->j∉tgs
theorem join_some{α:Type}{o:Option (Option α)}{v:α}(h:o.join=some v):o=some (some v):=by
 cases o with
 | none=>cases h
 | some p=>cases p with
  | none=>cases h
  | some x=>exact h▸rfl
theorem Qer{X:Cx}{N':List Str}{scope:Scope}{fi:DI}{t:Tg}{cap:List (Option Nat)}{ft:DT}{fe:DE}{H0:Hp}{A0:List Addr}{σ:L2.St}{H:Hp}{Q:VK}(hc:Qez X N' scope cap t.slots):
  tV X.K H0 A0 (Qax fi t cap ft fe) σ H Q->QeE (tI X.K H0 A0 fi) (Qdk X N' scope) (tG X.K (λ_=>none) [] t) (tVT X.K (λ_=>none) [] ft) (tV X.K (λ_=>none) [] fe) σ H Q:=exK λρ hs F r rel e q=>by
 refine Qb e λir e1 e=>?_
 obtain⟨⟨xs,f⟩,ef,e⟩:=Zd.mp e
 subst e
 refine⟨ρ,hs,F,ir,rel,e1,λJ H1 ts s1 wk hts ow hz=>?_⟩
 refine⟨cap.map λo=>o.bind λi=>σ[i]?.join,⟨by simp[hc.len],λj x v hN hv=>?_⟩,λDl hD=>?_⟩
 ·rw[Zz]at hv
  cases qc:cap[j]? with
  | none=>rw[qc]at hv;cases hv
  | some o=>
   rw[qc]at hv
   cases o with
   | none=>cases hv
   | some i=>
    simp only[Zad,Zh,Option.some.injEq]at hv
    obtain⟨y,h1,h2,h3,h4⟩:=hc.get j i qc
    rw[hN]at h1;cases h1
    exact⟨h2,i,h3,join_some hv,h4⟩
 generalize hσc:(cap.map λo=>o.bind λi=>σ[i]?.join)=σc
 generalize hρc:Qa8 cap ρ=ρc at ef
 have hF0:∃Fc:Nat->List Addr,Fc=λj=>match cap[j]? with
  | some (some i)=>(match ρ[i]? with
   | some (some _)=>F i
   | _=>[])
  | _=>[]:=⟨_,rfl⟩
 obtain⟨Fc,hFc⟩:=hF0
 have rel1:=rel.ext s1
 have relC:∀H2,Qj H1 H2->Rel X.K (λ_=>none) [] [] ρc Fc σc H2:=λH2 s2=>by
  refine⟨by rw[← hρc,← hσc];simp[Qa8],λj d b e=>?_,λj d e=>?_,λj d b e a ha=> .inl rfl,λt ht=>(by simp at ht),λb o z=>(by cases z)⟩
  ·rw[← hρc]at e
   obtain⟨i,b',h1,h2⟩:=Qd6 e
   obtain⟨v,h3,h4⟩:=(rel1.ext s2).val i d b' h2
   refine⟨v,?_,?_⟩
   ·rw[← hσc,Zz,h1]
    simp only[Zad,Zh,h3,Option.join_some]
   ·rw[hFc];simp only[h1,h2];exact h4
  ·have hf:d.flat=true:=Qc2 cap ρ j d (by rw[hρc];exact e)
   have:Fc j=[]:=by
    rw[← hρc]at e
    obtain⟨i,b',h1,h2⟩:=Qd6 e
    obtain⟨v,h3,h4⟩:=rel1.val i d b' h2
    rw[hFc];simp only[h1,h2];exact h4.Qad hf
   rw[this]
   exact⟨(Qba d hf).symm,Zay,λa ha=>(by simp at ha),λ_ _ _ _ _ a ha=>(by simp at ha),λt ht=>(by simp at ht)⟩
 have shC:∀G,Shr (λ_=>none) [] ρc Fc G:=λG a ha=>⟨.inl rfl,λj d e hj=>by
  have h0:=(relC H1 (Qj.refl _)).own j d e
  have hf:d.flat=true:=Qc2 cap ρ j d (by rw[hρc];exact e)
  have:(Fc j).length=0:=by rw[h0.1,Qba d hf]
  rw[List.eq_nil_of_length_eq_zero this]at hj
  simp at hj⟩
 have hSh:Qaq ρc:=by rw[← hρc];exact Qc2 cap ρ
 have heldOf:∀H2,Qj H1 H2->Qfm X.K H2 ts:=λH2 s2 t ht=>(hts t ht).1.same s2
 have oldOf:∀a,((∃t∈ts,a∈t.2.2)∨∃j,a∈Fc j)->(∃u,H1 a=some u)/\(H a=none∨∃(i:Nat) (d:D) (b:Bool),ρ[i]? =some (some (d,b))/\a∈F i/\(b=true->i∈ir.M++Qgz cap ρ)):=λa ha=>by
  rcases ha with⟨t,ht,ha⟩ | ⟨j,ha⟩
  ·refine⟨(hts t ht).1.mem a ha,?_⟩
   rcases(hts t ht).2 a ha with z | ⟨i,d,b,e,m,w⟩
   ·exact .inl z
   ·exact .inr ⟨i,d,b,e,m,λhb=>Zc _ (w hb)⟩
  ·have ha0:=ha
   rw[hFc]at ha
   dsimp only at ha
   split at ha
   ·rename_i i hi
    split at ha
    ·rename_i db hdb
     obtain⟨d,b⟩:=db
     obtain⟨v,h3,h4⟩:=rel1.val i d b hdb
     refine⟨h4.mem a ha,.inr ⟨i,d,b,hdb,ha,λhb=>Zb _ ?_⟩⟩
     unfold Qgz
     refine Zai.mpr ⟨some i,ZY hi,?_⟩
     simp only[Zh,hdb]
     have hnf:d.flat=false:=by
      cases hf:d.flat with
      | false=>rfl
      | true=>rw[h4.Qad hf]at ha;simp at ha
     rw[hb,hnf];rfl
    ·simp at ha
   ·simp at ha
 have fresh5:∀H2,Qj H1 H2->∀a,H2 a=none->H1 a=none:=λH2 s2 a h=>s2.free h
 refine⟨λi m acc H2=>m=ir.items.length-i/\i<=ir.items.length/\Qj H1 H2/\H2 Dl=some (.lst acc)/\∃(ys:List D) (g:Bool) (G:List Addr),(ir.items.drop i).foldlM (Qbn t ft fe ρc) (ys,g)=some (xs,f)/\Rps X.K H2 ys acc G/\ys.length<=i∧
  (∀a∈G,a≠Dl/\(H1 a=none∨(∃t∈ts,a∈t.2.2)∨∃j,a∈Fc j))/\(g=true->G.length=nls ys/\∀a,G.count a<=nw H1 a),⟨ir.items.length,rfl,ZJ _,QaB hD,QJ,[],true,[],by simpa using ef,by simp[Rps],Zj _,λa ha=>(by simp at ha),λ_=>⟨rfl,λa=>by simp⟩⟩,?_⟩
 rintro i m acc H2 ⟨rfl,hi,s2,eD,ys,g,G,hfold,rps,hlen,hG,hcnt⟩
 by_cases hlt:i<ir.items.length
 ·refine .inr ⟨wk.go i H2 hlt (heldOf H2 s2),λx H3 hy=>?_⟩
  obtain⟨s3,G0,rp0,hG0⟩:=wk.yld i ir.items[i] H2 x H3 (by simp[hlt]) (heldOf H2 s2) hy
  rw[ZO hlt,ZaE]at hfold
  refine Qb hfold λacc1 hstep hrest=>?_
  unfold Qbn at hstep
  refine Qb hstep λρ1 eb hstep=>?_
  refine Qb hstep λc ec hstep=>?_
  have sh1:Qaq ρ1:=hSh.bind eb
  refine⟨ρc,[],Fc,ir.items[i],G0,ρ1,relC H3 (s2.trans s3),rp0,shC G0,eb,λσ2 F2 rel2 keep mem2=>⟨λj v hv=>?_,ρ1,[],F2,c,rel2,ec,λH5 s5=>?_⟩⟩
  ·have hj:j∉t.slots:=λhj=>by
    rw[← hσc,Zz]at hv
    cases qc:cap[j]? with
    | none=>rw[qc]at hv;cases hv
    | some o=>
     cases o with
     | none=>rw[qc]at hv;cases hv
     | some k=>exact hc.apart j k qc hj
   rw[keep j hj];exact hv
  have s15:Qj H1 H5:=(s2.trans s3).trans s5
  have eD5:H5 Dl=some (.lst acc):=s5 _ _ (s3 _ _ eD)
  cases c with
  | false=>
   rw[if_neg ZT]at hstep
   refine Qk2 ?_
   cases hstep
   exact⟨_,by omega,rfl,hlt,s15,eD5,ys,g,G,hrest,rps.same (s3.trans s5),by omega,hG,hcnt⟩
  | true=>
   rw[if_pos rfl]at hstep
   refine QkB ?_
   obtain⟨rr,er,hstep⟩:=Zd.mp hstep
   subst hstep
   refine⟨ρ1,[],F2,rr,rel2.ext s5,er,λy H6 Ge pe=>?_⟩
   have eD6:H6 Dl=some (.lst acc):=pe.same _ _ eD5
   have s16:=s15.trans pe.same
   refine⟨eD6,?_,_,by omega,rfl,hlt,?_⟩
   ·rw[← rps.length];exact Nat.lt_of_le_of_lt hlen (Zm hlt hz)
   have hGe:∀a∈Ge,a≠Dl/\(H1 a=none∨(∃t∈ts,a∈t.2.2)∨∃j,a∈Fc j):=λa ha=>by
    rcases pe.src a ha with z | ⟨j,d,b,ej,hj,_⟩
    ·exact⟨λw=>(by rw[w,eD5]at z;cases z),.inl (s15.free z)⟩
    ·have h1:(∃t∈ts,a∈t.2.2)∨∃j,a∈Fc j:=by
      rcases mem2 j a hj with w | w
      ·exact .inr ⟨j,w⟩
      ·exact .inl (hG0 a w)
     obtain⟨⟨vs,w⟩,_⟩:=oldOf a h1
     exact⟨λw'=>(by rw[w',hD]at w;cases w),.inr h1⟩
   have nD:Dl∉G:=λh=>(hG _ h).1 rfl
   have nDe:Dl∉Ge:=λh=>(hGe _ h).1 rfl
   have sU:Qj H1 (L2.upd H6 Dl (.lst (acc++[y]))):=λb o hb=>by rw[Ql (QS hb hD)];exact s16 b o hb
   refine⟨sU,QJ,ys++[rr.d],g && rr.norm.fr,G++Ge,hrest,?_,by rw[Zp,Zam];omega,λa ha=>?_,λhg=>?_⟩
   ·refine Rps.append ((rps.same ((s3.trans s5).trans pe.same)).upd eD6 nD) ?_
    simp only[Rps]
    exact⟨y,[],Ge,[],rfl,by simp,pe.rp.upd eD6 nDe,rfl,rfl⟩
   ·rcases Zx.mp ha with h | h
    ·exact hG a h
    ·exact hGe a h
   ·simp only[Zf]at hg
    obtain⟨l1,c1⟩:=hcnt hg.1
    have pn:=pe.norm
    obtain⟨c2,l2⟩:=pn.cnt hg.2
    rw[rr.QaY]at l2
    have nlapp:∀(as bs:List D),nls (as++bs)=nls as+nls bs:=λas bs=>by
     induction as with
     | nil=>simp[nls]
     | cons a as ih=>simp only[Zao,nls,ih];omega
    refine⟨by rw[Zp,l1,l2,nlapp];simp[nls],λa=>?_⟩
    have fl:((rr.norm.M.map F2).flatten).count a=0:=by
     rw[ZA]
     intro hm
     obtain⟨l,hl,hal⟩:=Zap.mp hm
     obtain⟨j,hj,rfl⟩:=Zy.mp hl
     obtain⟨d,ej⟩:=pn.own j hj
     have hf:=sh1 j d ej
     obtain⟨v,_,rv⟩:=rel2.val j d true ej
     rw[rv.Qad hf]at hal
     simp at hal
    have h1:=c1 a
    have h2:=c2 a
    rw[fl]at h2
    rw[ZI]
    cases q5:H5 a with
    | some o=>rw[QaN q5]at h2;omega
    | none=>
     rw[QG q5]at h2
     have h0:G.count a=0:=ZA.mpr λhm=>by
      obtain⟨vs,w⟩:=rps.mem a hm
      rw[s5 _ _ (s3 _ _ w)]at q5;cases q5
     rw[QG (s15.free q5)]
     omega
 ·have hn:i=ir.items.length:=by omega
  subst hn
  refine .inl ⟨wk.stop H2 (heldOf H2 s2),?_⟩
  rw[List.drop_length]at hfold
  have:(ys,g)=(xs,f):=Option.some.inj hfold
  cases this
  have rp:Rp X.K H2 (.lst xs) (.ref Dl) (Dl::G):=Rp.QbD eD rps (Zr hlen hz)
  have hHD:H Dl=none:=s1.free hD
  split at q
  ·rename_i hg
   have hg:f=true:=hg
   obtain⟨l1,c1⟩:=hcnt hg
   have hn:∀a∈G,H1 a=none:=λa ha=>by
    have:=c1 a
    have h2:0<G.count a:=ZP.mpr ha
    cases w:H1 a with
    | none=>rfl
    | some o=>rw[QaN w]at this;omega
   refine q _ H2 (Dl::G) ⟨s1.trans s2,rp,λa ha=>?_,λ_=>⟨λa=>?_,by simp only[D.nl,ZC,l1]⟩,QK.nil⟩
   ·rcases Zu.mp ha with rfl | h
    ·exact .inl hHD
    ·exact .inl (s1.free (hn a h))
   ·rw[ZX]
    have h1:=c1 a
    split
    ·rename_i w
     have w:Dl=a:=by simpa using w
     subst w
     have h0:G.count Dl=0:=ZA.mpr λh=>(hG _ h).1 rfl
     rw[QG hHD];omega
    ·cases w:H1 a with
     | none=>rw[QG w]at h1;rw[QG (s1.free w)];omega
     | some o=>rw[QaN w]at h1;omega
  ·refine q _ H2 (Dl::G) ⟨s1.trans s2,rp,λa ha=>?_,λz=>(by cases z),?_⟩
   ·rcases Zu.mp ha with rfl | h
    ·exact .inl hHD
    ·rcases(hG a h).2 with z | z
     ·exact .inl (s1.free z)
     ·exact(oldOf a z).2
   ·refine ow.append λi hi=>?_
    unfold Qgz at hi
    obtain⟨o,_,ho⟩:=Zai.mp hi
    cases o with
    | none=>cases ho
    | some k=>
     simp only[Zh]at ho
     split at ho
     ·rename_i d b hk
      split at ho
      ·rename_i hb
       cases ho
       simp only[Zf]at hb
       rw[hb.1]at hk
       exact⟨d,hk⟩
      ·cases ho
     ·cases ho
section
variable {X:Cx}{tg iter elt:Expr}{ifs:List Expr}{scope:Scope}{N':List Str}{pos:Pos}{fi:DI}{t:Tg}{cap:List (Option Nat)}{ft:DT}{fe:DE}
theorem Qjl(hcalm:X.calm=true)(S:QaX X N' scope)(hi:SI X tg iter fi)(hcap:Qez X N' scope cap t.slots)
  (hin:∀cl C fp s3 H3,SG (cxc X N' scope cl C fp s3 H3) tg t/\Qfk (cxc X N' scope cl C fp s3 H3) ifs ft/\SE (cxc X N' scope cl C fp s3 H3) elt fe) (hs:∀x,foldedSetIterable iter X.env x=pure x):
  SE X (.ListComp elt [⟨tg,iter,ifs,0⟩] scope pos) (Qax fi t cap ft fe):=λH0 A0=>
 (QfD hcalm S (hi H0 A0) (λcl C fp s3 H3=>⟨(hin cl C fp s3 H3).1 _ _,(hin cl C fp s3 H3).2.1 _ _,(hin cl C fp s3 H3).2.2 _ _⟩) hs).mono λσ H Q h=>Qer hcap h
end
end HS
namespace HS
open PySem PySem.Spec L2
inductive Out where
 | nx (ρ:En)
 | bk (ρ:En)
 | ct (ρ:En)
 | rt (d:D) (fr:Bool)
noncomputable abbrev DS:=En->Option Out
noncomputable def Fits(K:PySem.W.Frag)(H0:Hp)(A0:List Addr)(hs:List (V×D×List Addr))(E:Ends):Out->Prop
 | .nx ρ=>∀σ H F,Rel K H0 A0 hs ρ F σ H->E.nx σ H
 | .bk ρ=>∀σ H F,Rel K H0 A0 hs ρ F σ H->E.bk σ H
 | .ct ρ=>∀σ H F,Rel K H0 A0 hs ρ F σ H->E.ct σ H
 | .rt d fr=>∀v H G,Ret K H0 A0 d fr v H G->E.rt v H
noncomputable def tS(K:PySem.W.Frag)(H0:Hp)(A0:List Addr)(f:DS):TS:=λE σ H=>∃ρ hs F o,Rel K H0 A0 hs ρ F σ H/\f ρ=some o/\Fits K H0 A0 hs E o
def S1(X:Cx)(st:Stmt)(f:DS):Prop:=∀H0 A0,PS X st (tS X.K H0 A0 f)
def SS(X:Cx)(sts:List Stmt)(f:DS):Prop:=∀H0 A0,PSs X sts (tS X.K H0 A0 f)
theorem _root_.L2.PS.mono(h:PS X st t)(m:∀D σ H,t' D σ H->t D σ H):PS X st t':=λpins s σ H D I q=>h pins s σ H D I (m D σ H q)
theorem _root_.L2.PSs.mono(h:PSs X st t)(m:∀D σ H,t' D σ H->t D σ H):PSs X st t':=λpins s σ H D I q=>h pins s σ H D I (m D σ H q)
noncomputable def Qm:DS:=λρ=>some (.nx ρ)
noncomputable def Qh(f g:DS):DS:=λρ=>(f ρ).bind λo=>match o with
 | .nx ρ'=>g ρ'
 | .bk ρ'=>some (.bk ρ')
 | .ct ρ'=>some (.ct ρ')
 | .rt d fr=>some (.rt d fr)
noncomputable def Qiu:DS:=λρ=>some (.bk ρ)
noncomputable def QiD:DS:=λρ=>some (.ct ρ)
noncomputable def QU(i:Nat)(fa:DE):DS:=λρ=>(fa ρ).bind λr=>some (.nx (asg i r ρ))
noncomputable def Qdp(fa:DE):DE:=λρ=>(fa ρ).map λr=>⟨r.d,false,r.M⟩
noncomputable def Q2(fa:DE):DS:=λρ=>(fa ρ).bind λr=>some (.rt r.d (r.norm.fr && decide r.norm.M.Nodup))
noncomputable def Qgo(fa:DE):DS:=λρ=>(fa ρ).bind λ_=>some (.nx ρ)
noncomputable def sIf(g:DT)(f1 f2:DS):DS:=λρ=>(g ρ).bind λb=>if b=true then f1 ρ else f2 ρ
noncomputable def Qaz(t:Tg)(fb:DS):List D->DS
 | [],ρ=>some (.nx ρ)
 | d::ds,ρ=>(Q5 t d ρ).bind λρ1=>(fb ρ1).bind λo=>match o with
  | .nx ρ2=>Qaz t fb ds ρ2
  | .ct ρ2=>Qaz t fb ds ρ2
  | .bk ρ2=>some (.nx ρ2)
  | .rt d fr=>some (.rt d fr)
noncomputable def Qck(fi:DI)(t:Tg)(fb:DS):DS:=λρ=>(fi ρ).bind λir=>Qaz t fb ir.items (QaG ir.M ρ)
section
theorem QlQ:SS X [] Qm:=λH0 A0=>Qke.mono λE σ H=>exK λρ hs F o rel e q=>by
 cases e
 exact q σ H F rel
theorem Qkp(h1:S1 X st f)(h2:SS X sts g):SS X (st::sts) (Qh f g):=λH0 A0=>(QiF (h1 H0 A0) (h2 H0 A0)).mono λE σ H=>exK λρ hs F o rel e q=>by
 refine Qb e λo1 e1 e=>?_
 refine⟨ρ,hs,F,o1,rel,e1,?_⟩
 cases o1 with
 | nx ρ'=>exact λσ' H' F' rel'=>⟨ρ',hs,F',o,rel',e,q⟩
 | bk ρ'=>cases e;exact q
 | ct ρ'=>cases e;exact q
 | rt d fr=>cases e;exact q
theorem QjW:S1 X (.Pass pos) Qm:=λH0 A0=>QjK.mono λE σ H=>exK λρ hs F o rel e q=>by
 cases e
 exact q σ H F rel
theorem QiC:S1 X (.Break pos) Qiu:=λH0 A0=>QiO.mono λE σ H=>exK λρ hs F o rel e q=>by
 cases e
 exact q σ H F rel
theorem QjT:S1 X (.Continue pos) QiD:=λH0 A0=>QfA.mono λE σ H=>exK λρ hs F o rel e q=>by
 cases e
 exact q σ H F rel
theorem Qib(h:SE X e fa):SE X e (Qdp fa):=λH0 A0=>(h H0 A0).mono λσ H Q=>exK λρ hs F r rel e q=>by
 obtain⟨r',e1,rfl⟩:=Zd.mp e
 exact⟨ρ,hs,F,r',rel,e1,λv H' G p=>q v H' G ⟨p.same,p.rp,p.src,λz=>(by cases z),p.own⟩⟩
theorem Qfb(h:∀H0 A0,PS X st (QeP (tV X.K H0 A0 fa) (QcH i))):S1 X st (QU i fa):=λH0 A0=>(h H0 A0).mono λE σ H=>exK λρ hs F o rel e q=>by
 refine Qb e λr e1 e=>?_
 cases e
 refine⟨ρ,hs,F,r,rel,e1,λv H' G p=>?_⟩
 obtain⟨F',rel'⟩:=rel.asg (i:=i) p
 exact q _ _ F' rel'
theorem Qka(h:PS X st (Qgv (tV X.K H0 A0 fa))):PS X st (tS X.K H0 A0 (Qgo fa)):=h.mono λE σ H=>exK λρ hs F o rel e q=>by
 refine Qb e λr e1 e=>?_
 cases e
 exact⟨ρ,hs,F,r,rel,e1,λv H' G p=>q σ H' F (rel.ext p.same)⟩
theorem Rel.ret(rel:Rel K H0 A0 hs ρ F σ H)(p:Qp K ρ F H H' r v G):Ret K H0 A0 r.d (r.norm.fr && decide r.norm.M.Nodup) v H' G where
 same:=rel.same.trans p.same
 rp:=p.rp
 src:=λa ha=>by
  rcases p.src a ha with z | ⟨i,d,b,e,m,_⟩
  ·exact .inl (rel.same.free z)
  ·exact rel.src i d b e a m
 cnt:=λh=>by
  simp only[Zf,decide_eq_true_eq]at h
  have p':=p.norm
  obtain⟨h1,h2⟩:=p'.fresh rel h.1 h.2
  have h3:=(p'.cnt h.1).2
  rw[r.QaY]at h3
  exact⟨h1,h3,λa ha=>(h2 a ha).1⟩
theorem Qlg(he:SE X e fa):S1 X (.Return (some e) pos) (Q2 fa):=λH0 A0=>(QlD (he H0 A0)).mono λE σ H=>exK λρ hs F o rel e q=>by
 refine Qb e λr e1 e=>?_
 cases e
 exact⟨ρ,hs,F,r,rel,e1,λv H' G p=>q v H' G (rel.ret p)⟩
theorem Qmi(hc:ST X c gc)(ha:SS X a f)(hb:SS X b g):S1 X (.If c a b pos) (sIf gc f g):=λH0 A0=>(QmE (hc H0 A0) (ha H0 A0) (hb H0 A0)).mono λE σ H=>exK λρ hs F o rel e q=>by
 refine Qb e λc e1 e=>?_
 refine⟨ρ,hs,F,c,rel,e1,λH1 s1=>?_⟩
 cases c with
 | true=>exact QkB ⟨ρ,hs,F,o,rel.ext s1,e,q⟩
 | false=>exact Qk2 ⟨ρ,hs,F,o,rel.ext s1,e,q⟩
theorem QlX(hp:PassesOwn (model X.prog X.w) X.A X.env X.xe)(hc:X.calm=true)(hi:SI X tg iter fi)(hg:SG X tg t)(hb:SS X body f)(hs:∀x,foldedSetIterable iter X.env x=pure x):
  S1 X (.For tg iter body [] pos) (Qck fi t f):=λH0 A0=>(Qks hp hc (hi H0 A0) (hg H0 A0) (hb H0 A0) hs).mono λE σ H=>exK λρ hs F o rel e q=>by
 refine Qb e λir e1 e=>?_
 refine⟨ρ,hs,F,ir,rel,e1,λJ H1 ts s1 wk hts ow hz=>?_⟩
 have rel1:Rel X.K H0 A0 (ts++hs) (QaG ir.M ρ) F σ H1:=((rel.ext s1).weak (Qav ir.M ρ)).hold λt ht=>⟨(hts t ht).1,Shr.of rel (hts t ht).2⟩
 refine⟨λi m σ' H'=>m=ir.items.length-i/\i<=ir.items.length/\∃ρi Fi,Rel X.K H0 A0 (ts++hs) ρi Fi σ' H'/\Qaz t f (ir.items.drop i) ρi=some o,⟨_,rfl,ZJ _,_,F,rel1,by simpa using e⟩,?_⟩
 rintro i m σ' H' ⟨rfl,hi',ρi,Fi,reli,ei⟩
 have held:Qfm X.K H' ts:=λt ht=>(reli.held t (Zc _ ht)).1
 by_cases hlt:i<ir.items.length
 ·rw[ZO hlt]at ei
  unfold Qaz at ei
  refine Qb ei λρ1 eb ei=>?_
  refine Qb ei λo1 eo ei=>?_
  refine .inr ⟨wk.go i H' hlt held,λσ2 H2=>∃ρ2 F2,Rel X.K H0 A0 (ts++hs) ρ2 F2 σ2 H2/\Qaz t f (ir.items.drop (i+1)) ρ2=some o,λσ2 H2 ⟨ρ2,F2,rel2,e2⟩=>⟨_,by omega,rfl,hlt,ρ2,F2,rel2,e2⟩,λx H2 hy=>?_⟩
  obtain⟨s2,G0,rp0,hG0⟩:=wk.yld i ir.items[i] H' x H2 (by simp[hlt]) held hy
  have shr:Shr H0 A0 ρi Fi G0:=λa ha=>by
   obtain⟨t,ht,hat⟩:=hG0 a ha
   exact⟨(reli.held t (Zc _ ht)).2 a hat,λj d ej hj=>(reli.own j d ej).2.2.2.2 t (Zc _ ht) a hj hat⟩
  refine⟨ρi,ts++hs,Fi,ir.items[i],G0,ρ1,reli.ext s2,rp0,shr,eb,λσ3 F3 rel3 _ _=>⟨ρ1,ts++hs,F3,o1,rel3,eo,?_⟩⟩
  cases o1 with
  | nx ρ2=>exact λσ4 H4 F4 rel4=>⟨ρ2,F4,rel4,ei⟩
  | ct ρ2=>exact λσ4 H4 F4 rel4=>⟨ρ2,F4,rel4,ei⟩
  | bk ρ2=>cases ei;exact λσ4 H4 F4 rel4=>q σ4 H4 F4 rel4.QhU
  | rt d fr=>cases ei;exact q
 ·have hn:i=ir.items.length:=by omega
  subst hn
  rw[List.drop_length]at ei
  cases ei
  exact .inl ⟨wk.stop H' held,q σ' H' Fi reli.QhU⟩
end
end HS
namespace HS
open PySem PySem.Spec L2 PyProof.Rows
end HS
namespace HS
open PySem PySem.Spec L2
section
variable {K:PySem.W.Frag}{H H':Hp}
theorem Rps.split:∀{ds:List D}{vs:List V}{F:List Addr}{j:Nat}{d:D},Rps K H ds vs F->ds[j]? =some d→
  ∃F1 G F2 v,F=F1++(G++F2)/\vs[j]? =some v/\Rps K H (ds.take j) (vs.take j) F1/\Rp K H d v G/\Rps K H (ds.drop (j+1)) (vs.drop (j+1)) F2
 | [],_,_,_,_,_,e=>by simp at e
 | d::ds,_,_,0,_,h,e=>by
  simp only[Rps]at h
  obtain⟨v,ws,F1,F2,rfl,rfl,r,q⟩:=h
  simp at e;subst e
  exact⟨[],F1,F2,v,rfl,by simp,by simp[Rps],r,by simpa using q⟩
 | d::ds,_,_,j+1,_,h,e=>by
  simp only[Rps]at h
  obtain⟨v,ws,F1,F2,rfl,rfl,r,q⟩:=h
  obtain⟨G1,G,G2,v',h1,h2,h3,h4,h5⟩:=Rps.split q (by simpa using e)
  refine⟨F1++G1,G,G2,v',by rw[h1,ZZ],by simpa using h2,?_,h4,by simpa using h5⟩
  simp only[List.take_succ_cons,Rps]
  exact⟨v,_,F1,G1,rfl,rfl,r,h3⟩
theorem Rps.join{ds:List D}{vs:List V}{F1 G F2:List Addr}{j:Nat}{d:D}{v:V}(h1:Rps K H (ds.take j) (vs.take j) F1)(hd:Rp K H d v G)(h2:Rps K H (ds.drop (j+1)) (vs.drop (j+1)) F2)(hj:j<ds.length)(hv:vs[j]? =some v):
  Rps K H (ds.set j d) vs (F1++(G++F2)):=by
 have e1:ds.set j d=ds.take j++d::ds.drop (j+1):=ZU .. |>.trans (by rw[if_pos hj])
 have hjv:j<vs.length:=(Ze.mp hv).1
 have hve:vs[j]=v:=(Ze.mp hv).2
 have e2:vs=vs.take j++v::vs.drop (j+1):=by
  rw[← hve,← ZO hjv,Zan]
 rw[e1,e2]
 refine h1.append ?_
 simp only[Rps]
 refine⟨v,_,G,F2,rfl,rfl,hd,h2⟩
theorem Rps.Qm3{ds:List D}{vs:List V}{F1 G F2:List Addr}{j:Nat}{d:D}{v:V}(h1:Rps K H (ds.take j) (vs.take j) F1)(hd:Rp K H d v G)(h2:Rps K H (ds.drop (j+1)) (vs.drop (j+1)) F2)(hj:j<ds.length)(hv:j<vs.length):
  Rps K H (ds.set j d) (vs.set j v) (F1++(G++F2)):=by
 have e1:ds.set j d=ds.take j++d::ds.drop (j+1):=ZU .. |>.trans (by rw[if_pos hj])
 have e2:vs.set j v=vs.take j++v::vs.drop (j+1):=ZU .. |>.trans (by rw[if_pos hv])
 rw[e1,e2]
 refine h1.append ?_
 simp only[Rps]
 exact⟨v,_,G,F2,rfl,rfl,hd,h2⟩
noncomputable def Focus(K:PySem.W.Frag)(H:Hp):List Int->D->V->List Addr->D->V->List Addr->Prop
 | [],d,v,F,dm,w,Gm=>dm=d/\w=v/\Gm=F/\Rp K H d v F
 | i::is,d,v,F,dm,w,Gm=>∃(ds:List D) (a:Addr) (vs:List V) (j:Nat) (F1 G F2:List Addr) (d':D) (v':V),v= .ref a/\ixN ds.length i=some j∧
   ((d= .lst ds/\ds.length<=sizeLine/\((F=a::(F1++(G++F2))/\H a=some (.lst vs))∨(F=F1++(G++F2)/\Fix K H a vs)))∨(d= .tup ds/\F=F1++(G++F2)/\SqT K H a vs))∧
   Rps K H (ds.take j) (vs.take j) F1/\Rps K H (ds.drop (j+1)) (vs.drop (j+1)) F2/\ds[j]? =some d'/\vs[j]? =some v'/\ds.length=vs.length/\Focus K H is d' v' G dm w Gm
theorem Focus.same(s:Qj H H'):∀{is:List Int}{d:D}{v:V}{F:List Addr}{dm:D}{w:V}{Gm:List Addr},Focus K H is d v F dm w Gm->Focus K H' is d v F dm w Gm
 | [],_,_,_,_,_,_,h=>⟨h.1,h.2.1,h.2.2.1,h.2.2.2.same s⟩
 | i::is,_,_,_,_,_,_,h=>by
  obtain⟨ds,a,vs,j,F1,G,F2,d',v',h1,h2,h3,h4,h5,h6,h7,h8,h9⟩:=h
  refine⟨ds,a,vs,j,F1,G,F2,d',v',h1,h2,?_,h4.same s,h5.same s,h6,h7,h8,h9.same s⟩
  rcases h3 with⟨e,z,q⟩ | ⟨e,eF,q⟩
  ·refine .inl ⟨e,z,?_⟩
   rcases q with⟨eF,q⟩ | ⟨eF,q⟩
   ·exact .inl ⟨eF,s _ _ q⟩
   ·exact .inr ⟨eF,Qfl s q⟩
  ·exact .inr ⟨e,eF,QeK s q⟩
theorem Focus.rp:∀{is:List Int}{d:D}{v:V}{F:List Addr}{dm:D}{w:V}{Gm:List Addr},Focus K H is d v F dm w Gm->Rp K H dm w Gm
 | [],_,_,_,_,_,_,h=>by
  obtain⟨rfl,rfl,rfl,r⟩:=h
  exact r
 | i::is,_,_,_,_,_,_,h=>by
  obtain⟨ds,a,vs,j,F1,G,F2,d',v',h1,h2,h3,h4,h5,h6,h7,h8,h9⟩:=h
  exact h9.rp
theorem Focus.Qhc:∀{is:List Int}{d:D}{v:V}{F:List Addr}{dm:D}{w:V}{Gm:List Addr},Focus K H is d v F dm w Gm->Rp K H d v F
 | [],_,_,_,_,_,_,h=>h.2.2.2
 | i::is,_,_,_,_,_,_,h=>by
  obtain⟨ds,a,vs,j,F1,G,F2,d',v',rfl,h2,h3,h4,h5,h6,h7,h8,h9⟩:=h
  have hjl:j<ds.length:=(Ze.mp h6).1
  have hdj:ds[j]=d':=(Ze.mp h6).2
  have j1:=Rps.join h4 h9.Qhc h5 hjl h7
  rw[show ds.set j d'=ds by rw[← hdj];exact List.set_getElem_self hjl]at j1
  rcases h3 with⟨rfl,hz,⟨rfl,q⟩ | ⟨rfl,q⟩⟩ | ⟨rfl,rfl,q⟩
  ·exact Rp.QbD q j1 hz
  ·simp only[Rp]
   exact⟨hz,a,vs,rfl,.inr ⟨q,j1⟩⟩
  ·simp only[Rp]
   exact⟨a,vs,rfl,q,j1⟩
theorem Focus.one(r:Rp K H d v F)(hd:d.items=some ds)(hi:atI ds i=some d'):
  ∃a vs v' G,v= .ref a/\((d= .lst ds/\SqL K H a vs)∨(d= .tup ds/\SqT K H a vs))/\atI vs i=some v'/\Focus K H [i] d v F d' v' G:=by
 unfold atI at hi
 cases hj:ixN ds.length i with
 | none=>rw[hj]at hi;cases hi
 | some j=>
  rw[hj]at hi
  have hdj:ds[j]? =some d':=hi
  have fin:∀(vs:List V) (L:List Addr),Rps K H ds vs L->∃v' G F1 F2,L=F1++(G++F2)/\vs[j]? =some v'/\atI vs i=some v'/\Rps K H (ds.take j) (vs.take j) F1/\Rp K H d' v' G/\Rps K H (ds.drop (j+1)) (vs.drop (j+1)) F2/\ds.length=vs.length:=λvs L rl=>by
   obtain⟨F1,G,F2,v',h1,h2,h3,h4,h5⟩:=rl.split hdj
   refine⟨v',G,F1,F2,h1,h2,?_,h3,h4,h5,rl.length⟩
   unfold atI
   rw[← rl.length,hj]
   exact h2
  cases d with
  | lst xs=>
   cases hd
   simp only[Rp]at r
   obtain⟨hz,a,vs,rfl,⟨L,rfl,q,rl⟩ | ⟨q,rl⟩⟩:=r
   ·obtain⟨v',G,F1,F2,h1,h2,h3,h4,h5,h6,h7⟩:=fin vs L rl
    exact⟨a,vs,v',G,rfl,.inl ⟨rfl,SqL.of q⟩,h3,ds,a,vs,j,F1,G,F2,d',v',rfl,hj,.inl ⟨rfl,hz,.inl ⟨by rw[h1],q⟩⟩,h4,h6,hdj,h2,h7,rfl,rfl,rfl,h5⟩
   ·obtain⟨v',G,F1,F2,h1,h2,h3,h4,h5,h6,h7⟩:=fin vs _ rl
    exact⟨a,vs,v',G,rfl,.inl ⟨rfl,q.sq⟩,h3,ds,a,vs,j,F1,G,F2,d',v',rfl,hj,.inl ⟨rfl,hz,.inr ⟨h1,q⟩⟩,h4,h6,hdj,h2,h7,rfl,rfl,rfl,h5⟩
  | tup xs=>
   cases hd
   obtain⟨a,vs,rfl,q,rl⟩:=r.QQ
   obtain⟨v',G,F1,F2,h1,h2,h3,h4,h5,h6,h7⟩:=fin vs _ rl
   exact⟨a,vs,v',G,rfl,.inr ⟨rfl,q⟩,h3,ds,a,vs,j,F1,G,F2,d',v',rfl,hj,.inr ⟨rfl,h1,q⟩,h4,h6,hdj,h2,h7,rfl,rfl,rfl,h5⟩
  | _=>cases hd
theorem Focus.snoc:∀{is:List Int}{d:D}{v:V}{F:List Addr}{dm:D}{w:V}{Gm:List Addr}{i:Int}{d':D}{v':V}{G:List Addr},Focus K H is d v F dm w Gm->Focus K H [i] dm w Gm d' v' G->Focus K H (is++[i]) d v F d' v' G
 | [],_,_,_,_,_,_,_,_,_,_,h,g=>by
  obtain⟨rfl,rfl,rfl,r⟩:=h
  exact g
 | k::is,_,_,_,_,_,_,_,_,_,_,h,g=>by
  obtain⟨ds,a,vs,j,F1,G,F2,d',v',h1,h2,h3,h4,h5,h6,h7,h8,h9⟩:=h
  exact⟨ds,a,vs,j,F1,G,F2,d',v',h1,h2,h3,h4,h5,h6,h7,h8,h9.snoc g⟩
noncomputable def Qbo:D->List Int->Option D
 | d,[]=>some d
 | d,i::is=>(d.items).bind λds=>(atI ds i).bind λd'=>Qbo d' is
theorem Qda:∀{is:List Int}{d:D}{i:Int}{d':D},Qbo d (is++[i])=some d'->∃dm ds,Qbo d is=some dm/\dm.items=some ds/\atI ds i=some d'
 | [],d,i,d',h=>by
  refine Qb h λds h1 h=>?_
  refine Qb h λd'' h2 h=>?_
  cases h
  exact⟨d,ds,rfl,h1,h2⟩
 | k::is,d,i,d',h=>by
  refine Qb h λds h1 h=>?_
  refine Qb h λd'' h2 h=>?_
  obtain⟨dm,es,h3,h4,h5⟩:=Qda h
  refine⟨dm,es,?_,h4,h5⟩
  simp only[Qbo,h1,h2,Zh,h3]
noncomputable def Qal:List Int->D->D->D
 | [],_,new=>new
 | i::is,.lst ds,new=>match ixN ds.length i with
  | some j=> .lst (ds.set j (Qal is (ds.getD j .non) new))
  | none=> .lst ds
 | i::is,.tup ds,new=>match ixN ds.length i with
  | some j=> .tup (ds.set j (Qal is (ds.getD j .non) new))
  | none=> .tup ds
 | _::_,d,_=>d
theorem QcB:∀{ds:List D}{j:Nat}{d e:D},ds[j]? =some d->nls (ds.set j e)+d.nl=nls ds+e.nl
 | [],_,_,_,h=>by simp at h
 | x::ds,0,d,e,h=>by simp at h;subst h;simp only[List.set_cons_zero,nls];omega
 | x::ds,j+1,d,e,h=>by
  have:=QcB (e:=e) (by simpa using h)
  simp only[List.set_cons_succ,nls];omega
theorem Qa7:∀(as bs:List D),nls (as++bs)=nls as+nls bs
 | [],bs=>by simp[nls]
 | a::as,bs=>by simp only[Zao,nls,Qa7 as bs];omega
theorem Focus.mut:∀{is:List Int}{d:D}{v:V}{F:List Addr}{Gm:List Addr},Focus K H is d v F (.lst dsm) (.ref p) Gm->F.Nodup->F.length=d.nl→
  ∃vsm Gp,H p=some (.lst vsm)/\Gm=p::Gp/\Rps K H dsm vsm Gp/\Gp.length=nls dsm/\p∈F/\(∀a∈Gp,a∈F)/\p∉Gp∧
   (Rps K (upd H p (.lst vs')) ds' vs' G'->ds'.length<=sizeLine->G'.length=nls ds'→
    ∃F',Rp K (upd H p (.lst vs')) (Qal is d (.lst ds')) v F'/\F'.length=(Qal is d (.lst ds')).nl/\∀a,F'.count a+Gp.count a=F.count a+G'.count a)
 | [],d,v,F,Gm,h,nd,hl=>by
  obtain⟨rfl,rfl,rfl,r⟩:=h
  simp only[Rp]at r
  obtain⟨hz,a,vs,e,h⟩:=r
  cases e
  rcases h with⟨L,rfl,q,rl⟩ | ⟨q,rl⟩
  ·obtain⟨n1,n2⟩:=ZW.mp nd
   have hl':L.length=nls dsm:=by simp only[D.nl,ZC]at hl;omega
   refine⟨vs,L,q,rfl,rl,hl',Zi,λa ha=>Za _ ha,n1,λr' hz' hl2=>⟨p::G',Rp.QbD QJ r' hz',?_,λa=>?_⟩⟩
   ·simp only[Qal,D.nl,ZC,hl2]
   ·rw[ZX,ZX];omega
  ·have:=rl.QA
   simp only[D.nl]at hl
   omega
 | i::is,d,v,F,Gm,h,nd,hl=>by
  obtain⟨ds,a,vs,j,F1,G,F2,d',v',rfl,hj,h3,h4,h5,h6,h7,h8,h9⟩:=h
  have hjl:j<ds.length:=(Ze.mp h6).1
  have gd:ds.getD j .non=d':=by rw[Zag,h6];rfl
  have l1:=h4.QA
  have l2:=h5.QA
  have l3:=h9.Qhc.QA
  have nlsplit:nls (ds.take j)+(d'.nl+nls (ds.drop (j+1)))=nls ds:=by
   have e1:ds=ds.take j++d'::ds.drop (j+1):=by
    have:ds[j]=d':=(Ze.mp h6).2
    rw[← this,← ZO hjl,Zan]
   have e2:=congrArg nls e1
   rw[Qa7]at e2
   simp only[nls]at e2
   exact e2.symm
  have core:(F1++(G++F2)).Nodup->(F1++(G++F2)).length=nls ds->_:=λnd' hl'=>by
   simp only[Zp]at hl'
   have hG:G.length=d'.nl:=by omega
   have ndG:G.Nodup:=(Zal.mp (Zal.mp nd').2.1).1
   exact(h9.mut (vs':=vs') (ds':=ds') (G':=G') ndG hG)
  have apart:(F1++(G++F2)).Nodup->p∈G->p∉F1/\p∉F2:=λnd' hp=>by
   have n1:=Zal.mp nd'
   have n2:=Zal.mp n1.2.1
   exact⟨λh=>n1.2.2 p h p (Zc _ hp) rfl,λh=>n2.2.2 p hp p h rfl⟩
  have cnt:∀(G'' Gp:List Addr),(∀a,G''.count a+Gp.count a=G.count a+G'.count a)->∀a,(F1++(G''++F2)).count a+Gp.count a=(F1++(G++F2)).count a+G'.count a:=λG'' Gp hc a=>by
   have:=hc a
   simp only[ZI];omega
  rcases h3 with⟨rfl,hz,⟨rfl,q⟩ | ⟨rfl,q⟩⟩ | ⟨rfl,rfl,q⟩
  ·
   obtain⟨n1,n2⟩:=ZW.mp nd
   have hl':(F1++(G++F2)).length=nls ds:=by simp only[D.nl,ZC]at hl;omega
   obtain⟨vsm,Gp,e1,e2,e3,e4,e5,e6,e7,e8⟩:=core n2 hl'
   have ap:=apart n2 e5
   have hap:a≠p:=λz=>n1 (by rw[z];exact Zb _ (Zc _ e5))
   refine⟨vsm,Gp,e1,e2,e3,e4,Za _ (Zb _ (Zc _ e5)),λb hb=>Za _ (Zb _ (Zc _ (e6 b hb))),e7,λr' hz' hl2=>?_⟩
   obtain⟨G'',f1,f2,f3⟩:=e8 r' hz' hl2
   have j1:=Rps.join (h4.upd e1 ap.1) f1 (h5.upd e1 ap.2) hjl h7
   refine⟨a::(F1++(G''++F2)),?_,?_,λb=>?_⟩
   ·simp only[Qal,hj,gd]
    exact Rp.QbD (by rw[Ql hap];exact q) j1 (by rw[ZaI];exact hz)
   ·have:=QcB (e:=Qal is d' (.lst ds')) h6
    simp only[Qal,hj,gd,D.nl,ZC,Zp,f2]at hl' ⊢
    omega
   ·have:=cnt G'' Gp f3 b
    rw[ZX,ZX];omega
  ·have:(F1++(G++F2)).length<=nls ds:=by simp only[Zp];omega
   simp only[D.nl]at hl
   omega
  ·
   have hl':(F1++(G++F2)).length=nls ds:=by simpa only[D.nl]using hl
   obtain⟨vsm,Gp,e1,e2,e3,e4,e5,e6,e7,e8⟩:=core nd hl'
   have ap:=apart nd e5
   refine⟨vsm,Gp,e1,e2,e3,e4,Zb _ (Zc _ e5),λb hb=>Zb _ (Zc _ (e6 b hb)),e7,λr' hz' hl2=>?_⟩
   obtain⟨G'',f1,f2,f3⟩:=e8 r' hz' hl2
   have j1:=Rps.join (h4.upd e1 ap.1) f1 (h5.upd e1 ap.2) hjl h7
   refine⟨F1++(G''++F2),?_,?_,cnt G'' Gp f3⟩
   ·simp only[Qal,hj,gd,Rp]
    exact⟨a,vs,rfl,Qf0 e1 q,j1⟩
   ·have:=QcB (e:=Qal is d' (.lst ds')) h6
    simp only[Qal,hj,gd,D.nl,Zp,f2]at hl' ⊢
    omega
end
end HS
namespace HS
open PySem PySem.Spec L2
section
theorem Rel.mut(rel:Rel K H0 A0 hs ρ F σ H)(p:Qp K ρ F H H1 r vn Gn)(hf:r.fr=true)(nd:r.M.Nodup)(s12:Qj H1 H2)(hx:ρ[x]? =some (some (d,true)))(hxM:x∉r.M)(hv0:σ[x]? =some (some v0))
  {dnew:D}{q:Addr}{F':List Addr}{vsm vs':List V}(e1:H2 q=some (.lst vsm)) (e5:q∈F x) (f1:Rp K (upd H2 q (.lst vs')) dnew v0 F') (f2:F'.length=dnew.nl) (cF:∀a,F'.count a<=(F x).count a+Gn.count a):
  ∃F',Rel K H0 A0 hs ((kill r.M ρ).set x (some (dnew,true))) F' σ (upd H2 q (.lst vs')):=by
 obtain⟨ol,on,o0,oap,oh⟩:=rel.own x d hx
 obtain⟨gn,gs⟩:=p.fresh rel hf nd
 have rel2:=(rel.ext p.same).ext s12
 have relk:=rel2.weak (Qaj r.M ρ)
 have apn:∀a∈Gn,a∉F x:=λa ha hax=>by
  rcases(gs a ha).2 with z | ⟨k,d',hk,ek,hak⟩
  ·obtain⟨vs,w⟩:=rel.mem hx hax
   rw[z]at w;cases w
  ·have:k≠x:=λz=>hxM (z▸hk)
   exact oap k d' true this ek a hax hak
 have memF:∀a∈F',a∈F x∨a∈Gn:=λa ha=>by
  have h1:=cF a
  have h2:0<F'.count a:=ZP.mpr ha
  by_cases h:a∈F x
  ·exact .inl h
  ·rw[ZA.mpr h]at h1
   exact .inr (ZP.mp (by omega))
 have apart:∀(j:Nat) d' b,j≠x->(kill r.M ρ)[j]? =some (some (d',b))->∀a∈F',a∉F j:=λj d' b hj e a ha haj=>by
  obtain⟨b',e',_⟩:=(Qaj r.M ρ).2 j d' b e
  rcases memF a ha with h | h
  ·exact oap j d' b' hj e' a h haj
  ·rcases(gs a h).2 with z | ⟨k,d'',hk,ek,hak⟩
   ·obtain⟨vs,w⟩:=rel.mem e' haj
    rw[z]at w;cases w
   ·have hjk:j≠k:=λz=>by subst z;exact Qcz r.M ρ j d' b hk e
    exact(rel.own k d'' ek).2.2.2.1 j d' b' hjk e' a hak haj
 have apartH:∀t∈hs,∀a∈F',a∉t.2.2:=λt ht a ha hat=>by
  rcases memF a ha with h | h
  ·exact oh t ht a h hat
  ·rcases(gs a h).2 with z | ⟨k,d'',hk,ek,hak⟩
   ·obtain⟨vs,w⟩:=(rel.held t ht).1.mem a hat
    rw[z]at w;cases w
   ·exact(rel.own k d'' ek).2.2.2.2 t ht a hak hat
 have nqj:∀(j:Nat) d' b,j≠x->ρ[j]? =some (some (d',b))->q∉F j:=λj d' b hj e h=>oap j d' b hj e q e5 h
 have nF':F'.Nodup:=ZR.mpr λa=>by
  have h1:=cF a
  have h2:=ZR.mp on a
  have h3:=ZR.mp gn a
  by_cases h:a∈Gn
  ·rw[ZA.mpr (apn a h)]at h1;omega
  ·rw[ZA.mpr h]at h1;omega
 have lt:∀{j:Nat}{z:Option (D×Bool)}{y:D×Bool},((kill r.M ρ).set j z)[j]? =some (some y)->j<(kill r.M ρ).length:=λ{j z y} e=>by
  by_cases hl:j<(kill r.M ρ).length
  ·exact hl
  ·rw[ZD (by simp;omega)]at e;cases e
 refine⟨λj=>if j=x then F' else F j,by simp[relk.len],λj d' b e=>?_,λj d' e=>?_,λj d' b e a ha=>?_,λt ht=>⟨(relk.held t ht).1.upd e1 λh=>oh t ht q e5 h,(relk.held t ht).2⟩,λb o hb=>?_⟩
 ·by_cases hj:j=x
  ·subst hj
   have hl:=lt e
   rw[Zs hl]at e
   cases e
   exact⟨v0,hv0,by rw[if_pos rfl];exact f1⟩
  ·rw[Zg (Ne.symm hj)]at e
   obtain⟨w,h1,h2⟩:=relk.val j d' b e
   obtain⟨b',e',_⟩:=(Qaj r.M ρ).2 j d' b e
   exact⟨w,h1,by rw[if_neg hj];exact h2.upd e1 (nqj j d' b' hj e')⟩
 ·by_cases hj:j=x
  ·subst hj
   have hl:=lt e
   rw[Zs hl]at e
   cases e
   rw[if_pos rfl]
   refine⟨f2,nF',λa ha=>?_,λk d'' b hk ek a ha=>?_,apartH⟩
   ·rcases memF a ha with h | h
    ·exact o0 a h
    ·exact(gs a h).1
   ·rw[Zg (Ne.symm hk)]at ek
    rw[if_neg hk]
    exact apart k d'' b hk ek a ha
  ·rw[Zg (Ne.symm hj)]at e
   obtain⟨h1,h2,h3,h4,h5⟩:=relk.own j d' e
   rw[if_neg hj]
   refine⟨h1,h2,h3,λk d'' b hk ek a ha=>?_,h5⟩
   by_cases hki:k=x
   ·subst hki
    rw[if_pos rfl]
    exact λhG=>apart j d' true hj e a hG ha
   ·rw[Zg (Ne.symm hki)]at ek
    rw[if_neg hki]
    exact h4 k d'' b hk ek a ha
 ·by_cases hj:j=x
  ·subst hj
   rw[if_pos rfl]at ha
   rcases memF a ha with h | h
   ·exact .inl (o0 a h)
   ·exact .inl (gs a h).1
  ·rw[Zg (Ne.symm hj)]at e
   rw[if_neg hj]at ha
   exact relk.src j d' b e a ha
 ·have hbq:b≠q:=λz=>by rw[z,o0 q e5]at hb;cases hb
  rw[Ql hbq]
  exact relk.same b o hb
end
noncomputable abbrev DP:=En->Option (List Int)
noncomputable def QbW:DP:=λ_=>some []
noncomputable def Qi6(p:DP)(fb:DE):DP:=λρ=>(p ρ).bind λis=>(fb ρ).bind λr=>match r.d with
 | .int i=>some (is++[i])
 | _=>none
noncomputable def tP(K:PySem.W.Frag)(H0:Hp)(A0:List Addr)(x:Nat)(pf:DP):TE:=λσ H Q=>∃ρ hs F d b is dm,Rel K H0 A0 hs ρ F σ H/\ρ[x]? =some (some (d,b))/\pf ρ=some is/\Qbo d is=some dm∧
 ∀v0 v H' Gm,Qj H H'->σ[x]? =some (some v0)->Focus K H' is d v0 (F x) dm v Gm->Q v H'
def SPa(X:Cx)(e:Expr)(x:Nat)(pf:DP):Prop:=∀H0 A0,PE X e (tP X.K H0 A0 x pf)
section
theorem QiN(h:PE X (.Name y pos) (Qgl x)):SPa X (.Name y pos) x QbW:=λH0 A0=>h.mono λσ H Q hpt=>by
 obtain⟨ρ,hs,F,d,b,is,dm,rel,hx,hp,hd,q⟩:=hpt
 cases hp
 cases hd
 obtain⟨v,h1,h2⟩:=rel.val x d b hx
 exact⟨v,h1,q v v H (F x) (Qj.refl _) h1 ⟨rfl,rfl,rfl,h2⟩⟩
theorem Qj9(ha:SPa X a x pf)(hb:SE X b fb)(hs:QcC b):SPa X (.Subscript a b pos) x (Qi6 pf fb):=λH0 A0=>
 (Qi7 (QfE.or Qg8) (ha H0 A0) (hb H0 A0) hs).mono λσ H Q hpt=>by
  obtain⟨ρ,hs,F,d,b',is,dm,rel,hx,hp,hd,q⟩:=hpt
  refine Qb hp λis' e1 hp=>?_
  refine Qb hp λr e2 hp=>?_
  cases hr:r.d with
  | int i=>
   rw[hr]at hp
   cases hp
   obtain⟨dn,ds,g1,g2,g3⟩:=Qda hd
   refine⟨ρ,hs,F,d,b',is',dn,rel,hx,e1,g1,λv0 w H1 Gm s1 hv fo=>⟨ρ,hs,F,r,rel.ext s1,e2,λu H2 G p2=>?_⟩⟩
   have rp:=p2.rp
   rw[hr]at rp
   rw[rp.int_inv]
   have fo2:=fo.same p2.same
   obtain⟨c,vs,v',G',rfl,hc,h3,h4⟩:=Focus.one fo2.rp g2 g3
   have fin:=q v0 v' H2 G' (s1.trans p2.same) hv (fo2.snoc h4)
   rcases hc with⟨_,hc⟩ | ⟨_,hc⟩
   ·exact .inl ⟨c,vs,i,v',rfl,rfl,hc,h3,fin⟩
   ·exact .inr ⟨c,vs,i,v',rfl,rfl,hc,h3,fin⟩
  | _=>rw[hr]at hp;cases hp
noncomputable def Qia(x:Nat)(pf:DP)(fi fa:DE):DS:=λρ=>(fa ρ).bind λr0=>match ρ[x]? with
 | some (some (d,true))=>(pf ρ).bind λis=>(fi ρ).bind λri=>match ri.d,Qbo d is with
  | .int k,some (.lst ds)=>(ixN ds.length k).bind λj=>if r0.norm.fr && decide r0.norm.M.Nodup && !r0.norm.M.contains x then some (.nx ((kill r0.norm.M ρ).set x (some (Qal is d (.lst (ds.set j r0.d)),true))))else
   none
  | _,_=>none
 | _=>none
theorem set_mk(hq:H2 q=some (.lst vsm))(rs:Rps K H2 dsm vsm Gp)(hl:Gp.length=nls dsm)(nq:q∉Gp)(nqn:q∉Gn)(hn:Rp K H2 dn vn Gn)(hnl:Gn.length=dn.nl)(hj:j<dsm.length):
  ∃G',Rps K (upd H2 q (.lst (vsm.set j vn))) (dsm.set j dn) (vsm.set j vn) G'/\G'.length=nls (dsm.set j dn)/\∀a,G'.count a<=Gp.count a+Gn.count a:=by
 obtain⟨F1,G,F2,v,e1,e2,h1,h2,h3⟩:=rs.split (j:=j) (d:=dsm[j]) (by simp[hj])
 subst e1
 have hjv:j<vsm.length:=by rw[← rs.length];exact hj
 have n1:q∉F1:=λh=>nq (Zc _ h)
 have n2:q∉F2:=λh=>nq (Zb _ (Zb _ h))
 refine⟨F1++(Gn++F2),Rps.Qm3 (h1.upd hq n1) (hn.upd hq nqn) (h3.upd hq n2) hj hjv,?_,λa=>?_⟩
 ·have:=QcB (ds:=dsm) (j:=j) (d:=dsm[j]) (e:=dn) (by simp[hj])
  have l1:=h1.QA
  have l2:=h2.QA
  have l3:=h3.QA
  have e1:nls (dsm.take j)+((dsm[j]).nl+nls (dsm.drop (j+1)))=nls dsm:=by
   have e2:=congrArg nls (Zan j dsm)
   rw[Qa7,ZO hj]at e2
   simpa only[nls]using e2
  simp only[Zp]at hl ⊢
  omega
 ·simp only[ZI];omega
theorem Qp.Qi4(p:Qp K ρ F H H1 r v G)(s:Qj H1 H2):Qp K ρ F H H2 r v G:=⟨p.same.trans s,p.rp.same s,p.src,p.cnt,p.own⟩
theorem Qli(hv:SE X e fa)(ho:SPa X a x pf)(hi:SE X i fi)
  (h:∀te to ti,PE X e te->PE X a to->PE X i ti->PS X (.Assign [.Subscript a i pos'] e pos) (QeP te (L2.Qbv to ti Qi1))):S1 X (.Assign [.Subscript a i pos'] e pos) (Qia x pf fi fa):=λH0 A0=>
 (h _ _ _ (hv H0 A0) (ho H0 A0) (hi H0 A0)).mono λE σ H=>exK λρ hs F o rel e q=>by
  refine Qb e λr0 e1 e=>?_
  split at e
  ·rename_i d hx
   refine Qb e λis e2 e=>?_
   refine Qb e λri e3 e=>?_
   split at e
   ·rename_i k ds hk hp
    refine Qb e λj e4 e=>?_
    split at e
    ·rename_i hc
     cases e
     simp only[Zf,decide_eq_true_eq,Zaf]at hc
     obtain⟨⟨c1,c2⟩,c3⟩:=hc
     have c3:x∉r0.norm.M:=λh=>by rw[List.contains_iff_mem.mpr h]at c3;cases c3
     refine⟨ρ,hs,F,r0,rel,e1,λvn H1 Gn p=>⟨ρ,hs,F,d,true,is,.lst ds,rel.ext p.same,hx,e2,hp,λv0 w H2 Gm s2 hv0 fo=>⟨ρ,hs,F,ri,(rel.ext p.same).ext s2,e3,λu H3 Gi pi=>?_⟩⟩⟩
     have p':=(p.norm.Qi4 s2).Qi4 pi.same
     have fo3:=fo.same pi.same
     have rpi:=pi.rp
     rw[hk]at rpi
     rw[rpi.int_inv]
     obtain⟨l,ws,L,rfl,_⟩:=fo3.rp.lst_inv
     obtain⟨ol,on,_,oap,_⟩:=rel.own x d hx
     have hjl:=(Qd0 e4).2.1
     obtain⟨gn,gs⟩:=p'.fresh rel c1 c2
     have rn:=p'.rp
     rw[r0.QaY]at rn
     have hnl:=(p'.cnt c1).2
     rw[r0.QaY]at hnl
     obtain⟨vsm,_,f1,_⟩:=fo3.mut (vs':=[]) (ds':=[]) (G':=[]) on ol
     obtain⟨_,_,_,_,_,_,zl,_⟩:=fo3.rp.lst_inv
     have key:∃F',Rp X.K (upd H3 l (.lst (vsm.set j vn))) (Qal is d (.lst (ds.set j r0.d))) v0 F'/\F'.length=(Qal is d (.lst (ds.set j r0.d))).nl/\l∈F x/\ds.length=vsm.length/\∀a,F'.count a<=(F x).count a+Gn.count a:=by
      have own5:∀G',_:=λG'=>fo3.mut (vs':=vsm.set j vn) (ds':=ds.set j r0.d) (G':=G') on ol
      obtain⟨vs1,Gp,g1,g2,g3,g4,g5,g6,g7,_⟩:=own5 []
      rw[f1]at g1;cases g1
      have hq:l∉Gn:=λh=>by
       rcases(gs l h).2 with z | ⟨k',d',hk',ek,hak⟩
       ·obtain⟨vs,w⟩:=rel.mem hx g5
        rw[z]at w;cases w
       ·exact oap k' d' true (λz=>c3 (z▸hk')) ek l g5 hak
      obtain⟨G',m1,m2,m3⟩:=set_mk f1 g3 g4 g7 hq rn hnl hjl
      obtain⟨vs2,Gp2,k1,k2,k3,k4,k5,k6,k7,k8⟩:=own5 G'
      have eG:Gp2=Gp:=by rw[g2]at k2;exact(List.cons.inj k2).2.symm
      subst eG
      obtain⟨F',h1,h2,h3⟩:=k8 m1 (by rw[ZaI];exact zl) m2
      exact⟨F',h1,h2,g5,g3.length,λa=>by have:=h3 a;have:=m3 a;omega⟩
     obtain⟨F',k1,k2,k3,k4,k5⟩:=key
     refine⟨l,vsm,k,j,rfl,rfl,f1,by rw[← k4];exact e4,?_⟩
     obtain⟨F'',rel'⟩:=rel.mut p' c1 c2 (Qj.refl _) hx c3 hv0 f1 k3 k1 k2 k5
     exact q _ _ F'' rel'
    ·
      cases e
   ·cases e
  ·cases e
end
section
variable {K:PySem.W.Frag}{H0 H H1 H2 H3:Hp}{A0:List Addr}{hs:List (V×D×List Addr)}{ρ:En}{F:Nat->List Addr}{σ:L2.St}
theorem Rel.write(rel:Rel K H0 A0 hs ρ F σ H)(p:Qp K ρ F H H3 r vn Gn)(hf:r.fr=true)(nd:r.M.Nodup)(hx:ρ[x]? =some (some (d,true)))(hxM:x∉r.M)(hv0:σ[x]? =some (some v0))
  {is:List Int}{ds:List D}{Gm:List Addr}(fo:Focus K H3 is d v0 (F x) (.lst ds) w Gm):
  ∃l vsm Gp,w= .ref l/\H3 l=some (.lst vsm)/\Rps K H3 ds vsm Gp/\Gp.length=nls ds/\l∉Gp/\l∉Gn/\ds.length<=sizeLine∧
   ∀ds' vs' G',Rps K (upd H3 l (.lst vs')) ds' vs' G'->ds'.length<=sizeLine->G'.length=nls ds'->(∀a,G'.count a<=Gp.count a+Gn.count a)→
    ∃F',Rel K H0 A0 hs ((kill r.M ρ).set x (some (Qal is d (.lst ds'),true))) F' σ (upd H3 l (.lst vs')):=by
 obtain⟨l,ws,L,rfl,_,_,zl,_⟩:=fo.rp.lst_inv
 obtain⟨ol,on,_,oap,_⟩:=rel.own x d hx
 obtain⟨gn,gs⟩:=p.fresh rel hf nd
 obtain⟨vsm,Gp,g1,g2,g3,g4,g5,g6,g7,_⟩:=fo.mut (vs':=[]) (ds':=[]) (G':=[]) on ol
 have hq:l∉Gn:=λh=>by
  rcases(gs l h).2 with z | ⟨k',d',hk',ek,hak⟩
  ·obtain⟨vs,w⟩:=rel.mem hx g5
   rw[z]at w;cases w
  ·exact oap k' d' true (λz=>hxM (z▸hk')) ek l g5 hak
 refine⟨l,vsm,Gp,rfl,g1,g3,g4,g7,hq,zl,λds' vs' G' m1 m2 m3 m4=>?_⟩
 obtain⟨vs2,Gp2,k1,k2,k3,k4,k5,k6,k7,k8⟩:=fo.mut (vs':=vs') (ds':=ds') (G':=G') on ol
 have eG:Gp2=Gp:=by rw[g2]at k2;exact(List.cons.inj k2).2.symm
 subst eG
 obtain⟨F',h1,h2,h3⟩:=k8 m1 m2 m3
 exact rel.mut p hf nd (Qj.refl _) hx hxM hv0 g1 g5 h1 h2 λa=>by have:=h3 a;have:=m4 a;omega
end
section
variable {X:Cx}{a b e:Expr}{fa fb:DE}{pf:DP}{x:Nat}{pos apos:Pos}
noncomputable def QeA(r:R)(x:Nat):Bool:=r.norm.fr && decide r.norm.M.Nodup && !r.norm.M.contains x
theorem QhY(h:QeA r x=true):r.norm.fr=true/\r.norm.M.Nodup/\x∉r.norm.M:=by
 unfold QeA at h
 simp only[Zf,decide_eq_true_eq,Zaf]at h
 exact⟨h.1.1,h.1.2,λz=>by rw[List.contains_iff_mem.mpr z]at h;cases h.2⟩
noncomputable def Qbj(x:Nat)(pf:DP)(fa:DE):DS:=λρ=>match ρ[x]? with
 | some (some (d,true))=>(pf ρ).bind λis=>(fa ρ).bind λr0=>match Qbo d is with
  | some (.lst ds)=>if QeA r0 x && decide (ds.length<sizeLine)then some (.nx ((kill r0.norm.M ρ).set x (some (Qal is d (.lst (ds++[r0.d])),true))))else none
  | _=>none
 | _=>none
theorem QiL{H0:Hp}{A0:List Addr}{E:Ends}{σ:L2.St}{H:Hp}:tS X.K H0 A0 (Qbj x pf fa) E σ H->Qgv (tBM X.K "list" QfG (tP X.K H0 A0 x pf) (Qgb (tV X.K H0 A0 fa) Qgy)) E σ H:=exK λρ hs F o rel e q=>by
 unfold Qbj at e
 split at e
 ·rename_i d hx
  refine Qb e λis e2 e=>?_
  refine Qb e λr0 e1 e=>?_
  split at e
  ·rename_i ds hp
   split at e
   ·rename_i hc
    simp only[Zf,decide_eq_true_eq]at hc
    obtain⟨c1,c2,c3⟩:=QhY hc.1
    cases e
    refine⟨ρ,hs,F,d,true,is,.lst ds,rel,hx,e2,hp,λv0 w H2 Gm s2 hv0 fo=>?_⟩
    have ty:tyV X.K "list" w H2:=by
     obtain⟨l,ws,L,rfl,hl,_⟩:=fo.rp.lst_inv
     exact .inl ⟨rfl,ws,Qu hl⟩
    refine⟨ty,ρ,hs,F,r0,rel.ext s2,e1,λvn H3 Gn p=>?_⟩
    have p':=p.norm
    obtain⟨l,vsm,Gp,rfl,g1,g2,g3,g4,g5,g6,g7⟩:=(rel.ext s2).write p' c1 c2 hx c3 hv0 (fo.same p.same)
    refine⟨l,vsm,vn,rfl,rfl,g1,by rw[← g2.length];exact hc.2,?_⟩
    have rn:=p'.rp
    rw[r0.QaY]at rn
    have hnl:=(p'.cnt c1).2
    rw[r0.QaY]at hnl
    have rw1:Rps X.K (upd H3 l (.lst (vsm++[vn]))) [r0.d] [vn] Gn:=by
     simp only[Rps]
     exact⟨vn,[],Gn,[],rfl,by simp,rn.upd g1 g5,rfl,rfl⟩
    obtain⟨F',rel'⟩:=g7 (ds++[r0.d]) (vsm++[vn]) (Gp++Gn) ((g2.upd g1 g4).append rw1) (by rw[Zp,Zam];omega) (by rw[Zp,Qa7,g3,hnl];simp[nls]) (λa=>by rw[ZI];omega)
    exact q _ _ F' rel'
   ·cases e
  ·cases e
 ·cases e
end
end HS
namespace HS
open PySem PySem.Spec L2 PyProof.Rows
theorem Rps.ints{K:PySem.W.Frag}{H:Hp}:∀{ns:List Int}{vs:List V}{F:List Addr},Rps K H (ns.map .int) vs F->vs=ns.map .int
 | [],_,_,h=>by simp only[Zah,Rps]at h;rw[h.1];rfl
 | n::ns,_,_,h=>by
  simp only[Zl,Rps]at h
  obtain⟨v,ws,F1,F2,rfl,rfl,r,q⟩:=h
  rw[r.int_inv,Rps.ints q];rfl
theorem Qcy(h:Qe (ns.map V.int) us):IntsAre us ns:=intsAre_of h
noncomputable def QdP:List D->Option (List Bool)
 | []=>some []
 | d::ds=>(match d with | .bl b=>some b | _=>none).bind λi=>(QdP ds).map λr=>i::r
theorem Qe2:∀{ds:List D}{ns:List Bool},QdP ds=some ns->ds=ns.map .bl
 | [],_,h=>by cases h;rfl
 | d::ds,ns,h=>by
  unfold QdP at h
  refine Qb h λi h1 h=>?_
  obtain⟨r,h2,rfl⟩:=Zd.mp h
  cases d with
  | bl j=>cases h1;rw[Qe2 h2];rfl
  | _=>cases h1
theorem Rps.bls{K:PySem.W.Frag}{H:Hp}:∀{ns:List Bool}{vs:List V}{F:List Addr},Rps K H (ns.map .bl) vs F->vs=ns.map .bl
 | [],_,_,h=>by simp only[Zah,Rps]at h;rw[h.1];rfl
 | n::ns,_,_,h=>by
  simp only[Zl,Rps]at h
  obtain⟨v,ws,F1,F2,rfl,rfl,r,q⟩:=h
  rw[Rps.bls q]
  simp only[Rp]at r
  rw[r.1];rfl
theorem Qfv:∀{ns:List Bool}{us:List Value},Qe (ns.map V.bl) us->LSm.BoolsAre us ns
 | [],_,.nil=> .nil
 | n::ns,_,.cons r h=>by cases r;exact .cons n (Qfv h)
section
variable {X:Cx}{a b e:Expr}{es:List Expr}{fa fb:DE}{fs:DA}{pos p2:Pos}
theorem Qhk(hc:X.calm=true):QM X (.builtin "any") (λxs H Q=>∃(p:Addr) (ns:List Bool),xs=[.ref p]/\SqL X.K H p (ns.map V.bl)/\Q (.bl (ns.any id)) H):=by
 intro pins s σ H xs us Q I r h
 obtain⟨p,ns,rfl,hq,q⟩:=h
 obtain⟨u,rfl,rx⟩:=vals1 r
 cases rx
 obtain⟨its,r',pl,hz⟩:=I.list hq
 have hb:=Qfv r'
 have hl:=pl.isList
 have hlt:p<s.heap.objs.size:=by obtain⟨_,e,_⟩:=hl;exact Zq e
 refine call_any_walk (wpAny_pyIter_list hl ?_)
 refine⟨s.heap.objs.size,[s.heap.objs.size,p],[s.heap.objs.size],its.toArray.size,_,_,λi=>(ns[i]?).getD false,rfl,Walks.list (A:=X.A.in1) (I.ok.hd hc) _ p (ZE hlt) its.toArray,
  ⟨⟨_,Zw _ rfl,rfl,rfl⟩,hl.push _⟩,λi v s' Q' E' hP hQ=>?_,λh' tk hk=>?_⟩
 ·obtain⟨b,e,rfl⟩:=hb.get i v (by simpa using hP)
  simp only[e,Option.getD_some]at hQ
  exact wpAny_truthy_bool hQ
 ·have e:((List.range its.toArray.size).any λi=>(ns[i]?).getD false)=ns.any id:=by
   rw[Zo,hb.length];exact LSm.range_any ns
  rw[e]
  exact⟨.bl (ns.any id),H,I.kept (LSm.kept_iter hk),rfl,q⟩
noncomputable def QcI:List D->Option D
 | [.lst xs]=>(QdP xs).map λns=> .bl (ns.any id)
 | _=>none
theorem QjC{K:PySem.W.Frag}:QbB K QcI (λxs H Q=>∃(p:Addr) (ns:List Bool),xs=[.ref p]/\SqL K H p (ns.map V.bl)/\Q (.bl (ns.any id)) H):=λds d e=>by
 unfold QcI at e
 split at e
 ·obtain⟨ns,h1,rfl⟩:=Zd.mp e
  refine⟨rfl,λH vs F Q r q=>?_⟩
  obtain⟨v,rfl,rp⟩:=r.one
  obtain⟨l,ws,L,rfl,hl,rl,zl,el⟩:=rp.lst_inv
  rw[Qe2 h1]at rl
  rw[rl.bls]at hl
  exact⟨l,ns,rfl,Qu hl,q _ λ_=> .Qae⟩
 ·cases e
noncomputable def QgB:List D->Option D
 | [.int i]=>some (.int i)
 | [.bl k]=>some (.int (if k then 1 else 0))
 | [.str z]=>if z.length<=640 then(PySem.intText? z).map .int else none
 | _=>none
noncomputable def Qlc:List V->Hp->VK->Prop:=λxs H Q=>(∃i,xs=[.int i]/\Q (.int i) H)∨(∃k,xs=[.bl k]/\Q (.int (if k then 1 else 0)) H)
 ∨∃z n,xs=[.str z]/\PySem.intText? z=some n/\z.length<=640/\Q (.int n) H
theorem QhN{X:Cx}:QM X (.type "int") Qlc:=by
 refine λpins s σ H xs us Q I rs q=>?_
 rcases q with q | q | q
 ·exact Qei pins s σ H xs us Q I rs (.inl q)
 ·exact Qei pins s σ H xs us Q I rs (.inr q)
 ·exact Qfn pins s σ H xs us Q I rs q
theorem QkK{K:PySem.W.Frag}:QbB K QgB Qlc:=λds d e=>by
 unfold QgB at e
 split at e
 ·cases e
  refine⟨rfl,λH vs F Q r q=>?_⟩
  obtain⟨v,rfl,rp⟩:=r.one
  exact .inl ⟨_,by rw[rp.int_inv],q _ λ_=> .int_mk⟩
 ·cases e
  refine⟨rfl,λH vs F Q r q=>?_⟩
  obtain⟨v,rfl,rp⟩:=r.one
  exact .inr (.inl ⟨_,by rw[rp.Qby],q _ λ_=> .int_mk⟩)
 ·split at e
  ·rename_i hz
   obtain⟨n,hn,rfl⟩:=Zd.mp e
   refine⟨rfl,λH vs F Q r q=>?_⟩
   obtain⟨v,rfl,rp⟩:=r.one
   exact .inr (.inr ⟨_,n,by rw[rp.str_inv],hn,hz,q _ λ_=> .int_mk⟩)
  ·cases e
 ·cases e
noncomputable def QdT:List D->Option D
 | [.int i]=>if i.natAbs.log2<1920 then some (.str (toString i))else none
 | _=>none
theorem Ql8{K:PySem.W.Frag}:QbB K QdT (λxs H Q=>∃i,xs=[.int i]/\i.natAbs.log2<1920/\Q (.str (toString i)) H):=λds d e=>by
 unfold QdT at e
 split at e
 ·split at e
  ·rename_i hz
   cases e
   refine⟨rfl,λH vs F Q r q=>?_⟩
   obtain⟨v,rfl,rp⟩:=r.one
   exact⟨_,by rw[rp.int_inv],hz,q _ λ_=> .str_mk⟩
  ·cases e
 ·cases e
theorem QhE(hc:QM X (.type T) r)(hk:QbB X.K g r)(hg:Gl X x)(hm:X.mg x=none)(hv:bootBuiltins x=some (.type T))(ha:SA X (e::es) fs)(hn:x≠ "__name__")(hdb:(x == ("__debug__" :Str))=false)
  (he:starEach (e::es) X.env=(false,eval e X.env)::starEach es X.env) (hpl:(backTo pos (starEach es X.env)).any (·.1)=false):SE X (.Call (.Name x p) (e::es) [] pos) (dBf g fs):=λH0 A0=>
 (Qef hc hg hm hv (ha H0 A0) hn hdb he hpl).mono λσ H Q=>exK λρ hs F r' rel e q=>by
  refine Qb e λra e1 e=>?_
  obtain⟨d,ed,e⟩:=Zd.mp e
  subst e
  exact⟨ρ,hs,F,ra,rel,e1,λvs H1 G p1=>(hk _ _ ed).2 H1 vs G Q p1.rp λv hv=>q v H1 [] (.flat p1.same (hv _) (hk _ _ ed).1)⟩
end
end HS
namespace HS
open PySem PySem.Spec L2 PyProof.Rows
section
variable {X:Cx}{a b c e tg:Expr}{es:List Expr}{fa fb fc:DE}{fs:DA}{pos p2:Pos}
theorem QjR:MtR X "int.bit_length" (λx vs H Q=>∃i,x= .int i/\vs=[]/\Q (.int (Builtin.Int.intBits i)) H):=by
 intro pins s σ H x vs v us Q I rx rv h
 obtain⟨i,rfl,rfl,q⟩:=h
 obtain⟨t,rfl⟩:=rx
 have hus:=rv.zero
 subst hus
 exact call_int_bit_length ⟨.int _,H,I.tok _,⟨_,rfl⟩,q⟩
noncomputable def QgA(fa:DE):DE:=λρ=>(fa ρ).bind λr=>match r.d with
 | .int i=>some ⟨.int (Builtin.Int.intBits i),true,[]⟩
 | _=>none
theorem Qkc(ha:SE X a fa)(hb:attributeBase a "bit_length" X.env (eval a X.env)=eval a X.env)(hl:(apos.endLine == cpos.line)=true):SE X (.Call (.Attribute a "bit_length" apos) [] [] cpos) (QgA fa):=λH0 A0=>
 (QlU PySem.F.plainAttrs_int PySem.F.slot_int_bit_length PySem.F.type_int_bit_length QjR (ha H0 A0) hb hl).mono λσ H Q=>exK λρ hs F r' rel e q=>by
  refine Qb e λra e1 e=>?_
  refine⟨ρ,hs,F,ra,rel,e1,λv H1 G p1=>?_⟩
  cases hd:ra.d with
  | int i=>
   rw[hd]at e
   cases e
   have rp:=p1.rp
   rw[hd]at rp
   rw[rp.int_inv]
   exact⟨rfl,i,rfl,rfl,q _ _ [] (.flat p1.same .int_mk)⟩
  | _=>rw[hd]at e;cases e
end
end HS
namespace HS
open PySem PySem.Spec L2 PyProof.Rows
noncomputable def QbU:List D->Option (List Str)
 | []=>some []
 | d::ds=>match d with
  | .str x=>(QbU ds).map λr=>x::r
  | _=>none
theorem Qd8:∀{ds:List D}{ts:List Str},QbU ds=some ts->ds=ts.map .str
 | [],_,h=>by cases h;rfl
 | d::ds,ts,h=>by
  unfold QbU at h
  split at h
  ·obtain⟨r,h2,rfl⟩:=Zd.mp h
   rw[Qd8 h2];rfl
  ·cases h
theorem Rps.strs{K:PySem.W.Frag}{H:Hp}:∀{ts:List Str}{vs:List V}{F:List Addr},Rps K H (ts.map .str) vs F->vs=ts.map .str
 | [],_,_,h=>by simp only[Zah,Rps]at h;rw[h.1];rfl
 | n::ns,_,_,h=>by
  simp only[Zl,Rps]at h
  obtain⟨v,ws,F1,F2,rfl,rfl,r,q⟩:=h
  rw[r.str_inv,Rps.strs q];rfl
theorem Rps.ofStrs{K:PySem.W.Frag}{H:Hp}:∀ts:List Str,Rps K H (ts.map .str) (ts.map .str) []
 | []=>by simp[Rps]
 | n::ns=>by simp only[Zl,Rps];exact⟨_,_,[],[],rfl,rfl,.str_mk,Rps.ofStrs ns⟩
theorem QhM:∀ts:List Str,Qq (ts.map .str)=true
 | []=>rfl
 | n::ns=>by simp[Qq,D.flat,QhM ns]
noncomputable def gSw(a b:D):Option D:=match a with
 | .str z=>match b with
  | .str y=>some (.bl (Txt.startswith z y))
  | _=>none
 | _=>none
noncomputable def Qc4(a b:D):Option D:=match a with
 | .str z=>match b with
  | .lst xs=>(QbU xs).bind λts=>if JoinOk z ts=true then some (.str (Txt.join z ts))else none
  | _=>none
 | _=>none
noncomputable def QgM(a b:D):Option D:=match a with
 | .str z=>match b with
  | .str y=>if((y.length == 0)=false/\z.length<=16000000)/\(Txt.split z y).length<=16000000 then some (.lst ((Txt.split z y).map .str))else none
  | _=>none
 | _=>none
noncomputable def dM1(g:D->D->Option D)(fa:DE)(fs:DA):DE:=λρ=>(fa ρ).bind λra=>(fs ρ).bind λr=>match r.ds with
 | [b]=>(g ra.d b).map λd=>⟨d,true,[]⟩
 | _=>none
section
variable {X:Cx}{o b:Expr}{fa:DE}{fs:DA}{apos cpos:Pos}
theorem Qj5{K:PySem.W.Frag}{H:Hp}{z:Str}:tyV K "str" (.str z) H:=rfl
theorem Qgj{m:Str}{id:String}{g:D->D->Option D}{r:V->List V->Hp->VK->Prop}(slot:PySem.Slot "str" m id)(hty:typeOf (.builtin id)=pure (.type "method_descriptor"))(hm:MtR X id r)
  (hg:∀a b d,g a b=some d->∃z,a= .str z/\∀(H0 H:Hp) (ρ:En) (F:Nat->List Addr) (y:V) (G:List Addr) (Q:VK),Qj H0 H->Rp X.K H b y G->(∀v H' G',Qp X.K ρ F H0 H' ⟨d,true,[]⟩ v G'->Q v H')->r (.str z) [y] H Q)
  (ho:SE X o fa) (ha:SA X [b] fs) (hb:attributeBase o m X.env (eval o X.env)=eval o X.env) (hl:(apos.endLine == cpos.line)=true) (hs:starEach [b] X.env=[(false,eval b X.env)]):
  SE X (.Call (.Attribute o m apos) [b] [] cpos) (dM1 g fa fs):=λH0 A0=>
 (Qja PySem.F.plainAttrs_str slot hty hm (ho H0 A0) (ha H0 A0) hb (by rw[hs];rfl) hl hs (by rfl)).mono λσ H Q=>exK λρ hs F r' rel e q=>by
  refine Qb e λra e1 e=>?_
  refine Qb e λrb e2 e=>?_
  refine⟨ρ,hs,F,ra,rel,e1,λx H1 G1 p1=>?_⟩
  split at e
  ·rename_i b' hds
   obtain⟨d,ed,e⟩:=Zd.mp e
   subst e
   obtain⟨z,ez,k⟩:=hg _ _ _ ed
   have rp:=p1.rp
   rw[ez]at rp
   rw[rp.str_inv]
   refine⟨Qj5,ρ,hs,F,rb,rel.ext p1.same,e2,λxs H2 G2 p2=>?_⟩
   have rp2:=p2.rp
   rw[hds]at rp2
   obtain⟨y,rfl,ry⟩:=rp2.one
   exact k H H2 ρ F y G2 Q (p1.same.trans p2.same) ry q
  ·cases e
theorem Qm6(ho:SE X o fa)(ha:SA X [b] fs)(hb:attributeBase o "startswith" X.env (eval o X.env)=eval o X.env)(hl:(apos.endLine == cpos.line)=true)(hs:starEach [b] X.env=[(false,eval b X.env)]):
  SE X (.Call (.Attribute o "startswith" apos) [b] [] cpos) (dM1 gSw fa fs):=
 Qgj PySem.F.slot_str_startswith PySem.F.type_str_startswith QhG (λa b d e=>by
  unfold gSw at e
  split at e
  ·split at e
   ·cases e
    exact⟨_,rfl,λH0 H ρ F y G Q s r q=>⟨_,_,rfl,by rw[r.str_inv],q _ _ [] (.flat s .Qae)⟩⟩
   ·cases e
  ·cases e) ho ha hb hl hs
theorem QjB(ho:SE X o fa)(ha:SA X [b] fs)(hb:attributeBase o "join" X.env (eval o X.env)=eval o X.env)(hl:(apos.endLine == cpos.line)=true)(hs:starEach [b] X.env=[(false,eval b X.env)]):
  SE X (.Call (.Attribute o "join" apos) [b] [] cpos) (dM1 Qc4 fa fs):=
 Qgj PySem.F.slot_str_join PySem.F.type_str_join QjL (λa b d e=>by
  unfold Qc4 at e
  split at e
  ·split at e
   ·refine Qb e λts e1 e=>?_
    split at e
    ·rename_i hj
     cases e
     refine⟨_,rfl,λH0 H ρ F y G Q s r q=>?_⟩
     obtain⟨l,ws,L,rfl,hl',rl,zl,el⟩:=r.lst_inv
     rw[Qd8 e1]at rl
     rw[rl.strs]at hl'
     exact⟨_,l,ts,rfl,rfl,Qu hl',hj,q _ _ [] (.flat s .str_mk)⟩
    ·cases e
   ·cases e
  ·cases e) ho ha hb hl hs
theorem QlC(ho:SE X o fa)(ha:SA X [b] fs)(hb:attributeBase o "split" X.env (eval o X.env)=eval o X.env)(hl:(apos.endLine == cpos.line)=true)(hs:starEach [b] X.env=[(false,eval b X.env)]):
  SE X (.Call (.Attribute o "split" apos) [b] [] cpos) (dM1 QgM fa fs):=
 Qgj PySem.F.slot_str_split PySem.F.type_str_split Qg6 (λa b d e=>by
  unfold QgM at e
  split at e
  ·split at e
   ·split at e
    ·rename_i hc
     cases e
     refine⟨_,rfl,λH0 H ρ F y G Q s r q=>⟨_,_,rfl,by rw[r.str_inv],hc.1.1,by have:=hc.1.2;rw[QaT];omega,λc hcn=>?_⟩⟩
     have:=Qp.Qab (ρ:=ρ) (F:=F) s hcn (Rps.ofStrs (K:=X.K) (Txt.split _ _)) (by rw[Zv,QaT];exact Zr hc.2 (by decide)) Src.nil QK.nil
     unfold Qab at this
     rw[if_pos (QhM _)]at this
     exact q _ _ _ this
    ·cases e
   ·cases e
  ·cases e) ho ha hb hl hs
end
end HS
namespace HS
open PySem PySem.Spec L2 PyProof.Rows
section
variable {X:Cx}{e:Expr}{es:List Expr}{fs:DA}{pos:Pos}
theorem QjZ{p:Pos}(hcl:X.calm=true)(hg:Gl X "list")(hm:X.mg "list" =none)(ha:SA X (e::es) fs)(he:starEach (e::es) X.env=(false,eval e X.env)::starEach es X.env)(hpl:(backTo pos (starEach es X.env)).any (·.1)=false):
    SE X (.Call (.Name "list" p) (e::es) [] pos) (dList fs):=λH0 A0=>
 (Qef QeQ hg hm ZaG (ha H0 A0) (by decide) (by decide) he hpl).mono λσ H Q=>exK λρ hs F r' rel e q=>by
    refine Qb e λra e1 e=>?_
    refine⟨ρ,hs,F,ra,rel,e1,λvs H1 G p1=>?_⟩
    have rp:=p1.rp
    have src:=p1.src
    split at e
    · rename_i xs hds
      cases e
      rw[hds]at rp
      obtain⟨v,rfl,rq⟩:=rp.one
      obtain⟨l,ws,L,rfl,hl,rl,zl,el⟩:=rq.lst_inv
      refine⟨l,ws,rfl,.inl (Qu hl),λc hc=>q _ _ (c::L) (Qp.Qab p1.same hc rl zl (λz hz=>src z ?_) p1.own)⟩
      rcases el with rfl | rfl
      · exact Za _ hz
      · exact hz
    · rename_i xs hds
      split at e
      · rename_i hz
        cases e
        rw[hds]at rp
        obtain⟨v,rfl,rq⟩:=rp.one
        obtain⟨l,ws,rfl,hl,rl⟩:=rq.QQ
        exact⟨l,ws,rfl,.inr hl,λc hc=>q _ _ (c::G) (Qp.Qab p1.same hc rl hz src p1.own)⟩
      · cases e
    · cases e
end
end HS
namespace HS
open PySem L2
def Inc(xs:Array Nat):Prop:=xs.toList.Pairwise (· < ·)
theorem Inc.get{xs:Array Nat}(h:Inc xs){i j a b:Nat}(hi:xs[i]? =some a)(hj:xs[j]? =some b)(hij:i<j):a<b:=by
 rw[← Array.getElem?_toList]at hi hj
 obtain⟨i1,rfl⟩:=Ze.mp hi
 obtain⟨j1,rfl⟩:=Ze.mp hj
 exact List.pairwise_iff_getElem.mp h i j i1 j1 hij
structure Cut (xs:Array Nat) (j r:Nat):Prop where
 le:r<=xs.size
 lo:∀i a,i<r->xs[i]? =some a->a<j
 hi:∀i a,r<=i->xs[i]? =some a->j<=a
structure TbI (t:SetTable):Prop where
 inc:Inc t.place
 dum:t.dummies= #[]
end HS
namespace HS
open PySem
section
variable {t:SetTable}
end
section
variable {mask:Nat}{owner:Array (Option Nat)}
structure Own (mask:Nat) (owner:Array (Option Nat)) (k:Nat):Prop where
 size:owner.size=mask+1
 perm:(owner.toList.filterMap id).Perm (List.range k)
end
end HS
namespace HS
open PySem L2 PyProof.Rows
section
variable {prog:Program}{w:World}{A:Around}{E:Value->Shared->Prop}{s:Shared}
structure Qmh (prog:Program) (w:World) (L:Bool) (ob:Obj) (ar:Array (Int×Value)) (tb:SetTable) (S:Int->Bool) (n:Nat):Prop where
 ex:ob.ExactSet
 el:ElemsOf (intKind prog w) ar.toList
 mem:∀k,S k=true↔∃e∈ar.toList,(intKind prog w).is k e.2=true
 lt:ar.size<scanBound
 fit:tb.fits ar.size=true
 num:ar.size=n
 ti:TbI tb
 led:tb.led=L
def Sz(tb:SetTable)(n:Nat):Prop:=tb.plain=true/\(tb.mask=7/\n<=4∨tb.mask=31/\n<=18)
def QdR(prog:Program)(w:World)(L:Bool)(h:Heap)(a:Addr)(S:Int->Bool)(n:Nat):Prop:=∃ob ar en tb,h.get? a=some ob/\ob.data= .set ar en tb/\Qmh prog w L ob ar tb S n/\Sz tb n
theorem QdR.Qci{L:Bool}{h h':Heap}{a:Addr}{S:Int->Bool}{n:Nat}(r:QdR prog w L h a S n)(k:∀o,h.get? a=some o->h'.get? a=some o):QdR prog w L h' a S n:=by
 obtain⟨ob,ar,en,tb,h1,h2⟩:=r
 exact⟨ob,ar,en,tb,k _ h1,h2⟩
theorem QdR.cast{L:Bool}{h:Heap}{a:Addr}{S S':Int->Bool}{n n':Nat}(r:QdR prog w L h a S n)(e:∀k,S k=S' k)(en:n=n'):QdR prog w L h a S' n':=by
 have:S=S':=funext e
 subst this;subst en;exact r
end
end HS
namespace HS
open PySem L2 PyProof.Rows
section
variable {prog:Program}{w:World}{A:Around}{R:Result->Shared->Prop}{I:Addr}{fp wr:List Addr}{G:Array GenState->Array GenState->Prop}{n:Nat}{P:Nat->Value->Prop}{St:Nat->Shared->Prop}
end
end HS
namespace HS
open PySem L2 PyProof.Rows
section
variable {prog:Program}{w:World}{A:Around}{E:Value->Shared->Prop}{s:Shared}
noncomputable abbrev QnO(w:World):Bool:= !w.params.followText "set-order"
noncomputable abbrev Qlx(w:World):Obj:={cls:= .type "set",dict:=none,data:= .set #[] 0 (.fresh 0 0 (QnO w))}
end
end HS
namespace HS
open PySem L2 PyProof.Rows
section
variable {prog:Program}{w:World}
structure QnX (prog:Program) (w:World) (a:Addr) (ob:Obj) (ep:Nat) (wk:Array (Int×Value)) (sl:Nat->Nat):Prop where
 zero:sl 0=0
 next:∀(A:Around) (E:Value->Shared->Prop) (s:Shared) (Q:Option (Value×Nat)->Shared->Prop) (i:Nat) (e:Int×Value),s.heap.get? a=some ob->wk[i]? =some e->Q (some (e.2,sl (i+1))) s->wpAny (model prog w) A (setNext a (sl i) i ep) Q E s
 stop:∀(A:Around) (E:Value->Shared->Prop) (s:Shared) (Q:Option (Value×Nat)->Shared->Prop),s.heap.get? a=some ob->Q none s->wpAny (model prog w) A (setNext a (sl wk.size) wk.size ep) Q E s
end
end HS
namespace HS
open PySem L2 PyProof.Rows
section
variable {prog:Program}{w:World}{A:Around}{E:Value->Shared->Prop}{s:Shared}
end
end HS
namespace HS
open PySem L2 PyProof.Rows
section
variable {prog:Program}{w:World}{A:Around}{E:Value->Shared->Prop}{s:Shared}
end
end HS
namespace HS
open PySem L2 PyProof.Rows
section
variable {prog:Program}{w:World}{A:Around}{E:Value->Shared->Prop}{s:Shared}
end
end HS
namespace HS
open PySem PySem.Spec L2 PyProof.Rows
section
variable {X:Cx}{a:Expr}{fa:DE}{pos:Pos}
end
end HS
namespace HS
open PySem PySem.Spec PyProof.Rows L2
section
variable {X:Cx}{a b c:Expr}{fa fb fc:DE}{pos:Pos}
end
end HS
namespace HS
open PySem PySem.Spec L2
noncomputable abbrev Cn:=Int ⊕ Str
noncomputable def cnD:Cn->D
 | .inl i=> .int i
 | .inr x=> .str x
noncomputable def cnV:Cn->Tok->Value
 | .inl i,t=> .int i t
 | .inr x,t=> .str x t
structure FnR where
 n:Nat
 dfl:List D
 den:Den
structure Th where
 N:List Str
 sc:List (Str×NameKind)
 Γ:List (Str×FnR)
 cs:List (Str×Cn)
 tr:Stmt->Option DS:=λ_=>none
noncomputable def posOf(x:Str):List Str->Option Nat
 | []=>none
 | y::ys=>if x=y then some 0 else(posOf x ys).map (· +1)
theorem Qbs:∀{x:Str}{ys:List Str}{i:Nat},posOf x ys=some i->ys[i]? =some x
 | x,[],i,h=>by cases h
 | x,y::ys,i,h=>by
  unfold posOf at h
  split at h
  ·rename_i e;cases h;subst e;rfl
  ·obtain⟨j,hj,rfl⟩:=Zd.mp h
   simpa using Qbs hj
noncomputable def look{α:Type}(x:Str):List (Str×α)->Option α
 | []=>none
 | (y,a)::r=>if x=y then some a else look x r
theorem QN{α:Type}:∀{x:Str}{l:List (Str×α)},look x l=l.lookup x
 | x,[]=>rfl
 | x,(y,a)::r=>by
  unfold look
  rw[Zk]
  by_cases h:x=y
  ·subst h;simp
  ·rw[if_neg h,QN]
   have:(x == y)=false:=by simpa using h
   rw[this]
noncomputable def Qji:NameKind->Bool
 | .local =>true | .cell=>true | .free=>true | _=>false
noncomputable def Qi3:NameKind->Bool
 | .local =>true | .cell=>true | _=>false
noncomputable def Qnh:NameKind->Bool
 | .globalImplicit=>true | _=>false
noncomputable def isFree:NameKind->Bool
 | .free=>true | _=>false
noncomputable def odd(x:Str):Bool:=decide (x= "__debug__") || decide (x= "__classdict__") || decide (x= "__name__")
noncomputable def Th.slot(Θ:Th)(x:Str):Option Nat:=if((look x Θ.sc).map Qji).getD false && !odd x then posOf x Θ.N else none
noncomputable def Th.Qa6(Θ:Th)(x:Str):Option Nat:=if((look x Θ.sc).map Qi3).getD false && !odd x then posOf x Θ.N else none
noncomputable def Th.gl(Θ:Th)(x:Str):Bool:=((look x Θ.sc).map Qnh).getD false && !odd x
def QjX(X:Cx)(x:Str)(r:FnR):Prop:=∃k f fd ps,Q1 X.prog X.w X.K X.mg X.base CX0 k f fd ps (spV X.K r.n r.den)/\Qx k X.A/\X.mg x=some (.ref f)/\PySem.W.keepIn X.K (.ref f)=true∧
 ∀m,m<=r.dfl.length->∃ds dvs,Binds X.K fd ps ds/\Qe dvs ds/\∀H,Rps X.K H (r.dfl.drop (r.dfl.length-m)) dvs []
noncomputable def QeZ:List Str:=["range","enumerate","zip","len","list","min","max","sum","abs","isinstance","int","bool","tuple","str","divmod","sorted","any","all","set"]
structure CtxB (X:Cx) (Θ:Th):Prop where
 N:X.N=Θ.N
 nd:Θ.N.Nodup
 lc:∀x,look x Θ.sc=some .local ->X.env.scope.names.lookup x=some .local
 ce:∀x,look x Θ.sc=some .cell->X.env.scope.names.lookup x=some .cell/\X.fn x=true
 fe:∀x,look x Θ.sc=some .free->X.env.scope.names.lookup x=some .cell∨X.env.scope.names.lookup x=some .free
 gl:∀x,look x Θ.sc=some .globalImplicit->X.env.scope.names.lookup x=some .globalImplicit
 units:X.A.units+64<cLine
 mg:∀x∈QeZ,X.mg x=none
 cs:∀x i,look x Θ.cs=some i->∃t,X.mg x=some (cnV i t)
structure Qt (X:Cx) (Θ:Th):Prop extends CtxB X Θ where
 calm:X.calm=true
 pass:PassesOwn (model X.prog X.w) X.A X.env X.xe
 fns:∀x r,look x Θ.Γ=some r->QjX X x r
 tr:∀st f,Θ.tr st=some f->S1 X st f
section
theorem Qf3(h:odd x=false):(x == ("__debug__" :Str))=false/\(x == ("__classdict__" :Str))=false/\x≠ "__name__" :=by
 unfold odd at h
 simp only[Bool.or_eq_false_iff,decide_eq_false_iff_not]at h
 exact⟨by simpa using h.1.1,by simpa using h.1.2,h.2⟩
theorem QfZ(ok:CtxB X Θ)(h:Θ.slot x=some i):PE X (.Name x pos) (Qgl i):=by
 unfold Th.slot at h
 split at h
 ·rename_i hc
  simp only[Zf,Zaf]at hc
  obtain⟨h1,h2,_⟩:=Qf3 hc.2
  refine QkN (by rw[ok.N];exact Qbs h) ?_ h1 h2
  cases q:look x Θ.sc with
  | none=>rw[q]at hc;cases hc.1
  | some k=>
   rw[q]at hc
   cases k with
   | «local» =>exact .inl (ok.lc x q)
   | cell=>exact .inr (.inl (ok.ce x q).1)
   | free=>exact .inr (ok.fe x q)
   | _=>cases hc.1
 ·cases h
theorem Qb7(ok:CtxB X Θ)(h:Θ.Qa6 x=some i):X.N[i]? =some x/\Loc X.env.scope x/\(X.fn x=true∨X.env.scope.names.lookup x=some .local):=by
 unfold Th.Qa6 at h
 split at h
 ·rename_i hc
  simp only[Zf,Zaf]at hc
  refine⟨by rw[ok.N];exact Qbs h,?_⟩
  cases q:look x Θ.sc with
  | none=>rw[q]at hc;cases hc.1
  | some k=>
   rw[q]at hc
   cases k with
   | «local» =>exact⟨.inl (ok.lc x q),.inr (ok.lc x q)⟩
   | cell=>exact⟨.inr (ok.ce x q).1,.inl (ok.ce x q).2⟩
   | _=>cases hc.1
 ·cases h
theorem Qdn(ok:CtxB X Θ)(h:Θ.gl x=true):Gl X x/\(x == ("__debug__" :Str))=false/\x≠ "__name__" :=by
 unfold Th.gl at h
 simp only[Zf,Zaf]at h
 obtain⟨h1,h2,h3⟩:=Qf3 h.2
 refine⟨?_,h1,h3⟩
 cases q:look x Θ.sc with
 | none=>rw[q]at h;cases h.1
 | some k=>
  rw[q]at h
  cases k with
  | globalImplicit=>exact ok.gl x q
  | _=>cases h.1
end
noncomputable def isTup:Expr->Bool
 | .Tuple .. =>true
 | _=>false
noncomputable def QhD:Expr->Option Str
 | .Name x _=>some x
 | _=>none
noncomputable def QeT(Θ:Th):Expr->Option Tg
 | .Name x _=>(Θ.Qa6 x).map .nm
 | .Tuple es _ _=>((es.mapM QhD).bind λxs=>xs.mapM Θ.Qa6).map .tp
 | _=>none
noncomputable def QgI:CmpOp->Option (D->D->Option D)
 | .Eq=>some gEq | .NotEq=>some gNe | .Lt=>some gLt | .LtE=>some gLe | .Gt=>some gGt | .GtE=>some gGe
 | .Is=>none | .IsNot=>none
 | .In=>some (gIn false) | .NotIn=>some (gIn true)
noncomputable def QiH(x:Str):Option String:=
 if x= "int" then some "int" else if x= "bool" then some "bool" else if x= "list" then some "list" else if x= "tuple" then some "tuple" else if x= "str" then some "str" else none
noncomputable def inner(Θ:Th)(scope:Scope):Th:={N:=(scope.names.filter λy=>Qji y.2).map (·.1),sc:=scope.names,Γ:=Θ.Γ,cs:=Θ.cs}
noncomputable def QcG(Θ:Th)(scope:Scope):List (Option Nat):=(inner Θ scope).N.map λx=>if((look x scope.names).map isFree).getD false then posOf x Θ.N else none
noncomputable def Qc7(Θ:Th)(scope:Scope)(t:Tg):Bool:=(scope.kind == .function) && decide (inner Θ scope).N.Nodup &&
 (scope.names.all λy=>match y.2 with
  | .cell=>decide (look y.1 scope.names=some .cell)
  | .local =>decide (look y.1 scope.names=some .local)
  | .free=>match look y.1 Θ.sc with
   | some .cell=>true
   | some .free=>true
   | _=>false
  | _=>true) &&
 t.slots.all λj=>match (QcG Θ scope)[j]? with
  | some (some _)=>false
  | _=>true
noncomputable def QmX:List Expr->Bool
 | []=>true | [_]=>true | _=>false
noncomputable def bf1(x:Str)(fa:DE):Option DE:=
 if x= "len" then some (dBf QaP (Qf fa Qk))else
 if x= "list" then some (dList (Qf fa Qk))else
 if x= "int" then some (dBf QgB (Qf fa Qk))else
 if x= "str" then some (dBf QdT (Qf fa Qk))else
 if x= "any" then some (dBf QcI (Qf fa Qk))else
 none
noncomputable def bf2(x:Str)(fa fb:DE):Option DE:=
 none
noncomputable def Qc9:Expr->Bool
 | .Name .. =>true
 | .Constant .. =>true
 | _=>false
noncomputable def tm1(m:Str)(fa fb:DE):Option DE:=
 if m= "split" then some (dM1 QgM fa (Qf fb Qk))else
 if m= "join" then some (dM1 Qc4 fa (Qf fb Qk))else
 if m= "startswith" then some (dM1 gSw fa (Qf fb Qk))else
 none
mutual
noncomputable def Qc(n:Nat)(Θ:Th)(e:Expr):Option DE:=match n with
 | 0=>none
 | n+1=>match e with
  | .Name x _=>match Θ.slot x with
   | some i=>some (Qg i)
   | none=>if Θ.gl x then(look x Θ.cs).map λi=>dC (cnD i)else none
  | .Constant (.int i) _ _=>some (dC (.int i))
  | .Constant (.bool b) _ _=>some (dC (.bl b))
  | .Constant .none _ _=>some (dC .non)
  | .Constant (.str x) _ _=>some (dC (.str x))
  | .BinOp a op b _=>(Qc n Θ a).bind λfa=>(Qc n Θ b).bind λfb=>match op with
   | .Add=>some (Qbf fa fb)
   | .Mult=>some (Qb8 fa fb)
   | .Sub=>some (dOp Qbv fa fb)
   | .FloorDiv=>some (dOp QdU fa fb)
   | .Mod=>some (dOp Qb6 fa fb)
   | .Pow=>some (dOp Qce fa fb)
   | _=>none
  | .UnaryOp .USub a _=>(Qc n Θ a).map Qle
  | .UnaryOp .Not a _=>(Qc n Θ a).map Ql5
  | .BoolOp .And [a] _=>Qc n Θ a
  | .BoolOp .And (a::b::r) p=>(Qc n Θ a).bind λfa=>(Qc n Θ (.BoolOp .And (b::r) p)).map λfb=>Qfj fa fb
  | .BoolOp .Or [a] _=>Qc n Θ a
  | .BoolOp .Or (a::b::r) p=>(Qc n Θ a).bind λfa=>(Qc n Θ (.BoolOp .Or (b::r) p)).map λfb=>dOr fa fb
  | .Compare a [op] [b] _=>(Qc n Θ a).bind λfa=>(Qc n Θ b).bind λfb=>(QgI op).map λg=>dOp g fa fb
  | .IfExp c a b _=>(QL n Θ c).bind λg=>(Qc n Θ a).bind λfa=>(Qc n Θ b).map λfb=>dIf g fa fb
  | .Tuple es _ _=>(QW n Θ es).map Qk4
  | .List es _=>(QW n Θ es).map QdO
  | .Subscript a (.Slice lo hi none _) _=>(Qc n Θ a).bind λfa=>(Qc5 n Θ lo).bind λfl=>(Qc5 n Θ hi).map λfh=>Qcj fa fl fh
  | .Subscript a b _=>(Qc n Θ a).bind λfa=>(Qc n Θ b).map λfb=>QbY fa fb
  | .Call (.Name x _) args [] _=>if Θ.gl x then(match look x Θ.Γ with
    | some r=>if r.n<=args.length+r.dfl.length/\args.length<=r.n then(QW n Θ args).map λfs=>QE r.n r.den (r.dfl.drop (r.dfl.length-(r.n-args.length))) fs else none
    | none=>Qey n Θ x args)else none
  | .Call (.Attribute (.Name x p) m apos) [] [] cpos=>if m= "bit_length" /\(apos.endLine == cpos.line)=true then(Qc n Θ (.Name x p)).map QgA else none
  | .Call (.Attribute o m apos) [b] [] cpos=>if Qc9 o=true/\(apos.endLine == cpos.line)=true then(Qc n Θ o).bind λfo=>(Qc n Θ b).bind λfb=>tm1 m fo fb else none
  | .ListComp elt [⟨tg,iter,ifs,0⟩] scope _=>(QeT (inner Θ scope) tg).bind λt=>if Qc7 Θ scope t && QmX ifs then
    (QcD n Θ tg iter).bind λfi=>(QbP n (inner Θ scope) ifs).bind λft=>(Qc n (inner Θ scope) elt).map λfe=>Qax fi t (QcG Θ scope) ft fe else none
  | _=>none
noncomputable def Qey(n:Nat)(Θ:Th)(x:Str)(args:List Expr):Option DE:=match n with
  | 0=>none
  | n+1=>match args with
    | [a]=>
         (Qc n Θ a).bind λfa=>bf1 x fa
    | [a,b]=>if x= "isinstance" then(Qc n Θ a).bind λfa=>match b with
        | .Name y _=>if Θ.gl y then(QiH y).map λT=>Qcn T fa else none
        | _=>none
      else(Qc n Θ a).bind λfa=>(Qc n Θ b).bind λfb=>bf2 x fa fb
    | _=>none
noncomputable def QL(n:Nat)(Θ:Th)(e:Expr):Option DT:=match n with
 | 0=>none
 | n+1=>match e with
  | .UnaryOp .Not a _=>(QL n Θ a).map Qbx
  | .BoolOp .And [a] _=>QL n Θ a
  | .BoolOp .And (a::b::r) p=>(QL n Θ a).bind λfa=>(QL n Θ (.BoolOp .And (b::r) p)).map λfb=>QdV fa fb
  | .BoolOp .Or [a] _=>QL n Θ a
  | .BoolOp .Or (a::b::r) p=>(QL n Θ a).bind λfa=>(QL n Θ (.BoolOp .Or (b::r) p)).map λfb=>bOr fa fb
  | .Compare a [op] [b] _=>(Qc n Θ a).bind λfa=>(Qc n Θ b).bind λfb=>(QgI op).map λg=>Qr (dOp g fa fb)
  | .BoolOp _ _ _=>none
  | .IfExp _ _ _ _=>none
  | .Compare _ _ _ _=>none
  | e=>(Qc n Θ e).map Qr
noncomputable def QbP(n:Nat)(Θ:Th)(es:List Expr):Option DT:=match n with
 | 0=>none
 | n+1=>match es with
  | []=>some Qbr
  | [c]=>QL n Θ c
  | _=>none
noncomputable def QW(n:Nat)(Θ:Th)(es:List Expr):Option DA:=match n with
 | 0=>none
 | n+1=>match es with
  | []=>some Qk
  | e::es=>(Qc n Θ e).bind λfa=>(QW n Θ es).map λfs=>Qf fa fs
noncomputable def Qc5(n:Nat)(Θ:Th)(e:Option Expr):Option DO:=match n with
 | 0=>none
 | n+1=>match e with
  | none=>some Qbm
  | some e=>(Qc n Θ e).map Qbp
noncomputable def QcD(n:Nat)(Θ:Th)(tg e:Expr):Option DI:=match n with
 | 0=>none
 | n+1=>match e with
  | .Call (.Name x _) args [] _=>if Θ.gl x && (look x Θ.Γ).isNone then(match args with
    | [a]=>if x= "range" then(Qc n Θ a).map QfN else
     (Qc n Θ e).map Q8
    | [a,b,c]=>
     (Qc n Θ e).map Q8
    | [a,b]=>
     if x= "zip" then(if isTup tg then(Qc n Θ a).bind λfa=>(Qc n Θ b).map λfb=>QgX fa fb else none)else
     (Qc n Θ e).map Q8
    | _=>(Qc n Θ e).map Q8)else(Qc n Θ e).map Q8
  | e=>(Qc n Θ e).map Q8
end
theorem Qay{α β γ:Type}{x:Option α}{y:α->Option β}{k:α->β->γ}{r:γ}(e:(x.bind λa=>(y a).map λb=>k a b)=some r):∃a b,x=some a/\y a=some b/\k a b=r:=by
 refine Qb e λa h1 e=>?_
 obtain⟨b,h2,e⟩:=Zd.mp e
 exact⟨a,b,h1,h2,e⟩
theorem bindR{α β γ:Type}{x:Option α}{y:α->Option β}{k:α->β->γ}{r:γ}{M:γ->Prop}(e:(x.bind λa=>(y a).map λb=>k a b)=some r)(g:∀a b,x=some a->y a=some b->M (k a b)):M r:=by
 obtain⟨a,b,h1,h2,rfl⟩:=Qay e
 exact g a b h1 h2
theorem Q7(h:Qc n Θ e=some f)(es:List Expr)(env:Env):starEach (e::es) env=(false,eval e env)::starEach es env:=by
 cases n with
 | zero=>exact nomatch (show(none:Option DE)=some _ from h)
 | succ n=>cases e<;>first | rfl | (exact nomatch (show(none:Option DE)=some _ from h))
theorem QfP:∀{n:Nat}{Θ:Th}{es:List Expr}{f:DA},QW n Θ es=some f->∀(pos:Pos) (env:Env),(backTo pos (starEach es env)).any (·.1)=false
 | 0,_,_,_,h,_,_=>by simp[QW]at h
 | n+1,_,[],_,h,_,_=>rfl
 | n+1,_,e::es,_,h,pos,env=>by
  simp only[QW]at h
  obtain⟨fa,fs,h1,h2,_⟩:=Qay h
  rw[Q7 h1]
  have:=QfP h2 pos env
  simpa[backTo]using this
theorem QfO(h:Qc n Θ b=some f):QcC b:=by
 cases n with
 | zero=>exact nomatch (show(none:Option DE)=some _ from h)
 | succ n=>cases b<;>first | (intro o i;rfl) | (exact nomatch (show(none:Option DE)=some _ from h))
theorem QkS(h:Qc n Θ e=some f)(env:Env):∀x,foldedSetIterable e env x=pure x:=by
 cases n with
 | zero=>exact nomatch (show(none:Option DE)=some _ from h)
 | succ n=>cases e<;>first | (intro x;rfl) | (exact nomatch (show(none:Option DE)=some _ from h))
theorem QhP(h:Qc n Θ e=some f)(op:CmpOp):behindInMarks op e=false:=by
 cases n with
 | zero=>exact nomatch (show(none:Option DE)=some _ from h)
 | succ n=>cases e<;>first | rfl | (exact nomatch (show(none:Option DE)=some _ from h))
theorem QaL{env:Env}:∀{names:List (Str×NameKind)}{x:Str},names.lookup x=some .cell→
  (names.map λ(n,k)=>if(k == NameKind.free && env.scope.kind == .function && env.kindOf n == some .cell)then(n,NameKind.cell)else(n,k)).lookup x=some .cell
 | [],_,h=>by simp at h
 | (n,k)::r,x,h=>by
  have ih:= @QaL env r x
  rw[Zl]
  cases hx:x == n with
  | true=>
   simp only[Zk,hx]at h
   cases h
   dsimp only
   split<;>simp[Zk,hx]
  | false=>
   simp only[Zk,hx]at h
   dsimp only
   split<;>(simp only[Zk,hx];exact ih h)
theorem Qfw{X:Cx}{Θ:Th}{scope:Scope}{t:Tg}(ok:Qt X Θ)(h:Qc7 Θ scope t=true):QaX X (inner Θ scope).N scope/\Qez X (inner Θ scope).N scope (QcG Θ scope) t.slots/\∀cl C fp s3 H3,Qt (cxc X (inner Θ scope).N scope cl C fp s3 H3) (inner Θ scope):=by
 unfold Qc7 at h
 simp only[Zf,decide_eq_true_eq]at h
 obtain⟨⟨⟨h1,h2⟩,h3⟩,h4⟩:=h
 have hk:scope.kind= .function:=by simpa using h1
 have each:∀y∈scope.names,(y.2= .cell->scope.names.lookup y.1=some .cell)/\(y.2= .local ->scope.names.lookup y.1=some .local)/\(y.2= .free->X.env.kindOf y.1=some .cell∨X.env.kindOf y.1=some .free):=λy hy=>by
  have:=ZK.mp h3 y hy
  obtain⟨y,k⟩:=y
  cases k with
  | cell=>exact⟨λ_=>(by rw[← QN];simpa using this),λz=>(by cases z),λz=>(by cases z)⟩
  | «local» =>exact⟨λz=>(by cases z),λ_=>by rw[← QN];simpa using this,λz=>by cases z⟩
  | free=>
   refine⟨λz=>(by cases z),λz=>(by cases z),λ_=>?_⟩
   dsimp only at this
   split at this
   ·rename_i q;exact .inl (ok.ce _ q).1
   ·rename_i q;exact ok.fe _ q
   ·cases this
  | _=>exact⟨λz=>(by cases z),λz=>(by cases z),λz=>(by cases z)⟩
 have S:QaX X (inner Θ scope).N scope:=⟨hk,λy hy=>(each y hy).1,λy hy=>(each y hy).2.1,λy hy=>(each y hy).2.2⟩
 refine⟨S,⟨by unfold QcG;simp,λj i e=>?_,λj i e hj=>?_⟩,λcl C fp s3 H3=>⟨⟨rfl,h2,λx e=>?_,λx e=>?_,λx e=>?_,λx e=>?_,ok.units,ok.mg,ok.cs⟩,ok.calm,PassesOwn.never,ok.fns,λ_ _ e=>nomatch e⟩⟩
 ·unfold QcG at e
  rw[Zz]at e
  cases q:(inner Θ scope).N[j]? with
  | none=>rw[q]at e;cases e
  | some x=>
   rw[q]at e
   simp only[Zad,Option.some.injEq]at e
   split at e
   ·rename_i hf
    cases hl:look x scope.names with
    | none=>rw[hl]at hf;cases hf
    | some k=>
     rw[hl]at hf
     cases k with
     | free=>
      rw[QN]at hl
      exact⟨x,rfl,hl,by rw[ok.N];exact Qbs e,(each (x,.free) (ZG hl)).2.2 rfl⟩
     | _=>cases hf
   ·cases e
 ·have:=ZK.mp h4 j hj
  rw[e]at this
  cases this
 ·have e':scope.names.lookup x=some .local :=by rw[← QN];exact e
  exact lookup_relabel_local e'
 ·have e':scope.names.lookup x=some .cell:=by rw[← QN];exact e
  exact⟨QaL e',decide_eq_true e'⟩
 ·have e':scope.names.lookup x=some .free:=by rw[← QN];exact e
  exact Qaa e'
 ·have e':scope.names.lookup x=some .globalImplicit:=by rw[← QN];exact e
  show(relabel scope X.env).names.lookup x=some .globalImplicit
  unfold relabel
  have gen:∀{names:List (Str×NameKind)},names.lookup x=some .globalImplicit→
    (names.map λ(n,k)=>if(k == NameKind.free && X.env.scope.kind == .function && X.env.kindOf n == some .cell)then(n,NameKind.cell)else(n,k)).lookup x=some .globalImplicit:=by
   intro names
   induction names with
   | nil=>intro z;simp at z
   | cons y r ih=>
    intro z
    obtain⟨n,k⟩:=y
    rw[Zl]
    cases hx:x == n with
    | true=>
     simp only[Zk,hx]at z
     cases z
     simp[Zk,hx]
    | false=>
     simp only[Zk,hx]at z
     dsimp only
     split<;>(simp only[Zk,hx];exact ih z)
  exact gen e'
theorem QgT(ok:Qt X Θ)(h:QeT Θ tg=some t):SG X tg t:=by
 have hN:X.N.Nodup:=by rw[ok.N];exact ok.nd
 cases tg with
 | Name x pos=>
  change Option.map _ _=_ at h
  refine mapR h λi hi=>?_
  obtain⟨h1,h2,h3⟩:=Qb7 ok.toCtxB hi
  exact Qj7 (QfU hN h1 h2 h3)
 | Tuple es k pos=>
  change Option.map _ _=_ at h
  refine mapR h λis hi=>?_
  refine Qb hi λxs h1 h2=>?_
  have key:∀(es:List Expr) (xs:List Str) (is:List Nat),es.mapM QhD=some xs->xs.mapM Θ.Qa6=some is->PGs X es (Qdo is)/\(assignEach es X.env).length=is.length/\(assignEach es X.env).findIdx? (·.1)=none:=by
   intro es
   induction es with
   | nil=>
    intro xs is h1 h2
    cases h1
    cases h2
    exact⟨QjO,rfl,rfl⟩
   | cons e es ih=>
    intro xs is h1 h2
    rw[List.mapM_cons]at h1
    refine Qb h1 λx hx h1=>?_
    refine Qb h1 λys hy h1=>?_
    cases h1
    rw[List.mapM_cons]at h2
    refine Qb h2 λi hi h2=>?_
    refine Qb h2 λjs hj h2=>?_
    cases h2
    obtain⟨a1,a2,a3⟩:=ih ys js hy hj
    cases e with
    | Name y p=>
     cases hx
     obtain⟨g1,g2,g3⟩:=Qb7 ok.toCtxB hi
     refine⟨QiR (QfU hN g1 g2 g3) a1 rfl,?_,?_⟩
     ·show(assignEach es X.env).length+1=_
      rw[a2];rfl
     ·show List.findIdx? (·.1) ((false,assign (.Name x p) X.env)::assignEach es X.env)=none
      rw[List.findIdx?_cons]
      simp only[a3];rfl
    | _=>cases hx
  obtain⟨a1,a2,a3⟩:=key es xs is h1 h2
  exact Qma ok.calm a1 a2 a3
 | _=>exact nomatch (show(none:Option Tg)=some _ from h)
theorem QgQ{f:Int->Int->Bool}:∀a b d,gI (λi j=>some (.bl (f i j))) a b=some d->∃k,d= .bl k:=λa b d h=>by
 obtain⟨i,j,_,_,e⟩:=Qhz h
 cases e
 exact⟨_,rfl⟩
theorem Qho(ok:Qt X Θ)(h:QgI op=some g):∃r,OpR X (compareOp op) r/\Qag X.K g r/\∀a b d,g a b=some d->∃k,d= .bl k:=by
 cases op<;>cases h
 ·exact⟨_,Qmb ok.units,Qmu,λa b d h=>by unfold gEq at h;split at h<;>cases h;exact⟨_,rfl⟩⟩
 ·exact⟨_,QlN ok.units,Qmy,λa b d h=>by unfold gNe at h;split at h<;>cases h;exact⟨_,rfl⟩⟩
 ·exact⟨_,QmB,Qmn,QgQ⟩
 ·exact⟨_,Qmo,Qm5,QgQ⟩
 ·exact⟨_,QmN,Qmr,QgQ⟩
 ·exact⟨_,QmG,QmD,QgQ⟩
 ·exact⟨_,QkR ok.units,Qjb,Qg4⟩
 ·exact⟨_,Qg7 ok.units,Qjb,Qg4⟩
structure Qc6 (n:Nat):Prop where
 E:∀X Θ e f,Qt X Θ->Qc n Θ e=some f->SE X e f
 B:∀X Θ x args f p pos,Qt X Θ->Θ.gl x=true->Qey n Θ x args=some f->SE X (.Call (.Name x p) args [] pos) f
 T:∀X Θ e f,Qt X Θ->QL n Θ e=some f->ST X e f
 Ts:∀X Θ e f,Qt X Θ->QbP n Θ e=some f->Qfk X e f
 A:∀X Θ e f,Qt X Θ->QW n Θ e=some f->SA X e f
 O:∀X Θ e f,Qt X Θ->Qc5 n Θ e=some f->SO X e f
 I:∀X Θ tg e f,Qt X Θ->QcD n Θ tg e=some f->SI X tg e f/\∀x,foldedSetIterable e X.env x=pure x
theorem callArgs{X:Cx}{n:Nat}{Θ:Th}{es:List Expr}{fs:DA}(h:QW n Θ es=some fs){e:Expr}{es':List Expr}(he:es=e::es')(pos:Pos):starEach (e::es') X.env=(false,eval e X.env)::starEach es' X.env/\(backTo pos (starEach es' X.env)).any (·.1)=false:=by
 subst he
 cases n with
 | zero=>simp[QW]at h
 | succ n=>
  simp only[QW]at h
  obtain⟨fa,fs',h1,h2,_⟩:=Qay h
  exact⟨Q7 h1 es' X.env,QfP h2 pos X.env⟩
theorem Qch{X:Cx}{o:Expr}{m:Str}(h:Qc9 o=true):attributeBase o m X.env (eval o X.env)=eval o X.env:=by
 cases o<;>first | rfl | cases h
theorem Ql0{X:Cx}{o b:Expr}{m:Str}{fo fb f:DE}{apos pos:Pos}(h1:SE X o fo)(h2:SE X b fb)(ht:Qc9 o=true)(hl:(apos.endLine == pos.line)=true)(hs:starEach [b] X.env=[(false,eval b X.env)])(h:tm1 m fo fb=some f):SE X (.Call (.Attribute o m apos) [b] [] pos) f:=by
 unfold tm1 at h
 by_cases e:m= "split"
 ·rw[if_pos e]at h;cases h;subst e;exact QlC h1 (QaR h2 QbG hs) (Qch ht) hl hs
 rw[if_neg e]at h;clear e
 by_cases e:m= "join"
 ·rw[if_pos e]at h;cases h;subst e;exact QjB h1 (QaR h2 QbG hs) (Qch ht) hl hs
 rw[if_neg e]at h;clear e
 by_cases e:m= "startswith"
 ·rw[if_pos e]at h;cases h;subst e;exact Qm6 h1 (QaR h2 QbG hs) (Qch ht) hl hs
 rw[if_neg e]at h;cases h
theorem Qme(ih:Qc6 n):∀X Θ e f,Qt X Θ->Qc (n+1) Θ e=some f->SE X e f:=by
  intro X Θ e f ok h
  cases e with
  | Name x pos=>
    (conv at h=>lhs;whnf)
    cases q:Θ.slot x with
    | some i=>rw[q]at h;cases h;exact Qk0 (QfZ ok.toCtxB q)
    | none=>
      rw[q]at h
      dsimp only at h
      split at h
      · rename_i hg
        refine mapR h λi hi=>?_
        obtain⟨g1,g2,g3⟩:=Qdn ok.toCtxB hg
        obtain⟨t,hm⟩:=ok.cs x i hi
        cases i with
        | inl i=>exact QdL (v:= .int i) (Qf1 g1 hm ⟨t,rfl⟩ g2) (λ_ _=> .int_mk) rfl
        | inr i=>exact QdL (v:= .str i) (Qf1 g1 hm ⟨t,rfl⟩ g2) (λ_ _=> .str_mk) rfl
      · cases h
  | Constant c k pos=>
    cases c with
    | int i=>(conv at h=>lhs;whnf);cases h;exact QdL QkL (λ_ _=> .int_mk) rfl
    | bool b=>(conv at h=>lhs;whnf);cases h;exact QdL Qm2 (λ_ _=> .Qae) rfl
    | none=>(conv at h=>lhs;whnf);cases h;exact QdL QlR (λ_ _=> .QhK) rfl
    | str x=>(conv at h=>lhs;whnf);cases h;exact QdL Qkv (λ_ _=> .str_mk) rfl
    | _=>exact nomatch (show(none:Option DE)=some _ from h)
  | BinOp a op b pos=>
    (conv at h=>lhs;whnf)
    refine Qb h λfa h1 h=>?_
    refine Qb h λfb h2 h=>?_
    have ha:=ih.E X Θ a fa ok h1
    have hb:=ih.E X Θ b fb ok h2
    cases op with
    | Add=>cases h;exact Qku ha hb
    | Mult=>cases h;exact Ql3 ha hb
    | Sub=>cases h;exact QeF Qmc QlS ha hb
    | FloorDiv=>cases h;exact QeF Qjn QkI ha hb
    | Mod=>cases h;exact QeF Qkn Qk1 ha hb
    | Pow=>cases h;exact QeF QjP QlZ ha hb
    | _=>cases h
  | UnaryOp op a pos=>
    cases op with
    | USub=>
      (conv at h=>lhs;whnf)
      refine mapR h λfa h1=>?_
      exact Ql9 (ih.E X Θ a fa ok h1)
    | Not=>
      (conv at h=>lhs;whnf)
      refine mapR h λfa h1=>?_
      exact QkP (ih.E X Θ a fa ok h1)
    | _=>exact nomatch (show(none:Option DE)=some _ from h)
  | BoolOp op es pos=>
    cases op with
    | And=>
      match es,h with
      | [],h=>exact nomatch (show(none:Option DE)=some _ from h)
      | [a],h=>(conv at h=>lhs;whnf);exact Qg2 (ih.E X Θ a f ok h)
      | a::b::r,h=>
        (conv at h=>lhs;whnf)
        refine bindR h λfa fb h1 h2=>?_
        exact QlB (ih.E X Θ a fa ok h1) (ih.E X Θ _ fb ok h2)
    | Or=>
      match es,h with
      | [],h=>exact nomatch (show(none:Option DE)=some _ from h)
      | [a],h=>(conv at h=>lhs;whnf);exact Qg2 (ih.E X Θ a f ok h)
      | a::b::r,h=>
        (conv at h=>lhs;whnf)
        refine bindR h λfa fb h1 h2=>?_
        exact Qmq (ih.E X Θ a fa ok h1) (ih.E X Θ _ fb ok h2)
  | Compare a ops bs pos=>
    match ops,bs,h with
    | [op],[b],h=>
      (conv at h=>lhs;whnf)
      refine Qb h λfa h1 h=>?_
      refine bindR h λfb g h2 h3=>?_
      obtain⟨r,o1,o2,_⟩:=Qho ok h3
      exact Qk3 o1 o2 (ih.E X Θ a fa ok h1) (ih.E X Θ b fb ok h2) (QhP h2 op)
    | [],_,h=>exact nomatch (show(none:Option DE)=some _ from h)
    | [_],[],h=>exact nomatch (show(none:Option DE)=some _ from h)
    | [_],_::_::_,h=>exact nomatch (show(none:Option DE)=some _ from h)
    | _::_::_,_,h=>exact nomatch (show(none:Option DE)=some _ from h)
  | IfExp c a b pos=>
    (conv at h=>lhs;whnf)
    refine Qb h λg h1 h=>?_
    refine bindR h λfa fb h2 h3=>?_
    exact Qmk (ih.T X Θ c g ok h1) (ih.E X Θ a fa ok h2) (ih.E X Θ b fb ok h3)
  | Tuple es k pos=>
    (conv at h=>lhs;whnf)
    refine mapR h λfs h1=>?_
    exact QlK (ih.A X Θ es fs ok h1)
  | List es pos=>
    (conv at h=>lhs;whnf)
    refine mapR h λfs h1=>?_
    exact Qkx (ih.A X Θ es fs ok h1)
  | Subscript a b pos=>
    by_cases hb:∃lo hi p2,b= .Slice lo hi none p2
    · obtain⟨lo,hi,p2,rfl⟩:=hb
      (conv at h=>lhs;whnf)
      refine Qb h λfa h1 h=>?_
      refine bindR h λfl fh h2 h3=>?_
      exact QkX (ih.E X Θ a fa ok h1) (ih.O X Θ lo fl ok h2) (ih.O X Θ hi fh ok h3)
    · have h':((Qc n Θ a).bind λfa=>(Qc n Θ b).map λfb=>QbY fa fb)=some f:=by
        cases b<;>first
          | (exact h)
          | (rename_i lo hi st p2;cases lo<;>cases hi<;>cases st<;>first | (exact absurd ⟨_,_,_,rfl⟩ hb) | (exact h))
      refine bindR h' λfa fb h1 h2=>?_
      exact QlP (ih.E X Θ a fa ok h1) (ih.E X Θ b fb ok h2) (QfO h2)
  | Call fn args kws pos=>
    cases fn with
    | Name x p=>
     cases kws with
     | cons k ks=>exact nomatch (show(none:Option DE)=some _ from h)
     | nil=>
      have h:(if Θ.gl x then(match look x Θ.Γ with | some r=>if r.n<=args.length+r.dfl.length/\args.length<=r.n then(QW n Θ args).map λfs=>QE r.n r.den (r.dfl.drop (r.dfl.length-(r.n-args.length))) fs else none | none=>Qey n Θ x args)else none)=some f:=h
      split at h
      · rename_i hg
        obtain⟨g1,g2,g3⟩:=Qdn ok.toCtxB hg
        split at h
        · rename_i r hr
          split at h
          · rename_i hn
            refine mapR h λfs h1=>?_
            obtain⟨k,fa,fd,ps,F1,F2,F3,F4,F5⟩:=ok.fns x r hr
            obtain⟨ds,dvs,b1,b2,b3⟩:=F5 (r.n-args.length) (by omega)
            cases args with
            | nil=>
              cases n with
              | zero=>simp[QW]at h1
              | succ n=>
                simp only[QW]at h1
                cases h1
                exact Qh6 F1 F2 g1 F3 F4 b1 b2 b3 g2
            | cons e es=>
              obtain⟨s1,s2⟩:=callArgs (X:=X) h1 rfl pos
              exact QjU F1 F2 g1 F3 F4 b1 b2 b3 (ih.A X Θ _ fs ok h1) g2 s1 s2
          · cases h
        · exact ih.B X Θ x args f p pos ok hg h
      · cases h
    | Attribute o m apos=>
      match args,kws,h with
      | [b],[],h=>
        have h:(if Qc9 o=true/\(apos.endLine == pos.line)=true then(Qc n Θ o).bind λfo=>(Qc n Θ b).bind λfb=>tm1 m fo fb else none)=some f:=by
          cases o<;>exact h
        split at h
        · rename_i hc
          refine Qb h λfo h1 h=>?_
          refine Qb h λfb h2 h=>?_
          exact Ql0 (ih.E X Θ o fo ok h1) (ih.E X Θ b fb ok h2) hc.1 hc.2 (Q7 h2 [] X.env) h
        · cases h
      | [],[],h=>
        cases o with
        | Name x p=>
            have h:(if m= "bit_length" /\(apos.endLine == pos.line)=true then(Qc n Θ (.Name x p)).map QgA else none)=some f:=h
            split at h
            · rename_i hc
              refine mapR h λfa h1=>?_
              obtain⟨rfl,hl⟩:=hc
              exact Qkc (ih.E X Θ _ fa ok h1) rfl hl
            · cases h
        | _=>exact nomatch (show(none:Option DE)=some _ from h)
      | _::_::_,[],h=>exact nomatch (show(none:Option DE)=some _ from(by cases o<;>exact h))
      | [],_::_,h=>exact nomatch (show(none:Option DE)=some _ from(by cases o<;>exact h))
      | [_],_::_,h=>exact nomatch (show(none:Option DE)=some _ from(by cases o<;>exact h))
      | _::_::_,_::_,h=>exact nomatch (show(none:Option DE)=some _ from(by cases o<;>exact h))
    | _=>exact nomatch (show(none:Option DE)=some _ from h)
  | ListComp elt gens scope pos=>
    match gens,h with
    | [⟨tg,iter,ifs,k⟩],h=>
      by_cases hk:k=0
      · subst hk
        (conv at h=>lhs;whnf)
        refine Qb h λt ht h=>?_
        split at h
        · rename_i hc
          simp only[Zf]at hc
          refine Qb h λfi h1 h=>?_
          refine bindR h λft fe h2 h3=>?_
          obtain⟨S,cap,inn⟩:=Qfw ok hc.1
          obtain⟨i1,i2⟩:=ih.I X Θ tg iter fi ok h1
          exact Qjl ok.calm S i1 cap (λcl C fp s3 H3=>⟨QgT (inn cl C fp s3 H3) ht,ih.Ts _ _ ifs ft (inn cl C fp s3 H3) h2,ih.E _ _ elt fe (inn cl C fp s3 H3) h3⟩) i2
        · cases h
      · exfalso
        cases k with
        | ofNat k=>
          cases k with
          | zero=>exact hk rfl
          | succ k=>exact nomatch (show(none:Option DE)=some _ from h)
        | negSucc k=>exact nomatch (show(none:Option DE)=some _ from h)
    | [],h=>exact nomatch (show(none:Option DE)=some _ from h)
    | ⟨_,_,_,.ofNat 0⟩::_::_,h=>exact nomatch (show(none:Option DE)=some _ from h)
    | ⟨_,_,_,.ofNat (k+1)⟩::_::_,h=>exact nomatch (show(none:Option DE)=some _ from h)
    | ⟨_,_,_,.negSucc k⟩::_::_,h=>exact nomatch (show(none:Option DE)=some _ from h)
  | _=>exact nomatch (show(none:Option DE)=some _ from h)
theorem Qlq(ok:Qt X Θ)(g1:Gl X x)(sa:SA X [a] (Qf fa Qk))(st:starEach [a] X.env=(false,eval a X.env)::starEach [] X.env)(h:bf1 x fa=some f):SE X (.Call (.Name x p) [a] [] pos) f:=by
 unfold bf1 at h
 by_cases e:x= "len"
 ·rw[if_pos e]at h;cases h;subst e;have hm:=ok.mg "len" (by decide+kernel)
  exact Qje Qhl Ql1 g1 hm PySem.boot_len sa (by decide) (by decide) st rfl
 rw[if_neg e]at h;clear e
 by_cases e:x= "list"
 ·rw[if_pos e]at h;cases h;subst e;have hm:=ok.mg "list" (by decide+kernel)
  exact QjZ ok.calm g1 hm sa st rfl
 rw[if_neg e]at h;clear e
 by_cases e:x= "int"
 ·rw[if_pos e]at h;cases h;subst e;have hm:=ok.mg "int" (by decide+kernel)
  exact QhE QhN QkK g1 hm PyProof.Rows.boot_int sa (by decide) (by decide) st rfl
 rw[if_neg e]at h;clear e
 by_cases e:x= "str"
 ·rw[if_pos e]at h;cases h;subst e;have hm:=ok.mg "str" (by decide+kernel)
  exact QhE Qfi Ql8 g1 hm PyProof.Rows.boot_str sa (by decide) (by decide) st rfl
 rw[if_neg e]at h;clear e
 by_cases e:x= "any"
 ·rw[if_pos e]at h;cases h;subst e;have hm:=ok.mg "any" (by decide+kernel)
  exact Qje (Qhk ok.calm) QjC g1 hm PyProof.Rows.boot_any sa (by decide) (by decide) st rfl
 rw[if_neg e]at h;clear e
 cases h
theorem Qlo(ok:Qt X Θ)(g1:Gl X x)(sa:SA X [a,b] (Qf fa (Qf fb Qk)))(st:starEach [a,b] X.env=(false,eval a X.env)::starEach [b] X.env)(pl:(backTo pos (starEach [b] X.env)).any (·.1)=false)(h:bf2 x fa fb=some f):SE X (.Call (.Name x p) [a,b] [] pos) f:=by
 unfold bf2 at h
 cases h
theorem Qmj(ih:Qc6 n):∀X Θ x args f p pos,Qt X Θ->Θ.gl x=true->Qey (n+1) Θ x args=some f->SE X (.Call (.Name x p) args [] pos) f:=by
 intro X Θ x args f p pos ok hg h
 obtain⟨g1,g2,g3⟩:=Qdn ok.toCtxB hg
 match args,h with
 | [],h=>exact nomatch (show(none:Option DE)=some _ from h)
 | [a],h=>
  change((Qc n Θ a).bind λfa=>bf1 x fa)=some f at h
  refine Qb h λfa h1 h=>?_
  have ha:=ih.E X Θ a fa ok h1
  have st:=Q7 h1 [] X.env
  exact Qlq ok g1 (QaR ha QbG st) st h
 | [a,b],h=>
  change(if x= "isinstance" then(Qc n Θ a).bind λfa=>(match b with | .Name y _=>if Θ.gl y then(QiH y).map λT=>Qcn T fa else none | _=>none)else(Qc n Θ a).bind λfa=>(Qc n Θ b).bind λfb=>bf2 x fa fb)=some f at h
  split at h
  ·rename_i e
   refine Qb h λfa h1 h=>?_
   have ha:=ih.E X Θ a fa ok h1
   split at h
   ·rename_i y p2
    split at h
    ·rename_i hy
     refine mapR h λT hT=>?_
     obtain⟨y1,y2,y3⟩:=Qdn ok.toCtxB hy
     clear h
     subst e
     refine Qlh g1 (ok.mg _ (by decide+kernel)) ha ?_ (Q7 h1 _ X.env)
     unfold QiH at hT
     split at hT
     ·rename_i e;cases hT;subst e
      exact QbK y1 (ok.mg _ (by decide+kernel)) PyProof.Rows.boot_int rfl
     ·split at hT
      ·rename_i e;cases hT;subst e
       exact QbK y1 (ok.mg _ (by decide+kernel)) PyProof.Rows.boot_bool rfl
      ·split at hT
       ·rename_i e;cases hT;subst e
        exact QbK y1 (ok.mg _ (by decide+kernel)) ZaG rfl
       ·split at hT
        ·rename_i e;cases hT;subst e
         exact QbK y1 (ok.mg _ (by decide+kernel)) PyProof.Rows.boot_tuple rfl
        ·split at hT
         ·rename_i e;cases hT;subst e
          exact QbK y1 (ok.mg _ (by decide+kernel)) PyProof.Rows.boot_str rfl
         ·cases hT
    ·cases h
   ·cases h
  ·refine Qb h λfa h1 h=>?_
   refine Qb h λfb h2 h=>?_
   have ha:=ih.E X Θ a fa ok h1
   have hb:=ih.E X Θ b fb ok h2
   have sb:SA X [b] (Qf fb Qk):=QaR hb QbG (Q7 h2 [] X.env)
   have sa:SA X [a,b] (Qf fa (Qf fb Qk)):=QaR ha sb (Q7 h1 [b] X.env)
   have pl:(backTo pos (starEach [b] X.env)).any (·.1)=false:=by rw[Q7 h2 [] X.env];rfl
   exact Qlo ok g1 sa (Q7 h1 [b] X.env) pl h
 | _::_::_::_,h=>exact nomatch (show(none:Option DE)=some _ from h)
theorem QmQ{n:Nat}(ih:Qc6 n):∀X Θ e f,Qt X Θ->QL (n+1) Θ e=some f->ST X e f:=by
 intro X Θ e f ok h
 have dflt:(Qc n Θ e).map Qr=some f->(∀whole,isTrue e X.env whole=(do let v ← whole;standAt e.pos;holding [v] (truthy v)))->ST X e f:=λh he=>by
  refine mapR h λfa h1=>?_
  exact Qky (ih.E X Θ e fa ok h1) he
 cases e with
 | UnaryOp op a pos=>
  cases op with
  | Not=>
   change(QL n Θ a).map Qbx=some f at h
   refine mapR h λfa h1=>?_
   exact Qlv (ih.T X Θ a fa ok h1)
  | _=>exact dflt h λ_=>rfl
 | BoolOp op es pos=>
  cases op with
  | And=>
   match es,h with
   | [],h=>exact nomatch (show(none:Option DT)=some _ from h)
   | [a],h=>exact(Qjp (ih.T X Θ a f ok h)).st
   | a::b::r,h=>
    change((QL n Θ a).bind λfa=>(QL n Θ (.BoolOp .And (b::r) pos)).map λfb=>QdV fa fb)=some f at h
    refine bindR h λfa fb h1 h2=>?_
    have hb:=ih.T X Θ _ fb ok h2
    exact(QkF (ih.T X Θ a fa ok h1) (λH0 A0 wh pins s σ H Q I q=>by have:=hb H0 A0 pins s σ H Q I q;exact this)).st
  | Or=>
   match es,h with
   | [],h=>exact nomatch (show(none:Option DT)=some _ from h)
   | [a],h=>exact(QkO (ih.T X Θ a f ok h)).st
   | a::b::r,h=>
    change((QL n Θ a).bind λfa=>(QL n Θ (.BoolOp .Or (b::r) pos)).map λfb=>bOr fa fb)=some f at h
    refine bindR h λfa fb h1 h2=>?_
    have hb:=ih.T X Θ _ fb ok h2
    exact(Qmz (ih.T X Θ a fa ok h1) (λH0 A0 wh pins s σ H Q I q=>by have:=hb H0 A0 pins s σ H Q I q;exact this)).st
 | Compare a ops bs pos=>
  match ops,bs,h with
  | [op],[b],h=>
   change((Qc n Θ a).bind λfa=>(Qc n Θ b).bind λfb=>(QgI op).map λg=>Qr (dOp g fa fb))=some f at h
   refine Qb h λfa h1 h=>?_
   refine bindR h λfb g h2 h3=>?_
   obtain⟨r,o1,o2,o3⟩:=Qho ok h3
   exact QlL o1 o2 o3 (ih.E X Θ a fa ok h1) (ih.E X Θ b fb ok h2) (QhP h2 op)
  | [],_,h=>exact nomatch (show(none:Option DT)=some _ from h)
  | [_],[],h=>exact nomatch (show(none:Option DT)=some _ from h)
  | [_],_::_::_,h=>exact nomatch (show(none:Option DT)=some _ from h)
  | _::_::_,_,h=>exact nomatch (show(none:Option DT)=some _ from h)
 | IfExp c a b pos=>exact nomatch (show(none:Option DT)=some _ from h)
 | _=>exact dflt h λ_=>rfl
theorem QmZ(ih:Qc6 n):∀X Θ tg e f,Qt X Θ->QcD (n+1) Θ tg e=some f->SI X tg e f/\∀x,foldedSetIterable e X.env x=pure x:=by
 intro X Θ tg e f ok h
 have dflt:(Qc n Θ e).map Q8=some f->SI X tg e f/\∀x,foldedSetIterable e X.env x=pure x:=λh=>by
  obtain⟨fa,h1,rfl⟩:=Zd.mp h
  exact⟨Qlj (ih.E X Θ e fa ok h1),QkS h1 X.env⟩
 cases e with
 | Call fn args kws pos=>
  cases fn with
  | Name x p=>
   cases kws with
   | cons k ks=>exact dflt h
   | nil=>
    change @ite _ _ _ _ _=_ at h
    split at h
    ·rename_i hg
     simp only[Zf]at hg
     obtain⟨g1,g2,g3⟩:=Qdn ok.toCtxB hg.1
     match args,h with
     | [],h=>exact dflt h
     | [a],h=>
      dsimp only at h
      by_cases er:x= "range"
      ·rw[if_pos er]at h
       obtain⟨fa,h1,rfl⟩:=Zd.mp h
       subst er
       exact⟨QhI g1 (ok.mg _ (by decide+kernel)) (ih.E X Θ a fa ok h1) (Q7 h1 [] X.env),λ_=>rfl⟩
      rw[if_neg er]at h
      exact dflt h
     | [a,b],h=>
      dsimp only at h
      by_cases ez:x= "zip"
      ·rw[if_pos ez]at h
       split at h
       ·rename_i ht
        obtain⟨fa,fb,h1,h2,rfl⟩:=Qay h
        subst ez
        cases tg with
        | Tuple es k tp=>exact⟨QlJ g1 (ok.mg _ (by decide+kernel)) (ih.E X Θ a fa ok h1) (ih.E X Θ b fb ok h2) (by rw[Q7 h1 [b] X.env,Q7 h2 [] X.env];rfl) (Q7 h2 [] X.env),λ_=>rfl⟩
        | _=>exact nomatch (show false=true from ht)
       ·cases h
      rw[if_neg ez]at h
      exact dflt h
     | [a,b,c],h=>
      dsimp only at h
      exact dflt h
     | _::_::_::_::_,h=>exact dflt h
    ·exact dflt h
  | _=>exact dflt h
 | _=>exact dflt h
theorem QaJ:∀n,Qc6 n
 | 0=>⟨λ_ _ _ _ _ h=>(nomatch (show(none:Option DE)=some _ from h)),λ_ _ _ _ _ _ _ _ _ h=>(nomatch (show(none:Option _)=some _ from h)),λ_ _ _ _ _ h=>(nomatch (show(none:Option _)=some _ from h)),λ_ _ _ _ _ h=>(nomatch (show(none:Option _)=some _ from h)),λ_ _ _ _ _ h=>(nomatch (show(none:Option _)=some _ from h)),λ_ _ _ _ _ h=>(nomatch (show(none:Option _)=some _ from h)),λ_ _ _ _ _ _ h=>(nomatch (show(none:Option _)=some _ from h))⟩
 | n+1=>by
  have ih:=QaJ n
  refine⟨Qme ih,Qmj ih,QmQ ih,λX Θ e f ok h=>?_,λX Θ e f ok h=>?_,λX Θ e f ok h=>?_,QmZ ih⟩
  ·match e,h with
   | [],h=>simp only[QbP]at h;cases h;exact Qie
   | [c],h=>simp only[QbP]at h;exact QiG (ih.T X Θ c f ok h)
   | _::_::_,h=>simp only[QbP]at h;cases h
  ·match e,h with
   | [],h=>simp only[QW]at h;cases h;exact QbG
   | e::es,h=>
    simp only[QW]at h
    refine bindR h λfa fs h1 h2=>?_
    exact QaR (ih.E X Θ e fa ok h1) (ih.A X Θ es fs ok h2) (Q7 h1 es X.env)
  ·match e,h with
   | none,h=>simp only[Qc5]at h;cases h;exact QjN
   | some e,h=>
    simp only[Qc5]at h
    refine mapR h λfa h1=>?_
    exact Qkj (ih.E X Θ e fa ok h1)
section
noncomputable def QH:DS:=λ_=>none
theorem Qh0:S1 X st QH:=λH0 A0=>QiU.mono λE σ H ⟨ρ,hs,F,o,rel,e,q⟩=>by cases e
theorem QjQ(hN:X.N.Nodup)(hx1:X.N[i]? =some x)(hx:Loc X.env.scope x)(hf:X.fn x=true∨X.env.scope.names.lookup x=some .local)
  (hcalm:X.calm=true) (S:QaX X N' scope) (hi:SI X tg iter fi) (hcap:Qez X N' scope cap t.slots)
  (hin:∀cl C fp s3 H3,SG (cxc X N' scope cl C fp s3 H3) tg t/\Qfk (cxc X N' scope cl C fp s3 H3) ifs ft/\SE (cxc X N' scope cl C fp s3 H3) elt fe) (hs:∀x,foldedSetIterable iter X.env x=pure x):
  S1 X (.Assign [.Name x pos'] (.ListComp elt [⟨tg,iter,ifs,0⟩] scope pos) spos) (QU i (Qax fi t cap ft fe)):=
 Qfb λH0 A0=>(Qkb hN hx1 hx hf hcalm S (hi H0 A0) (λcl C fp s3 H3=>⟨(hin cl C fp s3 H3).1 _ _,(hin cl C fp s3 H3).2.1 _ _,(hin cl C fp s3 H3).2.2 _ _⟩) hs).mono λE σ H h=>Qer hcap h
end
end HS
namespace HS
open PySem PySem.Spec L2 PyProof.Rows
section
variable {X:Cx}{a b e:Expr}{fa fb:DE}{pf:DP}{x:Nat}{pos apos:Pos}
end
noncomputable def QdA:Expr->Bool
 | .ListComp .. =>false
 | .SetComp .. =>false
 | .DictComp .. =>false
 | _=>true
theorem Qee(h:QdA e=true):swapsWith e t l env=pure false:=by
 cases e<;>first | rfl | cases h
noncomputable def Qbq(n:Nat)(Θ:Th)(e:Expr):Option (Nat×DP):=match n with
 | 0=>none
 | n+1=>match e with
  | .Name x _=>(Θ.slot x).map λi=>(i,QbW)
  | .Subscript a b _=>(Qbq n Θ a).bind λq=>(Qc n Θ b).map λfb=>(q.1,Qi6 q.2 fb)
  | _=>none
theorem QcT:∀(n:Nat) (X:Cx) (Θ:Th) (e:Expr) (q:Nat×DP),Qt X Θ->Qbq n Θ e=some q->SPa X e q.1 q.2/\attributeBase e=λ_ env w=>w
 | 0,_,_,_,_,_,h=>(nomatch (show(none:Option _)=some _ from h))
 | n+1,X,Θ,e,q,ok,h=>by
  cases e with
  | Name x pos=>
   change Option.map _ _=_ at h
   obtain⟨i,hi,rfl⟩:=Zd.mp h
   exact⟨QiN (QfZ ok.toCtxB hi),by funext a b c;rfl⟩
  | Subscript a b pos=>
   change Option.bind _ _=_ at h
   obtain⟨q',fb,h1,h2,rfl⟩:=Qay h
   exact⟨Qj9 (QcT n X Θ a q' ok h1).1 ((QaJ n).E X Θ b fb ok h2) (QfO h2),by funext a b c;rfl⟩
  | _=>exact nomatch (show(none:Option _)=some _ from h)
noncomputable def QdX:Expr->Bool
 | .Name .. =>true
 | .Subscript _ (.Slice ..) _=>false
 | .Subscript (.Call ..) _ _=>false
 | .Subscript .. =>true
 | _=>false
noncomputable def Qjq:Expr->Bool
 | .Slice .. =>true
 | _=>false
noncomputable def Qdi(n:Nat)(Θ:Th)(o:Expr)(m:Str)(args:List Expr):Option DS:=match args with
  | []=>(Qbq n Θ o).bind λq=>
    none
  | [e]=>if m= "append" then
     ((Qbq n Θ o).bind λq=>(Qc n Θ e).map λfa=>Qbj q.1 q.2 fa)
    else
    none
  | _=>none
theorem QiT(ok:Qt X Θ)(h:Qdi n Θ o m args=some f)(hl:(apos.endLine == cpos.line)=true):
  S1 X (.Expr (.Call (.Attribute o m apos) args [] cpos) pos) f:=by
 have base:∀{q:Nat×DP},Qbq n Θ o=some q->SPa X o q.1 q.2/\attributeBase o m X.env (eval o X.env)=eval o X.env:=λ{q} h1=>by
  obtain⟨sp,ab⟩:=QcT n X Θ o _ ok h1
  exact⟨sp,by rw[ab]⟩
 have app:∀{e:Expr}{f:DS},m= "append" ->((Qbq n Θ o).bind λq=>(Qc n Θ e).map λfa=>Qbj q.1 q.2 fa)=some f->S1 X (.Expr (.Call (.Attribute o m apos) [e] [] cpos) pos) f:=λ{e f} em h=>by
  obtain⟨q,fa,h1,h2,rfl⟩:=Qay h
  obtain⟨sp,hb⟩:=base h1
  subst em
  have he:=(QaJ n).E X Θ e fa ok h2
  have st:=Q7 h2 [] X.env
  have sa:∀H0 A0,PA X [e] (Qgb (tV X.K H0 A0 fa) Qgy):=λH0 A0=>QaQ (he H0 A0) Qco st
  exact λH0 A0=>(QfS (Qja PySem.F.plainAttrs_list PySem.F.slot_list_append PySem.F.type_list_append Qek (sp H0 A0) (sa H0 A0) hb (by rw[st];rfl) hl st rfl) rfl).mono λE σ H q=>QiL q
 match args,h with
 | [],h=>
  unfold Qdi at h
  dsimp only at h
  obtain⟨⟨x,pf⟩,h1,h⟩:=bind1 h
  obtain⟨sp,hb⟩:=base h1
  cases h
 | [e],h=>
  unfold Qdi at h
  dsimp only at h
  by_cases em:m= "append"
  ·rw[if_pos em]at h
   exact app em h
  rw[if_neg em]at h
  clear em
  clear app
  cases h
 | _::_::_,h=>exact nomatch (show(none:Option DS)=some _ from h)
end HS
namespace HS
open PySem PySem.Spec L2 PyProof.Rows
section
variable {K:PySem.W.Frag}{H0 H H':Hp}{A0:List Addr}{hs:List (V×D×List Addr)}{ρ:En}{F:Nat->List Addr}{σ:L2.St}{x i j:Nat}{ds es:List D}{a:Addr}{vs:List V}{v vn:V}{dn:D}
end
end HS
namespace HS
open PySem PySem.Spec L2 PyProof.Rows
mutual
noncomputable def QeB(n:Nat)(Θ:Th)(st:Stmt):Option DS:=match n with
 | 0=>none
 | n+1=>match st with
  | .Pass _=>some Qm
  | .Break _=>some Qiu
  | .Continue _=>some QiD
  | .Raise _ _ _=>some QH
  | .Return (some e) _=>(Qc n Θ e).map Q2
  | .Expr (.Constant (.str _) _ _) _=>some Qm
  | .Expr (.Call (.Attribute o m apos) args [] cpos) _=>if(apos.endLine == cpos.line)=true then Qdi n Θ o m args else none
  | .Expr (.Call (.Name x p) args [] cpos) _=>(Qc n Θ (.Call (.Name x p) args [] cpos)).map Qgo
  | .Assign [.Name x _] e _=>(Θ.Qa6 x).bind λi=>(Qc n Θ e).map λfa=>QU i (if QdX e=true then Qdp fa else fa)
  | .Assign [.Subscript a i _] e _=>(Qbq n Θ a).bind λq=>(Qc n Θ i).bind λfi=>(Qc n Θ e).map λfa=>Qia q.1 q.2 fi fa
  | .If c a b _=>(QL n Θ c).bind λg=>(QZ n Θ a).bind λf1=>(QZ n Θ b).map λf2=>sIf g f1 f2
  | .For tg iter body [] _=>(QeT Θ tg).bind λt=>(QcD n Θ tg iter).bind λfi=>(QZ n Θ body).map λfb=>Qck fi t fb
  | .Try a b c d p=>Θ.tr (.Try a b c d p)
  | _=>none
noncomputable def QZ(n:Nat)(Θ:Th)(sts:List Stmt):Option DS:=match n with
  | 0=>none
  | n+1=>match sts with
    | []=>some Qm
    | st::r=>
       (QeB n Θ st).bind λf=>(QZ n Θ r).map λg=>Qh f g
end
theorem QjE(h:Qc n Θ e=some f):Qjq e=false:=by
 cases n with
 | zero=>exact nomatch (show(none:Option DE)=some _ from h)
 | succ n=>cases e<;>first | rfl | (exact nomatch (show(none:Option DE)=some _ from h))
theorem Qkf(h:Qc n Θ (.ListComp elt gens scope pos)=some f):∃m tg iter ifs t fi ft fe,n=m+1/\gens=[⟨tg,iter,ifs,0⟩]/\QeT (inner Θ scope) tg=some t/\Qc7 Θ scope t=true∧
  QcD m Θ tg iter=some fi/\QbP m (inner Θ scope) ifs=some ft/\Qc m (inner Θ scope) elt=some fe/\f=Qax fi t (QcG Θ scope) ft fe:=by
 cases n with
 | zero=>exact nomatch (show(none:Option DE)=some _ from h)
 | succ n=>
  match gens,h with
  | [⟨tg,iter,ifs,k⟩],h=>
   by_cases hk:k=0
   ·subst hk
    (conv at h=>lhs;whnf)
    refine Qb h λt ht h=>?_
    split at h
    ·rename_i hc
     simp only[Zf]at hc
     refine Qb h λfi h1 h=>?_
     obtain⟨ft,fe,h2,h3,rfl⟩:=Qay h
     exact⟨n,tg,iter,ifs,t,fi,ft,fe,rfl,rfl,ht,hc.1,h1,h2,h3,rfl⟩
    ·cases h
   ·exfalso
    cases k with
    | ofNat k=>
     cases k with
     | zero=>exact hk rfl
     | succ k=>exact nomatch (show(none:Option DE)=some _ from h)
    | negSucc k=>exact nomatch (show(none:Option DE)=some _ from h)
  | [],h=>exact nomatch (show(none:Option DE)=some _ from h)
  | ⟨_,_,_,.ofNat 0⟩::_::_,h=>exact nomatch (show(none:Option DE)=some _ from h)
  | ⟨_,_,_,.ofNat (k+1)⟩::_::_,h=>exact nomatch (show(none:Option DE)=some _ from h)
  | ⟨_,_,_,.negSucc k⟩::_::_,h=>exact nomatch (show(none:Option DE)=some _ from h)
theorem Qkq(ok:Qt X Θ)(hx:Θ.Qa6 x=some i)(h:Qc n Θ e=some fa):S1 X (.Assign [.Name x p] e pos) (QU i fa):=by
 have hN:X.N.Nodup:=by rw[ok.N];exact ok.nd
 obtain⟨h1,h2,h3⟩:=Qb7 ok.toCtxB hx
 by_cases hc:QdA e=true
 ·have he:=(QaJ n).E X Θ e fa ok h
  exact Qfb λH0 A0=>Qfr hN h1 h2 (he H0 A0) (Qee hc) h3
 ·cases e with
  | ListComp elt gens scope cpos=>
   obtain⟨m,tg,iter,ifs,t,fi,ft,fe,rfl,rfl,ht,hco,g1,g2,g3,rfl⟩:=Qkf h
   obtain⟨S,cap,inn⟩:=Qfw ok hco
   obtain⟨i1,i2⟩:=(QaJ m).I X Θ tg iter fi ok g1
   exact QjQ hN h1 h2 h3 ok.calm S i1 cap (λcl C fp s3 H3=>⟨QgT (inn cl C fp s3 H3) ht,(QaJ m).Ts _ _ ifs ft (inn cl C fp s3 H3) g2,(QaJ m).E _ _ elt fe (inn cl C fp s3 H3) g3⟩) i2
  | SetComp _ _ _ _=>cases n<;>exact nomatch (show(none:Option DE)=some _ from h)
  | DictComp _ _ _ _ _=>cases n<;>exact nomatch (show(none:Option DE)=some _ from h)
  | _=>exact absurd rfl hc
theorem Qij(ok:Qt X Θ)(hx:Θ.Qa6 x=some i)(h:Qc n Θ e=some fa)(ha:QdX e=true):S1 X (.Assign [.Name x p] e pos) (QU i (Qdp fa)):=by
 have hN:X.N.Nodup:=by rw[ok.N];exact ok.nd
 obtain⟨h1,h2,h3⟩:=Qb7 ok.toCtxB hx
 have hc:QdA e=true:=by cases e<;>first | rfl | cases ha
 have he:=Qib ((QaJ n).E X Θ e fa ok h)
 exact Qfb λH0 A0=>Qfr hN h1 h2 (he H0 A0) (Qee hc) h3
theorem Qg0:swapsWithSole [.Subscript a i p] e l env=pure false:=by
 cases e<;>rfl
structure QkH (n:Nat):Prop where
 S:∀X Θ st f,Qt X Θ->QeB n Θ st=some f->S1 X st f
 Ss:∀X Θ sts f,Qt X Θ->QZ n Θ sts=some f->SS X sts f
theorem Qkz(ih:QkH n):∀X Θ st f,Qt X Θ->QeB (n+1) Θ st=some f->S1 X st f:=by
 intro X Θ st f ok h
 have hN:X.N.Nodup:=by rw[ok.N];exact ok.nd
 have E:=QaJ n
 cases st with
 | Pass pos=>change some Qm=some f at h;cases h;exact QjW
 | Break pos=>change some Qiu=some f at h;cases h;exact QiC
 | Continue pos=>change some QiD=some f at h;cases h;exact QjT
 | Raise a b pos=>change some QH=some f at h;cases h;exact Qh0
 | Return e pos=>
  cases e with
  | none=>exact nomatch (show(none:Option DS)=some _ from h)
  | some e=>
   change(Qc n Θ e).map Q2=some f at h
   obtain⟨fa,h1,rfl⟩:=Zd.mp h
   exact Qlg (E.E X Θ e fa ok h1)
 | Expr e pos=>
  cases e with
  | Constant c k p=>
   cases c with
   | str x=>
    change some Qm=some f at h
    cases h
    exact λH0 A0=>Qlt.mono λE σ H ⟨ρ,hs,F,o,rel,e,q⟩=>by cases e;exact q σ H F rel
   | _=>exact nomatch (show(none:Option DS)=some _ from h)
  | Call fn args kws cpos=>
   cases fn with
   | Attribute o m apos=>
    cases kws with
    | nil=>
     change(if(apos.endLine == cpos.line)=true then Qdi n Θ o m args else none)=some f at h
     split at h
     ·rename_i hl
      exact QiT ok h hl
     ·cases h
    | cons _ _=>exact nomatch (show(none:Option DS)=some _ from h)
   | Name x p=>
    cases kws with
    | nil=>
     change(Qc n Θ (.Call (.Name x p) args [] cpos)).map Qgo=some f at h
     obtain⟨fa,h1,rfl⟩:=Zd.mp h
     exact λH0 A0=>Qka (QfS (E.E X Θ _ fa ok h1 H0 A0) rfl)
    | cons _ _=>exact nomatch (show(none:Option DS)=some _ from h)
   | _=>exact nomatch (show(none:Option DS)=some _ from h)
  | _=>exact nomatch (show(none:Option DS)=some _ from h)
 | Assign ts e pos=>
  match ts,h with
  | [t],h=>
   cases t with
   | Name x p=>
    change((Θ.Qa6 x).bind λi=>(Qc n Θ e).map λfa=>QU i (if QdX e=true then Qdp fa else fa))=some f at h
    obtain⟨i,fa,h1,h2,rfl⟩:=Qay h
    split
    ·rename_i ha;exact Qij ok h1 h2 ha
    ·exact Qkq ok h1 h2
   | Subscript a i p=>
    change((Qbq n Θ a).bind λq=>(Qc n Θ i).bind λfi=>(Qc n Θ e).map λfa=>Qia q.1 q.2 fi fa)=some f at h
    refine Qb h λq h1 h=>?_
    obtain⟨fi,fa,h2,h3,rfl⟩:=Qay h
    obtain⟨sp,_⟩:=QcT n X Θ a q ok h1
    have ns:=QjE h2
    refine Qli (E.E X Θ e fa ok h3) sp (E.E X Θ i fi ok h2) λte to ti he ho hi=>Qlr he (Qk8 ho hi set_list ?_) Qg0 ?_ rfl
    ·intro v;cases i<;>first | rfl | (cases ns)
    ·cases e<;>rfl
   | _=>exact nomatch (show(none:Option DS)=some _ from h)
  | [],h=>exact nomatch (show(none:Option DS)=some _ from h)
  | t::_::_,h=>cases t<;>exact nomatch (show(none:Option DS)=some _ from h)
 | AugAssign t op e pos=>
  cases t with
  | _=>exact nomatch (show(none:Option DS)=some _ from h)
 | If c a b pos=>
  change((QL n Θ c).bind λg=>(QZ n Θ a).bind λf1=>(QZ n Θ b).map λf2=>sIf g f1 f2)=some f at h
  refine Qb h λg h1 h=>?_
  obtain⟨f1,f2,h2,h3,rfl⟩:=Qay h
  exact Qmi (E.T X Θ c g ok h1) (ih.Ss X Θ a f1 ok h2) (ih.Ss X Θ b f2 ok h3)
 | For tg iter body els pos=>
  cases els with
  | nil=>
   change((QeT Θ tg).bind λt=>(QcD n Θ tg iter).bind λfi=>(QZ n Θ body).map λfb=>Qck fi t fb)=some f at h
   refine Qb h λt h1 h=>?_
   obtain⟨fi,fb,h2,h3,rfl⟩:=Qay h
   obtain⟨i1,i2⟩:=E.I X Θ tg iter fi ok h2
   exact QlX ok.pass ok.calm i1 (QgT ok h1) (ih.Ss X Θ body fb ok h3) i2
  | cons _ _=>exact nomatch (show(none:Option DS)=some _ from h)
 | Try a b c d pos=>exact ok.tr _ _ h
 | _=>exact nomatch (show(none:Option DS)=some _ from h)
theorem Qjf:∀n,QkH n
 | 0=>⟨λ_ _ _ _ _ h=>(nomatch (show(none:Option DS)=some _ from h)),λ_ _ _ _ _ h=>(nomatch (show(none:Option DS)=some _ from h))⟩
 | n+1=>by
  have ih:=Qjf n
  refine⟨Qkz ih,λX Θ sts f ok h=>?_⟩
  match sts,h with
  | [],h=>change some Qm=some f at h;cases h;exact QlQ
  | st::r,h=>
   change((QeB n Θ st).bind λf=>(QZ n Θ r).map λg=>Qh f g)=some f at h
   obtain⟨fs,fr,h1,h2,rfl⟩:=Qay h
   exact Qkp (ih.S X Θ st fs ok h1) (ih.Ss X Θ r fr ok h2)
noncomputable def Qas(k:Nat)(ds:List D):En:=ds.map (λd=>some (d,d.flat))++List.replicate (k-ds.length) none
noncomputable def outD:Out->Option (D×Bool)
 | .rt d fr=>some (d,fr)
 | .nx _=>some (.non,true)
 | _=>none
noncomputable def Qw(k:Nat)(f:DS):Den:=λds=>(f (Qas k ds)).bind outD
theorem Rps.parts{K:PySem.W.Frag}{H:Hp}:∀{ds:List D}{vs:List V}{F:List Addr},Rps K H ds vs F→
  ∃Fs:List (List Addr),(∀L∈Fs,∀a∈L,a∈F)/\∀(i:Nat) (d:D),ds[i]? =some d->∃v,vs[i]? =some v/\Rp K H d v (Fs.getD i [])
 | [],_,_,h=>⟨[],λL hL=>by simp at hL,λi d e=>by simp at e⟩
 | d::ds,_,_,h=>by
  simp only[Rps]at h
  obtain⟨v,ws,F1,F2,rfl,rfl,r,q⟩:=h
  obtain⟨Fs,h1,h2⟩:=Rps.parts q
  refine⟨F1::Fs,λL hL a ha=>?_,λi d' e=>?_⟩
  ·rcases Zu.mp hL with rfl | hL
   ·exact Zc _ ha
   ·exact Zb _ (h1 L hL a ha)
  ·cases i with
   | zero=>simp at e;subst e;exact⟨v,by simp,by simpa using r⟩
   | succ i=>obtain⟨w,hw,hr⟩:=h2 i d' (by simpa using e);exact⟨w,by simpa using hw,by simpa using hr⟩
theorem QcN{k:Nat}{ds:List D}{i:Nat}{d:D}{b:Bool}(h:(Qas k ds)[i]? =some (some (d,b))):ds[i]? =some d/\b=d.flat:=by
 unfold Qas at h
 by_cases hi:i<ds.length
 ·rw[ZN (by simpa using hi),Zz]at h
  cases e:ds[i]? with
  | none=>rw[e]at h;cases h
  | some a=>rw[e]at h;cases h;exact⟨rfl,rfl⟩
 ·rw[Zax (by simpa using hi),ZaD]at h
  split at h<;>cases h
theorem Qhj{K:PySem.W.Frag}{H:Hp}{ds:List D}{vs:List V}{F:List Addr}{N:List Str}(r:Rps K H ds vs F):∃F0,Rel K H F [] (Qas N.length ds) F0 (start N vs) H:=by
 obtain⟨Fs,h1,h2⟩:=r.parts
 have hl:=r.length
 have src:∀i a,a∈Fs.getD i []->a∈F:=λi a ha=>by
  by_cases hi:i<Fs.length
  ·have:Fs.getD i []∈Fs:=by rw[Zag,List.getElem?_eq_getElem hi];exact List.getElem_mem hi
   exact h1 _ this a ha
  ·rw[Zag,ZD (by omega)]at ha;simp at ha
 refine⟨λi=>Fs.getD i [],?_,λi d b e=>?_,λi d e=>?_,λi d b e a ha=> .inr (src i a ha),λt ht=>absurd ht (by simp),Qj.refl _⟩
 ·unfold Qas L2.start;simp[hl]
 ·obtain⟨e1,_⟩:=QcN e
  obtain⟨v,hv,hr⟩:=h2 i d e1
  refine⟨v,?_,hr⟩
  have hi:i<vs.length:=(Ze.mp hv).1
  unfold L2.start
  rw[ZN (by simpa using hi),Zz,hv];rfl
 ·obtain⟨e1,e2⟩:=QcN e
  obtain⟨v,hv,hr⟩:=h2 i d e1
  have z:Fs.getD i []=[]:=hr.Qad e2.symm
  simp only[z]
  exact⟨(Qba d e2.symm).symm,Zay,λa ha=>by simp at ha,λ_ _ _ _ _ a ha=>by simp at ha,λ_ _ a ha=>by simp at ha⟩
section
variable (P:Program) (w:World) (K:PySem.W.Frag) (mg:Str->Option Value) (base:Heap)
def Known(k:Nat)(x:Str)(r:FnR):Prop:=∃f fd ps,Q1 P w K mg base CX0 k f fd ps (spV K r.n r.den)/\mg x=some (.ref f)/\PySem.W.keepIn K (.ref f)=true∧
 ∀m,m<=r.dfl.length->∃ds dvs,Binds K fd ps ds/\Qe dvs ds/\∀H,Rps K H (r.dfl.drop (r.dfl.length-m)) dvs []
def Qaw(k:Nat)(Γ:List (Str×FnR)):Prop:=∀x r,look x Γ=some r->Known P w K mg base k x r
structure QbT (cs:List (Str×Cn)):Prop where
 bn:∀x∈QeZ,mg x=none
 cs:∀x i,look x cs=some i->∃t,mg x=some (cnV i t)
end
section
variable {P:Program}{w:World}{K:PySem.W.Frag}{mg:Str->Option Value}{base:Heap}
theorem Qaw.nil{k:Nat}:Qaw P w K mg base k []:=λx r h=>by cases h
theorem Known.mono{j k:Nat}{x:Str}{r:FnR}(h:Known P w K mg base j x r)(hk:j<=k):Known P w K mg base k x r:=by
 obtain⟨f,fd,ps,h1,h2⟩:=h
 exact⟨f,fd,ps,h1.mono hk,h2⟩
theorem Qaw.cons{k:Nat}{Γ:List (Str×FnR)}{x:Str}{r:FnR}(t:Qaw P w K mg base k Γ)(h:Known P w K mg base (k+1) x r):Qaw P w K mg base (k+1) ((x,r)::Γ):=λy q e=>by
 unfold look at e
 split at e
 ·rename_i z;cases e;subst z;exact h
 ·exact(t y q e).mono (ZaB _)
noncomputable def namesOf(sc:Scope):List Str:=(sc.names.filter λy=>Qi3 y.2).map (·.1)
noncomputable def QdW(st:Stmt)(Γ:List (Str×FnR))(cs:List (Str×Cn)):Th:=⟨namesOf (Qd st),(Qd st).names,Γ,cs,λ_=>none⟩
theorem QjI{CX:CXT}{xe:Value->Shared->Prop}{st:Stmt}{ps:List Str}{qual:Str}{f:Addr}{cdv:Value}{A:Around}{outer:List Env}{s:Shared}{H:Hp}{E:XK}{k:Nat}{Γ:List (Str×FnR)}{cs:List (Str×Cn)}(S:Qat (namesOf (Qd st)) ps (Qd st))(M:QbT mg cs)(tab:Qaw P w K mg base k Γ)
  (hr:Qx k (A.deeper (envOfC qual (Qd st) s.heap.objs.size f cdv))) (hp:PassesOwn (model P w) (A.deeper (envOfC qual (Qd st) s.heap.objs.size f cdv)) (envOfC qual (Qd st) s.heap.objs.size f cdv) xe):
  Qt ((Qcl CX P w K mg base (namesOf (Qd st)) qual (Qd st) f cdv A outer s H E).QaS xe) (QdW st Γ cs) where
 N:=rfl
 nd:=S.nd
 lc:=λx h=>by rw[QN]at h;exact h
 ce:=λx h=>by rw[QN]at h;exact⟨h,rfl⟩
 fe:=λx h=>by rw[QN]at h;exact absurd rfl (S.nofree _ (ZG h))
 gl:=λx h=>by rw[QN]at h;exact h
 calm:=decide_eq_true hr.hd
 pass:=hp
 tr:=λ_ _ h=>by cases h
 units:=hr.units
 mg:=M.bn
 fns:=λx r h=>by
  obtain⟨f',fd,ps',h1,h2,h3,h4⟩:=tab x r h
  exact⟨k,f',fd,ps',h1,hr,h2,h3,h4⟩
 cs:=M.cs
theorem Qlm{st:Stmt}{ps:List Str}{qual:Str}{f:Addr}{cdv:Value}{A:Around}{outer:List Env}{s:Shared}{H:Hp}{E:XK}{k:Nat}{Γ:List (Str×FnR)}{cs:List (Str×Cn)}(S:Qat (namesOf (Qd st)) ps (Qd st))(M:QbT mg cs)(tab:Qaw P w K mg base k Γ)
  (hr:Qx k (A.deeper (envOfC qual (Qd st) s.heap.objs.size f cdv))):Qt (Qcl CX0 P w K mg base (namesOf (Qd st)) qual (Qd st) f cdv A outer s H E).nox (QdW st Γ cs):=QjI S M tab hr PassesOwn.never
theorem Qhi{x qual:Str}{st:Stmt}{f:Addr}{fd:FuncData}{ps:List Str}{k n:Nat}{Γ:List (Str×FnR)}{cs:List (Str×Cn)}{g:DS}(F:Fun K x qual st f fd)(S:Qat (namesOf (Qd st)) ps (Qd st))(M:QbT mg cs)(tab:Qaw P w K mg base k Γ)
  (hc:QZ n (QdW st Γ cs) (QY st)=some g):Q1 P w K mg base CX0 (k+1) f fd ps (spV K ps.length (Qw (namesOf (Qd st)).length g)):=by
 refine F.ok S (Qj4 rfl) λcdv A outer s H vs Q E hr h=>?_
 obtain⟨ds,L,d,fr,rps,hl,hd,q⟩:=h
 refine⟨_,(Qjf n).Ss _ _ _ g (Qlm S M tab hr) hc H L,?_⟩
 obtain⟨F0,rel⟩:=Qhj (N:=namesOf (Qd st)) rps
 unfold Qw at hd
 refine Qb hd λo ho hd=>?_
 refine⟨_,[],F0,o,rel,ho,?_⟩
 cases o with
 | nx ρ=>
  cases hd
  exact λσ H' F' rel'=>q .non H' [] ⟨rel'.same,.QhK,λa ha=>by simp at ha,λ_=>⟨Zay,rfl,λa ha=>by simp at ha⟩⟩
 | bk ρ=>cases hd
 | ct ρ=>cases hd
 | rt d' fr'=>
  cases hd
  exact λv H' G r=>q v H' G r
structure Fact (K:PySem.W.Frag) (x:Str) (st:Stmt):Prop where
 ex:∃f fd,Fun K x x st f fd/\PySem.W.nsIn K mainGlobals x=some (some (.ref f))
theorem fact_mk{x:Str}{st:Stmt}{f:Addr}{oc:Value}{od an:Option Addr}{osl:Array (Option Value)}{kV doc pm cdv ct:Value}(a:PySem.W.nsIn K mainGlobals x=some (some (.ref f)))(l:K.lookup f=some ⟨oc,od,.func (PySem.W.fnOf x x (Qbb st) (QY st) (Qd st) .none kV doc pm an cdv ct),osl⟩)
  (c:PySem.W.codeIn K cdv x=true) (k:PySem.W.keepIn K (.ref f)=true):Fact K x st:=⟨f,_,QkC l c k,a⟩
theorem l0{α:Type}{P:List α->Prop}(h:P []):∀l:List α,l.length=0->P l:=λl e=>(List.length_eq_zero_iff.mp e).symm▸h
theorem lc{α:Type}{n:Nat}{P:List α->Prop}(h:∀a,∀l:List α,l.length=n->P (a::l)):∀l:List α,l.length=n+1->P l
 | a::l,e=>h a l (Nat.succ.inj e)
def QT(x:Str)(st:Stmt)(ps:List Str):Prop:=∀(kV doc pm:Value) (an:Option Addr) (cdv ct:Value) (us:List Value),us.length=ps.length->bindArgs (PySem.W.fnOf x x (Qbb st) (QY st) (Qd st) .none kV doc pm an cdv ct) ⟨us,[]⟩=pure (ps.zip us)
theorem QaC{h:Heap}{x:Str}{st:Stmt}{ps:List Str}{k n:Nat}{Γ:List (Str×FnR)}{cs:List (Str×Cn)}{g:DS}(X:K.In h)(G:h.Ns mainGlobals mg)(F:Fact K x st)(S:Qat (namesOf (Qd st)) ps (Qd st))(B:QT x st ps)(M:QbT mg cs)(tab:Qaw P w K mg base k Γ)
  (hc:QZ n (QdW st Γ cs) (QY st)=some g):Known P w K mg base (k+1) x ⟨ps.length,[],Qw (namesOf (Qd st)).length g⟩:=by
 obtain⟨f,fd,Fn,a⟩:=F.ex
 refine⟨f,fd,ps,Qhi Fn S M tab hc,ZaC X G a,Fn.kp,λm hm=>⟨[],[],Fn.binds (B ·),.nil,λH=>by simp[Rps]⟩⟩
end
end HS
namespace HS
open PySem PySem.Spec L2 PyProof.Rows
theorem Qih{l:PySem.W.OpenLaw}{k:Nat}{q:Program}{loose:List Str}{XP:(Str->Option Value)->Heap->Prop}{YP:World->Heap->Prop}{d:DefRec}{K:Params->PySem.W.Frag}{den:Den}{x:Str}
  (hn:l.most=some 63) (hdf:d.params.defaults=[]) (hr:Qx k callerA) (hY:∀(w:World) (h:Heap),YP w h->(K w.params).In h)
  (hden:∀ns:List Int,ns.length<=63->∃fr,den [.lst (ns.map .int)]=some (.bl true,fr))
  (F:∀(w:World) (mg:Str->Option Value) (fa:Addr) (h:Heap),(K w.params).In h->h.Ns mainGlobals mg->mg d.name=some (.ref fa)→
   ∃fd:FuncData,(∀(s:Shared) (u:Value),BindsTo s fd ⟨[u],[]⟩ [(x,u)])∧
    ∀base:Heap,(K w.params).In base->base.Ns mainGlobals mg->Q1 l.prog w (K w.params) mg base CX0 k fa fd [x] (spV (K w.params) 1 den)):
  PySem.W.WalkO q loose XP YP l.row.toRowW d [] (λf vs=>PySem.call f vs):=by
 refine Att.QcL hn hdf λw s₀ s₁ mg mb fa o pm cd doc a vs ns G Y ho hd hcd hmg hobj hints hlen hg=>?_
 have KX:=hY w _ Y
 obtain⟨fd,hb,hF⟩:=F w mg fa _ KX G.T.g hmg
 have h63:(63:Nat)<=sizeLine:=by decide
 refine QeM KX G.T.g G.T.b G.T.builtins G.T.nolimit hg hobj hints (Zr hlen h63) hr hF hb (λH hO hS=>?_) λH e s' z=>z
 have fx:Fix (K w.params) H a (ns.map V.int):=by
  rcases hS with(h | ⟨o,h⟩) | ⟨o,its,n,hk,hc,hdn,hda,hz,rv⟩
  ·rcases hO a with z | ⟨o,xs,z⟩<;>rw[h]at z<;>cases z
  ·exact .inl ⟨o,h⟩
  ·have e:=KX a o hk
   rw[hobj]at e
   cases e
   cases hda
   exact .inr ⟨vs,_,hk,by rw[Zv];exact Zr hlen h63,by simpa using rv⟩
 obtain⟨fr,hfr⟩:=hden ns hlen
 have rp:Rp (K w.params) H (.lst (ns.map .int)) (.ref a) []:=by
  simp only[Rp]
  refine⟨by rw[Zv];exact Zr hlen h63,a,_,rfl,.inr ⟨fx,?_⟩⟩
  have gen:∀ns:List Int,Rps (K w.params) H (ns.map .int) (ns.map .int) []:=by
   intro ns
   induction ns with
   | nil=>simp[Rps]
   | cons n ns ih=>simp only[Zl,Rps];exact⟨_,_,[],[],rfl,rfl,.int_mk,ih⟩
  exact gen ns
 refine⟨[.lst (ns.map .int)],[],.bl true,fr,?_,rfl,hfr,λv H' G r=>r.rp.Qby⟩
 simp only[Rps]
 exact⟨_,_,[],[],rfl,rfl,rp,rfl,rfl⟩
theorem QmM{P:Program}{w:World}{K:PySem.W.Frag}{mg:Str->Option Value}{h:Heap}{x y:Str}{st:Stmt}{fa:Addr}{k n:Nat}{Γ:List (Str×FnR)}{cs:List (Str×Cn)}{g:DS}(X:K.In h)(G:h.Ns mainGlobals mg)(hmg:mg x=some (.ref fa))
  (F:Fact K x st) (S:Qat (namesOf (Qd st)) [y] (Qd st)) (B:QT x st [y]) (M:QbT mg cs) (tab:∀base:Heap,Qaw P w K mg base k Γ) (hc:QZ n (QdW st Γ cs) (QY st)=some g):
  ∃fd:FuncData,(∀(s:Shared) (u:Value),BindsTo s fd ⟨[u],[]⟩ [(y,u)])∧
    ∀base:Heap,K.In base->base.Ns mainGlobals mg->Q1 P w K mg base CX0 (k+1) fa fd [y] (spV K 1 (Qw (namesOf (Qd st)).length g)):=by
 obtain⟨f,fd,Fn,a⟩:=F.ex
 have e:=hmg.symm.trans (ZaC X G a)
 cases e
 refine⟨fd,λs u=>?_,λbase _ _=>Qhi Fn S M (tab base) hc⟩
 obtain⟨oc,od,kV,doc,pm,an,cdv,ct,osl,rfl,lk,hcd⟩:=Fn.ex
 exact .of_eq (B kV doc pm an cdv ct [u] rfl)
end HS
namespace HS
open PySem PySem.Spec PyProof.Rows L2
section
variable {P:Program}{w:World}{K:PySem.W.Frag}{mg:Str->Option Value}{base:Heap}
end
end HS
namespace HS
open PySem L2
noncomputable def pairD(p:Int×Int):D:= .tup [.int p.1,.int p.2]
noncomputable def Qh2(p:Int×Int×Bool):D:= .tup [.int p.1,.int p.2.1,.bl p.2.2]
noncomputable def Qa(ns:List Int):D:= .lst (ns.map .int)
noncomputable def QlE(ps:List (Int×Int)):D:= .lst (ps.map pairD)
theorem Qa1{α:Type}{f:α->D}(h:∀a,(f a).flat=true):∀l:List α,Qq (l.map f)=true
 | []=>rfl
 | a::l=>by simp[Qq,h a,Qa1 h l]
@[simp] theorem Qnz(i:Int):(D.int i).flat=true:=rfl
@[simp] theorem QnT(i:Bool):(D.bl i).flat=true:=rfl
@[simp] theorem QnK:D.non.flat=true:=rfl
@[simp] theorem Qnf(x:Str):(D.str x).flat=true:=rfl
@[simp] theorem QnR(xs:List D):(D.lst xs).flat=false:=rfl
@[simp] theorem QnC(xs:List D):(D.tup xs).flat=Qq xs:=rfl
@[simp] theorem Qm8:Qq []=true:=rfl
@[simp] theorem Qms(d:D)(ds:List D):Qq (d::ds)=(d.flat && Qq ds):=rfl
@[simp] theorem Qna(p:Int×Int):(pairD p).flat=true:=rfl
@[simp] theorem Qnl(p:Int×Int×Bool):(Qh2 p).flat=true:=rfl
@[simp] theorem Qm7(ns:List Int):(Qa ns).flat=false:=rfl
@[simp] theorem QmK(ns:List (Int×Int)):(QlE ns).flat=false:=rfl
@[simp] theorem Qmd(ps:List (Int×Int)):Qq (ps.map pairD)=true:=Qa1 (λ_=>rfl) _
@[simp] theorem Qmw(ps:List (Int×Int×Bool)):Qq (ps.map Qh2)=true:=Qa1 (λ_=>rfl) _
@[simp] theorem Qdg(ns:List Int):Qq (ns.map .int)=true:=Qa1 (λ_=>rfl) _
@[simp] theorem Qnb(xs ys:List D):Qq (xs++ys)=(Qq xs && Qq ys):=Qbd xs ys
def Run(f:DS)(ρ:En)(Q:Out->Prop):Prop:=∃o,f ρ=some o/\Q o
noncomputable def Nx(Q:En->Prop):Out->Prop
 | .nx ρ=>Q ρ
 | _=>False
noncomputable def Rt(Q:D->Bool->Prop):Out->Prop
 | .rt d fr=>Q d fr
 | _=>False
theorem Run.mono(h:Run f ρ Q)(m:∀o,Q o->Q' o):Run f ρ Q':=let ⟨o,h1,h2⟩:=h;⟨o,h1,m o h2⟩
theorem Qo(h:Q (.nx ρ)):Run Qm ρ Q:=⟨_,rfl,h⟩
theorem run_seq(h:Run f ρ (Nx λρ'=>Run g ρ' Q)):Run (Qh f g) ρ Q:=by
 obtain⟨o,h1,h2⟩:=h
 cases o with
 | nx ρ'=>
  obtain⟨o',h3,h4⟩:=h2
  exact⟨o',by simp[Qh,h1,h3],h4⟩
 | _=>exact False.elim h2
theorem Qy(h:Run f ρ λo=>match o with | .nx ρ'=>Run g ρ' Q | o=>Q o):Run (Qh f g) ρ Q:=by
 obtain⟨o,h1,h2⟩:=h
 cases o with
 | nx ρ'=>
  obtain⟨o',h3,h4⟩:=h2
  exact⟨o',by simp[Qh,h1,h3],h4⟩
 | bk ρ'=>exact⟨_,by simp[Qh,h1],h2⟩
 | ct ρ'=>exact⟨_,by simp[Qh,h1],h2⟩
 | rt d fr=>exact⟨_,by simp[Qh,h1],h2⟩
theorem QB(h:fa ρ=some r)(q:Q (.nx (asg i r ρ))):Run (QU i fa) ρ Q:=⟨_,by simp[QU,h],q⟩
theorem Qf7(h:fa ρ=some r)(q:Q (.rt r.d (r.norm.fr && decide r.norm.M.Nodup))):Run (Q2 fa) ρ Q:=⟨_,by simp[Q2,h],q⟩
theorem QI(h:g ρ=some b)(q1:b=true->Run f1 ρ Q)(q2:b=false->Run f2 ρ Q):Run (sIf g f1 f2) ρ Q:=by
 cases b with
 | true=>obtain⟨o,h1,h2⟩:=q1 rfl;exact⟨o,by simp[sIf,h,h1],h2⟩
 | false=>obtain⟨o,h1,h2⟩:=q2 rfl;exact⟨o,by simp[sIf,h,h1],h2⟩
theorem Qbl(h:Run f (Qas k ds) (Rt λd' fr'=>d'=d/\fr'=fr)):Qw k f ds=some (d,fr):=by
 obtain⟨o,h1,h2⟩:=h
 unfold Qw
 cases o with
 | rt d' fr'=>obtain⟨rfl,rfl⟩:=h2;rw[h1];rfl
 | _=>exact False.elim h2
theorem QeJ{α:Type}{t:Tg}{fb:DS}{toD:α->D}{Q:Out->Prop}(I:Nat->En->Prop):∀(xs ys:List α) (ρ:En),I ys.length ρ→
  (∀i x ρ,(ys++xs)[i]? =some x->ys.length<=i->I i ρ->∃ρ1,Q5 t (toD x) ρ=some ρ1/\Run fb ρ1 λo=>match o with | .nx ρ2=>I (i+1) ρ2 | .ct ρ2=>I (i+1) ρ2 | .bk ρ2=>Q (.nx ρ2) | .rt d fr=>Q (.rt d fr))→
  (∀ρ,I (ys++xs).length ρ->Q (.nx ρ))->Run (Qaz t fb (xs.map toD)) ρ Q
 | [],ys,ρ,h0,_,fin=>⟨_,rfl,fin ρ (by simpa using h0)⟩
 | x::xs,ys,ρ,h0,turn,fin=>by
  obtain⟨ρ1,h1,o,h2,h3⟩:=turn ys.length x ρ (by simp) (Zj _) h0
  have next:∀ρ2,I (ys.length+1) ρ2->Run (Qaz t fb (xs.map toD)) ρ2 Q:=λρ2 hi=>
   QeJ I xs (ys++[x]) ρ2 (by simpa using hi) (λi y ρ' e hl=>turn i y ρ' (by simpa using e) (by simp at hl;omega)) (λρ' h=>fin ρ' (by simpa using h))
  cases o with
  | nx ρ2=>obtain⟨o',e1,e2⟩:=next ρ2 h3;exact⟨o',by simp[Qaz,h1,h2,e1],e2⟩
  | ct ρ2=>obtain⟨o',e1,e2⟩:=next ρ2 h3;exact⟨o',by simp[Qaz,h1,h2,e1],e2⟩
  | bk ρ2=>exact⟨_,by simp[Qaz,h1,h2],h3⟩
  | rt d fr=>exact⟨_,by simp[Qaz,h1,h2],h3⟩
theorem QdK{α:Type}{fi:DI}{t:Tg}{fb:DS}{toD:α->D}{ρ:En}{ir:IR}{Q:Out->Prop}(xs:List α)(I:Nat->En->Prop)(h:fi ρ=some ir)(hx:ir.items=xs.map toD)(h0:I 0 (QaG ir.M ρ))
  (turn:∀i x ρ,xs[i]? =some x->I i ρ->∃ρ1,Q5 t (toD x) ρ=some ρ1/\Run fb ρ1 λo=>match o with | .nx ρ2=>I (i+1) ρ2 | .ct ρ2=>I (i+1) ρ2 | .bk ρ2=>Q (.nx ρ2) | .rt d fr=>Q (.rt d fr))
  (fin:∀ρ,I xs.length ρ->Q (.nx ρ)):Run (Qck fi t fb) ρ Q:=by
 obtain⟨o,h1,h2⟩:=QeJ (t:=t) (fb:=fb) (toD:=toD) (Q:=Q) I xs [] (QaG ir.M ρ) h0 (λi x ρ e _=>turn i x ρ (by simpa using e)) (λρ h=>fin ρ (by simpa using h))
 exact⟨o,by simp[Qck,h,hx,h1],h2⟩
theorem Qeq{α:Type}{t:Tg}{ft:DT}{fe:DE}{ρc:En}{toD:α->D}{keep:α->Bool}{out:α->D}:∀(xs:List α) (acc:List D),
  (∀x∈xs,∃ρ1,Q5 t (toD x) ρc=some ρ1/\ft ρ1=some (keep x)/\(keep x=true->∃r,fe ρ1=some r/\r.d=out x/\r.norm.fr=true))→
  (xs.map toD).foldlM (Qbn t ft fe ρc) (acc,true)=some (acc++(xs.filter keep).map out,true)
 | [],acc,_=>by simp
 | x::xs,acc,h=>by
  obtain⟨ρ1,h1,h2,h3⟩:=h x Zi
  have ih:=λacc=>Qeq xs acc (λy hy=>h y (Za _ hy))
  cases hk:keep x with
  | false=>
   have e:Qbn t ft fe ρc (acc,true) (toD x)=some (acc,true):=by simp[Qbn,h1,h2,hk]
   simp[ZaE,e,ih,hk]
  | true=>
   obtain⟨r,h4,h5,h6⟩:=h3 hk
   have e:Qbn t ft fe ρc (acc,true) (toD x)=some (acc++[out x],true):=by simp[Qbn,h1,h2,hk,h4,h5,h6]
   simp[ZaE,e,ih,hk]
theorem Qko{α:Type}{fi:DI}{t:Tg}{cap:List (Option Nat)}{ft:DT}{fe:DE}{ρ:En}{ir:IR}{toD:α->D}{keep:α->Bool}{out:α->D}(xs:List α)(h:fi ρ=some ir)(hx:ir.items=xs.map toD)
  (turn:∀x∈xs,∃ρ1,Q5 t (toD x) (Qa8 cap ρ)=some ρ1/\ft ρ1=some (keep x)/\(keep x=true->∃r,fe ρ1=some r/\r.d=out x/\r.norm.fr=true)):
  Qax fi t cap ft fe ρ=some ⟨.lst ((xs.filter keep).map out),true,[]⟩:=by
 unfold Qax
 rw[h,Zh,hx,Qeq xs [] turn]
 simp
theorem QbZ{α:Type}{fi:DI}{t:Tg}{cap:List (Option Nat)}{fe:DE}{ρ:En}{ir:IR}{toD:α->D}{out:α->D}(xs:List α)(h:fi ρ=some ir)(hx:ir.items=xs.map toD)
  (turn:∀x∈xs,∃ρ1,Q5 t (toD x) (Qa8 cap ρ)=some ρ1/\∃r,fe ρ1=some r/\r.d=out x/\r.norm.fr=true):
  Qax fi t cap Qbr fe ρ=some ⟨.lst (xs.map out),true,[]⟩:=by
 have:=Qko (keep:=λ_=>true) (ft:=Qbr) xs h hx (cap:=cap) (t:=t) (fe:=fe) (out:=out) λx hx=>by
  obtain⟨ρ1,h1,h2⟩:=turn x hx
  exact⟨ρ1,h1,rfl,λ_=>h2⟩
 rw[this,List.filter_eq_self.mpr λ_ _=>rfl]
@[simp] theorem Qnu(d:D):R.norm ⟨d,true,[]⟩=⟨d,true,[]⟩:=by unfold R.norm;split<;>rfl
@[simp] theorem QnS(i:Nat)(d:D)(ρ:En):asg i ⟨d,true,[]⟩ ρ=ρ.set i (some (d,true)):=by unfold asg;simp[kill]
@[simp] theorem QnY(d:D)(ρ:En):dC d ρ=some ⟨d,true,[]⟩:=rfl
theorem Qac{g:D->D->Option D}{fa fb:DE}{ρ:En}{ra rb:R}{d:D}(ha:fa ρ=some ra)(hb:fb ρ=some rb)(h:g ra.d rb.d=some d):dOp g fa fb ρ=some ⟨d,true,[]⟩:=by simp[dOp,ha,hb,h]
theorem Qan{fa:DE}{fs:DA}{ρ:En}{r:R}{rs:RA}(ha:fa ρ=some r)(hs:fs ρ=some rs):Qf fa fs ρ=some ⟨r.d::rs.ds,r.fr && rs.fr,r.M++rs.M⟩:=by simp[Qf,ha,hs]
@[simp] theorem Qbg(ρ:En):Qk ρ=some ⟨[],true,[]⟩:=rfl
noncomputable def vf(d:D)(b:Bool)(i:Nat):R:=if d.flat then⟨d,true,[]⟩else if b then⟨d,true,[i]⟩else⟨d,false,[]⟩
@[simp] theorem Qn0(d:D)(b:Bool)(i:Nat):(vf d b i).d=d:=by unfold vf;split;rfl;split<;>rfl
@[simp] theorem Qim(i j:Int)(h:0<=j):Qcv i j=i % j:=by unfold Qcv;rw[if_pos h]
@[simp] theorem Qis(i j:Int)(h:0<=j):Qcq i j=i / j:=by unfold Qcq;rw[if_pos h]
theorem Qjt{i j:Int}(h:i.natAbs<2^64):Qa5 i j=true:=by unfold Qa5;simp[h]
theorem Qf2{i j:Int}(h:j.natAbs<2^64):Qa5 i j=true:=by unfold Qa5;simp[h]
theorem Qml:(sizeLine:Nat)=16777216:=sizeLine_eq
noncomputable def Qld(m:Nat)(f:Nat->Int):D:= .lst ((List.range m).map λi=> .int (f i))
noncomputable def QnD(m n:Nat)(f:Nat->Nat->Int):D:= .lst ((List.range m).map λi=>Qld n (f i))
@[simp] theorem Qnw(m:Nat)(f:Nat->Int):(Qld m f).flat=false:=rfl
@[simp] theorem QnQ(m n:Nat)(f:Nat->Nat->Int):(QnD m n f).flat=false:=rfl
@[simp] theorem Qm9(m:Nat)(f:Nat->Int):Qq ((List.range m).map λi=>D.int (f i))=true:=Qa1 (f:=λi=>D.int (f i)) (λ_=>rfl) _
noncomputable def up(f:Nat->Int)(i:Nat)(v:Int):Nat->Int:=λj=>if j=i then v else f j
noncomputable def up2(f:Nat->Nat->Int)(i j:Nat)(v:Int):Nat->Nat->Int:=λk=>if k=i then up (f k) j v else f k
theorem QjM{n:Nat}{i:Int}(h0:0<=i)(h:i<n):ixN n i=some i.toNat:=by
 unfold ixN;rw[if_pos (by omega),if_pos (by omega)]
theorem QjA{α:Type}{xs:List α}{i:Int}(h0:0<=i)(h:i<xs.length):atI xs i=xs[i.toNat]? :=by
 unfold atI;rw[QjM h0 h];rfl
theorem Qak(h:fa ρ=some r)(q:Q r.d (r.norm.fr && decide r.norm.M.Nodup)):Run (Qh (Q2 fa) g) ρ (Rt Q):=Qy (Qf7 h q)
theorem QC(h:fs ρ=some r)(hd:den (r.ds++dfl)=some (d,true))(hl:r.ds.length+dfl.length=n):QE n den dfl fs ρ=some ⟨d,true,[]⟩:=by
 unfold QE
 rw[h,Zh,if_pos hl,hd]
 simp
theorem QbI(h:fa ρ=some r)(e:r.d= .lst xs):Q8 fa ρ=some ⟨xs,r.M⟩:=by
 unfold Q8
 rw[h,Zh,e]
noncomputable def stepT(m:Nat)(f:Nat->Nat->Int)(s:Int×Int):Nat->Nat->Int:=
 let f1:=if s.1<m then up2 f s.1.toNat s.1.toNat (f s.1.toNat s.1.toNat-1)else f
 if s.1<m/\s.2<m then up2 f1 s.1.toNat s.2.toNat (f1 s.1.toNat s.2.toNat+1)else f1
noncomputable def QaE(m:Nat)(S:List (Int×Int)):Nat->Nat->Int:=S.foldl (stepT m) λ_ _=>0
noncomputable def hit(i j:Nat)(s:Int×Int):Int:=(if s.1=i/\s.2=j then 1 else 0)-(if s.1=i/\i=j then 1 else 0)
theorem QfK:up2 f a b v i j=if i=a/\j=b then v else f i j:=by
 unfold up2 up
 by_cases h1:i=a
 ·by_cases h2:j=b
  ·simp[h1,h2]
  ·simp[h1,h2]
 ·simp[h1]
theorem QhS(hi:i<m)(hj:j<m)(h1:0<=s.1)(h2:0<=s.2):stepT m f s i j=f i j+hit i j s:=by
 unfold stepT hit
 have e1:(s.1=(i:Int))↔(i=s.1.toNat):=by omega
 have e2:(s.2=(j:Int))↔(j=s.2.toNat):=by omega
 simp only[e1,e2]
 by_cases c1:s.1<(m:Int)
 ·by_cases c2:s.2<(m:Int)
  ·simp only[c1,c2,and_self,if_true,QfK]
   generalize s.1.toNat=a
   generalize s.2.toNat=b
   by_cases d1:i=a
   ·subst d1
    by_cases d2:j=b
    ·subst d2
     by_cases d3:i=j
     ·subst d3;simp
     ·have d4:¬j=i:=λz=>d3 z.symm
      simp[d3,d4]
    ·by_cases d3:i=j
     ·subst d3;simp[d2];omega
     ·have d4:¬j=i:=λz=>d3 z.symm
      simp[d2,d3,d4]
   ·simp[d1]
  ·have d2:¬(j=s.2.toNat):=by omega
   simp only[c1,c2,and_false,if_false,if_true,QfK,d2]
   generalize s.1.toNat=a
   by_cases d1:i=a
   ·subst d1
    by_cases d3:i=j
    ·subst d3;simp;omega
    ·have d4:¬j=i:=λz=>d3 z.symm
     simp[d3,d4]
   ·simp[d1]
 ·have d1:¬(i=s.1.toNat):=by omega
  simp[c1,d1]
theorem Qel(hi:i<m)(hj:j<m):∀(S:List (Int×Int)) (f:Nat->Nat->Int),(∀s∈S,0<=s.1/\0<=s.2)->S.foldl (stepT m) f i j=f i j+(S.map (hit i j)).sum
 | [],f,_=>by simp
 | s::S,f,h=>by
  obtain⟨h1,h2⟩:=h s Zi
  rw[List.foldl_cons,Qel hi hj S _ (λt ht=>h t (Za _ ht)),QhS hi hj h1 h2,Zl,ZQ]
  omega
theorem Qb2(hi:i<m)(hj:j<m)(h:∀s∈S,0<=s.1/\0<=s.2):QaE m S i j=(S.map (hit i j)).sum:=by
 unfold QaE
 rw[Qel hi hj S _ h];simp
noncomputable def isI(i:Nat)(a:Int):Int:=if a=i then 1 else 0
noncomputable def QgO(R L:List (Int×Int))(i:Nat):Int:=(R.map λr=>isI i r.1+isI i r.2).sum+(L.map λl=>isI i l.1).sum
theorem sum_neg(S:List (Int×Int))(i:Nat)(h:∀s∈S,s.1≠s.2):(S.map (hit i i)).sum= -(S.map λs=>isI i s.1).sum:=by
 induction S with
 | nil=>rfl
 | cons s S ih=>
  rw[Zl,ZQ,ih λt ht=>h t (Za _ ht),Zl,ZQ]
  have hn:=h s Zi
  unfold hit isI
  by_cases e:s.1=(i:Int)
  ·have:¬(s.2=(i:Int)):=λz=>hn (e.trans z.symm)
   simp[e,this];omega
  ·simp[e]
noncomputable def QaK(R L:List (Int×Int)):List (Int×Int):=R++R.map Prod.swap++L
theorem QhF(R L:List (Int×Int))(i:Nat):((QaK R L).map λs=>isI i s.1).sum=QgO R L i:=by
 unfold QaK QgO
 rw[ZM,ZM,Zav,Zav]
 have:(R.map λr=>isI i r.1+isI i r.2).sum=(R.map λs=>isI i s.1).sum+((R.map Prod.swap).map λs=>isI i s.1).sum:=by
  induction R with
  | nil=>rfl
  | cons r R ih=>simp only[Zl,ZQ,ih,Prod.fst_swap];omega
 omega
def Good(m:Nat)(s:Int×Int):Prop:=0<=s.1/\0<=s.2/\s.1<=m/\s.2<=m/\s.1≠s.2
theorem Qdl{m:Nat}{R L:List (Int×Int)}(hR:∀s∈R,Good m s)(hL:∀s∈L,Good m s):∀s∈QaK R L,Good m s:=λs hs=>by
 unfold QaK at hs
 rcases Zx.mp hs with hs | hs
 ·rcases Zx.mp hs with hs | hs
  ·exact hR s hs
  ·obtain⟨t,ht,rfl⟩:=Zy.mp hs
   obtain⟨h1,h2,h3,h4,h5⟩:=hR t ht
   exact⟨h2,h1,h4,h3,λz=>h5 z.symm⟩
 ·exact hL s hs
theorem QfV(a b:Int):deq (.int a) (.int b)=decide (a=b):=by
 show PyData.eqv (.int a) (.int b)=_
 unfold PyData.eqv
 exact Bool.beq_eq_decide_eq a b
theorem Qhy(ha:fa ρ=some ra)(ea:ra.d= .int a)(hb:fb ρ=some rb)(eb:rb.d= .int b):dOp gEq fa fb ρ=some ⟨.bl (decide (a=b)),true,[]⟩:=by
 refine Qac ha hb ?_
 rw[ea,eb]
 show some (D.bl (deq (.int a) (.int b)))=_
 rw[QfV]
theorem QhL(ha:fa ρ=some ra)(ea:ra.d= .int a)(hb:fb ρ=some rb)(eb:rb.d= .int b):dOp gNe fa fb ρ=some ⟨.bl (!decide (a=b)),true,[]⟩:=by
 refine Qac ha hb ?_
 rw[ea,eb]
 show some (D.bl (!deq (.int a) (.int b)))=_
 rw[QfV]
theorem Qlz(ha:fa ρ=some ⟨.bl a,true,[]⟩)(hb:fb ρ=some ⟨.bl b,true,[]⟩):Qfj fa fb ρ=some ⟨.bl (a && b),true,[]⟩:=by
 unfold Qfj
 rw[ha]
 cases a<;>simp[D.tru,hb]
theorem Qs(ha:fa ρ=some r)(e:r.d= .bl b):Qr fa ρ=some b:=by
 unfold Qr
 rw[ha,Zh,e];rfl
theorem Qcs(h:g ρ=some b):Qbx g ρ=some (!b):=by unfold Qbx;rw[h];rfl
theorem QbF(ha:g1 ρ=some a)(hb:g2 ρ=some b):bOr g1 g2 ρ=some (a || b):=by
 unfold bOr;rw[ha];cases a<;>simp[hb]
theorem Qjs(ha:g1 ρ=some a)(hb:g2 ρ=some b):QdV g1 g2 ρ=some (a && b):=by
 unfold QdV;rw[ha];cases a<;>simp[hb]
theorem QeR(ha:fa ρ=some ra)(ea:ra.d= .int a)(hb:fb ρ=some rb)(eb:rb.d= .int b)(h:Qa5 a b=true):Qb8 fa fb ρ=some ⟨.int (a*b),true,[]⟩:=by
 unfold Qb8
 rw[ha,Zh,hb,Zh,ea,eb]
 simp[h]
theorem Qhp(ha:fa ρ=some ra)(ea:ra.d= .int a)(hb:fb ρ=some rb)(eb:rb.d= .int b):Qbf fa fb ρ=some ⟨.int (a+b),true,[]⟩:=by
 unfold Qbf
 rw[ha,Zh,hb,Zh,ea,eb]
theorem QbH(ha:fa ρ=some ra)(ea:ra.d= .int a)(hb:fb ρ=some rb)(eb:rb.d= .int b)(h:0<b):dOp Qb6 fa fb ρ=some ⟨.int (a % b),true,[]⟩:=by
 refine Qac ha hb ?_
 rw[ea,eb]
 show(if b≠0 then some (D.int (Qcv a b))else none)=_
 rw[if_pos (by omega),Qim _ _ (by omega)]
theorem Qe1(ha:fa ρ=some ra)(ea:ra.d= .int a)(hb:fb ρ=some rb)(eb:rb.d= .int b)(h:0<b)(h2:b<2^64):dOp QdU fa fb ρ=some ⟨.int (a / b),true,[]⟩:=by
 refine Qac ha hb ?_
 rw[ea,eb]
 have:Qb0 b=true:=by
  unfold Qb0
  have h3:b.natAbs<2^8000:=Zm (by omega:b.natAbs<2^64) (Zaa (by decide) (by decide))
  simp only[Zf,decide_eq_true_eq]
  exact⟨by omega,h3⟩
 show(if Qb0 b=true then some (D.int (Qcq a b))else none)=_
 rw[if_pos this,Qis _ _ (by omega)]
theorem Qkl{fa fb:DE}{ρ:En}{ra rb:R}{ns:List Int}{i:Int}{v:Int}(ha:fa ρ=some ra)(ea:ra.d= .lst (ns.map .int))(hb:fb ρ=some rb)(eb:rb.d= .int i)(h0:0<=i)(h:ns[i.toNat]? =some v):QbY fa fb ρ=some ⟨.int v,true,[]⟩:=by
 have hl:i<ns.length:=by have:=(Ze.mp h).1;omega
 unfold QbY
 rw[ha,Zh,hb,Zh,ea,eb]
 simp only[D.items,Zh]
 rw[QjA h0 (by simpa using hl),Zz,h]
 rfl
noncomputable def Qii(t k:Int):Int:=(t+17)*(k*k+7*k+11)*69621 % 2147483647
noncomputable def Qni(m t k:Int):Int:=if Qii t k % (k+1)<k then(Qii t k % (k+1)+t) % m else m
noncomputable def Qnq(m t kind:Int)(k:Int):Int×Int×Bool:=((k+t) % m,Qni m t k,decide (kind=2) || (decide (kind=3) && decide (Qii t k / 64 % 2=1)))
noncomputable def Qmx(m:Nat)(t kind:Int):List (Int×Int×Bool):=(List.range m).map λ(k:Nat)=>Qnq m t kind k
def GoodW(m:Nat)(w:Int×Int×Bool):Prop:=Good m (w.1,w.2.1)/\(w.2.2=true->w.1<m)
noncomputable def QmW(W:List (Int×Int×Bool)):D:= .lst (W.map Qh2)
@[simp] theorem QmR(W:List (Int×Int×Bool)):(QmW W).flat=false:=rfl
theorem QjJ(hx:ρ[x]? =some (some (.lst xs,true)))(ha:fa ρ=some r)(hf:r.d.flat=true)(hl:xs.length<16777216)(q:Q (.nx (ρ.set x (some (.lst (xs++[r.d]),true))))):Run (Qbj x QbW fa) ρ Q:=by
 refine⟨_,?_,q⟩
 have hn:r.norm=⟨r.d,true,[]⟩:=by unfold HS.R.norm;rw[if_pos hf]
 unfold Qbj
 rw[hx]
 simp only[QbW,Zh,ha,Qbo,QeA,hn,Qal,kill,Qml]
 simp[hl]
theorem Run.nx(h:Run f ρ (Nx Q))(m:∀ρ,Q ρ->Q' ρ):Run f ρ (Nx Q'):=h.mono λo ho=>by
 cases o with
 | nx ρ=>exact m ρ ho
 | _=>exact ho.elim
theorem Qfq(h:Run f ρ (Nx P))(k:∀ρ',P ρ'->Run g ρ' Q):Run (Qh f g) ρ Q:=run_seq (h.nx k)
noncomputable def Qbe(w:Int×Int×Bool):Int×Int:=(if w.2.1<w.1 then w.2.1 else w.1,if w.2.1>w.1 then w.2.1 else w.1)
noncomputable def QkM(w:Int×Int×Bool):Int×Int:=(w.1,w.2.1)
noncomputable def QaM(W:List (Int×Int×Bool)):List (Int×Int):=(W.filter λw=> !w.2.2).map Qbe
noncomputable def Qbc(W:List (Int×Int×Bool)):List (Int×Int):=(W.filter λw=>w.2.2).map QkM
theorem QbR{m:Nat}{W:List (Int×Int×Bool)}(h:∀w∈W,GoodW m w):∀s∈QaM W,Good m s/\s.1<s.2:=λs hs=>by
 obtain⟨w,hw,rfl⟩:=Zy.mp hs
 obtain⟨⟨h1,h2,h3,h4,h5⟩,_⟩:=h w (ZV.mp hw).1
 simp only at h1 h2 h3 h4 h5
 unfold Qbe Good
 simp only
 split<;>split<;>omega
theorem Qcb{m:Nat}{W:List (Int×Int×Bool)}(h:∀w∈W,GoodW m w):∀s∈Qbc W,Good m s/\s.1<m:=λs hs=>by
 obtain⟨w,hw,rfl⟩:=Zy.mp hs
 obtain⟨h1,h2⟩:=h w (ZV.mp hw).1
 exact⟨h1,h2 (by simpa using(ZV.mp hw).2)⟩
theorem Qen(W:List (Int×Int×Bool)):(QaM W).length<=W.length:=by unfold QaM;rw[Zv];exact List.length_filter_le _ _
theorem Qed(W:List (Int×Int×Bool)):(Qbc W).length<=W.length:=by unfold Qbc;rw[Zv];exact List.length_filter_le _ _
structure Qln (m:Nat) (t kind:Int) (R L:List (Int×Int)):Prop where
 ex:∃W,(∀w∈Qmx m t kind,w∈W)/\(∀w∈W,GoodW m w)/\W.length<=100/\R=QaM W/\L=Qbc W
theorem Qln.good{m:Nat}{t kind:Int}{R L:List (Int×Int)}(h:Qln m t kind R L):(∀s∈R,Good m s)/\(∀s∈L,Good m s)/\R.length<=100/\L.length<=100:=by
 obtain⟨W,_,h2,h3,rfl,rfl⟩:=h.ex
 exact⟨λs hs=>(QbR h2 s hs).1,λs hs=>(Qcb h2 s hs).1,Zr (Qen W) h3,Zr (Qed W) h3⟩
def QeW(d:Den):Prop:=∀ns:List Int,d [.lst (ns.map .int),.lst (ns.map .int)]=some (.bl true,true)
theorem QiQ(ns:List Int):Qb5 (ns.map D.int) (ns.map D.int)=ns.map λn=> .tup [.int n,.int n]:=by
 induction ns with
 | nil=>rfl
 | cons n ns ih=>unfold Qb5 at ih ⊢;simp only[Zl,List.zip_cons_cons,ih]
theorem QeS(h:fa ρ=some r)(e:r.d= .lst xs):dBf QaP (Qf fa Qk) ρ=some ⟨.int xs.length,true,[]⟩:=by
 unfold dBf
 rw[Qan h (Qbg _),Zh]
 simp[e,QaP]
theorem Qe8(ha:fa ρ=some ra)(ea:ra.d=d)(hb:fb ρ=some rb)(eb:rb.d=d)(hs:d.sim 8=true):dOp gNe fa fb ρ=some ⟨.bl false,true,[]⟩:=by
 refine Qac ha hb ?_
 rw[ea,eb]
 unfold gNe
 rw[hs,QiZ hs];rfl
theorem QbQ(hx:ρ[x]? =some (some (Qa A,true)))(ha:fa ρ=some r)(hf:r.d= .int n)(hl:A.length<16777216)(q:Q (.nx (ρ.set x (some (Qa (A++[n]),true))))):Run (Qbj x QbW fa) ρ Q:=by
 refine QjJ hx ha (by rw[hf];rfl) (by simpa using hl) ?_
 rw[hf]
 unfold Qa at q
 rw[ZM]at q
 exact q
def Esc(m:Nat)(W:List (Int×Int×Bool)):Prop:=∀A:Nat->Prop,(∃p,p<m/\A p)->∃w∈W,w.1<m/\A w.1.toNat/\(w.2.1=m∨¬A w.2.1.toNat)
theorem Esc.mono{m:Nat}{W W':List (Int×Int×Bool)}(h:Esc m W)(s:∀w∈W,w∈W'):Esc m W':=λA hA=>let ⟨w,hw,r⟩:=h A hA;⟨w,s w hw,r⟩
def Qiy(m:Nat)(O:List Int)(w:Int×Int×Bool)(j:Nat):Prop:=O[j]? =some w.1/\(w.2.1=m∨∃i,i<j/\O[i]? =some w.2.1)
theorem Qiy.app{m:Nat}{O O':List Int}{w:Int×Int×Bool}{j:Nat}(h:Qiy m O w j):Qiy m (O++O') w j:=by
 obtain⟨h1,h2⟩:=h
 have hj:j<O.length:=(Ze.mp h1).1
 refine⟨by rw[ZN hj];exact h1,?_⟩
 rcases h2 with h2 | ⟨i,hi,h2⟩
 ·exact .inl h2
 ·exact .inr ⟨i,hi,by rw[ZN (by omega)];exact h2⟩
noncomputable def Qz(m:Nat)(g:Nat->Int):Int:=((List.range m).map g).sum
theorem Qah(m:Nat)(g:Nat->Int):Qz (m+1) g=Qz m g+g m:=by
 unfold Qz;rw[List.range_succ,ZM,Zav];simp
theorem QaI(h:∀i,i<m->f i=g i):Qz m f=Qz m g:=by
 unfold Qz;rw[Zaw λi hi=>h i (List.mem_range.mp hi)]
theorem QcZ(m:Nat)(f g:Nat->Int):Qz m (λi=>f i+g i)=Qz m f+Qz m g:=by
 induction m with
 | zero=>rfl
 | succ m ih=>rw[Qah,Qah,Qah,ih];omega
theorem QaZ(m:Nat):Qz m (λ_=>0)=0:=by
 induction m with
 | zero=>rfl
 | succ m ih=>rw[Qah,ih];rfl
theorem Qbu(hp:p<m)(v:Int)(f:Nat->Int):Qz m (λi=>(if i=p then v else 0)*f i)=v*f p:=by
 induction m with
 | zero=>omega
 | succ m ih=>
  rw[Qah]
  by_cases h:p=m
  ·subst h
   rw[if_pos rfl,QaI (g:=λ_=>0) λi hi=>by rw[if_neg (by omega)];simp,QaZ];simp
  ·rw[ih (by omega),if_neg (λz=>h z.symm)];simp
noncomputable def QcX(m:Nat)(T:Nat->Nat->Int)(f c:Nat->Int):Nat->Int:=λj=>f j+Qz m λi=>c i*T i j
theorem Qjm(i j:Nat)(s:Int×Int):(hit i j s).natAbs<=1:=by unfold hit;split<;>split<;>decide
theorem QcK(i j:Nat):∀S:List (Int×Int),((S.map (hit i j)).sum).natAbs<=S.length
 | []=>by simp
 | s::S=>by
  have:=QcK i j S
  have:=Qjm i j s
  rw[Zl,ZQ,ZC]
  omega
structure Qdz (m:Nat) (R L:List (Int×Int)):Prop where
 ex:∃W,Esc m W/\(∀w∈W,GoodW m w)/\W.length<=200/\R=QaM W/\L=Qbc W
theorem Qdz.good{m:Nat}{R L:List (Int×Int)}(h:Qdz m R L):(∀s∈R,Good m s)/\(∀s∈L,Good m s)/\R.length<=200/\L.length<=200/\(∀s∈R,s.1<s.2)/\∀s∈L,s.1<m:=by
 obtain⟨W,_,h2,h3,rfl,rfl⟩:=h.ex
 exact⟨λs hs=>(QbR h2 s hs).1,λs hs=>(Qcb h2 s hs).1,Zr (Qen W) h3,Zr (Qed W) h3,λs hs=>(QbR h2 s hs).2,λs hs=>(Qcb h2 s hs).2⟩
theorem Qeb{α:Type}(m:Nat)(g:Nat->α->Int):∀S:List α,Qz m (λj=>(S.map (g j)).sum)=(S.map λs=>Qz m λj=>g j s).sum
 | []=>by simp[QaZ]
 | s::S=>by
  simp only[Zl,ZQ]
  rw[QcZ,Qeb m g S]
theorem Qf8{α:Type}(c:Int)(f:α->Int):∀S:List α,c*(S.map f).sum=(S.map λs=>c*f s).sum
 | []=>by simp
 | s::S=>by simp only[Zl,ZQ,Int.mul_add,Qf8 c f S]
structure TP (m:Nat) (T:Nat->Nat->Int):Prop where
 neg:∀p,p<m->T p p<0
 pos:∀i j,i<m->j<m->i≠j->0<=T i j
 bnd:∀i j,i<m->j<m->(T i j).natAbs<2^64
 wt:∃w:Nat->Int,(∀j,0<=w j)/\∀i,i<m->Qz m (λj=>T i j*w j)<= -1
inductive Leg (m:Nat) (T:Nat->Nat->Int) (f:Nat->Int):(Nat->Int)->Prop where
 | nil:Leg m T f λ_=>0
 | step {c:Nat->Int}{p:Nat}{t:Int}:Leg m T f c->p<m->0<=t->t*(0-T p p)<=QcX m T f c p->Leg m T f (up c p (c p+t))
def Stb(m:Nat)(T:Nat->Nat->Int)(g:Nat->Int):Prop:=∀p,p<m->g p<0-T p p
theorem QfL(h:∀i,i<m->f i<=g i):Qz m f<=Qz m g:=by
 induction m with
 | zero=>exact Int.le_refl _
 | succ m ih=>
  rw[Qah,Qah]
  have:=ih λi hi=>h i (by omega)
  have:=h m (by omega)
  omega
theorem Leg.least(tp:TP m T)(h:Leg m T f c)(h0:∀i,i<m->0<=c' i)(hs:Stb m T (QcX m T f c')):∀i,i<m->c i<=c' i:=by
 induction h with
 | nil=>exact h0
 | @step c p t _ hp ht hle ih=>
  intro i hi
  unfold up
  split
  ·rename_i e
   subst e
   have key:QcX m T f c i+(c' i-c i)*T i i<=QcX m T f c' i:=by
    unfold QcX
    have e1:Qz m (λk=>c k*T k i)+(c' i-c i)*T i i=Qz m (λk=>c k*T k i+(if k=i then c' i-c i else 0)*T k i):=by rw[QcZ,Qbu hi]
    have e2:Qz m (λk=>c k*T k i+(if k=i then c' i-c i else 0)*T k i)<=Qz m (λk=>c' k*T k i):=by
     refine QfL λk hk=>?_
     by_cases hki:k=i
     ·subst hki;rw[if_pos rfl,← Zat];rw[show c k+(c' k-c k)=c' k by omega];exact Int.le_refl _
     ·rw[if_neg hki,Int.zero_mul,Int.add_zero]
      exact Zar (ih k hk) (tp.pos k i hk hi hki)
    omega
   have h1:=hs i hi
   have h2:=tp.neg i hi
   by_cases hlt:c i+t<=c' i
   ·exact hlt
   ·exfalso
    have h3:(c' i-c i+1)<=t:=by omega
    have h4:(c' i-c i+1)*(0-T i i)<=t*(0-T i i):=Zar h3 (by omega)
    have h5:(c' i-c i+1)*(0-T i i)=(0-T i i)-(c' i-c i)*T i i:=by rw[Zat,Int.one_mul,Int.mul_sub,Int.mul_zero];omega
    omega
  ·exact ih i hi
theorem Leg.cast(h:Leg m T f c)(e:∀i,c i=d i):Leg m T f d:=by
 have:c=d:=funext e
 rw[← this];exact h
def Qgg(m:Nat)(S:List (Int×Int)):Prop:=∀A:Nat->Prop,(∃p,p<m/\A p)->∃s∈S,s.1<m/\A s.1.toNat/\(s.2=m∨¬A s.2.toNat)
theorem QhO(h:Esc m W):Qgg m (QaK (QaM W) (Qbc W)):=λA hA=>by
 obtain⟨w,hw,h1,h2,h3⟩:=h A hA
 refine⟨(w.1,w.2.1),?_,h1,h2,h3⟩
 unfold QaK
 cases e:w.2.2 with
 | true=>exact Zb _ (Zy.mpr ⟨w,ZV.mpr ⟨hw,e⟩,rfl⟩)
 | false=>
  have hr:Qbe w∈QaM W:=Zy.mpr ⟨w,ZV.mpr ⟨hw,by simp[e]⟩,rfl⟩
  by_cases hlt:w.2.1<w.1
  ·refine Zc _ (Zb _ (Zy.mpr ⟨Qbe w,hr,?_⟩))
   unfold Qbe
   rw[if_pos hlt,if_neg (by omega)];rfl
  ·refine Zc _ (Zc _ ?_)
   have:Qbe w=(w.1,w.2.1):=by
    unfold Qbe
    rw[if_neg hlt]
    by_cases hgt:w.2.1>w.1
    ·rw[if_pos hgt]
    ·rw[if_neg hgt];rw[show w.2.1=w.1 by omega]
   rw[← this];exact hr
inductive Rk (m:Nat) (S:List (Int×Int)):Nat->Nat->Prop where
 | pit {s:Int×Int}{n:Nat}:s∈S->s.2=m->Rk m S (n+1) s.1.toNat
 | step {s:Int×Int}{k n:Nat}:s∈S->s.2≠m->Rk m S k s.2.toNat->k<n->Rk m S n s.1.toNat
theorem QiP{P:Nat->Prop}(h:∃n,P n):∃n,P n/\∀k,k<n->¬P k:=by
 obtain⟨n,hn⟩:=h
 induction n using Nat.strongRecOn with
 | _ n ih=>
  by_cases h:∃k,k<n/\P k
  ·obtain⟨k,hk,h⟩:=h;exact ih k hk h
  ·exact⟨n,hn,λk hk hx=>h ⟨k,hk,hx⟩⟩
theorem QmP(he:Qgg m S):∀p,p<m->∃n,Rk m S n p:=λp hp=>by
 by_cases h:∃n,Rk m S n p
 ·exact h
 ·exfalso
  obtain⟨s,hs,h1,h2,h3⟩:=he (λp=>¬ ∃n,Rk m S n p) ⟨p,hp,h⟩
  by_cases e:s.2=m
  ·exact h2 ⟨1,.pit hs e⟩
  ·rcases h3 with h3 | h3
   ·exact e h3
   ·have:∃n,Rk m S n s.2.toNat:=Classical.byContradiction λz=>h3 z
    obtain⟨k,hk⟩:=this
    exact h2 ⟨k+1,.step hs e hk (by omega)⟩
theorem Qkm{m:Nat}{S:List (Int×Int)}(hg:∀s∈S,Good m s)(he:Qgg m S):∃r:Nat->Nat,r m=0/\∀p,p<m->∃s∈S,s.1=p/\r s.2.toNat<r p:=by
 have h:∀p,∃n,(p<m->Rk m S n p/\∀k,k<n->¬Rk m S k p)/\(p=m->n=0):=λp=>by
  by_cases hp:p<m
  ·obtain⟨n,hn⟩:=QiP (QmP he p hp)
   exact⟨n,λ_=>hn,λz=>by omega⟩
  ·exact⟨0,λz=>absurd z hp,λ_=>rfl⟩
 obtain⟨r,hr⟩:=Classical.axiomOfChoice h
 refine⟨r,(hr m).2 rfl,λp hp=>?_⟩
 have h1:=((hr p).1 hp).1
 generalize r p=n at h1
 cases h1 with
 | @pit s n hs e=>
  obtain⟨g1,g2,g3,g4,g5⟩:=hg s hs
  exact⟨s,hs,by omega,by rw[e,Int.toNat_natCast,(hr m).2 rfl];omega⟩
 | @step s k n hs e hk hkn=>
  obtain⟨g1,g2,g3,g4,g5⟩:=hg s hs
  refine⟨s,hs,by omega,?_⟩
  have hl:s.2.toNat<m:=by omega
  have:=((hr s.2.toNat).1 hl).2 k
  have:¬k<r s.2.toNat:=λz=>this z hk
  omega
theorem QeX(r:Nat->Nat):∀m:Nat,∃N,∀p,p<=m->r p<=N
 | 0=>⟨r 0,λp hp=>by rw[show p=0 by omega];exact Zj _⟩
 | m+1=>by
  obtain⟨N,hN⟩:=QeX r m
  refine⟨N+r (m+1),λp hp=>?_⟩
  by_cases e:p=m+1
  ·subst e;omega
  ·have:=hN p (by omega);omega
theorem QhR(hi:i<m)(g:Good m s)(w:Nat->Int)(hw:w m=0):Qz m (λj=>hit i j s*w j)=if s.1=i then w s.2.toNat-w i else 0:=by
 obtain⟨g1,g2,g3,g4,g5⟩:=g
 by_cases h:s.1=i
 ·rw[if_pos h]
  have e:Qz m (λj=>hit i j s*w j)=Qz m (λj=>(if j=s.2.toNat then 1 else 0)*w j+(if j=i then-1 else 0)*w j):=QaI λj _=>by
   have:hit i j s=(if j=s.2.toNat then 1 else 0)+(if j=i then-1 else 0):=by
    unfold hit
    by_cases a:s.2=j
    ·by_cases b:i=j
     ·rw[if_pos ⟨h,a⟩,if_pos ⟨h,b⟩,if_pos (by omega),if_pos b.symm];omega
     ·rw[if_pos ⟨h,a⟩,if_neg (λz=>b z.2),if_pos (by omega),if_neg (λz=>b z.symm)];omega
    ·by_cases b:i=j
     ·rw[if_neg (λz=>a z.2),if_pos ⟨h,b⟩,if_neg (by omega),if_pos b.symm];omega
     ·rw[if_neg (λz=>a z.2),if_neg (λz=>b z.2),if_neg (by omega),if_neg (λz=>b z.symm)];omega
   rw[this,Zat]
  rw[e,QcZ,Qbu hi]
  by_cases hm:s.2.toNat<m
  ·rw[Qbu hm];omega
  ·have e2:Qz m (λj=>(if j=s.2.toNat then 1 else 0)*w j)=0:=by
    rw[QaI λj hj=>by rw[if_neg (by omega),Int.zero_mul],QaZ]
   rw[e2,show s.2.toNat=m by omega,hw];omega
 ·rw[if_neg h]
  rw[QaI (g:=λ_=>0) λj hj=>by
   unfold hit
   rw[if_neg (λz=>h z.1),if_neg (λz=>h z.1)];rw[Int.sub_self,Int.zero_mul],QaZ]
theorem Qc8{α:Type}{g:α->Int}{X:Int}:∀S:List α,(∀s∈S,g s<=X)->(S.map g).sum<=S.length*X
 | [],_=>by simp
 | a::S,h=>by
  have h1:=h a (by simp)
  have h2:=Qc8 S λs hs=>h s (by simp[hs])
  simp only[Zl,ZQ,ZC,Int.natCast_add,Zat]
  rw[show((1:Nat):Int)*X=X by simp]
  omega
theorem Qds{α:Type}{g:α->Int}{X Y:Int}:∀(S:List α),(∀s∈S,g s<=X)->(∃s∈S,g s<=Y)->(S.map g).sum<=S.length*X-X+Y
 | [],_,h=>by obtain⟨s,hs,_⟩:=h;exact absurd hs (by simp)
 | a::S,h,h2=>by
  obtain⟨s,hs,hy⟩:=h2
  have hb:∀s∈S,g s<=X:=λs hs=>h s (by simp[hs])
  simp only[Zl,ZQ,ZC,Int.natCast_add,Zat]
  rw[show((1:Nat):Int)*X=X by simp]
  rcases Zu.mp hs with e | hs
  ·subst e
   have:=Qc8 S hb
   omega
  ·have:=Qds S hb ⟨s,hs,hy⟩
   have:=h a (by simp)
   omega
theorem Qdh{α:Type}{g:α->Int}:∀S:List α,(∀s∈S,0<=g s)->0<=(S.map g).sum
 | [],_=>by simp
 | a::S,h=>by
  have h1:=h a (by simp)
  have h2:=Qdh S λs hs=>h s (by simp[hs])
  simp only[Zl,ZQ]
  omega
theorem Qi0{m:Nat}{S:List (Int×Int)}(hg:∀s∈S,Good m s)(he:Qgg m S)(hl:S.length<2^60):TP m (QaE m S):=by
 have hn:∀s∈S,0<=s.1/\0<=s.2:=λs hs=>⟨(hg s hs).1,(hg s hs).2.1⟩
 have pos:∀i j,i<m->j<m->i≠j->0<=QaE m S i j:=λi j hi hj hij=>by
  rw[Qb2 hi hj hn]
  refine Qdh S λs _=>?_
  unfold hit
  rw[if_neg (λz=>hij z.2) (c:=s.1=i/\i=j)]
  split<;>omega
 obtain⟨r,r0,hr⟩:=Qkm hg he
 obtain⟨N,hN⟩:=QeX r m
 have M1:1<=S.length+1:=by omega
 have wt:∃w:Nat->Int,(∀j,0<=w j)/\∀i,i<m->Qz m (λj=>QaE m S i j*w j)<= -1:=by
  refine⟨λv=>(((S.length+1)^N:Nat):Int)-(((S.length+1)^(N-r v):Nat):Int),λj=>?_,λi hi=>?_⟩
  ·have:=Zaa M1 (Nat.sub_le N (r j))
   show(0:Int)<=(((S.length+1)^N:Nat):Int)-(((S.length+1)^(N-r j):Nat):Int)
   omega
  ·generalize hw:(λv=>(((S.length+1)^N:Nat):Int)-(((S.length+1)^(N-r v):Nat):Int))=w
   have hw':∀v,w v=(((S.length+1)^N:Nat):Int)-(((S.length+1)^(N-r v):Nat):Int):=λv=>by rw[← hw]
   have wm:w m=0:=by rw[hw',r0,Nat.sub_zero];omega
   have e:Qz m (λj=>QaE m S i j*w j)=(S.map λs=>if s.1=(i:Int)then w s.2.toNat-w i else 0).sum:=by
    rw[QaI (g:=λj=>(S.map λs=>hit i j s*w j).sum) λj hj=>by
     rw[Qb2 hi hj hn,Int.mul_comm,Qf8]
     congr 1
     exact Zaw λs _=>Int.mul_comm _ _]
    rw[Qeb m (λj s=>hit i j s*w j) S]
    congr 1
    exact Zaw λs hs=>QhR hi (hg s hs) w wm
   rw[e]
   obtain⟨s0,hs0,e0,hlt⟩:=hr i hi
   generalize hX:(((S.length+1)^(N-r i):Nat):Int)=X
   have X1:1<=X:=by
    have:0<(S.length+1)^(N-r i):=Nat.pow_pos (by omega)
    omega
   have key:=Qds (Y:=X-(S.length+1)*X) S (λs _=>by
    show(if s.1=i then w s.2.toNat-w i else 0)<=X
    split
    ·rw[hw',hw' i,hX]
     have:0<=(((S.length+1)^(N-r s.2.toNat):Nat):Int):=Int.natCast_nonneg _
     omega
    ·omega) ⟨s0,hs0,by
    show(if s0.1=i then w s0.2.toNat-w i else 0)<=_
    rw[if_pos e0,hw',hw' i,hX]
    have hb:=hN i (by omega)
    have h1:(S.length+1)^(N-r i+1)<=(S.length+1)^(N-r s0.2.toNat):=Zaa M1 (by omega)
    rw[Nat.pow_succ]at h1
    have h2:((((S.length+1)^(N-r i)*(S.length+1):Nat)):Int)<=(((S.length+1)^(N-r s0.2.toNat):Nat):Int):=by exact_mod_cast h1
    rw[Int.natCast_mul,hX,Int.mul_comm]at h2
    rw[show((S.length+1:Nat):Int)=(S.length:Int)+1 by omega]at h2
    omega⟩
   have:((S.length:Int)+1)*X=S.length*X+X:=by rw[Zat,Int.one_mul]
   omega
 refine⟨λp hp=>?_,pos,λi j hi hj=>?_,wt⟩
 ·obtain⟨w,w0,hw⟩:=wt
  have h1:=hw p hp
  by_cases hneg:QaE m S p p<0
  ·exact hneg
  ·exfalso
   have:0<=Qz m (λj=>QaE m S p j*w j):=by
    have:=QfL (f:=λ_=>0) (g:=λj=>QaE m S p j*w j) λj hj=>by
     by_cases e:p=j
     ·subst e;exact Int.mul_nonneg (by omega) (w0 _)
     ·exact Int.mul_nonneg (pos p j hp hj e) (w0 _)
    rw[QaZ]at this
    exact this
   omega
 ·rw[Qb2 hi hj hn]
  have:=QcK i j S
  omega
theorem Qdz.tp{m:Nat}{R L:List (Int×Int)}(h:Qdz m R L):TP m (QaE m (QaK R L)):=by
 have hg:=h.good
 refine Qi0 (Qdl hg.1 hg.2.1) ?_ ?_
 ·obtain⟨W,h1,_,_,rfl,rfl⟩:=h.ex
  exact QhO h1
 ·unfold QaK
  simp only[Zp,Zv]
  omega
theorem Qdz.neg{m:Nat}{R L:List (Int×Int)}(h:Qdz m R L){i:Nat}(hi:i<m):0-QaE m (QaK R L) i i=QgO R L i:=by
 have hg:=h.good
 have hs:=Qdl hg.1 hg.2.1
 rw[Qb2 hi hi (λs z=>⟨(hs s z).1,(hs s z).2.1⟩),sum_neg _ _ (λs z=>(hs s z).2.2.2.2),QhF]
 omega
structure Told (m:Nat) (T:Nat->Nat->Int) (f c:Nat->Int):Prop where
 leg:Leg m T f c
 pos:∀j,j<m->0<=QcX m T f c j
 stb:Stb m T (QcX m T f c)
noncomputable def QcM:DS:=(Qh (sIf (bOr (Qbx (Qr (Qcn "list" (Qg 0)))) (Qr (dOp gNe (dBf QaP (Qf (Qg 0) Qk)) (dBf QaP (Qf (Qg 1) Qk))))) (Qh (Q2 (dC (.bl false))) Qm) Qm) (Qh (Qck (QgX (Qg 0) (Qg 1)) (.tp [2,3]) (Qh (sIf (bOr (Qbx (Qr (Qcn "int" (Qg 2)))) (bOr (Qr (Qcn "bool" (Qg 2))) (Qr (dOp gNe (Qg 2) (Qg 3))))) (Qh (Q2 (dC (.bl false))) Qm) Qm) Qm)) (Qh (Q2 (dC (.bl true))) Qm)))
theorem QmL:QeW (Qw 4 QcM):=λns=>by
 refine Qbl ?_
 refine Qy (QI (b:=false) (QbF (a:=false) (b:=false) (Qcs (b:=true) (Qs (b:=true) rfl rfl)) (Qs (b:=false) (r:=⟨.bl false,true,[]⟩) ?_ rfl)) (λh=>by cases h) (λ_=>Qo ?_))
 ·rw[QhL (QeS (xs:=ns.map D.int) rfl rfl) rfl (QeS (xs:=ns.map D.int) rfl rfl) rfl];simp
 refine Qy (QdK (toD:=λn=> .tup [.int n,.int n]) ns (λ_ ρ=>∃j2 j3,ρ=[some (.lst (ns.map .int),false),some (.lst (ns.map .int),false),j2,j3]) (ir:=⟨Qb5 (ns.map D.int) (ns.map D.int),[]⟩) rfl (QiQ ns) ⟨none,none,rfl⟩ ?_ ?_)
 ·rintro i n ρ _ ⟨j2,j3,rfl⟩
  refine⟨_,rfl,?_⟩
  refine Qy (QI (b:=false) (QbF (a:=false) (b:=false) (Qcs (b:=true) (Qs (b:=true) rfl rfl)) (QbF (a:=false) (b:=false) (Qs (b:=false) rfl rfl) (Qs (b:=false) (r:=⟨.bl false,true,[]⟩) ?_ rfl))) (λh=>by cases h) (λ_=>Qo (Qo ⟨_,_,rfl⟩)))
  rw[QhL (a:=n) (b:=n) rfl rfl rfl rfl];simp
 ·rintro ρ ⟨j2,j3,rfl⟩
  exact Qak rfl ⟨rfl,rfl⟩
end HS
namespace HS
open PySem PySem.Spec L2 PyProof.Rows PySem.NumText
noncomputable def cp(x:Str):List Nat:=x.cps.toList
noncomputable def tx(l:List Nat):Str:=⟨l.toArray⟩
theorem QaA(l:List Nat):cp (tx l)=l:=rfl
theorem Qi5(x:Str):tx (cp x)=x:=by cases x;rfl
theorem Qcu{x y:Str}(h:cp x=cp y):x=y:=by rw[← Qi5 x,← Qi5 y,h]
theorem Qcw(x:Str):x.length=(cp x).length:=by unfold cp Str.length;exact ZS.symm
theorem Qcr(x y:Str):cp (x++y)=cp x++cp y:=cps_toList_append x y
noncomputable def dig(n:Nat):List Nat:=(Nat.toDigits 10 n).map Char.toNat
theorem QfM:∀d:Nat,d<10->(Nat.digitChar d).toNat=48+d:=by decide
theorem Qdw{n:Nat}(h:n<10):dig n=[48+n]:=by
 unfold dig
 rw[Nat.toDigits_of_lt_base h,Zl,QfM n h];rfl
theorem QcE{n:Nat}(h:10<=n):dig n=dig (n / 10)++[48+n % 10]:=by
 have e:n=10*(n / 10)+n % 10:=by omega
 have:=Nat.toDigits_append_toDigits (b:=10) (n:=n / 10) (d:=n % 10) (by decide) (by omega) (by omega)
 rw[← e]at this
 unfold dig
 rw[← this,ZM,Nat.toDigits_of_lt_base (show n % 10<10 by omega),Zl,QfM _ (by omega)];rfl
theorem QcJ{P:Nat->Prop}(h1:∀n,n<10->P n)(h2:∀n,10<=n->P (n / 10)->P n)(n:Nat):P n:=by
 induction n using Nat.strongRecOn with
 | ind n ih=>
  by_cases h:n<10
  ·exact h1 n h
  ·exact h2 n (by omega) (ih _ (by omega))
theorem QaO(n:Nat):AllDigits (dig n):=by
 refine QcJ (P:=λn=>AllDigits (dig n)) (λn h=>?_) (λn h ih=>?_) n
 ·rw[Qdw h];intro c hc;rw[Zt]at hc;omega
 ·rw[QcE h];intro c hc
  rcases Zx.mp hc with hc | hc
  ·exact ih c hc
  ·rw[Zt]at hc;omega
theorem QfJ(n:Nat):digitsVal (dig n)=n:=by
 refine QcJ (P:=λn=>digitsVal (dig n)=n) (λn h=>?_) (λn h ih=>?_) n
 ·rw[Qdw h];show 0*10+(48+n-48)=n;omega
 ·rw[QcE h,digitsVal_snoc,ih];omega
theorem QiI{n:Nat}(h0:0<n):∃c r,dig n=c::r/\49<=c:=by
 revert h0
 refine QcJ (P:=λn=>0<n->∃c r,dig n=c::r/\49<=c) (λn h h0=>?_) (λn h ih h0=>?_) n
 ·exact⟨_,[],Qdw h,by omega⟩
 ·obtain⟨c,r,e,hc⟩:=ih (by omega)
  exact⟨c,r++[48+n % 10],by rw[QcE h,e];rfl,hc⟩
theorem QbJ(n:Nat):dig n≠[]:=by
 refine QcJ (P:=λn=>dig n≠[]) (λn h=>?_) (λn h ih=>?_) n
 ·rw[Qdw h];simp
 ·rw[QcE h];simp
theorem Qf6{n k:Nat}(hk:0<k)(h:n<10^k):(dig n).length<=k:=by
 unfold dig
 rw[Zv,← Nat.toList_repr,String.length_toList]
 exact(Nat.length_repr_le_iff hk).mpr h
noncomputable def Qi(i:Int):Str:=Str.ofString (toString i)
theorem Qa9(i:Int):cp (Qi i)=if i<0 then 45::dig i.natAbs else dig i.natAbs:=by
 show(Str.ofString (toString i)).cps.toList=_
 rw[signs_ofString]
 cases i with
 | ofNat m=>
  rw[if_neg (by simp)]
  show(Nat.repr m).toList.map Char.toNat=_
  rw[Nat.toList_repr];rfl
 | negSucc m=>
  rw[if_pos (Int.negSucc_lt_zero m)]
  show("-" ++Nat.repr (m+1)).toList.map Char.toNat=_
  rw[String.toList_append,ZM,Nat.toList_repr];rfl
theorem QhQ(i:Int):32∉cp (Qi i):=by
 rw[Qa9]
 intro h
 split at h
 ·rcases Zu.mp h with h | h
  ·omega
  ·have:=QaO _ _ h;omega
 ·have:=QaO _ _ h;omega
theorem Qf5(i:Int):cp (Qi i)≠[]:=by
 rw[Qa9]
 split
 ·simp
 ·exact QbJ _
theorem QbV{i:Int}{k:Nat}(hk:0<k)(h:i.natAbs<10^k):(Qi i).length<=k+1:=by
 rw[Qcw,Qa9]
 have:=Qf6 hk h
 split<;>simp<;>omega
theorem QcR{i:Int}{k:Nat}(hk:0<k)(h:i.natAbs<10^k)(hk':k<=4000):intText? (Qi i)=some i:=by
 have hl:=QbV hk h
 have hc:=Qa9 i
 by_cases hi:i<0
 ·rw[if_pos hi]at hc
  rw[intText_neg (x:=Qi i) (cs:=dig i.natAbs) hc (QaO _) (QbJ _) (by omega),QfJ]
  congr 1;omega
 ·rw[if_neg hi]at hc
  have hc':(Qi i).cps.toList=dig i.natAbs:=hc
  rw[intText_digits (x:=Qi i) (by rw[hc'];exact QaO _) (by rw[hc'];exact QbJ _) (by omega),hc',QfJ]
  congr 1;omega
noncomputable def jn(c:Nat):List (List Nat)->List Nat
 | []=>[]
 | [x]=>x
 | x::y::r=>x++c::jn c (y::r)
theorem QaW(c:Nat):∀ts:List Str,cp (Str.join (tx [c]) ts)=jn c (ts.map cp)
 | []=>rfl
 | [x]=>rfl
 | x::y::r=>by
  rw[join_cons_cons,Qcr,Qcr,QaW c (y::r)]
  show(cp x++[c])++_=cp x++c::_
  rw[ZZ];rfl
theorem Qe7{c:Nat}:∀{a b r s:List Nat},c∉a->c∉b->a++c::r=b++c::s->a=b/\r=s
 | [],[],r,s,_,_,h=>⟨rfl,by simpa using h⟩
 | [],y::b,r,s,_,hb,h=>by simp at h;exact absurd (by simp[h.1]) hb
 | x::a,[],r,s,ha,_,h=>by simp at h;exact absurd (by simp[h.1]) ha
 | x::a,y::b,r,s,ha,hb,h=>by
  simp only[Zao,List.cons.injEq]at h
  obtain⟨e1,e2⟩:=Qe7 (λm=>ha (Za _ m)) (λm=>hb (Za _ m)) h.2
  exact⟨by rw[h.1,e1],e2⟩
theorem QhV{c:Nat}:∀{a b:List (List Nat)},a≠[]->b≠[]->(∀x∈a,c∉x)->(∀x∈b,c∉x)->jn c a=jn c b->a=b
 | [],_,h,_,_,_,_=>absurd rfl h
 | _,[],_,h,_,_,_=>absurd rfl h
 | [x],[y],_,_,_,_,h=>by rw[show x=y from h]
 | [x],y::z::r,_,_,hx,_,h=>absurd (show c∈x from by rw[show x=y++c::jn c (z::r)from h];simp) (hx x (by simp))
 | y::z::r,[x],_,_,_,hx,h=>absurd (show c∈x from by rw[show x=y++c::jn c (z::r)from h.symm];simp) (hx x (by simp))
 | x::z::r,y::w::s,_,_,ha,hb,h=>by
  obtain⟨e1,e2⟩:=Qe7 (ha x (by simp)) (hb y (by simp)) (show x++c::jn c (z::r)=y++c::jn c (w::s)from h)
  rw[e1,QhV (by simp) (by simp) (λu hu=>ha u (Za _ hu)) (λu hu=>hb u (Za _ hu)) e2]
theorem Qif(x y:Str)(hy:y≠x->True):Txt.split x y=[]->x=Str.empty:=λh=>by
 have:=StrLaws.join_split x y
 rw[h]at this
 exact this.symm
theorem Qdu:∀{a b:List Str},a.map cp=b.map cp->a=b
 | [],[],_=>rfl
 | [],_::_,h=>by simp at h
 | _::_,[],h=>by simp at h
 | x::a,y::b,h=>by
  simp only[Zl,List.cons.injEq]at h
  rw[Qcu h.1,Qdu h.2]
theorem QgN{c:Nat}{ts:List Str}(h0:∀t∈ts,c∉cp t)(h1:ts≠[])(h2:Txt.split (Str.join (tx [c]) ts) (tx [c])≠[]):Txt.split (Str.join (tx [c]) ts) (tx [c])=ts:=by
 refine Qdu (QhV (c:=c) ?_ ?_ ?_ ?_ ?_)
 ·simpa using h2
 ·simpa using h1
 ·intro x hx
  obtain⟨t,ht,rfl⟩:=Zy.mp hx
  exact StrLaws.split_free _ c t ht
 ·intro x hx
  obtain⟨t,ht,rfl⟩:=Zy.mp hx
  exact h0 t ht
 ·rw[← QaW,← QaW,StrLaws.join_split]
theorem Qlw:Str.ofString "-" =tx [45]:=by decide
theorem Qd1:Str.ofString " " =tx [32]:=by decide
theorem QeD:Str.ofString "" =tx []:=by decide
theorem QkU:Str.ofString "0123456789" =tx [48,49,50,51,52,53,54,55,56,57]:=by decide
theorem QhH:Str.ofString "0" =tx [48]:=by decide
section
variable {fa fb:DE}{ρ:En}{ra rb r:R}
theorem QgK{g:D->D->Option D}{d:D}(ha:fa ρ=some ra)(hb:fb ρ=some rb)(h:g ra.d rb.d=some d):dM1 g fa (Qf fb Qk) ρ=some ⟨d,true,[]⟩:=by
 unfold dM1
 rw[ha,Zh,Qan hb (Qbg _),Zh]
 show(g ra.d rb.d).map _=_
 rw[h];rfl
theorem QbE{g:List D->Option D}{d:D}(h:fa ρ=some r)(e:g [r.d]=some d):dBf g (Qf fa Qk) ρ=some ⟨d,true,[]⟩:=by
 unfold dBf
 rw[Qan h (Qbg _),Zh]
 show(g [r.d]).map _=_
 rw[e];rfl
theorem QjH{x:Str}(h:fa ρ=some r)(e:r.d= .str x)(hl:x.length<=16000000):Q8 fa ρ=some ⟨(cp x).map λc=> .str (tx [c]),[]⟩:=by
 unfold Q8
 rw[h,Zh,e]
 exact if_pos (by rw[QaT];exact Zr hl (by decide))
theorem QfR{x:Str}(h:fa ρ=some r)(e:r.d= .str x)(hl:x.length<=16000000):dBf QaP (Qf fa Qk) ρ=some ⟨.int x.length,true,[]⟩:=
 QbE h (by rw[e];exact if_pos (by rw[QaT];exact Zr hl (by decide)))
theorem QdI{x y:Str}(ha:fa ρ=some ra)(ea:ra.d= .str x)(hb:fb ρ=some rb)(eb:rb.d= .str y)(hl:x.length+y.length<=16000000):Qbf fa fb ρ=some ⟨.str (x++y),true,[]⟩:=by
 unfold Qbf
 rw[ha,Zh,hb,Zh,ea,eb]
 exact if_pos (by rw[QaT];exact Zr hl (by decide))
theorem Qbh{x:Str}{n:Nat}(h:∀c∈cp x,c<200):(D.str x).sim n=true:=by
 have:(D.str x).sim n=x.cps.all (· <0x110000):=by cases n<;>rfl
 rw[this,← Array.all_toList,ZK]
 intro c hc
 have:=h c hc
 exact decide_eq_true (by omega)
theorem QhC(x y:Str):deq (.str x) (.str y)=(x == y):=rfl
theorem Qly{x y:Str}(ha:fa ρ=some ra)(ea:ra.d= .str x)(hb:fb ρ=some rb)(eb:rb.d= .str y)(hx:∀c∈cp x,c<200)(hy:∀c∈cp y,c<200):dOp gEq fa fb ρ=some ⟨.bl (x == y),true,[]⟩:=
 Qac ha hb (by rw[ea,eb];unfold gEq;rw[Qbh hx,Qbh hy,QhC];rfl)
theorem Qhe{x y:Str}(ha:fa ρ=some ra)(ea:ra.d= .str x)(hb:fb ρ=some rb)(eb:rb.d= .str y)(hx:∀c∈cp x,c<200)(hy:∀c∈cp y,c<200):dOp gNe fa fb ρ=some ⟨.bl (!(x == y)),true,[]⟩:=
 Qac ha hb (by rw[ea,eb];unfold gNe;rw[Qbh hx,Qbh hy,QhC];rfl)
theorem Qhn{α:Type}:∀ks:List α,QdP (ks.map λ_=>D.bl false)=some (ks.map λ_=>false)
 | []=>rfl
 | k::ks=>by
  show(QdP (ks.map λ_=>D.bl false)).map _=_
  rw[Qhn ks];rfl
theorem QjF{α:Type}{ks:List α}(h:fa ρ=some r)(e:r.d= .lst (ks.map λ_=> .bl false)):dBf QcI (Qf fa Qk) ρ=some ⟨.bl false,true,[]⟩:=by
 refine QbE h ?_
 rw[e]
 simp only[QcI,Qhn,Zad]
 congr 2
 rw[List.any_map]
 simp
end
theorem QfW{w:Str}{c:Nat}{r:List Nat}(h:cp w=c::r):Txt.startswith w "-" =(c == 45):=by
 have e:w=tx (c::r):=Qcu h
 subst e
 show Txt.startswith (tx (c::r)) (Str.ofString "-")=_
 rw[Qlw]
 simp[Txt.startswith,Builtin.Str.subAt,tx,Str.length,List.extract_toArray]
theorem Qlb{w:Str}{c:Nat}{r:List Nat}(h:cp w=c::r):Txt.slice w (some 1) none=tx r:=by
 have hl:w.length=r.length+1:=by rw[Qcw,h];rfl
 have e:Txt.slice w (some 1) none=StrLaws.sliceText w (some ((1:Nat):Int)) (some (w.length:Int)):=by
  show StrLaws.sliceText w (some 1) none=_
  unfold StrLaws.sliceText
  rw[StrLaws.sliceIdx_none_hi];rfl
 rw[e,StrLaws.sliceText_nat w (by omega) (Zj _)]
 show tx (((cp w).drop 1).take (w.length-1))=_
 rw[h,hl]
 show tx (r.take (r.length+1-1))=_
 rw[Nat.add_sub_cancel,List.take_length]
theorem QdZ{n c:Nat}(h:c∈dig n):c<200:=by have:=QaO n c h;omega
theorem QcW{i:Int}{c:Nat}(h:c∈cp (Qi i)):c<200:=by
 rw[Qa9]at h
 split at h
 ·rcases Zu.mp h with h | h
  ·omega
  ·exact QdZ h
 ·exact QdZ h
theorem Qki{n c:Nat}(h:c∈dig n):gIn true (.str (tx [c])) (.str "0123456789")=some (.bl false):=by
 have f:=StrLaws.found_one (Str.ofString "0123456789") c
 have hc:=QaO n c h
 show some (D.bl (!(!(Builtin.Str.occurrences (Str.ofString "0123456789") ⟨#[c]⟩ 0 (Str.ofString "0123456789").length 1).isEmpty)))=_
 rw[f,QkU]
 have:c∈(tx [48,49,50,51,52,53,54,55,56,57]).cps.toList:=by
  show c∈[48,49,50,51,52,53,54,55,56,57]
  simp only[Zu,List.not_mem_nil,or_false];omega
 rw[decide_eq_true this];rfl
noncomputable def Qcc:DS:=(Qh (QU 1 (dIf (Qr (dM1 gSw (Qg 0) (Qf (dC (.str "-")) Qk))) (Qcj (Qg 0) (Qbp (dC (.int 1))) Qbm) (Qg 0))) (Qh (sIf (Qr (dBf QcI (Qf (Qax (Q8 (Qg 1)) (.nm 1) [none,none] Qbr (dOp (gIn true) (Qg 1) (dC (.str "0123456789")))) Qk))) (Qh QH Qm) Qm) (Qh (sIf (bOr (Qr (dOp gLt (dBf QaP (Qf (Qg 1) Qk)) (dC (.int 1)))) (Qr (dOp gGt (dBf QaP (Qf (Qg 1) Qk)) (dC (.int 18))))) (Qh QH Qm) Qm) (Qh (sIf (QdV (Qr (dOp gEq (QbY (Qg 1) (dC (.int 0))) (dC (.str "0")))) (Qr (dOp gNe (Qg 0) (dC (.str "0"))))) (Qh QH Qm) Qm) (Qh (Q2 (dBf QgB (Qf (Qg 0) Qk))) Qm)))))
def Qgi(d:Den):Prop:=∀i:Int,i.natAbs<10^18->d [.str (Qi i)]=some (.int i,true)
theorem QlV:Qgi (Qw 2 Qcc):=λi h=>by
 have hl:=QbV (by decide) h
 have hf:=Qf6 (by decide) h
 have hc:=Qa9 i
 refine Qbl ?_
 have hs:Txt.startswith (Qi i) "-" =decide (i<0):=by
  by_cases hi:i<0
  ·rw[if_pos hi]at hc;rw[QfW hc,decide_eq_true hi];rfl
  ·rw[if_neg hi]at hc
   cases hd:dig i.natAbs with
   | nil=>exact absurd hd (QbJ _)
   | cons c r=>
    rw[hd]at hc
    have:=QaO i.natAbs c (by rw[hd];simp)
    rw[QfW hc,decide_eq_false hi]
    exact beq_eq_false_iff_ne.mpr (by omega)
 have e1:dIf (Qr (dM1 gSw (Qg 0) (Qf (dC (.str "-")) Qk))) (Qcj (Qg 0) (Qbp (dC (.int 1))) Qbm) (Qg 0) (Qas 2 [.str (Qi i)])=some ⟨.str (tx (dig i.natAbs)),true,[]⟩:=by
  have h0:Qr (dM1 gSw (Qg 0) (Qf (dC (.str "-")) Qk)) (Qas 2 [.str (Qi i)])=some (decide (i<0)):=
   Qs (r:=⟨.bl (Txt.startswith (Qi i) "-"),true,[]⟩) (QgK (ra:=⟨.str (Qi i),true,[]⟩) (rb:=⟨.str "-",true,[]⟩) rfl rfl rfl) (by rw[hs])
  unfold dIf
  rw[h0,Zh]
  by_cases hi:i<0
  ·rw[if_pos (decide_eq_true hi)]
   rw[if_pos hi]at hc
   show(if(Qi i).length<=sizeLine then some (HS.R.mk (.str (Txt.slice (Qi i) (some 1) none)) true [])else none)=_
   rw[if_pos (by rw[QaT];omega),Qlb hc]
  ·rw[if_neg (by rw[decide_eq_false hi];decide)]
   rw[if_neg hi]at hc
   show some (HS.R.mk (.str (Qi i)) true [])=_
   rw[show Qi i=tx (dig i.natAbs)from Qcu hc]
 refine run_seq (QB e1 ?_)
 change Nx _ (.nx [some (.str (Qi i),true),some (.str (tx (dig i.natAbs)),true)])
 have hfl:(tx (dig i.natAbs)).length<=18:=by rw[Qcw];exact hf
 refine Qy (QI (b:=false) (Qs (r:=⟨.bl false,true,[]⟩) (QjF (ks:=dig i.natAbs) (QbZ (toD:=λc=> .str (tx [c])) (out:=λ_=> .bl false) (dig i.natAbs) (QjH (x:=tx (dig i.natAbs)) rfl rfl (by omega)) rfl (λc hc=>⟨[none,some (.str (tx [c]),true)],rfl,⟨.bl false,true,[]⟩,Qac (ra:=⟨.str (tx [c]),true,[]⟩) (rb:=⟨.str "0123456789",true,[]⟩) rfl rfl (Qki hc),rfl,rfl⟩)) rfl) rfl) (λh=>by cases h) (λ_=>Qo ?_))
 have hg:1<=(tx (dig i.natAbs)).length:=by
  rw[Qcw]
  exact List.length_pos_iff.mpr (QbJ _)
 refine Qy (QI (b:=false) ?_ (λh=>by cases h) (λ_=>Qo ?_))
 ·have:=QbF (a:=decide (((tx (dig i.natAbs)).length:Int)<1)) (b:=decide ((18:Int)<(tx (dig i.natAbs)).length)) (g1:=Qr (dOp gLt (dBf QaP (Qf (Qg 1) Qk)) (dC (.int 1)))) (g2:=Qr (dOp gGt (dBf QaP (Qf (Qg 1) Qk)) (dC (.int 18)))) (ρ:=[some (.str (Qi i),true),some (.str (tx (dig i.natAbs)),true)])
   (Qs (Qac (ra:=⟨.int (tx (dig i.natAbs)).length,true,[]⟩) (rb:=⟨.int 1,true,[]⟩) (QfR rfl rfl (by omega)) rfl rfl) rfl) (Qs (Qac (ra:=⟨.int (tx (dig i.natAbs)).length,true,[]⟩) (rb:=⟨.int 18,true,[]⟩) (QfR rfl rfl (by omega)) rfl rfl) rfl)
  rw[this,decide_eq_false (by omega),decide_eq_false (by omega)];rfl
 have hw:(Qi i == tx [48])=decide (i=0):=by
  by_cases h0:i=0
  ·subst h0;decide
  ·rw[decide_eq_false h0]
   refine beq_eq_false_iff_ne.mpr λe=>h0 ?_
   have e2:=QcR (i:=i) (by decide) h (by decide)
   rw[e,show tx [48]=Qi 0 by decide,QcR (i:=0) (k:=1) (by decide) (by decide) (by decide)]at e2
   exact(Option.some.inj e2).symm
 refine Qy (QI (b:=false) ?_ (λh=>by cases h) (λ_=>Qo ?_))
 ·cases hd:dig i.natAbs with
  | nil=>exact absurd hd (QbJ _)
  | cons c r=>
   have ei:QbY (Qg 1) (dC (.int 0)) [some (.str (Qi i),true),some (.str (tx (c::r)),true)]=some ⟨.str (tx [c]),true,[]⟩:=by
    show(if 0<=(0:Int)/\(0:Int)<2^63/\(0:Int)<(tx (c::r)).length then((tx (c::r)).cps[(0:Int).toNat]?).map λc=>HS.R.mk (.str ⟨#[c]⟩) true []else none)=_
    rw[if_pos ⟨by decide,by decide,by rw[Qcw,QaA];simp⟩];rfl
   have hcl:c<200:=QdZ (n:=i.natAbs) (by rw[hd];simp)
   have:=Qjs (a:=tx [c] == tx [48]) (b:= !(Qi i == tx [48])) (g1:=Qr (dOp gEq (QbY (Qg 1) (dC (.int 0))) (dC (.str "0")))) (g2:=Qr (dOp gNe (Qg 0) (dC (.str "0")))) (ρ:=[some (.str (Qi i),true),some (.str (tx (c::r)),true)])
    (Qs (Qly (rb:=⟨.str "0",true,[]⟩) ei rfl rfl (congrArg D.str QhH) (λc' h'=>by rw[QaA,Zt]at h';omega) (λc' h'=>by rw[QaA,Zt]at h';omega)) rfl)
    (Qs (Qhe (ra:=⟨.str (Qi i),true,[]⟩) (rb:=⟨.str "0",true,[]⟩) rfl rfl rfl (congrArg D.str QhH) (λc' h'=>QcW h') (λc' h'=>by rw[QaA,Zt]at h';omega)) rfl)
   rw[this,hw]
   by_cases h0:i=0
   ·rw[decide_eq_true h0,Bool.not_true,Bool.and_false]
   ·obtain⟨c',r',e',hc'⟩:=QiI (n:=i.natAbs) (by omega)
    rw[hd]at e'
    obtain⟨rfl,rfl⟩:=List.cons.inj e'
    rw[beq_eq_false_iff_ne.mpr (λe=>by have:=congrArg cp e;rw[QaA,QaA]at this;simp at this;omega),ZaJ]
 refine Qak (QbE (r:=⟨.str (Qi i),true,[]⟩) (d:= .int i) rfl ?_) ⟨rfl,rfl⟩
 show(if(Qi i).length<=640 then(intText? (Qi i)).map D.int else none)=_
 rw[if_pos (by omega),QcR (by decide) h (by decide)];rfl
noncomputable def Qn(ns:List Int):Str:=Str.join (tx [32]) (ns.map Qi)
def Small(k:Nat)(ns:List Int):Prop:=ns.length<=63/\∀n∈ns,n.natAbs<10^k
theorem Small.up{ns:List Int}{k l:Nat}(h:Small k ns)(hk:k<=l):Small l ns:=⟨h.1,λn hn=>Zm (h.2 n hn) (Zaa (by decide) hk)⟩
theorem Small.take{ns:List Int}{k i:Nat}(h:Small k ns):Small k (ns.take i):=⟨by have:=h.1;rw[Zab];omega,λn hn=>h.2 n (List.mem_of_mem_take hn)⟩
theorem Qfp{ns:List Int}{k:Nat}(hk:0<k)(h:Small k ns):∀y∈ns.map Qi,y.length<=k+1:=λy hy=>by
 obtain⟨n,hn,rfl⟩:=Zy.mp hy
 exact QbV hk (h.2 n hn)
theorem QeY{ns:List Int}{k:Nat}(hk:0<k)(h:Small k ns):(Qn ns).length<=63*(k+2):=by
 have h1:=StrLaws.join_length_le (tx [32]) (ns.map Qi)
 have h2:=StrLaws.sumLen_le (B:=k+1) (ns.map Qi) (Qfp hk h)
 rw[Zv]at h1 h2
 have e:(tx [32]).length=1:=rfl
 rw[e,Nat.mul_one]at h1
 have h3:ns.length*(k+1)<=63*(k+1):=Nat.mul_le_mul_right _ h.1
 have h4:63*(k+2)=63*(k+1)+63:=by omega
 have:=h.1
 show(Str.join (tx [32]) (ns.map Qi)).length<=_
 omega
theorem Qht{c b:Nat}(hc:c<b):∀{l:List (List Nat)},(∀x∈l,∀d∈x,d<b)->∀d∈jn c l,d<b
 | [],_,d,h=>by simp[jn]at h
 | [x],hx,d,h=>hx x (by simp) d h
 | x::y::r,hx,d,h=>by
  rcases Zx.mp (show d∈x++c::jn c (y::r)from h)with h | h
  ·exact hx x (by simp) d h
  ·rcases Zu.mp h with h | h
   ·omega
   ·exact Qht hc (λz hz=>hx z (Za _ hz)) d h
theorem Qc1{ns:List Int}:∀c∈cp (Qn ns),c<200:=by
 unfold Qn
 rw[QaW]
 refine Qht (by decide) λx hx d hd=>?_
 rw[Zak]at hx
 obtain⟨n,_,rfl⟩:=Zy.mp hx
 exact QcW hd
theorem QfY{c:Nat}{y:List Nat}:∀{l:List (List Nat)},l≠[]->jn c (l++[y])=jn c l++c::y
 | [],h=>absurd rfl h
 | [x],_=>rfl
 | x::z::r,_=>by
  show x++c::jn c (z::r++[y])=(x++c::jn c (z::r))++c::y
  rw[QfY (l:=z::r) (by simp)];simp
theorem Qhu{ns:List Int}{n:Int}(h:ns≠[]):Qn (ns++[n])=Qn ns++tx [32]++Qi n:=by
 refine Qcu ?_
 unfold Qn
 rw[Qcr,Qcr,QaW,QaW,ZM,ZM,Zl,Zah,Zl,Zah,QfY (by simpa using h),QaA,ZZ];rfl
theorem QmT{c:Nat}:∀{l:List (List Nat)},l≠[]->(∀x∈l,x≠[])->jn c l≠[]
 | [],h,_=>absurd rfl h
 | [x],_,hx=>hx x (by simp)
 | x::z::r,_,hx=>by show x++c::_≠[];simp
theorem Qf4{ns:List Int}(h:ns≠[]):Qn ns≠tx []:=λe=>by
 have:=congrArg cp e
 unfold Qn at this
 rw[QaW,QaA]at this
 refine QmT (by simpa using h) (λx hx=>?_) this
 rw[Zak]at hx
 obtain⟨n,_,rfl⟩:=Zy.mp hx
 exact Qf5 n
theorem Qe0:∀ts:List Str,QbU (ts.map .str)=some ts
 | []=>rfl
 | t::ts=>by
  show(QbU (ts.map .str)).map _=_
  rw[Qe0 ts];rfl
theorem Qcm{n:Int}(h:n.natAbs<10^60):QdT [.int n]=some (.str (Qi n)):=by
 show(if n.natAbs.log2<1920 then some (D.str (Qi n))else none)=_
 refine if_pos ?_
 by_cases h0:n.natAbs=0
 ·rw[h0];decide
 ·exact(ZaK h0).mpr (Zm h (Zr (by decide:10^60<=2^200) (Zaa (by decide) (by decide))))
noncomputable def Qde:DS:=(Qh (Q2 (dM1 Qc4 (dC (.str " ")) (Qf (Qax (Q8 (Qg 0)) (.nm 1) [none,none] Qbr (dBf QdT (Qf (Qg 1) Qk))) Qk))) Qm)
def QbL(d:Den):Prop:=∀ns,Small 60 ns->d [Qa ns]=some (.str (Qn ns),true)
theorem Qjx:QbL (Qw 1 Qde):=λns h=>by
 refine Qbl (Qak (QgK (g:=Qc4) (d:= .str (Qn ns)) (ra:=⟨.str " ",true,[]⟩) (rb:=⟨.lst (ns.map λn=> .str (Qi n)),true,[]⟩) rfl (QbZ (toD:=D.int) (out:=λn=> .str (Qi n)) ns (QbI (xs:=ns.map D.int) (r:=⟨.lst (ns.map .int),false,[]⟩) rfl rfl) rfl λn hn=>⟨[none,some (.int n,true)],rfl,⟨.str (Qi n),true,[]⟩,QbE (r:=⟨.int n,true,[]⟩) rfl (Qcm (h.2 n hn)),rfl,rfl⟩) ?_) ⟨rfl,rfl⟩)
 show(QbU (ns.map λn=>D.str (Qi n))).bind (λts=>if JoinOk (Str.ofString " ") ts=true then some (D.str (Txt.join (Str.ofString " ") ts))else none)=_
 have e:(ns.map λn=>D.str (Qi n))=(ns.map Qi).map D.str:=by rw[Zak];rfl
 rw[e,Qe0,Zh,Qd1]
 have hj:JoinOk (tx [32]) (ns.map Qi)=true:=by
  unfold JoinOk
  rw[StrLaws.joinFits (Qfp (by decide) h) ?_]
  ·rfl
  ·have:=h.1
   have e:(tx [32]).length=1:=rfl
   rw[Zv,e];omega
 rw[if_pos hj]
 show some (D.str (Builtin.Str.glued (tx [32]) (ns.map Qi)))=_
 rw[StrLaws.glued_eq_join];rfl
noncomputable def QbO:DS:=(Qh (QU 1 (dC (.str ""))) (Qh (Qck (Q8 (Qg 0)) (.nm 2) (Qh (sIf (Qr (dOp gNe (Qg 1) (dC (.str "")))) (Qh (QU 1 (Qbf (Qg 1) (dC (.str " ")))) Qm) Qm) (Qh (QU 1 (Qbf (Qg 1) (dBf QdT (Qf (Qg 2) Qk)))) Qm))) (Qh (Q2 (Qg 1)) Qm)))
theorem Qgu:QbL (Qw 3 QbO):=λns h=>by
 refine Qbl ?_
 refine run_seq (QB (r:=⟨.str "",true,[]⟩) rfl ?_)
 change Nx _ (.nx [some (.lst (ns.map .int),false),some (.str (Str.ofString ""),true),none])
 refine Qfq (P:=λρ=>∃j2,ρ=[some (.lst (ns.map .int),false),some (.str (Qn ns),true),j2]) ?_ ?_
 ·refine QdK (toD:=D.int) ns (λi ρ=>∃j2,ρ=[some (.lst (ns.map .int),false),some (.str (Qn (ns.take i)),true),j2]) (QbI (xs:=ns.map D.int) (r:=⟨.lst (ns.map .int),false,[]⟩) rfl rfl) rfl ⟨none,?_⟩ ?_ ?_
  ·rw[QeD];rfl
  ·rintro i n ρ hi ⟨j2,rfl⟩
   have hil:i<ns.length:=(Ze.mp hi).1
   have et:ns.take (i+1)=ns.take i++[n]:=by rw[List.take_succ,hi];rfl
   have hT:=QeY (by decide) (h.take (i:=i))
   have hn:=QbV (by decide) (h.2 n (ZY hi))
   refine⟨[some (.lst (ns.map .int),false),some (.str (Qn (ns.take i)),true),some (.int n,true)],rfl,?_⟩
   have e0:Qr (dOp gNe (Qg 1) (dC (.str ""))) [some (.lst (ns.map .int),false),some (.str (Qn (ns.take i)),true),some (.int n,true)]=some (!(Qn (ns.take i) == tx [])):=
    Qs (Qhe (ra:=⟨.str (Qn (ns.take i)),true,[]⟩) (rb:=⟨.str "",true,[]⟩) rfl rfl rfl (congrArg D.str QeD) Qc1 (λc hc=>by simp[QaA]at hc)) rfl
   by_cases h0:ns.take i=[]
   ·refine run_seq (QI (b:=false) ?_ (λh=>by cases h) (λ_=>Qo ?_))
    ·rw[e0,h0];rfl
    refine run_seq (QB (QdI (x:=Qn (ns.take i)) (y:=Qi n) rfl rfl (QbE (r:=⟨.int n,true,[]⟩) rfl (Qcm (h.2 n (ZY hi)))) rfl (by omega)) (Qo ⟨some (.int n,true),?_⟩))
    rw[et,h0]
    change [some (D.lst (ns.map .int),false),some (D.str (Qn []++Qi n),true),some (D.int n,true)]=_
    rw[show Qn []++Qi n=Qn ([]++[n])from Qcu (by rw[Qcr];rfl)]
   ·refine run_seq (QI (b:=true) ?_ (λ_=>?_) (λh=>by cases h))
    ·rw[e0,beq_eq_false_iff_ne.mpr (Qf4 h0)];rfl
    refine run_seq (QB (QdI (x:=Qn (ns.take i)) (y:=tx [32]) (rb:=⟨.str " ",true,[]⟩) rfl rfl rfl (congrArg D.str Qd1) (by have e:(tx [32]).length=1:=rfl;omega)) (Qo ?_))
    change Nx _ (.nx [some (.lst (ns.map .int),false),some (.str (Qn (ns.take i)++tx [32]),true),some (.int n,true)])
    refine run_seq (QB (QdI (x:=Qn (ns.take i)++tx [32]) (y:=Qi n) rfl rfl (QbE (r:=⟨.int n,true,[]⟩) rfl (Qcm (h.2 n (ZY hi)))) rfl (by rw[Str.length_append];have e:(tx [32]).length=1:=rfl;omega)) (Qo ⟨some (.int n,true),?_⟩))
    rw[et,Qhu h0];rfl
  ·rintro ρ ⟨j2,rfl⟩
   rw[List.take_length]
   exact⟨j2,rfl⟩
 ·rintro ρ ⟨j2,rfl⟩
  exact Qak rfl ⟨rfl,rfl⟩
noncomputable def QcA:DS:=(Qh (sIf (Qbx (Qr (Qcn "str" (Qg 0)))) (Qh QH Qm) Qm) (Qh (Q2 (dM1 QgM (Qg 0) (Qf (dC (.str " ")) Qk))) Qm))
def QdF(d:Den):Prop:=∀x:Str,x.length<=16000000->(Txt.split x (tx [32])).length<=16000000->d [.str x]=some (.lst ((Txt.split x (tx [32])).map .str),true)
theorem Qic:QdF (Qw 1 QcA):=λx h1 h2=>by
 refine Qbl (Qy (QI (b:=false) (Qcs (b:=true) (Qs (b:=true) rfl rfl)) (λh=>by cases h) (λ_=>Qo ?_)))
 refine Qak (QgK (ra:=⟨.str x,true,[]⟩) (rb:=⟨.str " ",true,[]⟩) rfl rfl ?_) ⟨rfl,rfl⟩
 show(if(((Str.ofString " ").length == 0)=false/\x.length<=16000000)/\(Txt.split x (Str.ofString " ")).length<=16000000 then some (D.lst ((Txt.split x (Str.ofString " ")).map .str))else none)=_
 rw[Qd1,if_pos ⟨⟨rfl,h1⟩,h2⟩]
noncomputable def Qdm(Q0:Den)(QO:Den):DS:=(Qh (QU 1 (QE 1 Q0 [] (Qf (Qg 0) Qk))) (Qh (sIf (Qr (dOp gEq (Qg 1) (QdO (Qf (dC (.str "")) Qk)))) (Qh (Q2 (QdO Qk)) Qm) Qm) (Qh (Q2 (Qax (Q8 (Qg 1)) (.nm 1) [none,none] Qbr (QE 1 QO [] (Qf (Qg 1) Qk)))) Qm)))
def Qe9(d:Den):Prop:=∀ns,Small 18 ns->d [.str (Qn ns)]=some (Qa ns,true)
theorem Qc3{ts:List Str}(h:∀t∈ts,∀c∈cp t,c<200):(D.lst (ts.map .str)).sim 8=true:=by
 show(ts.map D.str).all (D.sim 7)=true
 rw[ZK]
 intro d hd
 obtain⟨t,ht,rfl⟩:=Zy.mp hd
 exact Qbh (h t ht)
theorem Qjk{dw dn:Den}(hw:QdF dw)(hn:Qgi dn):Qe9 (Qw 2 (Qdm dw dn)):=λns h=>by
 have hT:=QeY (by decide) h
 refine Qbl ?_
 by_cases h0:ns=[]
 ·subst h0
  have es:Txt.split (Qn []) (tx [32])=[tx []]:=rfl
  have hd:=hw (Qn []) (by omega) (by rw[es];decide)
  rw[es]at hd
  refine run_seq (QB (QC (r:=⟨[.str (Qn [])],true,[]⟩) rfl hd rfl) ?_)
  change Nx _ (.nx [some (.str (Qn []),true),some (.lst [.str (tx [])],true)])
  refine Qy (QI (b:=true) ?_ (λ_=>?_) (λh=>by cases h))
  ·refine Qs (Qac (ra:=⟨.lst [.str (tx [])],true,[1]⟩) (rb:=⟨.lst [.str (tx [])],true,[]⟩) (d:= .bl true) rfl ?_ ?_) rfl
   ·show some (HS.R.mk (.lst [.str (Str.ofString "")]) true [])=_
    rw[QeD]
   ·show(if(D.lst ([tx []].map .str)).sim 8 && (D.lst ([tx []].map .str)).sim 8 then some (D.bl (deq (.lst [.str (tx [])]) (.lst [.str (tx [])])))else none)=_
    rw[Qc3 (ts:=[tx []]) (λt ht c hc=>by rw[Zt]at ht;rw[ht,QaA]at hc;simp at hc)]
    show some (D.bl ((tx [] == tx []) && true))=_
    rw[beq_self_eq_true];rfl
  ·exact Qy (Qf7 (r:=⟨.lst [],true,[]⟩) rfl ⟨rfl,rfl⟩)
 ·have es:Txt.split (Qn ns) (tx [32])=ns.map Qi:=by
   refine QgN (λt ht=>?_) (by simpa using h0) λe=>Qf4 h0 (Qif _ _ (λ_=>trivial) e)
   obtain⟨n,_,rfl⟩:=Zy.mp ht
   exact QhQ n
  have hd:=hw (Qn ns) (by omega) (by rw[es,Zv];have:=h.1;omega)
  rw[es]at hd
  refine run_seq (QB (QC (r:=⟨[.str (Qn ns)],true,[]⟩) rfl hd rfl) ?_)
  change Nx _ (.nx [some (.str (Qn ns),true),some (.lst ((ns.map Qi).map .str),true)])
  refine Qy (QI (b:=false) ?_ (λh=>by cases h) (λ_=>Qo ?_))
  ·refine Qs (Qac (ra:=⟨.lst ((ns.map Qi).map .str),true,[1]⟩) (rb:=⟨.lst [.str (tx [])],true,[]⟩) (d:= .bl false) rfl ?_ ?_) rfl
   ·show some (HS.R.mk (.lst [.str (Str.ofString "")]) true [])=_
    rw[QeD]
   ·show(if(D.lst ((ns.map Qi).map .str)).sim 8 && (D.lst ([tx []].map .str)).sim 8 then some (D.bl (deq (.lst ((ns.map Qi).map .str)) (.lst [.str (tx [])])))else none)=_
    rw[Qc3 (ts:=ns.map Qi) (λt ht c hc=>by obtain⟨n,_,rfl⟩:=Zy.mp ht;exact QcW hc),Qc3 (ts:=[tx []]) (λt ht c hc=>by rw[Zt]at ht;rw[ht,QaA]at hc;simp at hc)]
    cases ns with
    | nil=>exact absurd rfl h0
    | cons n r=>
     show some (D.bl ((Qi n == tx []) && _))=_
     rw[beq_eq_false_iff_ne.mpr λe=>Qf5 n (by rw[e,QaA]),ZaJ]
  ·refine Qak (QbZ (toD:=λn=> .str (Qi n)) (out:=D.int) ns (QbI (xs:=(ns.map Qi).map .str) (r:=⟨.lst ((ns.map Qi).map .str),true,[1]⟩) rfl rfl) (by rw[Zak];rfl) λn hm=>⟨[none,some (.str (Qi n),true)],rfl,⟨.int n,true,[]⟩,QC (r:=⟨[.str (Qi n)],true,[]⟩) rfl (hn n (h.2 n hm)) rfl,rfl,rfl⟩) ⟨rfl,rfl⟩
theorem QfX{fa fb:DE}{ρ:En}{ra rb:R}{cs:List Int}{n:Nat}(ha:fa ρ=some ra)(ea:ra.d=Qa cs)(hb:fb ρ=some rb)(eb:rb.d= .int n):Qcj fa Qbm (Qbp fb) ρ=some ⟨Qa (cs.take n),true,[]⟩:=by
 unfold Qcj Qbp Qbm
 simp only[ha,hb,Zh,ea,eb,Qa,cutD,Zv,HT.Qiv,HT.Qkk,List.drop_zero,Nat.sub_zero,← List.map_take,Qab,Qdg,if_true]
 congr 4
 rw[List.take_eq_take_iff];omega
theorem Qge{fa:DE}{ρ:En}{r:R}{cs:List Int}(h:fa ρ=some r)(e:r.d=Qa cs):dList (Qf fa Qk) ρ=some ⟨Qa cs,true,[]⟩:=by
 unfold dList
 rw[Qan h (Qbg _),Zh]
 simp only[e,Qa,Qab,Qdg,if_true]
noncomputable def QaU:DS:=(Qh (QU 1 (QdO Qk)) (Qh (Qck (Q8 (Qcj (Qg 0) Qbm (Qbp (dC (.int 80))))) (.nm 2) (Qh (QU 3 (dOp Qb6 (Qb8 (Qg 2) (dC (.int 48271))) (dC (.int 2147483647)))) (Qh (sIf (Qr (dOp gEq (dOp Qb6 (Qg 3) (dC (.int 3))) (dC (.int 1)))) (Qh (Qbj 1 QbW (dOp Qbv (dOp Qb6 (dOp QdU (Qg 3) (dC (.int 3))) (dC (.int 19))) (dC (.int 9)))) Qm) (Qh (sIf (Qr (dOp gEq (dOp Qb6 (Qg 3) (dC (.int 9))) (dC (.int 2)))) (Qh (Qbj 1 QbW (QbY (QdO (Qf (dC (.int 0)) (Qf (dOp Qbv (dOp Qce (dC (.int 10)) (dC (.int 18))) (dC (.int 1))) (Qf (dOp Qbv (dC (.int 1)) (dOp Qce (dC (.int 10)) (dC (.int 18)))) Qk)))) (dOp Qb6 (dOp QdU (Qg 3) (dC (.int 9))) (dC (.int 3))))) Qm) (Qh (Qbj 1 QbW (Qbf (dOp Qbv (dOp Qb6 (Qb8 (Qg 2) (dC (.int 7919))) (dOp Qbv (Qb8 (dC (.int 2)) (dOp Qce (dC (.int 10)) (dC (.int 18)))) (dC (.int 1)))) (dOp Qce (dC (.int 10)) (dC (.int 18)))) (dC (.int 1)))) Qm)) Qm)) Qm))) (Qh (Q2 (Qg 1)) Qm)))
def QdJ(d:Den):Prop:=∀ns:List Int,ns.length<=63->∃R,d [Qa ns]=some (Qa R,true)/\Small 18 R
theorem Qh9:QdJ (Qw 4 QaU):=λns hl=>by
 have key:Run QaU (Qas 4 [Qa ns]) (Rt λd fr=>∃R,d=Qa R/\fr=true/\Small 18 R):=by
  refine run_seq (QB (r:=⟨Qa [],true,[]⟩) rfl ?_)
  change Nx _ (.nx [some (Qa ns,false),some (Qa [],true),none,none])
  refine Qfq (P:=λρ=>∃R j2 j3,Small 18 R/\ρ=[some (Qa ns,false),some (Qa R,true),j2,j3]) ?_ ?_
  ·refine QdK (toD:=D.int) (ns.take 80) (λi ρ=>∃R j2 j3,R.length=i/\(∀n∈R,n.natAbs<10^18)/\ρ=[some (Qa ns,false),some (Qa R,true),j2,j3]) (QbI (xs:=(ns.take 80).map D.int) (r:=⟨.lst ((ns.take 80).map .int),true,[]⟩) (QfX (n:=80) (rb:=⟨.int 80,true,[]⟩) rfl rfl rfl rfl) rfl) rfl ⟨[],none,none,rfl,λn h=>by simp at h,rfl⟩ ?_ ?_
   ·rintro i c ρ hi ⟨R,j2,j3,hR,hb,rfl⟩
    have hil:i<63:=by
     have:=(Ze.mp hi).1
     rw[Zab]at this;omega
    refine⟨[some (Qa ns,false),some (Qa R,true),some (.int c,true),j3],rfl,?_⟩
    refine run_seq (QB (QbH (QeR rfl rfl rfl rfl (Qf2 (by decide))) rfl rfl rfl (by decide)) ?_)
    generalize hv:c*48271 % 2147483647=v
    have hv0:0<=v:=by omega
    change Nx _ (.nx [some (Qa ns,false),some (Qa R,true),some (.int c,true),some (.int v,true)])
    have fin:∀n:Int,n.natAbs<10^18->∃R' j2 j3,R'.length=i+1/\(∀n∈R',n.natAbs<10^18)/\[some (Qa ns,false),some (Qa (R++[n]),true),some (D.int c,true),some (D.int v,true)]=[some (Qa ns,false),some (Qa R',true),j2,j3]:=λn hn=>⟨R++[n],_,_,by rw[Zp,hR];rfl,λk hk=>by
     rcases Zx.mp hk with hk | hk
     ·exact hb k hk
     ·rw[Zt]at hk;rw[hk];exact hn,rfl⟩
    refine run_seq (QI (b:=decide (v % 3=1)) (Qs (Qhy (QbH rfl rfl rfl rfl (by decide)) rfl rfl rfl) rfl) (λ_=>?_) (λ_=>?_))
    ·refine run_seq (QbQ (A:=R) (n:=v / 3 % 19-9) rfl (Qac (ra:=⟨.int (v / 3 % 19),true,[]⟩) (rb:=⟨.int 9,true,[]⟩) (QbH (Qe1 rfl rfl rfl rfl (by decide) (by decide)) rfl rfl rfl (by decide)) rfl rfl) rfl (by omega) (Qo (Qo (fin _ (by omega)))))
    ·refine run_seq (QI (b:=decide (v % 9=2)) (Qs (Qhy (QbH rfl rfl rfl rfl (by decide)) rfl rfl rfl) rfl) (λ_=>?_) (λ_=>?_))
     ·have hk0:0<=v / 9 % 3:=by omega
      have hk3:v / 9 % 3<3:=by omega
      obtain⟨n,hn,hs⟩:∃n,[(0:Int),10^18-1,1-10^18][(v / 9 % 3).toNat]? =some n/\n.natAbs<10^18:=by
       have:(v / 9 % 3).toNat=0∨(v / 9 % 3).toNat=1∨(v / 9 % 3).toNat=2:=by omega
       rcases this with e | e | e<;>rw[e]
       ·exact⟨_,rfl,by decide⟩
       ·exact⟨_,rfl,by decide⟩
       ·exact⟨_,rfl,by decide⟩
      refine run_seq (QbQ (A:=R) (n:=n) rfl (Qkl (ra:=⟨.lst ([0,10^18-1,1-10^18].map .int),true,[]⟩) (ns:=[0,10^18-1,1-10^18]) rfl rfl (QbH (Qe1 rfl rfl rfl rfl (by decide) (by decide)) rfl rfl rfl (by decide)) rfl hk0 hn) rfl (by omega) (Qo (Qo (Qo (fin _ hs)))))
     ·refine run_seq (QbQ (A:=R) (n:=c*7919 % (2*10^18-1)-10^18+1) rfl (Qhp (a:=c*7919 % (2*10^18-1)-10^18) (Qac (ra:=⟨.int (c*7919 % (2*10^18-1)),true,[]⟩) (rb:=⟨.int (10^18),true,[]⟩) (QbH (b:=2*10^18-1) (QeR rfl rfl rfl rfl (Qf2 (by decide))) rfl rfl rfl (by decide)) rfl rfl) rfl rfl rfl) rfl (by omega) (Qo (Qo (Qo (fin _ (by omega))))))
   ·rintro ρ ⟨R,j2,j3,hR,hb,rfl⟩
    exact⟨R,j2,j3,⟨by rw[hR,Zab];omega,hb⟩,rfl⟩
  ·rintro ρ ⟨R,j2,j3,hs,rfl⟩
   exact Qak rfl ⟨R,rfl,rfl,hs⟩
 obtain⟨o,h1,h2⟩:=key
 cases o with
 | rt d fr=>
  obtain⟨R,rfl,rfl,hs⟩:=h2
  exact⟨R,by unfold Qw;rw[h1];rfl,hs⟩
 | _=>exact False.elim h2
noncomputable def Qea(Qao:Den)(Q6:Den)(Qv:Den)(QR:Den)(Q4:Den):DS:=(Qh (QU 1 (QE 1 Qao [] (Qf (Qg 0) Qk))) (Qh (QU 2 (dList (Qf (Qg 1) Qk))) (Qh (QU 3 (QE 1 Q6 [] (Qf (Qg 2) Qk))) (Qh (sIf (bOr (Qbx (Qr (Qcn "str" (Qg 3)))) (bOr (Qr (dOp gNe (Qg 3) (QE 1 Qv [] (Qf (Qg 1) Qk)))) (Qr (dOp gNe (Qg 2) (Qg 1))))) (Qh (Q2 (dC (.bl false))) Qm) Qm) (Qh (QU 4 (QE 1 QR [] (Qf (Qg 3) Qk))) (Qh (sIf (Qbx (Qr (QE 2 Q4 [] (Qf (Qg 4) (Qf (Qg 1) Qk))))) (Qh (Q2 (dC (.bl false))) Qm) Qm) (Qh (QU 5 (Qax (Q8 (Qg 1)) (.nm 1) [none,none] Qbr (Qbf (Qb8 (Qg 1) (dOp Qce (dC (.int 10)) (dC (.int 40)))) (dC (.int 7))))) (Qh (sIf (Qr (dOp gNe (QE 1 Q6 [] (Qf (Qg 5) Qk)) (QE 1 Qv [] (Qf (Qg 5) Qk)))) (Qh (Q2 (dC (.bl false))) Qm) Qm) (Qh (Qbj 4 QbW (dC (.int 1))) (Qh (QU 6 (Qcj (Qg 1) Qbm (Qbp (dOp QdU (dBf QaP (Qf (Qg 1) Qk)) (dC (.int 2)))))) (Qh (Q2 (Qfj (QE 2 Q4 [] (Qf (QE 1 QR [] (Qf (QE 1 Qv [] (Qf (Qg 6) Qk)) Qk)) (Qf (Qg 6) Qk))) (QE 2 Q4 [] (Qf (QE 1 QR [] (Qf (Qg 3) Qk)) (Qf (Qg 1) Qk))))) Qm)))))))))))
theorem longer{R:List Int}(h:Small 18 R):Small 60 (R.map λn=>n*10^40+7):=⟨by rw[Zv];exact h.1,λn hn=>by
 obtain⟨k,hk,rfl⟩:=Zy.mp hn
 have:=h.2 k hk
 omega⟩
theorem Qig(ns:List Int):(Qa ns).sim 8=true:=by
 show(ns.map D.int).all (D.sim 7)=true
 rw[ZK]
 intro d hd
 obtain⟨t,ht,rfl⟩:=Zy.mp hd
 rfl
theorem Qla{dr dt dw dd di:Den}(hr:QdJ dr)(ht:QbL dt)(hw:QbL dw)(hd:Qe9 dd)(hi:QeW di)(ns:List Int)(hl:ns.length<=63):Qw 7 (Qea dr dt dw dd di) [Qa ns]=some (.bl true,true):=by
 obtain⟨R,er,hs⟩:=hr ns hl
 have hs6:Small 60 R:=hs.up (by decide)
 have hlo:=longer hs
 refine Qbl ?_
 refine run_seq (QB (QC (r:=⟨[Qa ns],false,[]⟩) rfl er rfl) ?_)
 change Nx _ (.nx [some (Qa ns,false),some (Qa R,true),none,none,none,none,none])
 refine run_seq (QB (r:=⟨Qa R,true,[]⟩) ?_ ?_)
 ·exact Qge rfl rfl
 change Nx _ (.nx [some (Qa ns,false),some (Qa R,true),some (Qa R,true),none,none,none,none])
 refine run_seq (QB (QC (r:=⟨[Qa R],true,[2]⟩) rfl (ht R hs6) rfl) ?_)
 change Nx _ (.nx [some (Qa ns,false),some (Qa R,true),some (Qa R,true),some (.str (Qn R),true),none,none,none])
 refine Qy (QI (b:=false) ?_ (λh=>by cases h) (λ_=>Qo ?_))
 ·refine QbF (a:=false) (b:=false) (Qcs (b:=true) (Qs (b:=true) rfl rfl)) (QbF (a:=false) (b:=false) (Qs (b:=false) (Qe8 (d:= .str (Qn R)) (ra:=⟨.str (Qn R),true,[]⟩) rfl rfl (QC (r:=⟨[Qa R],true,[1]⟩) rfl (hw R hs6) rfl) rfl (Qbh Qc1)) rfl) (Qs (b:=false) (Qe8 (d:=Qa R) (ra:=⟨Qa R,true,[2]⟩) (rb:=⟨Qa R,true,[1]⟩) rfl rfl rfl rfl (Qig R)) rfl))
 refine run_seq (QB (QC (r:=⟨[.str (Qn R)],true,[]⟩) rfl (hd R hs) rfl) ?_)
 change Nx _ (.nx [some (Qa ns,false),some (Qa R,true),some (Qa R,true),some (.str (Qn R),true),some (Qa R,true),none,none])
 refine Qy (QI (b:=false) (Qcs (b:=true) (Qs (b:=true) (QC (r:=⟨[Qa R,Qa R],true,[4,1]⟩) rfl (hi R) rfl) rfl)) (λh=>by cases h) (λ_=>Qo ?_))
 refine run_seq (QB (r:=⟨Qa (R.map λn=>n*10^40+7),true,[]⟩) ?_ ?_)
 ·have:=QbZ (fi:=Q8 (Qg 1)) (t:= .nm 1) (cap:=[none,none]) (fe:=Qbf (Qb8 (Qg 1) (dOp Qce (dC (.int 10)) (dC (.int 40)))) (dC (.int 7))) (toD:=D.int) (out:=λn=> .int (n*10^40+7)) (ρ:=[some (Qa ns,false),some (Qa R,true),some (Qa R,true),some (.str (Qn R),true),some (Qa R,true),none,none]) R (QbI (xs:=R.map D.int) (r:=⟨.lst (R.map .int),true,[1]⟩) rfl rfl) rfl λn hn=>⟨[none,some (.int n,true)],rfl,⟨.int (n*10^40+7),true,[]⟩,Qhp (a:=n*10^40) (b:=7) (QeR (a:=n) (b:=10^40) (rb:=⟨.int (10^40),true,[]⟩) rfl rfl rfl rfl (Qjt (by have:=hs.2 n hn;omega))) rfl rfl rfl,rfl,rfl⟩
  rw[this]
  unfold Qa
  rw[Zak];rfl
 change Nx _ (.nx [some (Qa ns,false),some (Qa R,true),some (Qa R,true),some (.str (Qn R),true),some (Qa R,true),some (Qa (R.map λn=>n*10^40+7),true),none])
 refine Qy (QI (b:=false) (Qs (b:=false) (Qe8 (d:= .str (Qn (R.map λn=>n*10^40+7))) (QC (r:=⟨[Qa (R.map λn=>n*10^40+7)],true,[5]⟩) rfl (ht _ hlo) rfl) rfl (QC (r:=⟨[Qa (R.map λn=>n*10^40+7)],true,[5]⟩) rfl (hw _ hlo) rfl) rfl (Qbh Qc1)) rfl) (λh=>by cases h) (λ_=>Qo ?_))
 refine run_seq (QbQ (A:=R) (n:=1) rfl rfl rfl (by have:=hs.1;omega) ?_)
 change Nx _ (.nx [some (Qa ns,false),some (Qa R,true),some (Qa R,true),some (.str (Qn R),true),some (Qa (R++[1]),true),some (Qa (R.map λn=>n*10^40+7),true),none])
 refine run_seq (QB (QfX (cs:=R) (n:=R.length / 2) (ra:=⟨Qa R,true,[1]⟩) (rb:=⟨.int (R.length / 2:Nat),true,[]⟩) rfl rfl ?_ rfl) ?_)
 ·rw[Qe1 (a:=R.length) (b:=2) (QeS (xs:=R.map D.int) (r:=⟨Qa R,true,[1]⟩) rfl rfl) (by rw[Zv]) rfl rfl (by decide) (by decide)]
  rw[Int.natCast_ediv];rfl
 change Nx _ (.nx [some (Qa ns,false),some (Qa R,true),some (Qa R,true),some (.str (Qn R),true),some (Qa (R++[1]),true),some (Qa (R.map λn=>n*10^40+7),true),some (Qa (R.take (R.length / 2)),true)])
 have hh:Small 18 (R.take (R.length / 2)):=hs.take
 exact Qak (Qlz (QC (r:=⟨[Qa (R.take (R.length / 2)),Qa (R.take (R.length / 2))],true,[6]⟩) (Qan (QC (r:=⟨[.str (Qn (R.take (R.length / 2)))],true,[]⟩) (Qan (QC (r:=⟨[Qa (R.take (R.length / 2))],true,[6]⟩) rfl (hw _ (hh.up (by decide))) rfl) (Qbg _)) (hd _ hh) rfl) (Qan (r:=⟨Qa (R.take (R.length / 2)),true,[6]⟩) rfl (Qbg _))) (hi _) rfl) (QC (r:=⟨[Qa R,Qa R],true,[1]⟩) (Qan (QC (r:=⟨[.str (Qn R)],true,[]⟩) rfl (hd R hs) rfl) (Qan (r:=⟨Qa R,true,[1]⟩) rfl (Qbg _))) (hi R) rfl)) ⟨rfl,rfl⟩
end HS
theorem HS.some_of{α:Type}{x:Option α}{d:α}(h:x.isSome=true):x=some (x.getD d):=by cases x with | none=>cases h | some a=>rfl
namespace Law
open PySem L2 HS
noncomputable section
def top(i:Nat):Stmt:=PySem.Challenge.pw_heapstill_k72_row_texts.main.body.getD i (.Pass ⟨0,0,0,0⟩)
abbrev cst:List (Str×Cn):=[("FIGURES",.inr "0123456789"),("MOST_FIGURES",.inl 18)]
abbrev Sc(s:Stmt)(P:List Str):Prop:=Qat (namesOf (Qd s)) P (Qd s)
theorem scM{s:Stmt}{P:List Str}(h1:(Qd s).kind= .function)(h2:(Qd s).isCoroutine=false)(h3:(Qd s).isGenerator=false)(h4:(namesOf (Qd s)).Nodup/\(namesOf (Qd s)).take P.length=P/\(∀x∈P,(Qd s).names.lookup x=some .local ∨(Qd s).names.lookup x=some .cell)/\∀y∈(Qd s).names,y.2≠ .free):Sc s P:=⟨h1,h2,h3,h4.1,h4.2.1,h4.2.2.1,h4.2.2.2⟩
noncomputable abbrev Cp(s:Stmt)(Γ:List (Str×FnR)):Option DS:=QZ 60 (QdW s Γ cst) (QY s)
noncomputable abbrev Dn(s:Stmt)(g:DS):Den:=Qw (namesOf (Qd s)).length g
noncomputable abbrev Gc(x:Str)(n:Nat)(d:Den)(Γ:List (Str×FnR)):List (Str×FnR):=(x,⟨n,[],d⟩)::Γ
abbrev Q3:=top 6
theorem Qew:Sc Q3 ["text"]:=scM rfl rfl rfl (by decide+kernel)
theorem Qe5:QT "text_words" Q3 ["text"]:=λ_ _ _ _ _ _=>lc λ_=>l0 rfl
def Qcf:=(Cp Q3 []).getD QH
theorem QeH:Cp Q3 []=some Qcf:=some_of (by decide+kernel)
abbrev Q0:=Dn Q3 Qcf
abbrev Qbk:=Gc "text_words" 1 Q0 []
abbrev QP:=top 7
theorem QdB:Sc QP ["word"]:=scM rfl rfl rfl (by decide+kernel)
theorem Qeu:QT "read_number" QP ["word"]:=λ_ _ _ _ _ _=>lc λ_=>l0 rfl
def Qcd:=(Cp QP Qbk).getD QH
theorem Qes:Cp QP Qbk=some Qcd:=some_of (by decide+kernel)
abbrev QO:=Dn QP Qcd
abbrev Qa2:=Gc "read_number" 1 QO Qbk
abbrev Qar:=top 8
theorem QfB:Sc Qar ["text"]:=scM rfl rfl rfl (by decide+kernel)
theorem Qgs:QT "read_row" Qar ["text"]:=λ_ _ _ _ _ _=>lc λ_=>l0 rfl
def Qdv:=(Cp Qar Qa2).getD QH
theorem Qgm:Cp Qar Qa2=some Qdv:=some_of (by decide+kernel)
abbrev QR:=Dn Qar Qdv
abbrev Qb3:=Gc "read_row" 1 QR Qa2
abbrev Qam:=top 9
theorem Qfy:Sc Qam ["row"]:=scM rfl rfl rfl (by decide+kernel)
theorem QgF:QT "row_text" Qam ["row"]:=λ_ _ _ _ _ _=>lc λ_=>l0 rfl
def Qdd:=(Cp Qam Qb3).getD QH
theorem Qgk:Cp Qam Qb3=some Qdd:=some_of (by decide+kernel)
abbrev Q6:=Dn Qam Qdd
abbrev QbS:=Gc "row_text" 1 Q6 Qb3
abbrev QaD:=top 11
theorem QgR:Sc QaD ["_law_found","_law_due"]:=scM rfl rfl rfl (by decide+kernel)
theorem Qhf:QT "_law_is" QaD ["_law_found","_law_due"]:=λ_ _ _ _ _ _=>lc λ_=>lc λ_=>l0 rfl
def Qd9:=(Cp QaD QbS).getD QH
theorem QhB:Cp QaD QbS=some Qd9:=some_of (by decide+kernel)
abbrev Q4:=Dn QaD Qd9
abbrev Qcp:=Gc "_law_is" 2 Q4 QbS
abbrev Qap:=top 12
theorem Qfx:Sc Qap ["_law_script"]:=scM rfl rfl rfl (by decide+kernel)
theorem QgU:QT "_law_row" Qap ["_law_script"]:=λ_ _ _ _ _ _=>lc λ_=>l0 rfl
def Qdx:=(Cp Qap Qcp).getD QH
theorem Qgn:Cp Qap Qcp=some Qdx:=some_of (by decide+kernel)
abbrev Qao:=Dn Qap Qdx
abbrev Qb1:=Gc "_law_row" 1 Qao Qcp
abbrev QF:=top 13
theorem Qdy:Sc QF ["_law_row_here"]:=scM rfl rfl rfl (by decide+kernel)
theorem QdM:QT "_law_written" QF ["_law_row_here"]:=λ_ _ _ _ _ _=>lc λ_=>l0 rfl
def QbN:=(Cp QF Qb1).getD QH
theorem QdC:Cp QF Qb1=some QbN:=some_of (by decide+kernel)
abbrev Qv:=Dn QF QbN
abbrev QbC:=Gc "_law_written" 1 Qv Qb1
abbrev QcF:=top 14
theorem QlH:Sc QcF ["_law_script"]:=scM rfl rfl rfl (by decide+kernel)
theorem QmS:QT "law" QcF ["_law_script"]:=λ_ _ _ _ _ _=>lc λ_=>l0 rfl
def Qjc:=(Cp QcF QbC).getD QH
theorem QmY:Cp QcF QbC=some Qjc:=some_of (by decide+kernel)
abbrev Qgw:=Dn QcF Qjc
theorem Qfo:Q0=Qw 1 (HS.QcA):=by kernel_rfl
theorem Qet:QO=Qw 2 (HS.Qcc):=by kernel_rfl
theorem QgE:QR=Qw 2 (HS.Qdm Q0 QO):=by kernel_rfl
theorem QgJ:Q6=Qw 1 (HS.Qde):=by kernel_rfl
theorem Qhm:Q4=Qw 4 (HS.QcM):=by kernel_rfl
theorem QgD:Qao=Qw 4 (HS.QaU):=by kernel_rfl
theorem Qd4:Qv=Qw 3 (HS.QbO):=by kernel_rfl
theorem QmH:Qgw=Qw 7 (HS.Qea Qao Q6 Qv QR Q4):=by kernel_rfl
end
end Law
namespace HS
open PySem PySem.Spec L2
noncomputable def QiE(mg:Str->Option Value):List Str->Prop
 | []=>True
 | x::r=>mg x=none/\QiE mg r
theorem QeU{mg:Str->Option Value}:∀{l:List Str},QiE mg l->∀x∈l,mg x=none
 | [],_,x,h=>by simp at h
 | y::r,h,x,hx=>by
  rcases Zu.mp hx with rfl | hx
  ·exact h.1
  ·exact QeU h.2 x hx
noncomputable def QiM(mg:Str->Option Value):List (Str×Cn)->Prop
 | []=>True
 | (x,i)::r=>(∃t,mg x=some (cnV i t))/\QiM mg r
theorem Qfc{mg:Str->Option Value}:∀{l:List (Str×Cn)},QiM mg l->∀x i,look x l=some i->∃t,mg x=some (cnV i t)
 | [],_,x,i,h=>by cases h
 | (y,j)::r,h,x,i,hx=>by
  unfold look at hx
  split at hx
  ·rename_i e;cases hx;subst e;exact h.1
  ·exact Qfc h.2 x i hx
theorem QlY{mg:Str->Option Value}{cs:List (Str×Cn)}(b:QiE mg QeZ)(c:QiM mg cs):QbT mg cs:=⟨QeU b,Qfc c⟩
end HS
theorem HS.Qm0{K:PySem.W.Frag}{mg:PySem.Str->Option PySem.Value}{h:PySem.Heap}{x:PySem.Str}{i:Int}{t:PySem.Tok}(X:K.In h)(G:h.Ns PySem.mainGlobals mg)(a:PySem.W.nsIn K PySem.mainGlobals x=some (some (.int i t))):∃t,mg x=some (.int i t):=⟨t,ZaC X G a⟩
theorem HS.Qls{K:PySem.W.Frag}{mg:PySem.Str->Option PySem.Value}{h:PySem.Heap}{x:PySem.Str}{i:PySem.Str}{t:PySem.Tok}(X:K.In h)(G:h.Ns PySem.mainGlobals mg)(a:PySem.W.nsIn K PySem.mainGlobals x=some (some (.str i t))):∃t,mg x=some (.str i t):=⟨t,ZaC X G a⟩
namespace Law
open HS
theorem Qnn:Qgi QO:=by rw[Qet];exact QlV
theorem QlG:QdF Q0:=by rw[Qfo];exact Qic
theorem QmU:Qe9 QR:=by rw[QgE];exact Qjk QlG Qnn
theorem QmI:QbL Q6:=by rw[QgJ];exact Qjx
theorem QiJ:QbL Qv:=by rw[Qd4];exact Qgu
theorem QnB:QdJ Qao:=by rw[QgD];exact Qh9
theorem hIs:QeW Q4:=by rw[Qhm];exact QmL
theorem QkW(ns:List Int)(h:ns.length<=63):∃fr,Qgw [.lst (ns.map .int)]=some (.bl true,fr):=by
 rw[QmH]
 exact⟨true,Qla QnB QmI QiJ QmU hIs ns h⟩
end Law
namespace PySem.W.Fast
def tw4809468402275882853:=0
def tw17341939943010870509:=0
def tw3954801737540888096:=0
def tw14361883495907634859:=0
def tw15159041704375204981:=0
def tw8094384926623990623:=0
def tw3379858122712182776:=0
def tw5426946119605049367:=0
def tw7812285856996589374:=0
def tw6323601644682478450:=0
def tw11079424759318858209:=0
def tw7940690673491840528:=0
def tw6516593556543114224:=0
def tw5812153433536984510:=0
def tw658043275439849265:=0
def tw10901711024925325950:=0
def tw8414333773106399410:=0
def tw13568566102598498569:=0
def tw11128395806640315902:=0
def tw659577330979337774:=0
def tw939235849497940889:=0
def tw13818716777779203284:=0
def tw10557993800814850180:=0
def tw12060603741184512745:=0
def tw17684855648831370864:=0
def tw18103810350591033331:=0
def tw17340103406976476313:=0
def tw11164642573169613754:=0
def tw15165312204247358520:=0
def tw6386014247119309369:=0
def tw9306696801283850875:=0
def tw8452581872012176446:=0
end PySem.W.Fast
open PySem PySem.W PyProof.Rows HS
set_option maxRecDepth 100000 in
set_option maxHeartbeats 0 in
theorem PySem.Challenge.cw_heapstill_k72_row_texts_holds : PySem.Challenge.rw_heapstill_k72_row_texts.Holds := by
 w_on;o_law;k_head;(case hw=>w_witness2)
 k_fill
 refine HS.Qih (l:=PySem.Challenge.rw_heapstill_k72_row_texts) (k:=8) (x:= "_law_script") (den:=Law.Qgw) rfl rfl ⟨rfl,by decide,by decide⟩ (λw h Y=>PySem.W.kIn_of Y) Law.QkW ?F
 case F=>
  intro w mg fa h KX G hmg
  obtain⟨f_text_words,f_read_number,f_read_row,f_row_text,f__law_is,f__law_row,f__law_written,f_law⟩:HS.Fact (L2.KOf KX) "text_words" Law.Q3/\HS.Fact (L2.KOf KX) "read_number" Law.QP/\HS.Fact (L2.KOf KX) "read_row" Law.Qar/\HS.Fact (L2.KOf KX) "row_text" Law.Qam/\HS.Fact (L2.KOf KX) "_law_is" Law.QaD/\HS.Fact (L2.KOf KX) "_law_row" Law.Qap/\HS.Fact (L2.KOf KX) "_law_written" Law.QF/\HS.Fact (L2.KOf KX) "law" Law.QcF:=by
   refine⟨?_,?_,?_,?_,?_,?_,?_,?_⟩<;>(dsimp only[L2.KOf];refine' HS.fact_mk ?a ?l ?c ?k;(case a=>k_is);(case l=>k_is);(case c=>k_is);(case k=>k_is))
  have M:HS.QbT mg Law.cst:=by
   obtain⟨n_range,n_enumerate,n_zip,n_len,n_list,n_min,n_max,n_sum,n_abs,n_isinstance,n_int,n_bool,n_tuple,n_str,n_divmod,n_sorted,n_any,n_all,n_set⟩:PySem.W.nsIn (L2.KOf KX) mainGlobals "range" =some none/\PySem.W.nsIn (L2.KOf KX) mainGlobals "enumerate" =some none/\PySem.W.nsIn (L2.KOf KX) mainGlobals "zip" =some none/\PySem.W.nsIn (L2.KOf KX) mainGlobals "len" =some none/\PySem.W.nsIn (L2.KOf KX) mainGlobals "list" =some none/\PySem.W.nsIn (L2.KOf KX) mainGlobals "min" =some none/\PySem.W.nsIn (L2.KOf KX) mainGlobals "max" =some none/\PySem.W.nsIn (L2.KOf KX) mainGlobals "sum" =some none/\PySem.W.nsIn (L2.KOf KX) mainGlobals "abs" =some none/\PySem.W.nsIn (L2.KOf KX) mainGlobals "isinstance" =some none/\PySem.W.nsIn (L2.KOf KX) mainGlobals "int" =some none/\PySem.W.nsIn (L2.KOf KX) mainGlobals "bool" =some none/\PySem.W.nsIn (L2.KOf KX) mainGlobals "tuple" =some none/\PySem.W.nsIn (L2.KOf KX) mainGlobals "str" =some none/\PySem.W.nsIn (L2.KOf KX) mainGlobals "divmod" =some none/\PySem.W.nsIn (L2.KOf KX) mainGlobals "sorted" =some none/\PySem.W.nsIn (L2.KOf KX) mainGlobals "any" =some none/\PySem.W.nsIn (L2.KOf KX) mainGlobals "all" =some none/\PySem.W.nsIn (L2.KOf KX) mainGlobals "set" =some none:=by refine⟨?_,?_,?_,?_,?_,?_,?_,?_,?_,?_,?_,?_,?_,?_,?_,?_,?_,?_,?_⟩<;>(dsimp only[L2.KOf];k_is)
   have n_FIGURES:∃t,mg "FIGURES" =some (.str "0123456789" t):=by refine' HS.Qls KX G ?a;(case a=>first | k_is | exact rfl | (dsimp only[L2.KOf];k_is))
   have n_MOST_FIGURES:∃t,mg "MOST_FIGURES" =some (.int 18 t):=by refine' HS.Qm0 KX G ?a;(case a=>first | k_is | exact rfl | (dsimp only[L2.KOf];k_is))
   exact HS.QlY ⟨PySem.W.mg_none_of KX G n_range,PySem.W.mg_none_of KX G n_enumerate,PySem.W.mg_none_of KX G n_zip,PySem.W.mg_none_of KX G n_len,PySem.W.mg_none_of KX G n_list,PySem.W.mg_none_of KX G n_min,PySem.W.mg_none_of KX G n_max,PySem.W.mg_none_of KX G n_sum,PySem.W.mg_none_of KX G n_abs,PySem.W.mg_none_of KX G n_isinstance,PySem.W.mg_none_of KX G n_int,PySem.W.mg_none_of KX G n_bool,PySem.W.mg_none_of KX G n_tuple,PySem.W.mg_none_of KX G n_str,PySem.W.mg_none_of KX G n_divmod,PySem.W.mg_none_of KX G n_sorted,PySem.W.mg_none_of KX G n_any,PySem.W.mg_none_of KX G n_all,PySem.W.mg_none_of KX G n_set,True.intro⟩ ⟨n_FIGURES,n_MOST_FIGURES,True.intro⟩
  have t0:∀base:Heap,HS.Qaw (PySem.Challenge.rw_heapstill_k72_row_texts).prog w (L2.KOf KX) mg base 0 []:=λ_=>HS.Qaw.nil
  have t_text_words:=λb=>(t0 b).cons (HS.QaC KX G f_text_words Law.Qew Law.Qe5 M (t0 b) Law.QeH)
  have t_read_number:=λb=>(t_text_words b).cons (HS.QaC KX G f_read_number Law.QdB Law.Qeu M (t_text_words b) Law.Qes)
  have t_read_row:=λb=>(t_read_number b).cons (HS.QaC KX G f_read_row Law.QfB Law.Qgs M (t_read_number b) Law.Qgm)
  have t_row_text:=λb=>(t_read_row b).cons (HS.QaC KX G f_row_text Law.Qfy Law.QgF M (t_read_row b) Law.Qgk)
  have t__law_is:=λb=>(t_row_text b).cons (HS.QaC KX G f__law_is Law.QgR Law.Qhf M (t_row_text b) Law.QhB)
  have t__law_row:=λb=>(t__law_is b).cons (HS.QaC KX G f__law_row Law.Qfx Law.QgU M (t__law_is b) Law.Qgn)
  have t__law_written:=λb=>(t__law_row b).cons (HS.QaC KX G f__law_written Law.Qdy Law.QdM M (t__law_row b) Law.QdC)
  exact HS.QmM KX G hmg f_law Law.QlH Law.QmS M (λbase=>t__law_written base) Law.QmY
