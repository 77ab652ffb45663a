import PyProof.Rows.All
import Wide.All
import OpenK.AllK
import Wide.FinOn
import Lean
import PyProof.EqAt
import PyProof.EqKinds
import PyProof.TupleCall
import PyProof.ZipIter
import PyProof.EnumMake
import PyProof.Rows.FactsT2
import PyProof.Rows.EnumRows
import PyProof.P3In
import PyProof.NeData
import KE.KUnpack
import PyProof.Rows.SumAny
import PyProof.Rows.MinMaxN
import PyProof.Rows.ListRangeD
import PyProof.Rows.Range3
import PyProof.Rows.RuleM_int
import PyProof.Rows.SortShell
import KE.KTryOn
import PyProof.ExcBaseAll.ValueError
import PyProof.RulesAs
import PyProof.ExcAttrAll.ValueError
import PyProof.Rows.RegTopCatchBFacts
import KE.RegKTryMore
import KE.RegKIsAll
import PySem.Challenge.RW_heapstill_k36_tables_refused
set_option Elab.async false
set_option linter.all false
set_option maxRecDepth 100000
def Za:= @Option.bind_some
def Zb:= @Option.map_eq_some_iff
def Zc:= @List.getElem?_set_ne
def Zd:= @List.mem_append_right
def Ze:= @List.mem_cons_of_mem
def Zf:= @List.getElem?_eq_some_iff
def Zg:= @List.getElem?_set_self
def Zh:= @List.mem_append_left
def Zi:= @Bool.and_eq_true
def Zj:= @Nat.le_refl
def Zk:= @List.getElem?_eq_none
def Zl:= @List.mem_cons
def Zm:= @Nat.lt_of_lt_of_le
def Zn:= @List.getElem?_map
def Zo:= @List.mem_cons_self
def Zp:= @List.mem_range
def Zq:= @Nat.le_trans
def Zr:= @PySem.Heap.lt_size
def Zs:= @List.lookup_cons
def Zt:= @List.length_range
def Zu:= @PySem.Heap.get?_push_of_some
def Zv:= @List.size_toArray
def Zw:= @Nat.le_succ
def Zx:= @List.length_append
def Zy:= @List.length_map
def Zz:= @List.getElem?_range
def ZA:= @Int.mul_zero
def ZC:= @Int.mul_assoc
def ZD:= @List.mem_singleton
def ZE:= @Int.zero_mul
def ZF:= @Int.mul_left_comm
def ZG:= @List.map_congr_left
def ZH:= @List.count_eq_zero
def ZI:= @Nat.ne_of_lt
def ZJ:= @Int.toNat_natCast
def ZK:= @Int.natAbs_mul
def ZL:= @PyProof.Rows.callWith_type1
def ZM:= @List.mem_append
def ZN:= @List.length_set
def ZO:= @Bool.false_ne_true
def ZP:= @Int.one_mul
def ZQ:= @PySem.Heap.get?_push_size
def ZR:= @List.map_cons
def ZS:= @List.length_cons
def ZT:= @Nat.zero_le
def ZU:= @Nat.pow_le_pow_right
def ZV:= @Nat.lt_irrefl
def ZW:= @Int.emod_lt_of_pos
def ZX:= @Int.natAbs_dvd_natAbs
def ZY:= @List.drop_eq_getElem_cons
def ZZ:= @List.count_pos_iff
def Zaa:= @PySem.mem_of_lookup
def Zab:= @List.replicate_succ
def Zac:= @Int.mul_comm
def Zad:= @List.nodup_iff_count
def Zae:= @Nat.lt_of_le_of_lt
def Zaf:= @Int.emod_nonneg
def Zag:= @Int.natCast_mul
def Zah:= @Int.eq_of_mul_eq_mul_left
def Zai:= @List.flatten_cons
def Zaj:= @List.count_append
def Zak:= @Option.map_some
def Zal:= @Int.mul_one
def Zam:= @List.all_eq_true
def Zan:= @Int.dvd_mul_of_dvd_left
def Zao:= @List.mem_map
def Zap:= @List.getD_eq_getElem?_getD
def Zaq:= @List.append_nil
def Zar:= @List.nodup_cons
def Zas:= @Classical.byContradiction
def Zat:= @List.getElem?_eq_getElem
def Zau:= @Int.mul_add
def Zav:= @Nat.mul_le_mul
def Zaw:= @Bool.not_eq_true'
def Zax:= @Int.dvd_add
def Zay:= @List.nodup_nil
def Zaz:= @Int.sub_add_cancel
def ZaA:= @Int.mul_nonpos_of_nonneg_of_nonpos
def ZaB:= @List.set_eq_take_append_cons_drop
def ZaC:= @List.count_cons
def ZaD:= @PySem.W.kia_one
def ZaE:= @List.mem_of_getElem?
def ZaF:= @Nat.mul_comm
def ZaG:= @List.ext_getElem?
def ZaH:= @List.length_take
def ZaI:= @Int.add_mul
def ZaJ:= @Int.neg_mul
def ZaK:= @List.mem_filterMap
def ZaL:= @List.take_of_length_le
def ZaM:= @List.map_map
def ZaN:= @Nat.add_sub_cancel
def ZaO:= @Int.zero_sub
def ZaP:= @PyProof.Rows.boot_isinstance
def ZaQ:= @PySem.W.mg_of
def ZaR:= @List.take_append_drop
def ZaS:= @List.append_assoc
def ZaT:= @Nat.le_of_lt
def ZaU:= @List.getElem?_append_left
def ZaV:= @PySem.W.hideAll_get
def ZaW:= @Nat.le_of_dvd
def ZaX:= @List.map_append
def ZaY:= @PyProof.Rows.intBits_le
def ZaZ:= @Int.dvd_sub
def Zba:= @Nat.lt_succ_of_lt
def Zbb:= @PyProof.Rows.boot_list
def Zbc:= @List.nodup_append
def Zbd:= @Int.add_zero
def Zbe:= @Int.natAbs_add_le
def Zbf:= @List.length_singleton
def Zbg:= @List.contains_iff_mem
def Zbh:= @List.mem_flatten
def Zbi:= @Nat.min_le_right
def Zbj:= @Nat.add_le_add_right
def Zbk:= @Nat.mul_le_mul_right
def Zbl:= @List.filterMap_cons
def Zbm:= @PySem.W.callWith_K
def Zbn:= @List.getElem?_append_right
def Zbo:= @PySem.Heap.size_push
def Zbp:= @List.getElem?_drop
def Zbq:= @List.getElem?_set
def Zbr:= @Option.isSome_iff_exists
def Zbs:= @PyProof.noPylong_of_log2
def Zbt:= @List.getElem?_replicate
def Zbu:= @Nat.lt_succ_self
def Zbv:= @List.cons_append
def Zbw:= @List.foldlM_cons
def Zbx:= @List.drop_length
def Zby:= @PyProof.Rows.boot_tuple
def Zbz:= @PySem.F.plainAttrs_list
def ZbA:= @Nat.le_mul_of_pos_right
def ZbB:= @PySem.W.cellsFrom_some
def ZbC:= @Nat.lt_trans
def ZbD:= @List.range_succ_eq_map
def ZbE:= @Int.fmod_nonneg_of_pos
def ZbF:= @Int.sub_self
def ZbG:= @List.of_mem_zip
def ZbH:= @Bool.or_eq_true
def ZbI:= @List.range_succ
def ZbJ:= @Nat.min_eq_left
def ZbK:= @Int.natCast_add
def ZbL:= @List.mapM_cons
namespace L2
open PySem PySem.Spec PyProof.Rows
noncomputable abbrev Key:=Sum Int Str
noncomputable def QtS:Key->Value->Bool
 | .inl k,v=>Value.isInt k v
 | .inr x,v=>Value.isStrOf x v
noncomputable def QyE(w:World):Key->Int
 | .inl k=>hashInt k
 | .inr x=>hashStr w x
theorem QaU:∀{k:Key}{v:Value},QtS k v=true->(∃i t,k=Sum.inl i/\v=Value.int i t)∨(∃x t,k=Sum.inr x/\v=Value.str x t)
 | .inl i,v,h=>by
  obtain⟨t,e⟩:=Value.isInt_shape (k:=i) (v:=v) h
  exact .inl ⟨i,t,rfl,e⟩
 | .inr x,v,h=>by
  obtain⟨t,e⟩:=Value.isStrOf_shape (x:=x) (v:=v) h
  exact .inr ⟨x,t,rfl,e⟩
theorem QwJ(a b:Int):decide ((Sum.inl a:Key)=Sum.inl b)=(a == b):=by
 by_cases e:a=b
 ·subst e;simp
 ·have h:¬(Sum.inl a:Key)=Sum.inl b:=λq=>e (Sum.inl.inj q)
  rw[decide_eq_false h]
  exact(beq_eq_false_iff_ne.mpr e).symm
theorem Qw4(a b:Str):decide ((Sum.inr a:Key)=Sum.inr b)=decide (a=b):=by
 by_cases e:a=b
 ·subst e;simp
 ·have h:¬(Sum.inr a:Key)=Sum.inr b:=λq=>e (Sum.inr.inj q)
  rw[decide_eq_false h,decide_eq_false e]
theorem QvF(a:Int)(b:Str):decide ((Sum.inl a:Key)=Sum.inr b)=false:=decide_eq_false (λq=>nomatch q)
theorem QvS(a:Str)(b:Int):decide ((Sum.inr a:Key)=Sum.inl b)=false:=decide_eq_false (λq=>nomatch q)
noncomputable def QkJ(prog:Program)(w:World):PySem.KeyKind prog w Key where
 is:=QtS
 hash:=QyE w
 inj:=λv a b ha hb=>by
  rcases QaU ha with⟨i,t,rfl,rfl⟩ | ⟨x,t,rfl,rfl⟩
  ·rcases QaU hb with⟨j,u,rfl,e⟩ | ⟨y,u,rfl,e⟩
   ·injection e with e1 _;rw[e1]
   ·exact nomatch e
  ·rcases QaU hb with⟨j,u,rfl,e⟩ | ⟨y,u,rfl,e⟩
   ·exact nomatch e
   ·injection e with e1 _;rw[e1]
 byValue:=λk v h=>by
  rcases QaU h with⟨i,t,rfl,rfl⟩ | ⟨x,t,rfl,rfl⟩<;>rfl
 pyHash:=λhv h=>by
  rcases QaU hv with⟨i,t,rfl,rfl⟩ | ⟨x,t,rfl,rfl⟩
  ·exact wpAny_pyHash_int h
  ·exact wpAny_pyHash_str h
 eqBool:=λhu hv h=>by
  rcases QaU hu with⟨i,t,rfl,rfl⟩ | ⟨x,t,rfl,rfl⟩
  ·rcases QaU hv with⟨j,u,rfl,rfl⟩ | ⟨y,u,rfl,rfl⟩
   ·rw[QwJ]at h;exact wpAny_eqBool_int h
   ·rw[QvF]at h;exact SeqAt.EqAt.int_str i t y u _ _ _ _ h
  ·rcases QaU hv with⟨j,u,rfl,rfl⟩ | ⟨y,u,rfl,rfl⟩
   ·rw[QvS]at h;exact SeqAt.EqAt.str_int x t j u _ _ _ _ h
   ·rw[Qw4]at h;exact wpAny_eqBool_str h
 «strs» :=λk x t v h=>by
  rcases QaU h with⟨i,u,rfl,e⟩ | ⟨y,u,rfl,e⟩
  ·exact nomatch e
  ·injection e with e1 _
   subst e1
   cases v<;>rfl
end L2
namespace L2
open PySem PySem.Spec PyProof.Rows
inductive V where
 | non | bl (b:Bool) | int (i:Int) | str (x:Str) | byt (b:Array UInt8) | flt (b:UInt64) | ref (a:Addr) | ty (n:String)
 deriving DecidableEq
noncomputable def RelV:V->Value->Prop
 | .non,u=>u=Value.none
 | .bl b,u=>u=Value.bool b
 | .int i,u=>∃t,u=Value.int i t
 | .str x,u=>∃t,u=Value.str x t
 | .byt b,u=>∃t,u=Value.bytes b t
 | .flt b,u=>∃t,u=Value.float b t
 | .ref a,u=>u=Value.ref a
 | .ty n,u=>u=Value.type n
noncomputable abbrev Qz:List V->List Value->Prop:=Paired RelV
theorem Qz.length{xs:List V}{us:List Value}(r:Qz xs us):xs.length=us.length:=Paired.length r
theorem Qz.get:∀{xs:List V}{us:List Value}{i:Nat}{x:V},Qz xs us->xs[i]? =some x->∃u,us[i]? =some u/\RelV x u
 | _,_,_,_,.nil,e=>by simp at e
 | _,_,0,_,.cons r _,e=>by simp at e;subst e;exact⟨_,rfl,r⟩
 | _,_,i+1,x,.cons _ t,e=>by
  obtain⟨u,h1,h2⟩:=Qz.get (i:=i) (x:=x) t (by simpa using e)
  exact⟨u,by simpa using h1,h2⟩
theorem Qz.set{x:V}{u:Value}(r:RelV x u):∀{xs:List V}{us:List Value}(i:Nat),Qz xs us->Qz (xs.set i x) (us.set i u)
 | _,_,_,.nil=> .nil
 | _,_,0,.cons _ t=> .cons r t
 | _,_,i+1,.cons q t=> .cons q (Qz.set r i t)
theorem Qz.append:∀{xs ys:List V}{us ws:List Value},Qz xs us->Qz ys ws->Qz (xs++ys) (us++ws)
 | _,_,_,_,.nil,s=>s
 | _,_,_,_,.cons r t,s=> .cons r (Qz.append t s)
theorem Qz.take:∀{xs:List V}{us:List Value}(n:Nat),Qz xs us->Qz (xs.take n) (us.take n)
 | _,_,0,_=> .nil
 | _,_,_+1,.nil=> .nil
 | _,_,n+1,.cons r t=> .cons r (Qz.take n t)
theorem Qz.drop:∀{xs:List V}{us:List Value}(n:Nat),Qz xs us->Qz (xs.drop n) (us.drop n)
 | _,_,0,r=>r
 | _,_,_+1,.nil=> .nil
 | _,_,n+1,.cons _ t=>Qz.drop n t
noncomputable def Qv7:Option V->Option Value->Prop
 | some v,some u=>RelV v u
 | none,none=>True
 | _,_=>False
noncomputable def KV{κ:Type}:List (κ×V)->List (κ×Value)->Prop:=Paired λ(p:κ×V) (q:κ×Value)=>p.1=q.1/\RelV p.2 q.2
noncomputable def kV:Key->V
 | .inl i=> .int i
 | .inr x=> .str x
inductive HO where
 | lst (xs:List V)
 | tup (xs:List V)
 | dK (kvs:List (Key×V)) | dT (kvs:List (List Key×V))
 | set (S:Int->Bool) (n:Nat)
 | ins (C dx:Addr) (fs:List (Str×V))
 | own (x:Addr)
 | xd (fs:List (Str×V))
 | met (f x:Addr)
 | rng (lo hi:Int)
 | frz (o:Obj) (u:HO)
 | tbl (ps:Array Value)
 | ext (φ:Heap->Prop)
noncomputable abbrev Hp:=Addr->Option HO
noncomputable def upd(H:Hp)(a:Addr)(o:HO):Hp:=λb=>if b=a then some o else H b
theorem Q1{H:Hp}{a:Addr}{o:HO}:upd H a o a=some o:=by unfold upd;rw[if_pos rfl]
theorem QF{H:Hp}{a b:Addr}{o:HO}(h:b≠a):upd H a o b=H b:=by unfold upd;rw[if_neg h]
theorem Qmn{H:Hp}{a b:Addr}{o u:HO}(h:H a=some o)(h':H b=some u)(d:o≠u):a≠b:=by
 intro e;subst e;rw[h]at h';exact d (Option.some.inj h')
theorem QbM{H:Hp}{a b:Addr}{o:HO}(h:H a=some o)(h':H b=none):a≠b:=by
 intro e;subst e;rw[h]at h';cases h'
section
variable (P:Program) (w:World)
noncomputable def Qbx(H:Hp)(h:Heap)(a:Addr):HO->Prop
 | .lst xs=>xs.length<=sizeLine/\∃(its:List Value) (n:Nat),Qz xs its/\h.get? a=some {cls:= .type "list",data:= .seq its.toArray n}
 | .tup xs=>xs.length<=sizeLine/\∃its:List Value,Qz xs its/\IsTup h a its.toArray
 | .dK kvs=>kvs.length<=sizeLine/\(a == sysModules)=false/\∃vs,KV kvs vs/\h.DictOf (QkJ P w) a vs
 | .dT kvs=>kvs.length<=sizeLine/\(a == sysModules)=false/\∃xs:List (List Key×Addr×Value),
   Paired (λ(p:List Key×V) (q:List Key×Addr×Value)=>p.1=q.1/\H q.2.1=some (.tup (p.1.map kV))/\RelV p.2 q.2.2) kvs xs∧
   ∃o es ep,h.get? a=some o/\o.ExactDict/\o.data= .dict es ep/\es.toList=xs.map (entryOfKey (tupleKind (QkJ P w)))/\(xs.map (·.1)).Nodup
 | .set S n=>h.SetOf (intKind P w) a S n
 | .ins C dx fs=>H dx=some (.own a)/\fs.length<=1000/\dx≠a/\h.get? a=some (PySem.W.instObj C dx)∧
   ∃mA,h.Ns1 dx mA/\(∀f,Qv7 (fs.lookup f) (mA f))/\PySem.Within mA (fs.map (·.1))
 | .own _=>∃o,h.get? a=some o
 | .xd fs=>∃mA,h.Ns1 a mA/\∀f,Qv7 (fs.lookup f) (mA f)
 | .rng lo hi=>∃t u v,h.get? a=some {cls:= .type "range",data:= .fields #[.int lo t,.int hi u,.int 1 v]}
 | .frz o u=>h.get? a=some o/\Qbx H h a u
 | .tbl ps=>h.get? a=some {cls:= .none,data:= .fields ps}
 | .met f x=>h.get? a=some (PySem.W.methodObj (.ref f) (.ref x))
 | .ext φ=>φ h/\(∃o,h.get? a=some o)/\∀h1 h2:Heap,φ h1->(∀o,h1.get? a=some o->h2.get? a=some o)->φ h2
def HOk(H:Hp)(h:Heap):Prop:=∀a o,H a=some o->Qbx P w H h a o
end
section
variable {P:Program}{w:World}{H H':Hp}{h h':Heap}{a:Addr}{o:HO}
theorem Qbx.lt(x:Qbx P w H h a o):a<h.objs.size:=by
 cases o with
 | lst xs=>obtain⟨_,_,_,_,e⟩:=x;exact Zr e
 | tup xs=>obtain⟨_,_,_,p⟩:=x;exact p.lt
 | dK kvs=>obtain⟨_,_,_,_,o,_,_,e,_⟩:=x;exact Zr e
 | dT kvs=>obtain⟨_,_,_,_,o,_,_,e,_⟩:=x;exact Zr e
 | set S n=>obtain⟨o,_,_,_,e,_⟩:=x;exact Zr e
 | ins C dx fs=>obtain⟨_,_,_,e,_⟩:=x;exact Zr e
 | own y=>obtain⟨_,e⟩:=x;exact Zr e
 | xd fs=>obtain⟨_,⟨_,_,_,e,_⟩,_⟩:=x;exact Zr e
 | rng lo hi=>obtain⟨_,_,_,e⟩:=x;exact Zr e
 | frz ob u=>obtain⟨e,_⟩:=x;exact Zr e
 | tbl ps=>exact Zr (show h.get? a=some _ from x)
 | met f y=>exact Zr (show h.get? a=some _ from x)
 | ext φ=>obtain⟨_,⟨_,e⟩,_⟩:=x;exact Zr e
theorem Paired.Qxl{α β:Type}{F G:α->β->Prop}:∀{l₁:List α}{l₂:List β},Paired F l₁ l₂->(∀a b,F a b->G a b)->Paired G l₁ l₂
 | _,_,.nil,_=> .nil
 | _,_,.cons r t,f=> .cons (f _ _ r) (Paired.Qxl t f)
theorem Qbx.Qf1(x:Qbx P w H h a o)(k:∀b u,(b=a∨H b=some (.own a))->h.get? b=some u->h'.get? b=some u)
  (ho:∀b,H b=some (.own a)->H' b=some (.own a)) (ht:∀b xs,H b=some (.tup xs)->H' b=some (.tup xs)):Qbx P w H' h' a o:=by
 induction o with
 | lst xs=>obtain⟨z,its,n,r,e⟩:=x;exact⟨z,its,n,r,k _ _ (.inl rfl) e⟩
 | tup xs=>obtain⟨z,its,r,ob,e,c⟩:=x;exact⟨z,its,r,ob,k _ _ (.inl rfl) e,c⟩
 | dK kvs=>obtain⟨z,y,vs,r,ob,es,ep,e,c⟩:=x;exact⟨z,y,vs,r,ob,es,ep,k _ _ (.inl rfl) e,c⟩
 | dT kvs=>
  obtain⟨z,y,xs,r,ob,es,ep,e,c⟩:=x
  exact⟨z,y,xs,Paired.Qxl r λp q z=>⟨z.1,ht _ _ z.2.1,z.2.2⟩,ob,es,ep,k _ _ (.inl rfl) e,c⟩
 | set S n=>obtain⟨ob,es,ep,t,e,c⟩:=x;exact⟨ob,es,ep,t,k _ _ (.inl rfl) e,c⟩
 | ins C dx fs=>
  obtain⟨d,z,ne,e,mA,⟨od,es,ep,e2,c⟩,r⟩:=x
  exact⟨ho _ d,z,ne,k _ _ (.inl rfl) e,mA,⟨od,es,ep,k _ _ (.inr d) e2,c⟩,r⟩
 | own y=>obtain⟨ob,e⟩:=x;exact⟨ob,k _ _ (.inl rfl) e⟩
 | xd fs=>obtain⟨mA,⟨od,es,ep,e,c⟩,r⟩:=x;exact⟨mA,⟨od,es,ep,k _ _ (.inl rfl) e,c⟩,r⟩
 | rng lo hi=>obtain⟨t,u,v,e⟩:=x;exact⟨t,u,v,k _ _ (.inl rfl) e⟩
 | frz ob u ih=>obtain⟨e,q⟩:=x;exact⟨k _ _ (.inl rfl) e,ih q⟩
 | tbl ps=>
  have e:h.get? a=some {cls:= .none,data:= .fields ps}:=x
  show h'.get? a=some {cls:= .none,data:= .fields ps}
  exact k a _ (.inl rfl) e
 | met f y=>
  have e:h.get? a=some (PySem.W.methodObj (.ref f) (.ref y)):=x
  show h'.get? a=some (PySem.W.methodObj (.ref f) (.ref y))
  exact k a _ (.inl rfl) e
 | ext φ=>obtain⟨p,⟨o,e⟩,st⟩:=x;exact⟨st _ _ p λo q=>k _ _ (.inl rfl) q,⟨o,k _ _ (.inl rfl) e⟩,st⟩
theorem HOk.lt(x:HOk P w H h)(e:H a=some o):a<h.objs.size:=(x a o e).lt
theorem HOk.fresh(x:HOk P w H h)(e:h.objs.size<=a):H a=none:=by
 cases q:H a with
 | none=>rfl
 | some u=>exact absurd (Zm (x.lt q) e) (ZV _)
theorem HOk.kept(x:HOk P w H h)(k:∀b u,h.get? b=some u->h'.get? b=some u):HOk P w H h':=λa o e=>
 (x a o e).Qf1 (λb u _ q=>k b u q) (λ_ q=>q) λ_ _ q=>q
theorem HOk.laid(x:HOk P w H h)(k:∀b u,h.get? b=some u->h'.get? b=some u)(hp:h.objs.size<=a)(new:Qbx P w (upd H a o) h' a o):HOk P w (upd H a o) h':=λb u e=>by
 have hn:=x.fresh hp
 by_cases hb:b=a
 ·subst hb;rw[Q1]at e;cases e;exact new
 ·rw[QF hb]at e
  exact(x b u e).Qf1 (λc v _ q=>k c v q) (λc q=>by rw[QF (QbM q hn)];exact q) λc xs q=>by rw[QF (QbM q hn)];exact q
end
def Rd(H:Hp)(a:Addr)(u:HO):Prop:=H a=some u∨∃o,H a=some (.frz o u)
theorem Rd.ok{P:Program}{w:World}{H:Hp}{h:Heap}{a:Addr}{u:HO}(r:Rd H a u)(x:HOk P w H h):Qbx P w H h a u:=by
 rcases r with r | ⟨o,r⟩
 ·exact x a u r
 ·obtain⟨_,q⟩:=x a _ r
  exact q
noncomputable def Mut:Option HO->Prop
 | some (.lst _)=>True
 | some (.dK _)=>True
 | some (.dT _)=>True
 | some (.set _ _)=>True
 | some (.ins _ _ _)=>True
 | some (.ext _)=>True
 | _=>False
section
variable {P:Program}{w:World}{H:Hp}{h h':Heap}{x e:Addr}{o':HO}
theorem HOk.write(ok:HOk P w H h)(mu:Mut (H x))(he:e=x∨H e=some (.own x))(k:∀b u,b≠e->h.get? b=some u->h'.get? b=some u)(heo:∃u,h'.get? e=some u)
  (new:Qbx P w (upd H x o') h' x o'):HOk P w (upd H x o') h':=λb u q=>by
 have nown:∀c y,H c=some (.own y)->c≠x:=λc y r z=>by subst z;rw[r]at mu;exact mu
 have ntup:∀c xs,H c=some (.tup xs)->c≠x:=λc xs r z=>by subst z;rw[r]at mu;exact mu
 by_cases hb:b=x
 ·subst hb;rw[Q1]at q;cases q;exact new
 ·rw[QF hb]at q
  by_cases hbe:b=e
  ·have q':H b=some (.own x):=by
    rcases he with z | z
    ·exact absurd (hbe.trans z) hb
    ·rw[hbe];exact z
   rw[q]at q';cases q'
   obtain⟨v,hv⟩:=heo
   exact⟨v,by rw[hbe];exact hv⟩
  ·refine(ok b u q).Qf1 (λc v hc r=>k c v ?_ r) (λc r=>by rw[QF (nown c b r)];exact r) λc xs r=>by rw[QF (ntup c xs r)];exact r
   rcases hc with rfl | hc
   ·exact hbe
   ·rintro rfl
    rcases he with z | z
    ·exact nown c b hc z
    ·rw[hc]at z;cases z;exact hb rfl
end
structure Un (fs ex:List Addr) (H H':Hp) (h h':Heap):Prop where
 keep:∀b o,h.get? b=some o->H b=none->b∉fs->b∉ex->h'.get? b=some o
 slot:∀b o,h.get? b=some o->H b=none->b∈fs->b∉ex->∃sl,h'.get? b=some {o with slots:=sl}
 free:∀b o,h.get? b=some o->H b=none->b∉ex->H' b=none
 there:∀b o,h.get? b=some o->b∉ex->∃o',h'.get? b=some o'
 tups:∀b xs,H b=some (.tup xs)->H' b=some (.tup xs)
 frzs:∀b o u,H b=some (.frz o u)->H' b=some (.frz o u)
 tbls:∀b ps,H b=some (.tbl ps)->∃more,H' b=some (.tbl (ps++more))
section
variable {fs fs' ex ex':List Addr}{H H1 H2:Hp}{h h1 h2 h':Heap}{a x e:Addr}{o:HO}
theorem Un.any(u:Un fs ex H H1 h h1){b:Addr}{ob:Obj}(q:h.get? b=some ob)(n:H b=none)(hx:b∉ex):∃sl,h1.get? b=some {ob with slots:=sl}:=by
 by_cases hb:b∈fs
 ·exact u.slot b ob q n hb hx
 ·exact⟨ob.slots,u.keep b ob q n hb hx⟩
theorem Un.kept(k:∀b u,h.get? b=some u->h'.get? b=some u):Un fs ex H H h h':=
 ⟨λb ob q _ _ _=>k b ob q,λb ob q _ _ _=>⟨ob.slots,k b ob q⟩,λ_ _ _ n _=>n,λb ob q _=>⟨ob,k b ob q⟩,λ_ _ q=>q,λ_ _ _ q=>q,λ_ ps q=>⟨#[],by rw[q];simp⟩⟩
theorem Un.refl:Un fs ex H H h h:=Un.kept λ_ _ q=>q
theorem Un.laid(k:∀b u,h.get? b=some u->h'.get? b=some u)(hp:h.objs.size<=a)(hn:H a=none):Un fs ex H (upd H a o) h h' where
 keep:=λb u q _ _ _=>k b u q
 slot:=λb u q _ _ _=>⟨u.slots,k b u q⟩
 free:=λb u q n _=>by rw[QF (ZI (Zm (Zr q) hp))];exact n
 there:=λb u q _=>⟨u,k b u q⟩
 tups:=λb xs q=>by rw[QF (QbM q hn)];exact q
 frzs:=λb u xs q=>by rw[QF (QbM q hn)];exact q
 tbls:=λb ps q=>⟨#[],by rw[QF (QbM q hn),q];simp⟩
theorem Un.write(mu:Mut (H x))(he:e=x∨H e=some (.own x))(k:∀b u,b≠e->h.get? b=some u->h'.get? b=some u)(heo:∃u,h'.get? e=some u):Un fs ex H (upd H x o) h h':=by
 have hx:∀b,H b=none->b≠x:=λb n z=>by subst z;rw[n]at mu;exact mu
 have hb:∀b,H b=none->b≠e:=λb n z=>by
  subst z
  rcases he with r | r
  ·exact hx b n r
  ·rw[n]at r;cases r
 have hm:∀b u,H b=some u->¬Mut (some u)->b≠x:=λb u q nm z=>by subst z;rw[q]at mu;exact nm mu
 refine⟨λb u q n _ _=>k b u (hb b n) q,λb u q n _ _=>⟨u.slots,k b u (hb b n) q⟩,λb u q n _=>by rw[QF (hx b n)];exact n,λb u q _=>?_,
  λb xs q=>by rw[QF (hm b _ q λz=>z)];exact q,λb u xs q=>by rw[QF (hm b _ q λz=>z)];exact q,λb ps q=>⟨#[],by rw[QF (hm b _ q λz=>z),q];simp⟩⟩
 by_cases hbe:b=e
 ·subst hbe;exact heo
 ·exact⟨u,k b u hbe q⟩
end
noncomputable def trk(h:Heap)(H:Hp):List Addr:=(List.range h.objs.size).filter λa=>(H a).isSome
noncomputable def QgJ(h:Heap)(H:Hp):Heap:=PySem.W.hideAll h (trk h H)
theorem Qrs(h:Heap)(H:Hp):(QgJ h H).objs.size=h.objs.size:=PySem.W.hideAll_size _ _
theorem Qtk{h:Heap}{H:Hp}{b:Addr}{o:Obj}(e:h.get? b=some o)(n:H b=none):(QgJ h H).get? b=some o:=
 ZaV _ e λhm=>by
  have q:(H b).isSome=true:=(List.mem_filter.mp hm).2
  rw[n]at q;simp at q
theorem Qu6{h:Heap}{H:Hp}{b:Addr}{o:Obj}(e:(QgJ h H).get? b=some o):h.get? b=some o/\H b=none:=by
 have e':h.get? b=some o:=PySem.W.of_hideAll (trk h H) e
 refine⟨e',?_⟩
 cases q:H b with
 | none=>rfl
 | some x=>
  have hm:b∈trk h H:=List.mem_filter.mpr ⟨Zp.mpr (Zr e'),by simp[q]⟩
  have z:(QgJ h H).get? b=none:=PySem.W.hideAll_none (trk h H) hm
  rw[z]at e;cases e
end L2
namespace L2
open PySem PySem.Spec PyProof.Rows
structure Mod (K:PySem.W.Frag) (mg:Str->Option Value) (base:Heap):Prop where
 kin:K.In base
 glob:base.Ns mainGlobals mg
 blt:∃mb,base.Ns builtinsNs mb/\∀x:Str,x≠ "__name__" ->mb x=bootBuiltins x
 nolimit:base.NoLimit
structure Cx where
 prog:Program
 w:World
 K:PySem.W.Frag
 mg:Str->Option Value
 base:Heap
 A:Around
 N:List Str
 s₀:Shared
 H₀:Hp
 env:Env
 outer:List Env
 stack:List Env
 ex:List Addr
 fn:Str->Bool
 calm:Bool
 pn:List (Addr×Obj)
 xe:Value->Shared->Prop
noncomputable def frs(l:List Env):List Addr:=l.filterMap (·.frame)
noncomputable abbrev Cx.fs(X:Cx):List Addr:=frs X.outer
def Vis(sc:Scope)(x:Str):Prop:=sc.names.lookup x=some .local ∨sc.names.lookup x=some .cell∨sc.names.lookup x=some .free
def Loc(sc:Scope)(x:Str):Prop:=sc.names.lookup x=some .local ∨sc.names.lookup x=some .cell
def Look(env:Env)(h:Heap)(m:Str->Option Value)(x:Str)(u:Value):Prop:=
 (env.kindOf x=some .local /\m x=some u)∨((env.kindOf x=some .cell∨env.kindOf x=some .free)/\∃c,env.cells.lookup x=some c/\h.IsCell c (some u))
structure Cx.Ok (X:Cx):Prop where
 mod:Mod X.K X.mg X.base
 kind:X.env.scope.kind= .function
 glob:X.env.globals=mainGlobals
 blt:X.env.builtins=builtinsNs
 above:X.s₀.heap.objs.size<=X.env.locals
 inj:∀x y c,X.env.cells.lookup x=some c->X.env.cells.lookup y=some c->x=y
 has:∀x,(X.env.kindOf x=some .cell∨X.env.kindOf x=some .free)->∃c,X.env.cells.lookup x=some c
 cab:∀x c,X.fn x=true->X.env.cells.lookup x=some c->X.s₀.heap.objs.size<=c
 hd:X.calm=true->X.A.handled=none
 frames:X.A.frames=some X.stack
 stk:X.stack=X.outer∨(X.stack=X.env::X.outer/\X.env.frame=some X.env.locals)
 exf:∀b∈X.ex,b≠X.env.locals/\∀x c,X.env.cells.lookup x=some c->c≠b
 bs:∀b o,X.base.get? b=some o->X.s₀.heap.get? b=some o/\X.H₀ b=none
 bsz:X.base.objs.size<=X.s₀.heap.objs.size
 noex:∀b o,X.base.get? b=some o->b∉X.ex
 exfs:∀b∈X.ex,b∉X.fs
 Qd3:X.s₀.heap.FunFrames X.base X.outer
 frf:∀b∈X.fs,X.H₀ b=none
structure Inv (X:Cx) (pins:List (Addr×Obj)) (σ:List (Option V)) (H:Hp) (s:Shared):Prop where
 ok:X.Ok
 os:s.os=X.s₀.os
 bare:AllBare s.gens
 base:Un X.fs X.ex X.H₀ H X.s₀.heap s.heap
 loc:∃m,s.heap.Ns X.env.locals m/\∀(i:Nat) (x:Str) (v:V),X.N[i]? =some x->σ[i]? =some (some v)->Vis X.env.scope x->∃u,RelV v u/\Look X.env s.heap m x u
 cell:∀x c,X.env.cells.lookup x=some c->∃v,s.heap.IsCell c v
 free:H X.env.locals=none
 freeC:∀x c,X.env.cells.lookup x=some c->H c=none
 pin:∀p∈X.pn++pins,s.heap.get? p.1=some p.2/\H p.1=none/\p.1≠X.env.locals/\p.1∉X.fs/\∀v,p.2.data≠ .cell v
 hok:HOk X.prog X.w H s.heap
 len:σ.length=X.N.length
section
variable {X:Cx}{pins:List (Addr×Obj)}{σ:List (Option V)}{H H':Hp}{s:Shared}{h':Heap}
theorem Cx.Ok.QyA(ok:X.Ok){b:Addr}{o:Obj}(e:X.base.get? b=some o):b∉X.fs:=λhb=>by
 have:=(ok.Qd3.mem hb).1
 rw[e]at this;cases this
theorem Inv.bs(I:Inv X pins σ H s):∀b o,X.base.get? b=some o->s.heap.get? b=some o/\H b=none:=λb o e=>
 ⟨I.base.keep b o (I.ok.bs b o e).1 (I.ok.bs b o e).2 (I.ok.QyA e) (I.ok.noex b o e),I.base.free b o (I.ok.bs b o e).1 (I.ok.bs b o e).2 (I.ok.noex b o e)⟩
theorem Inv.bk(I:Inv X pins σ H s):∀b o,X.base.get? b=some o->s.heap.get? b=some o:=λb o e=>(I.bs b o e).1
theorem Inv.mod(I:Inv X pins σ H s):Mod X.K X.mg X.base:=I.ok.mod
theorem Inv.kIn(I:Inv X pins σ H s):X.K.In s.heap:=I.ok.mod.kin.keeps I.bk
theorem Inv.lt(I:Inv X pins σ H s):X.env.locals<s.heap.objs.size:=let ⟨_,hn,_⟩:=I.loc;hn.lt
theorem Inv.sz(I:Inv X pins σ H s):X.s₀.heap.objs.size<=s.heap.objs.size:=Zq I.ok.above (ZaT I.lt)
theorem Inv.QyR(I:Inv X pins σ H s){a:Addr}(h:s.heap.objs.size<=a):a∉X.fs:=λhb=>by
 obtain⟨_,o,ho,_⟩:=I.ok.Qd3.mem hb
 exact absurd (Zm (Zr ho) (Zq I.sz h)) (ZV _)
theorem Inv.cne(I:Inv X pins σ H s):∀x c,X.env.cells.lookup x=some c->c≠X.env.locals:=λx c e z=>by
 obtain⟨v,o,ho,hd⟩:=I.cell x c e
 obtain⟨m,⟨o',es,ep,ho',hd',_⟩,_⟩:=I.loc
 rw[z,ho']at ho;cases ho;rw[hd']at hd;cases hd
theorem Inv.Qd3(I:Inv X pins σ H s):s.heap.FunFrames X.base X.outer:=by
 have all:∀(l:List Env),(∀b∈frs l,b∈X.fs)->X.s₀.heap.FunFrames X.base l->s.heap.FunFrames X.base l:=by
  intro l
  induction l with
  | nil=>intro _ _;trivial
  | cons env r ih=>
   intro hs hl
   obtain⟨hk,⟨L,o,hf,hn,ho,hd⟩,hr⟩:=hl
   have hL:L∈X.fs:=hs L (by unfold frs;rw[Zbl,hf];exact Zo)
   obtain⟨sl,e⟩:=I.base.slot L o ho (I.ok.frf L hL) hL λz=>I.ok.exfs L z hL
   exact⟨hk,⟨L,_,hf,hn,e,hd⟩,ih (λb hb=>hs b (by unfold frs;rw[Zbl,hf];exact Ze _ hb)) hr⟩
 exact all X.outer (λ_ hb=>hb) I.ok.Qd3
theorem Inv.stack(I:Inv X pins σ H s):s.heap.FunFrames X.base X.stack:=by
 rcases I.ok.stk with e | ⟨e,hf⟩
 ·rw[e];exact I.Qd3
 ·rw[e]
  obtain⟨m,hn,_⟩:=I.loc
  refine .cons (by rw[I.ok.kind];decide) hf hn ?_ I.Qd3
  exact Heap.get?_none_of_le (Zq I.ok.bsz I.ok.above)
theorem Inv.QfL(I:Inv X pins σ H s):∀b∈frs X.stack,b∈X.env.locals::X.fs:=λb hb=>by
 rcases I.ok.stk with e | ⟨e,hf⟩
 ·rw[e]at hb;exact Ze _ hb
 ·rw[e]at hb
  unfold frs at hb
  rw[Zbl,hf]at hb
  exact hb
theorem Inv.QkH(I:Inv X pins σ H s):∀b∈frs X.stack,H b=none:=λb hb=>by
 rcases Zl.mp (I.QfL b hb)with e | hb
 ·rw[e];exact I.free
 ·obtain⟨_,o,ho,_⟩:=I.ok.Qd3.mem hb
  exact I.base.free b o ho (I.ok.frf b hb) λz=>I.ok.exfs b z hb
theorem Inv.step{g':Array GenState}{t':Nat}{d':Drawn}{ch:List Addr}(I:Inv X pins σ H s)
  (hch:∀b∈ch,(b∈X.ex∨X.s₀.heap.objs.size<=b)/\b≠X.env.locals/\(∀x c,X.env.cells.lookup x=some c->c≠b)/\∀p∈X.pn++pins,p.1≠b)
  (keep:∀b o,b≠X.env.locals->b∉X.fs->b∉ch->s.heap.get? b=some o->H b=none->h'.get? b=some o)
  (slot:∀b o,b≠X.env.locals->b∈X.fs->b∉ch->s.heap.get? b=some o->H b=none->∃sl,h'.get? b=some {o with slots:=sl}) (free:∀b o,b∉ch->s.heap.get? b=some o->H b=none->H' b=none)
  (there:∀b o,b∉ch->s.heap.get? b=some o->∃o',h'.get? b=some o')
  (tups:∀b xs,H b=some (.tup xs)->H' b=some (.tup xs)) (frzs:∀b o u,H b=some (.frz o u)->H' b=some (.frz o u)) (tbls:∀b ps,H b=some (.tbl ps)->∃more,H' b=some (.tbl (ps++more)))
  (ns:∀m,s.heap.Ns X.env.locals m->h'.Ns X.env.locals m) (hok:HOk X.prog X.w H' h') (hg:AllBare g'):
  Inv X pins σ H' {s with heap:=h',gens:=g',drawn:=d',toks:=t'}:=by
 have neL:∀b o,X.s₀.heap.get? b=some o->b≠X.env.locals:=λb o e=>ZI (Zm (Zr e) I.ok.above)
 have neC:∀b o,X.s₀.heap.get? b=some o->b∉X.ex->b∉ch:=λb o e hx hb=>by
  rcases(hch b hb).1 with z | z
  ·exact hx z
  ·exact absurd (Zm (Zr e) z) (ZV _)
 have cellK:∀x c,X.env.cells.lookup x=some c->∀v,s.heap.IsCell c v->h'.IsCell c v:=λx c e v ⟨o,ho,hd⟩=>by
  have nch:c∉ch:=λz=>(hch c z).2.2.1 x c e rfl
  by_cases hc:c∈X.fs
  ·obtain⟨sl,q⟩:=slot c o (I.cne x c e) hc nch ho (I.freeC x c e)
   exact⟨_,q,hd⟩
  ·exact⟨o,keep c o (I.cne x c e) hc nch ho (I.freeC x c e),hd⟩
 refine⟨I.ok,I.os,hg,⟨λb o e n hb hx=>?_,λb o e n hb hx=>?_,λb o e n hx=>?_,λb o e hx=>?_,λb xs e=>tups b xs (I.base.tups b xs e),λb o xs e=>frzs b o xs (I.base.frzs b o xs e),λb ps e=>?_⟩,?_,λx c e=>?_,?_,λx c e=>?_,λp hp=>?_,hok,I.len⟩
 ·exact keep b o (neL b o e) hb (neC b o e hx) (I.base.keep b o e n hb hx) (I.base.free b o e n hx)
 ·obtain⟨sl,e1⟩:=I.base.slot b o e n hb hx
  obtain⟨sl',e2⟩:=slot b _ (neL b o e) hb (neC b o e hx) e1 (I.base.free b o e n hx)
  exact⟨sl',e2⟩
 ·obtain⟨o',e1⟩:=I.base.there b o e hx
  exact free b o' (neC b o e hx) e1 (I.base.free b o e n hx)
 ·obtain⟨o',e1⟩:=I.base.there b o e hx
  exact there b o' (neC b o e hx) e1
 ·obtain⟨m1,e1⟩:=I.base.tbls b ps e
  obtain⟨m2,e2⟩:=tbls b _ e1
  exact⟨m1++m2,by rw[e2,Array.append_assoc]⟩
 ·obtain⟨m,hn,hl⟩:=I.loc
  refine⟨m,ns m hn,λi x v e1 e2 e3=>?_⟩
  obtain⟨u,r,l⟩:=hl i x v e1 e2 e3
  refine⟨u,r,?_⟩
  rcases l with l | ⟨k,c,e,z⟩
  ·exact .inl l
  ·exact .inr ⟨k,c,e,cellK x c e _ z⟩
 ·obtain⟨v,z⟩:=I.cell x c e
  exact⟨v,cellK x c e v z⟩
 ·obtain⟨m,⟨o,_,_,ho,_⟩,_⟩:=I.loc
  exact free _ o (λz=>(hch _ z).2.1 rfl) ho I.free
 ·obtain⟨v,o,ho,hd⟩:=I.cell x c e
  exact free c o (λz=>(hch c z).2.2.1 x c e rfl) ho (I.freeC x c e)
 ·obtain⟨e,n,ne,nf,d⟩:=I.pin p hp
  have nch:p.1∉ch:=λz=>(hch p.1 z).2.2.2 p hp rfl
  exact⟨keep p.1 p.2 ne nf nch e n,free p.1 p.2 nch e n,ne,nf,d⟩
theorem Inv.un{t':Nat}(I:Inv X pins σ H s)(u:Un X.fs [] H H' s.heap h')(hok:HOk X.prog X.w H' h'):Inv X pins σ H' {s with heap:=h',toks:=t'}:=by
 obtain⟨m,⟨o,es,ep,ho,r⟩,_⟩:=id I.loc
 obtain⟨sl,hL⟩:=u.any ho I.free (by simp)
 exact I.step (g':=s.gens) (d':=s.drawn) (ch:=[]) (λ_ z=>nomatch z) (λb o _ hb _ e n=>u.keep b o e n hb (by simp)) (λb o _ hb _ e n=>u.slot b o e n hb (by simp)) (λb o _ e n=>u.free b o e n (by simp)) (λb o _ e=>u.there b o e (by simp)) u.tups u.frzs u.tbls (λm' hm=>by
  obtain⟨o',es',ep',ho',r'⟩:=hm
  rw[ho]at ho';cases ho'
  exact⟨_,es',ep',hL,r'⟩) hok I.bare
theorem Inv.call{g':Array GenState}{t':Nat}{d':Drawn}{ch:List Addr}(I:Inv X pins σ H s)(u:Un (frs X.stack) ch H H' s.heap h')(hok:HOk X.prog X.w H' h')(hg:AllBare g')
  (hch:∀b∈ch,(b∈X.ex∨X.s₀.heap.objs.size<=b)/\b≠X.env.locals/\(∀x c,X.env.cells.lookup x=some c->c≠b)/\∀p∈X.pn++pins,p.1≠b):
  Inv X pins σ H' {s with heap:=h',gens:=g',drawn:=d',toks:=t'}:=by
 obtain⟨m,⟨o,es,ep,ho,r⟩,_⟩:=id I.loc
 obtain⟨sl,hL⟩:=u.any ho I.free λz=>(hch _ z).2.1 rfl
 exact I.step (ch:=ch) hch (λb o hL hb hc e n=>u.keep b o e n (λz=>(Zl.mp (I.QfL b z)).elim hL hb) hc) (λb o _ _ hc e n=>u.any e n hc) (λb o hc e n=>u.free b o e n hc) (λb o hc e=>u.there b o e hc) u.tups u.frzs u.tbls (λm' hm=>by
  obtain⟨o',es',ep',ho',r'⟩:=hm
  rw[ho]at ho';cases ho'
  exact⟨_,es',ep',hL,r'⟩) hok hg
theorem Inv.turned{t':Nat}{it:Addr}(I:Inv X pins σ H s)(k:∀b o,b≠it->s.heap.get? b=some o->h'.get? b=some o)(hn:H it=none)(hL:it≠X.env.locals)
  (h1:it∈X.ex∨X.s₀.heap.objs.size<=it) (h2:∀x c,X.env.cells.lookup x=some c->c≠it) (h3:∀p∈X.pn++pins,p.1≠it):Inv X pins σ H {s with heap:=h',toks:=t'}:=by
 have nit:∀b u,H b=some u->b≠it:=λb u e z=>by rw[z,hn]at e;cases e
 refine I.step (g':=s.gens) (d':=s.drawn) (ch:=[it]) (λb hb=>?_) (λb o _ _ hc e _=>k b o (λz=>hc (by simp[z])) e) (λb o _ _ hc e _=>⟨o.slots,k b o (λz=>hc (by simp[z])) e⟩) (λ_ _ _ _ n=>n)
  (λb o hc e=>⟨o,k b o (λz=>hc (by simp[z])) e⟩) (λ_ _ e=>e) (λ_ _ _ e=>e) (λb ps e=>⟨#[],by rw[e];simp⟩) (λm hm=>?_) (λb u e=>?_) I.bare
 ·have e:b=it:=by simpa using hb
  subst e
  exact⟨h1,hL,h2,h3⟩
 ·obtain⟨o,es,ep,ho,r⟩:=hm
  exact⟨o,es,ep,k _ o (Ne.symm hL) ho,r⟩
 ·refine(I.hok b u e).Qf1 (λc v hc q=>k c v ?_ q) (λ_ q=>q) λ_ _ q=>q
  rcases hc with z | z
  ·rw[z];exact nit b u e
  ·exact nit c _ z
theorem Inv.tok(I:Inv X pins σ H s)(t:Nat):Inv X pins σ H {s with toks:=t}:=I.un (h':=s.heap) (t':=t) Un.refl I.hok
theorem Inv.kept{t':Nat}(I:Inv X pins σ H s)(k:∀b u,s.heap.get? b=some u->h'.get? b=some u):Inv X pins σ H {s with heap:=h',toks:=t'}:=I.un (Un.kept k) (I.hok.kept k)
theorem Inv.laid{a:Addr}{o:HO}{t':Nat}(I:Inv X pins σ H s)(k:∀b u,s.heap.get? b=some u->h'.get? b=some u)(hp:s.heap.objs.size<=a)(new:Qbx X.prog X.w (upd H a o) h' a o):
  Inv X pins σ (upd H a o) {s with heap:=h',toks:=t'}:=I.un (Un.laid k hp (I.hok.fresh hp)) (I.hok.laid k hp new)
theorem Inv.write{x e:Addr}{o:HO}{t':Nat}(I:Inv X pins σ H s)(mu:Mut (H x))(he:e=x∨H e=some (.own x))(k:∀b u,b≠e->s.heap.get? b=some u->h'.get? b=some u)(heo:∃u,h'.get? e=some u)
  (new:Qbx X.prog X.w (upd H x o) h' x o):Inv X pins σ (upd H x o) {s with heap:=h',toks:=t'}:=I.un (Un.write mu he k heo) (I.hok.write mu he k heo new)
theorem Inv.weak{σ':List (Option V)}(I:Inv X pins σ H s)(hl:σ'.length=σ.length)(w:∀(i:Nat) v,σ'[i]? =some (some v)->σ[i]? =some (some v)):Inv X pins σ' H s:=
 ⟨I.ok,I.os,I.bare,I.base,let ⟨m,hn,hl'⟩:=I.loc;⟨m,hn,λi x v e1 e2 e3=>hl' i x v e1 (w i v e2) e3⟩,I.cell,I.free,I.freeC,I.pin,I.hok,hl.trans I.len⟩
theorem Inv.Qoo{pins':List (Addr×Obj)}(I:Inv X pins σ H s)(h:∀p∈pins',s.heap.get? p.1=some p.2/\H p.1=none/\p.1≠X.env.locals/\p.1∉X.fs/\∀v,p.2.data≠ .cell v):Inv X pins' σ H s:=
 ⟨I.ok,I.os,I.bare,I.base,I.loc,I.cell,I.free,I.freeC,λp hp=>(ZM.mp hp).elim (λz=>I.pin p (Zh _ z)) (h p),I.hok,I.len⟩
theorem Qjs{N:List Str}(hN:N.Nodup){i j:Nat}{x:Str}(a:N[i]? =some x)(b:N[j]? =some x):i=j:=by
 obtain⟨h1,e1⟩:=Zf.mp a
 obtain⟨h2,e2⟩:=Zf.mp b
 exact(List.getElem_inj hN).mp (e1.trans e2.symm)
theorem QlT{M:Model}{A:Around}{E:Value->Shared->Prop}{i:Nat}{x:Str}{v:V}{u:Value}{Q:Unit->Shared->Prop}(I:Inv X pins σ H s)(hN:X.N.Nodup)(hi:X.N[i]? =some x)(hx:Loc X.env.scope x)(r:RelV v u)
  (h:∀s',Inv X pins (σ.set i (some v)) H s'->(∃a,Heap.SameBut a s.heap s'.heap/\(a=X.env.locals∨X.env.cells.lookup x=some a))->Q () s') (hf:X.fn x=true∨X.env.scope.names.lookup x=some .local :=by first | exact .inl rfl | exact .inr rfl | assumption):wpAny M A (storeName X.env x u) Q E s:=by
 obtain⟨m,hn,hl⟩:=id I.loc
 have hcls:(X.env.scope.kind == .class || (X.env.scope.kind == .module && X.env.locals != X.env.globals))=false:=by rw[I.ok.kind];rfl
 have hiσ:i<σ.length:=by rw[I.len];exact(Zf.mp hi).1
 have cne:=I.cne
 have tracked:∀{a:Addr}{h':Heap},(∃o,s.heap.get? a=some o/\H a=none)->Heap.SameBut a s.heap h'->HOk X.prog X.w H h':=λ{a h'} ha hs b ob e=>by
  obtain⟨_,_,hfree⟩:=ha
  refine(I.hok b ob e).Qf1 (λc w' hc q=>(hs.2 c ?_).trans q) (λ_ q=>q) λ_ _ q=>q
  rintro rfl
  rcases hc with rfl | hc
  ·rw[hfree]at e;cases e
  ·rw[hfree]at hc;cases hc
 rcases hx with hk | hk
 ·refine wpAny_storeName_local hk hn (λh' hn' hs=>?_) hcls
  obtain⟨oL,_,_,hoL,_⟩:=id hn
  refine h _ ⟨I.ok,I.os,I.bare,⟨λb o e n hb hx=>?_,λb o e n hb hx=>?_,I.base.free,λb o e hx=>?_,I.base.tups,I.base.frzs,I.base.tbls⟩,⟨_,hn',λj y v' e1 e2 e3=>?_⟩,λy c e=>?_,I.free,I.freeC,λp hp=>?_,tracked ⟨oL,hoL,I.free⟩ hs,by simpa using I.len⟩ ⟨_,hs,.inl rfl⟩
  ·exact(hs.2 b (ZI (Zm (Zr e) I.ok.above))).trans (I.base.keep b o e n hb hx)
  ·obtain⟨sl,e1⟩:=I.base.slot b o e n hb hx
   exact⟨sl,(hs.2 b (ZI (Zm (Zr e) I.ok.above))).trans e1⟩
  ·obtain⟨o',e1⟩:=I.base.there b o e hx
   exact⟨o',(hs.2 b (ZI (Zm (Zr e) I.ok.above))).trans e1⟩
  ·by_cases hj:j=i
   ·subst hj
    rw[hi]at e1;cases e1
    rw[Zg hiσ]at e2
    cases e2
    exact⟨u,r,.inl ⟨hk,by simp⟩⟩
   ·rw[Zc (Ne.symm hj)]at e2
    obtain⟨u',r',q⟩:=hl j y v' e1 e2 e3
    refine⟨u',r',?_⟩
    rcases q with⟨k,e⟩ | ⟨k,c,e,z⟩
    ·refine .inl ⟨k,?_⟩
     have:y≠x:=λe=>hj (Qjs hN e1 (e▸hi))
     simp[this,e]
    ·exact .inr ⟨k,c,e,z.sameBut hs (cne y c e)⟩
  ·obtain⟨w',z⟩:=I.cell y c e
   exact⟨w',z.sameBut hs (cne y c e)⟩
  ·obtain⟨e,n,ne,nf,d⟩:=I.pin p hp
   exact⟨(hs.2 p.1 ne).trans e,n,ne,nf,d⟩
 ·have hfn:X.fn x=true:=by
   rcases hf with z | z
   ·exact z
   ·rw[z]at hk;cases hk
  obtain⟨c,hc⟩:=I.ok.has x (.inl hk)
  obtain⟨w',z⟩:=I.cell x c hc
  refine wpAny_storeName_cell I.ok.kind hk hc z (λh' hc' hs=>?_)
  obtain⟨oc,hoc,hocd⟩:=id z
  refine h {s with heap:=h'} ⟨I.ok,I.os,I.bare,⟨λb o e n hb hx=>?_,λb o e n hb hx=>?_,I.base.free,λb o e hx=>?_,I.base.tups,I.base.frzs,I.base.tbls⟩,⟨m,hn.sameBut hs (Ne.symm (cne x c hc)),λj y v' e1 e2 e3=>?_⟩,λy c' e=>?_,I.free,I.freeC,λp hp=>?_,tracked ⟨oc,hoc,I.freeC x c hc⟩ hs,by simpa using I.len⟩ ⟨c,hs,.inr hc⟩
  ·exact(hs.2 b (ZI (Zm (Zr e) (I.ok.cab x c hfn hc)))).trans (I.base.keep b o e n hb hx)
  ·obtain⟨sl,e1⟩:=I.base.slot b o e n hb hx
   exact⟨sl,(hs.2 b (ZI (Zm (Zr e) (I.ok.cab x c hfn hc)))).trans e1⟩
  ·obtain⟨o',e1⟩:=I.base.there b o e hx
   exact⟨o',(hs.2 b (ZI (Zm (Zr e) (I.ok.cab x c hfn hc)))).trans e1⟩
  ·by_cases hj:j=i
   ·subst hj
    rw[hi]at e1;cases e1
    rw[Zg hiσ]at e2
    cases e2
    exact⟨u,r,.inr ⟨.inl hk,c,hc,hc'⟩⟩
   ·rw[Zc (Ne.symm hj)]at e2
    obtain⟨u',r',q⟩:=hl j y v' e1 e2 e3
    refine⟨u',r',?_⟩
    rcases q with q | ⟨k,c',e,z'⟩
    ·exact .inl q
    ·refine .inr ⟨k,c',e,z'.sameBut hs ?_⟩
     rintro rfl
     exact hj (Qjs hN e1 (I.ok.inj _ _ _ e hc▸hi))
  ·by_cases hcc:c'=c
   ·subst hcc;exact⟨_,hc'⟩
   ·obtain⟨w2,z2⟩:=I.cell y c' e
    exact⟨w2,z2.sameBut hs hcc⟩
  ·obtain⟨e,n,ne,nf,d⟩:=I.pin p hp
   refine⟨(hs.2 p.1 ?_).trans e,n,ne,nf,d⟩
   intro q
   rw[q,hoc]at e
   have q':oc=p.2:=Option.some.inj e
   exact d w' (by rw[← q'];exact hocd)
theorem QgF{M:Model}{A:Around}{E:Value->Shared->Prop}{i:Nat}{x:Str}{v:V}{u:Value}{Q:Unit->Shared->Prop}(I:Inv X pins σ H s)(hN:X.N.Nodup)(hi:X.N[i]? =some x)(hx:Loc X.env.scope x)(r:RelV v u)
  (h:∀s',Inv X pins (σ.set i (some v)) H s'->Q () s') (hf:X.fn x=true∨X.env.scope.names.lookup x=some .local :=by first | exact .inl rfl | exact .inr rfl | assumption):wpAny M A (storeName X.env x u) Q E s:=
 QlT I hN hi hx r (λs' I' _=>h s' I') hf
theorem Inv.QtN{s':Shared}{ch:List Addr}(I:Inv X pins σ H s)(ho:s'.os=s.os)(u:Un (frs X.stack) ch H H' s.heap s'.heap)(hok:HOk X.prog X.w H' s'.heap)(hg:AllBare s'.gens)
  (hch:∀b∈ch,(b∈X.ex∨X.s₀.heap.objs.size<=b)/\b≠X.env.locals/\(∀x c,X.env.cells.lookup x=some c->c≠b)/\∀p∈X.pn++pins,p.1≠b):Inv X pins σ H' s':=by
 obtain⟨h',g',d',t',o'⟩:=s'
 have e:o'=s.os:=ho
 subst e
 exact I.call (g':=g') (t':=t') (d':=d') u hok hg hch
end
noncomputable abbrev XK:=Value->Option Addr->Hp->Prop
noncomputable abbrev St:=List (Option V)
noncomputable abbrev VK:=V->Hp->Prop
noncomputable abbrev TE:=St->Hp->VK->Prop
noncomputable abbrev TT:=St->Hp->(Bool->Hp->Prop)->Prop
noncomputable abbrev TA:=St->Hp->(List V->Hp->Prop)->Prop
structure Ends where
 nx:St->Hp->Prop
 rt:VK
 bk:St->Hp->Prop:=λ_ _=>False
 ct:St->Hp->Prop:=λ_ _=>False
noncomputable abbrev TS:=Ends->St->Hp->Prop
def EP(X:Cx)(pins:List (Addr×Obj))(σ:St)(Q:VK)(u:Value)(s':Shared):Prop:=∃v H',Inv X pins σ H' s'/\RelV v u/\Q v H'
def TP(X:Cx)(pins:List (Addr×Obj))(σ:St)(Q:Bool->Hp->Prop)(b:Bool)(s':Shared):Prop:=∃H',Inv X pins σ H' s'/\Q b H'
def AP(X:Cx)(pins:List (Addr×Obj))(σ:St)(Q:List V->Hp->Prop)(us:List Value)(s':Shared):Prop:=∃vs H',Inv X pins σ H' s'/\Qz vs us/\Q vs H'
def SP(X:Cx)(pins:List (Addr×Obj))(D:Ends)(f:Flow)(s':Shared):Prop:=
 match f with
 | .next=>∃σ' H',Inv X pins σ' H' s'/\D.nx σ' H'
 | .brk=>∃σ' H',Inv X pins σ' H' s'/\D.bk σ' H'
 | .cont=>∃σ' H',Inv X pins σ' H' s'/\D.ct σ' H'
 | .ret u=>∃v σ' H',Inv X pins σ' H' s'/\RelV v u/\D.rt v H'
def PE(X:Cx)(e:Expr)(t:TE):Prop:=
 ∀(pins:List (Addr×Obj)) (s:Shared) (σ:St) (H:Hp) (Q:VK),Inv X pins σ H s->t σ H Q->wpAny (model X.prog X.w) X.A (eval e X.env) (EP X pins σ Q) X.xe s
def PT(X:Cx)(e:Expr)(t:TT):Prop:=
 ∀(pins:List (Addr×Obj)) (s:Shared) (σ:St) (H:Hp) (Q:Bool->Hp->Prop),Inv X pins σ H s->t σ H Q->wpAny (model X.prog X.w) X.A (isTrue e X.env (eval e X.env)) (TP X pins σ Q) X.xe s
def PW(X:Cx)(e:Expr)(t:TT):Prop:=
 ∀(whole:Sem Value) (pins:List (Addr×Obj)) (s:Shared) (σ:St) (H:Hp) (Q:Bool->Hp->Prop),Inv X pins σ H s->t σ H Q->wpAny (model X.prog X.w) X.A (isTrue e X.env whole) (TP X pins σ Q) X.xe s
theorem PW.pt{X:Cx}{e:Expr}{t:TT}(h:PW X e t):PT X e t:=h _
def PA(X:Cx)(es:List Expr)(t:TA):Prop:=
 ∀(pos:Pos) (pins:List (Addr×Obj)) (s:Shared) (σ:St) (H:Hp) (Q:List V->Hp->Prop),Inv X pins σ H s->t σ H Q->wpAny (model X.prog X.w) X.A (spliced (backTo pos (starEach es X.env))) (AP X pins σ Q) X.xe s
def PS(X:Cx)(st:Stmt)(t:TS):Prop:=
 ∀(pins:List (Addr×Obj)) (s:Shared) (σ:St) (H:Hp) (D:Ends),Inv X pins σ H s->t D σ H->wpAny (model X.prog X.w) X.A (exec st X.env) (SP X pins D) X.xe s
def PSs(X:Cx)(st:List Stmt)(t:TS):Prop:=
 ∀(pins:List (Addr×Obj)) (s:Shared) (σ:St) (H:Hp) (D:Ends),Inv X pins σ H s->t D σ H->wpAny (model X.prog X.w) X.A (execs st X.env) (SP X pins D) X.xe s
theorem thn{α:Type}{t:Sem α}{Q Q':α->Shared->Prop}{M:Model}{A:Around}{E:Value->Shared->Prop}{s:Shared}(h:wpAny M A t Q E s)(hQ:∀a s,Q a s->Q' a s):wpAny M A t Q' E s:=wpAny_mono h hQ λ_ _ x=>x
end L2
namespace L2
open PySem PySem.Spec PyProof.Rows
section
variable {X:Cx}
noncomputable def Qf6(i:Nat):TE:=λσ H Q=>∃v,σ[i]? =some (some v)/\Q v H
noncomputable def tC(v:V):TE:=λ_ H Q=>Q v H
theorem QwZ{i:Nat}{x:Str}{pos:Pos}(hN:X.N[i]? =some x)(hv:Vis X.env.scope x)(hd:(x == ("__debug__" :Str))=false:=by decide)(hcd:(x == ("__classdict__" :Str))=false:=by decide):PE X (.Name x pos) (Qf6 i):=by
 intro pins s σ H Q I h
 obtain⟨v,e,h⟩:=h
 obtain⟨m,hn,hl⟩:=I.loc
 obtain⟨u,r,l⟩:=hl i x v hN e hv
 have fin:EP X pins σ Q u s:=⟨v,H,I,r,h⟩
 rcases l with⟨hk,hm⟩ | ⟨hk,c,hc,hcell⟩
 ·exact wpAny_Name (wpAny_loadName_local I.ok.kind hk hn hm fin) hd
 ·rcases hk with hk | hk
  ·exact wpAny_Name (wpAny_loadName_cell I.ok.kind hk hc hcell fin) hd
  ·exact wpAny_Name (wpAny_loadName_free I.ok.kind hk hc hcell fin hcd) hd
theorem Qwt{i j pos}:PE X (.Constant (.int i) j pos) (tC (.int i)):=λ_ _ _ H _ I h=>wpAny_Constant_int ⟨.int i,H,I.tok _,⟨_,rfl⟩,h⟩
theorem QtO{b j pos}:PE X (.Constant (.bool b) j pos) (tC (.bl b)):=λ_ _ _ H _ I h=>Constant_bool ⟨.bl b,H,I,rfl,h⟩
theorem Qxd{j pos}:PE X (.Constant .none j pos) (tC .non):=λ_ _ _ H _ I h=>Constant_none ⟨.non,H,I,rfl,h⟩
theorem Qru{x j pos}:PE X (.Constant (.str x) j pos) (tC (.str x)):=λ_ _ _ H _ I h=>Calls.Constant_str ⟨.str x,H,I.tok _,⟨_,rfl⟩,h⟩
def Gl(X:Cx)(x:Str):Prop:=X.env.kindOf x=some .globalImplicit
theorem Qex{E:Value->Shared->Prop}{pins:List (Addr×Obj)}{s:Shared}{σ:St}{H:Hp}{x:Str}{u:Value}{pos:Pos}{Q:Value->Shared->Prop}(I:Inv X pins σ H s)(hg:Gl X x)(hm:X.mg x=some u)(h:Q u s)
  (hd:(x == ("__debug__" :Str))=false:=by decide):wpAny (model X.prog X.w) X.A (eval (.Name x pos) X.env) Q E s:=
 Calls.Name_function_global I.ok.kind hg (Calls.loadGlobal_global (by rw[I.ok.glob];exact I.mod.glob.keeps I.bk) hm h) hd
theorem Qc5{E:Value->Shared->Prop}{pins:List (Addr×Obj)}{s:Shared}{σ:St}{H:Hp}{x:Str}{u:Value}{pos:Pos}{Q:Value->Shared->Prop}(I:Inv X pins σ H s)(hg:Gl X x)(hm:X.mg x=none)(hv:bootBuiltins x=some u)(h:Q u s)
  (hn:x≠ "__name__" :=by decide) (hd:(x == ("__debug__" :Str))=false:=by decide):wpAny (model X.prog X.w) X.A (eval (.Name x pos) X.env) Q E s:=by
 obtain⟨mb,h1,h2⟩:=I.mod.blt
 exact Calls.Name_function_global I.ok.kind hg (Calls.loadGlobal_builtin (by rw[I.ok.glob];exact I.mod.glob.keeps I.bk) hm (by rw[I.ok.blt];exact h1.keeps I.bk) ((h2 x hn).trans hv) h) hd
theorem Qvh{x:Str}{v:V}{u:Value}{pos:Pos}(hg:Gl X x)(hm:X.mg x=some u)(r:RelV v u)(hd:(x == ("__debug__" :Str))=false:=by decide):PE X (.Name x pos) (tC v):=
 λ_ _ _ H _ I h=>Qex I hg hm ⟨v,H,I,r,h⟩ hd
theorem Qgi{x:Str}{v:V}{u:Value}{pos:Pos}(hg:Gl X x)(hm:X.mg x=none)(hv:bootBuiltins x=some u)(r:RelV v u)(hn:x≠ "__name__" :=by decide)(hd:(x == ("__debug__" :Str))=false:=by decide):PE X (.Name x pos) (tC v):=
 λ_ _ _ H _ I h=>Qc5 I hg hm hv ⟨v,H,I,r,h⟩ hn hd
variable {a b:Expr}{ta tb:TE}{pos:Pos}
variable {tA tB':TT}{rest:List Expr}
noncomputable def QyN(t u:TT):TT:=λσ H Q=>t σ H λc H1=>if c=true then u σ H1 Q else Q false H1
noncomputable def tOr(t u:TT):TT:=λσ H Q=>t σ H λc H1=>if c=true then Q true H1 else u σ H1 Q
noncomputable def QyW(t:TT):TT:=λσ H Q=>t σ H λc H1=>Q (!c) H1
theorem Qul(ha:PT X a tA):PW X (.BoolOp .And [a] pos) tA:=by
 intro wh pins s σ H Q I h
 refine isTrue_and (thn (ha pins s σ H Q I h) λc s1 e=>?_)
 cases c with
 | true=>exact isTrue_and_nil e
 | false=>exact e
theorem Qwx(ha:PT X a tA):PW X (.BoolOp .Or [a] pos) tA:=by
 intro wh pins s σ H Q I h
 refine isTrue_or (thn (ha pins s σ H Q I h) λc s1 e=>?_)
 cases c with
 | false=>exact isTrue_or_nil e
 | true=>exact e
theorem Qv8(ha:PT X a tA)(hb:PW X (.BoolOp .And (b::rest) pos) tB'):PW X (.BoolOp .And (a::b::rest) pos) (QyN tA tB'):=by
 intro wh pins s σ H Q I h
 refine isTrue_and (thn (ha pins s σ H _ I h) λc s1 ⟨H1,I1,q1⟩=>?_)
 cases c with
 | true=>exact hb wh pins s1 σ H1 Q I1 q1
 | false=>exact⟨H1,I1,q1⟩
theorem Qx9(ha:PT X a tA)(hb:PW X (.BoolOp .Or (b::rest) pos) tB'):PW X (.BoolOp .Or (a::b::rest) pos) (tOr tA tB'):=by
 intro wh pins s σ H Q I h
 refine isTrue_or (thn (ha pins s σ H _ I h) λc s1 ⟨H1,I1,q1⟩=>?_)
 cases c with
 | true=>exact⟨H1,I1,q1⟩
 | false=>exact hb wh pins s1 σ H1 Q I1 q1
theorem QvY(ha:PT X a tA):PT X (.UnaryOp .Not a pos) (QyW tA):=by
 intro pins s σ H Q I h
 exact isTrue_not (ha pins s σ H (λc H1=>Q (!c) H1) I h)
theorem QvL{op}{t:TE}(h:PE X a t):PE X (.BoolOp op [a] pos) t:=λpins s σ H Q I hw=>BoolOp_one (h pins s σ H Q I hw)
noncomputable def tIf(t:TT)(ta tb:TE):TE:=λσ H Q=>t σ H λc H1=>if c=true then ta σ H1 Q else tb σ H1 Q
theorem QsH{c:Expr}(hc:PT X c tA)(ha:PE X a ta)(hb:PE X b tb):PE X (.IfExp c a b pos) (tIf tA ta tb):=by
 intro pins s σ H Q I h
 refine wpAny_IfExp (thn (hc pins s σ H _ I h) λd s1 ⟨H1,I1,q1⟩=>?_)
 cases d with
 | true=>exact ha pins s1 σ H1 Q I1 q1
 | false=>exact hb pins s1 σ H1 Q I1 q1
end
end L2
namespace L2
open PySem PySem.Spec PyProof.Rows
def SqL(K:PySem.W.Frag)(H:Hp)(a:Addr)(xs:List V):Prop:=
 Rd H a (.lst xs)∨
  ∃(o:Obj) (its:Array Value) (n:Nat),K.lookup a=some o/\o.cls= .type "list" /\o.dict=none/\o.data= .seq its n/\its.size<=sizeLine/\Qz xs its.toList
def SqT(K:PySem.W.Frag)(H:Hp)(a:Addr)(xs:List V):Prop:=
 Rd H a (.tup xs)∨
  ∃(o:Obj) (its:Array Value) (n:Nat),K.lookup a=some o/\o.cls= .type "tuple" /\o.data= .seq its n/\its.size<=sizeLine/\Qz xs its.toList
noncomputable def QyP:Value->Option V
 | .none=>some .non
 | .bool b=>some (.bl b)
 | .int i _=>some (.int i)
 | .str x _=>some (.str x)
 | .bytes b _=>some (.byt b)
 | .float b _=>some (.flt b)
 | .ref a=>some (.ref a)
 | .type n=>some (.ty n)
 | _=>none
theorem RelV.abs{x:V}{u:Value}(r:RelV x u):QyP u=some x:=by
 cases x with
 | non=>cases r;rfl
 | bl _=>cases r;rfl
 | int _=>obtain⟨t,rfl⟩:=r;rfl
 | str _=>obtain⟨t,rfl⟩:=r;rfl
 | byt _=>obtain⟨t,rfl⟩:=r;rfl
 | flt _=>obtain⟨t,rfl⟩:=r;rfl
 | ref _=>cases r;rfl
 | ty _=>cases r;rfl
theorem RelV.inj{x y:V}{u:Value}(r:RelV x u)(q:RelV y u):x=y:=Option.some.inj (r.abs.symm.trans q.abs)
theorem Qz.inj:∀{xs ys:List V}{us:List Value},Qz xs us->Qz ys us->xs=ys
 | _,_,_,.nil,.nil=>rfl
 | _,_,_,.cons r t,.cons r' t'=>by rw[r.inj r',Qz.inj t t']
section
variable {X:Cx}{pins:List (Addr×Obj)}{σ:St}{H:Hp}{s:Shared}{a:Addr}{xs ys:List V}
theorem SqL.of{K:PySem.W.Frag}(h:H a=some (.lst xs)):SqL K H a xs:= .inl (.inl h)
theorem SqT.of{K:PySem.W.Frag}(h:H a=some (.tup xs)):SqT K H a xs:= .inl (.inl h)
theorem Inv.list(I:Inv X pins σ H s)(h:SqL X.K H a xs):∃its:List Value,Qz xs its/\PlainL s.heap a its.toArray/\xs.length<=sizeLine:=by
 rcases h with h | ⟨o,its,n,hk,hc,hd,hs,hz,r⟩
 ·obtain⟨z,its,n,r,e⟩:=h.ok I.hok
  exact⟨its,r,⟨_,n,e,rfl,rfl,rfl⟩,z⟩
 ·refine⟨its.toList,r,⟨o,n,I.kIn a o hk,hc,hd,by simpa using hs⟩,?_⟩
  have e:=r.length
  simp only[Array.length_toList]at e
  omega
theorem Inv.tuple(I:Inv X pins σ H s)(h:SqT X.K H a xs):∃its:List Value,Qz xs its/\IsTup s.heap a its.toArray/\xs.length<=sizeLine:=by
 rcases h with h | ⟨o,its,n,hk,hc,hs,hz,r⟩
 ·obtain⟨z,its,r,p⟩:=h.ok I.hok
  exact⟨its,r,p,z⟩
 ·refine⟨its.toList,r,⟨o,I.kIn a o hk,hc,n,by simpa using hs⟩,?_⟩
  have e:=r.length
  simp only[Array.length_toList]at e
  omega
theorem Inv.Qg6(I:Inv X pins σ H s)(h:SqL X.K H a xs)(h':SqL X.K H a ys):xs=ys:=by
 obtain⟨its,r,⟨o,n,e,_,_,d⟩,_⟩:=I.list h
 obtain⟨its',r',⟨o',n',e',_,_,d'⟩,_⟩:=I.list h'
 rw[e]at e';cases e'
 rw[d]at d'
 injection d' with d1 _
 have:its=its':=by simpa using congrArg Array.toList d1
 subst this
 exact r.inj r'
theorem Inv.Qra(I:Inv X pins σ H s)(h:SqT X.K H a xs)(h':SqT X.K H a ys):xs=ys:=by
 obtain⟨its,r,⟨o,e,_,n,d⟩,_⟩:=I.tuple h
 obtain⟨its',r',⟨o',e',_,n',d'⟩,_⟩:=I.tuple h'
 rw[e]at e';cases e'
 rw[d]at d'
 injection d' with d1 _
 have:its=its':=by simpa using congrArg Array.toList d1
 subst this
 exact r.inj r'
end
noncomputable abbrev Cx.Qfy(X:Cx)(E:Value->Shared->Prop):Cx:={X with xe:=E}
noncomputable abbrev Cx.nox(X:Cx):Cx:=X.Qfy λ_ _=>False
theorem Cx.Ok.Qfy{X:Cx}(ok:X.Ok)(E:Value->Shared->Prop):(X.Qfy E).Ok:=
 ⟨ok.mod,ok.kind,ok.glob,ok.blt,ok.above,ok.inj,ok.has,ok.cab,ok.hd,ok.frames,ok.stk,ok.exf,ok.bs,ok.bsz,ok.noex,ok.exfs,ok.Qd3,ok.frf⟩
theorem Cx.Ok.QeN{X:Cx}{E:Value->Shared->Prop}(ok:(X.Qfy E).Ok):X.Ok:=
 ⟨ok.mod,ok.kind,ok.glob,ok.blt,ok.above,ok.inj,ok.has,ok.cab,ok.hd,ok.frames,ok.stk,ok.exf,ok.bs,ok.bsz,ok.noex,ok.exfs,ok.Qd3,ok.frf⟩
section
variable {X:Cx}{pins:List (Addr×Obj)}{σ:St}{H:Hp}{s:Shared}{E:Value->Shared->Prop}
theorem Inv.Qfy(I:Inv X pins σ H s)(E:Value->Shared->Prop):Inv (X.Qfy E) pins σ H s:=⟨I.ok.Qfy E,I.os,I.bare,I.base,I.loc,I.cell,I.free,I.freeC,I.pin,I.hok,I.len⟩
theorem Inv.QeN(I:Inv (X.Qfy E) pins σ H s):Inv X pins σ H s:=⟨I.ok.QeN,I.os,I.bare,I.base,I.loc,I.cell,I.free,I.freeC,I.pin,I.hok,I.len⟩
theorem SP.QeN{D:Ends}{f:Flow}{s':Shared}(h:SP (X.Qfy E) pins D f s'):SP X pins D f s':=by
 cases f with
 | next=>obtain⟨σ',H',I,q⟩:=h;exact⟨σ',H',I.QeN,q⟩
 | brk=>obtain⟨σ',H',I,q⟩:=h;exact⟨σ',H',I.QeN,q⟩
 | cont=>obtain⟨σ',H',I,q⟩:=h;exact⟨σ',H',I.QeN,q⟩
 | ret u=>obtain⟨v,σ',H',I,r,q⟩:=h;exact⟨v,σ',H',I.QeN,r,q⟩
theorem PSs.nox{st:List Stmt}{t:TS}(h:PSs X.nox st t):PSs X st t:=λpins s σ H D I hw=>
 wpAny_mono (h pins s σ H D (I.Qfy _) hw) (λ_ _ q=>q.QeN) λ_ _ z=>False.elim z
end
section
variable {X:Cx}{st:Stmt}{rest:List Stmt}{t u:TS}{e:Expr}{te:TE}{pos:Pos}
noncomputable def Qo9:TS:=λD σ H=>D.nx σ H
noncomputable def QrV(t u:TS):TS:=λD σ H=>t {D with nx:=u D} σ H
theorem Qup:PSs X [] Qo9:=λ_ _ σ H _ I h=>wpAny_execs_nil ⟨σ,H,I,h⟩
theorem QbQ(h1:PS X st t)(h2:PSs X rest u):PSs X (st::rest) (QrV t u):=by
 intro pins s σ H D I h
 refine wpAny_execs_cons (thn (h1 pins s σ H {D with nx:=u D} I h) λf s1 q=>?_)
 cases f with
 | next=>
  obtain⟨σ',H',I',q⟩:=q
  exact h2 pins s1 σ' H' D I' q
 | ret v=>exact q
 | brk=>exact q
 | cont=>exact q
noncomputable def QwH:TS:=λD σ H=>D.bk σ H
noncomputable def Qx0:TS:=λD σ H=>D.ct σ H
theorem QuC:PS X (.Pass pos) Qo9:=λ_ _ σ H _ I h=>wpAny_Pass ⟨σ,H,I,h⟩
theorem QsP:PS X (.Break pos) QwH:=λ_ _ σ H _ I h=>wpAny_Break ⟨σ,H,I,h⟩
theorem Qn7:PS X (.Continue pos) Qx0:=λ_ _ σ H _ I h=>wpAny_Continue ⟨σ,H,I,h⟩
theorem Inv.quiet{pins:List (Addr×Obj)}{σ:St}{H:Hp}{s:Shared}(I:Inv X pins σ H s):interactive X.env=false:=by simp[interactive,I.ok.kind]
theorem Qxc{x j pos pos'}:PS X (.Expr (.Constant (.str x) j pos) pos') Qo9:=λ_ s σ H _ I h=>wpAny_Expr (Calls.Constant_str (show SP X _ _ .next {s with toks:=s.toks+1}from⟨σ,H,I.tok _,h⟩)) I.quiet
noncomputable def Qmd(te:TE):TS:=λD σ H=>te σ H λ_ H1=>D.nx σ H1
theorem Qix(he:PE X e te)(hs:swapsWith e none pos.line X.env=pure false:=by rfl):PS X (.Expr e pos) (Qmd te):=by
 intro pins s σ H D I h
 exact wpAny_Expr_any (thn (he pins s σ H _ I h) λv s1 ⟨x,H1,I1,r1,q1⟩=>⟨σ,H1,I1,q1⟩) I.quiet hs
noncomputable def Qyv(te:TE):TS:=λD σ H=>te σ H D.rt
theorem Qrf(he:PE X e te):PS X (.Return (some e) pos) (Qyv te):=by
 intro pins s σ H D I h
 exact wpAny_Return_some (thn (he pins s σ H _ I h) λv s1 ⟨x,H1,I1,r1,q1⟩=>⟨x,σ,H1,I1,r1,q1⟩)
noncomputable def Qxz:TS:=λD _ H=>D.rt .non H
theorem Qu7:PS X (.Return none pos) Qxz:=λ_ _ σ H _ I h=>wpAny_Return_none ⟨.non,σ,H,I,rfl,h⟩
noncomputable def Qy0(c:TT)(t u:TS):TS:=λD σ H=>c σ H λb H1=>if b=true then t D σ H1 else u D σ H1
theorem QtQ{c:Expr}{a b:List Stmt}{tc:TT}(hc:PT X c tc)(ha:PSs X a t)(hb:PSs X b u):PS X (.If c a b pos) (Qy0 tc t u):=by
 intro pins s σ H D I h
 refine wpAny_If (thn (hc pins s σ H _ I h) λd s1 ⟨H1,I1,q1⟩=>?_)
 cases d with
 | true=>exact ha pins s1 σ H1 D I1 q1
 | false=>exact hb pins s1 σ H1 D I1 q1
noncomputable def QvN:TS:=λ_ _ _=>False
theorem Qtv:PS X st QvN:=λ_ _ _ _ _ _ h=>h.elim
end
noncomputable abbrev TG:=V->St->Hp->(St->Hp->Prop)->Prop
noncomputable abbrev TGs:=List V->St->Hp->(St->Hp->Prop)->Prop
def PG(X:Cx)(target:Expr)(t:TG):Prop:=
 ∀(pins:List (Addr×Obj)) (s:Shared) (σ:St) (H:Hp) (v:V) (u:Value) (Q:St->Hp->Prop),Inv X pins σ H s->RelV v u->t v σ H Q→
  wpAny (model X.prog X.w) X.A (assign target X.env u) (λ_ s'=>∃σ' H',Inv X pins σ' H' s'/\Q σ' H') X.xe s
def PGs(X:Cx)(ts:List Expr)(t:TGs):Prop:=
 ∀(pins:List (Addr×Obj)) (s:Shared) (σ:St) (H:Hp) (vs:List V) (us:List Value) (Q:St->Hp->Prop),Inv X pins σ H s->Qz vs us->t vs σ H Q→
  wpAny (model X.prog X.w) X.A (assignInOrder ((assignEach ts X.env).map (·.2)) us) (λ_ s'=>∃σ' H',Inv X pins σ' H' s'/\Q σ' H') X.xe s
noncomputable abbrev Qsa:=V->V->V->Hp->(Hp->Prop)->Prop
def Qwq(X:Cx)(t:Qsa):Prop:=
 ∀(pins:List (Addr×Obj)) (s:Shared) (σ:St) (H:Hp) (o i v:V) (ov iv u:Value) (Q:Hp->Prop),Inv X pins σ H s->RelV o ov->RelV i iv->RelV v u->t o i v H Q→
  wpAny (model X.prog X.w) X.A (setItem ov iv u) (λ_ s'=>∃H',Inv X pins σ H' s'/\Q H') X.xe s
section
variable {X:Cx}{pos:Pos}
noncomputable def QfP(i:Nat):TG:=λv σ H Q=>Q (σ.set i (some v)) H
theorem Qon{i:Nat}{x:Str}(hN:X.N.Nodup)(hi:X.N[i]? =some x)(hx:Loc X.env.scope x)(hf:X.fn x=true∨X.env.scope.names.lookup x=some .local :=by first | exact .inl rfl | exact .inr rfl | assumption):PG X (.Name x pos) (QfP i):=by
 intro pins s σ H v u Q I r h
 exact wpAny_assign_Name (QgF I hN hi hx r (λs' I'=>⟨_,H,I',h⟩) hf)
noncomputable def QvD:TGs:=λvs σ H Q=>vs=[]/\Q σ H
noncomputable def QtB(t:TG)(u:TGs):TGs:=λvs σ H Q=>∃v r,vs=v::r/\t v σ H λσ' H'=>u r σ' H' Q
theorem Qvy:PGs X [] QvD:=by
 intro pins s σ H vs us Q I r h
 obtain⟨e,h⟩:=h
 subst e
 cases r
 exact assignInOrder_nil ⟨σ,H,I,h⟩
theorem Qsc{e:Expr}{es:List Expr}{t:TG}{u:TGs}(h1:PG X e t)(h2:PGs X es u)
  (hs:(assignEach (e::es) X.env).map (·.2)=assign e X.env::(assignEach es X.env).map (·.2):=by rfl):PGs X (e::es) (QtB t u):=by
 intro pins s σ H vs us Q I r h
 obtain⟨v,vr,e1,h⟩:=h
 subst e1
 cases r with
 | cons r rr=>
  rw[hs]
  refine assignInOrder_cons (thn (h1 pins s σ H _ _ _ I r h) λ_ s1 ⟨σ1,H1,I1,q1⟩=>?_)
  exact h2 pins s1 σ1 H1 _ _ Q I1 rr q1
noncomputable def QyB(K:PySem.W.Frag)(n:Nat)(t:TGs):TG:=λv σ H Q=>∃a xs,v= .ref a/\SqT K H a xs/\xs.length=n/\t xs σ H Q
theorem Qv2{es:List Expr}{k:Nat}{t:TGs}{n:Nat}(hc:X.calm=true)(h:PGs X es t)
  (hn:(assignEach es X.env).length=n:=by rfl) (hst:(assignEach es X.env).findIdx? (·.1)=none:=by rfl):PG X (.Tuple es k pos) (QyB X.K n t):=by
 intro pins s σ H v u Q I r hw
 obtain⟨a,xs,e1,hq,hl,hw⟩:=hw
 subst e1
 cases r
 obtain⟨its,rv,ht,hz⟩:=I.tuple hq
 refine assign_Tuple_tuple (I.ok.hd hc) ht (by simp[hn,← hl,rv.length]) hst λh' hx=>?_
 have I1:Inv X pins σ H {s with heap:=h'}:=I.kept (t':=s.toks) λb o e=>hx b o (ZI (Zr e)) e
 exact h pins _ σ H xs _ Q I1 (by simpa using rv) hw
noncomputable def Qa9(to ti:TE)(t:Qsa):TG:=λv σ H Q=>to σ H λo H1=>ti σ H1 λi H2=>t o i v H2 λH3=>Q σ H3
theorem Qfm{o i:Expr}{to ti:TE}{t:Qsa}(ho:PE X o to)(hi:PE X i ti)(hs:Qwq X t)
  (ha:∀v,assign (.Subscript o i pos) X.env v=(do
   let ov ← holding [v] (eval o X.env)
   let iv ← holding [v,ov] (eval i X.env)
   standAt pos
   holding [v,ov,iv] (setItem ov iv v)
   release [v,ov,iv] []):=by intro _;rfl):PG X (.Subscript o i pos) (Qa9 to ti t):=by
 intro pins s σ H v u Q I r h
 rw[ha]
 refine wpAny_bind (wpAny_holding (thn (ho pins s σ H _ I h) λov s1 ⟨x,H1,I1,r1,q1⟩=>?_))
 refine wpAny_bind (wpAny_holding (thn (hi pins s1 σ H1 _ I1 q1) λiv s2 ⟨y,H2,I2,r2,q2⟩=>?_))
 refine wpAny_bind (wpAny_standAt (wpAny_bind (wpAny_holding (thn (hs pins s2 σ H2 x y v ov iv u _ I2 r1 r2 r q2) λ_ s3 ⟨H3,I3,q3⟩=>?_))))
 exact wpAny_release ⟨σ,H3,I3,q3⟩
noncomputable def Qem(te:TE)(g:TG):TS:=λD σ H=>te σ H λx H1=>g x σ H1 D.nx
theorem QeM{tg e:Expr}{te:TE}{g:TG}(he:PE X e te)(hg:PG X tg g)(hs:swapsWithSole [tg] e pos.line X.env=pure false:=by rfl)(hw:swappedStores [tg] e X.env=pure none:=by rfl)
  (h1:(assignEach [tg] X.env).map (·.2)=[assign tg X.env]:=by rfl):PS X (.Assign [tg] e pos) (Qem te g):=by
 intro pins s σ H D I h
 refine wpAny_Assign_stores (thn (he pins s σ H _ I h) λv s1 ⟨x,H1,I1,r1,q1⟩=>?_) hs hw
 rw[h1]
 exact thn (hg pins s1 σ H1 x v _ I1 r1 q1) λ_ s2 q=>q
theorem Qfi{i:Nat}{x:Str}{e:Expr}{te:TE}{pos':Pos}(hN:X.N.Nodup)(hi:X.N[i]? =some x)(hx:Loc X.env.scope x)(he:PE X e te)(hs:swapsWith e (some (.Name x pos')) pos.line X.env=pure false:=by rfl)(hf:X.fn x=true∨X.env.scope.names.lookup x=some .local :=by first | exact .inl rfl | exact .inr rfl | assumption):
  PS X (.Assign [.Name x pos'] e pos) (Qem te (QfP i)):=by
 intro pins s σ H D I h
 refine wpAny_Assign_Name (thn (he pins s σ H _ I h) λv s1 ⟨y,H1,I1,r1,q1⟩=>?_) hs
 exact QgF I1 hN hi hx r1 (λs2 I2=>⟨_,H1,I2,q1⟩) hf
end
section
variable {X:Cx}{pos:Pos}
noncomputable def QwN(c:TT)(tb:TS):TS:=λD σ H=>∃W:Nat->St->Hp->Prop,(∃m,W m σ H)/\∀m σ H,W m σ H→
 c σ H λb H1=>if b=true then ∃N:St->Hp->Prop,(∀σ' H',N σ' H'->∃m',m'<m/\W m' σ' H')/\tb {D with nx:=N,ct:=N,bk:=D.nx} σ H1 else D.nx σ H1
theorem QrI{c:Expr}{body:List Stmt}{tc:TT}{tb:TS}(hp:PassesOwn (model X.prog X.w) X.A X.env X.xe)(hc:PT X c tc)(hb:PSs X body tb):PS X (.While c body [] pos) (QwN tc tb):=by
 intro pins s σ H D I h
 obtain⟨W,⟨m0,w0⟩,turn⟩:=h
 refine wpAny_While (codeAny_whileLoop (λn s'=>∃σ' H',Inv X pins σ' H' s'/\W n σ' H') ?_ m0 ⟨σ,H,I,w0⟩)
 rintro n s1 ⟨σ1,H1,I1,w1⟩
 refine wpAny_passesOwn hp (thn (hc pins s1 σ1 H1 _ I1 (turn n σ1 H1 w1)) λb s2 ⟨H2,I2,q2⟩=>?_)
 cases b with
 | true=>
  obtain⟨N,hN,q2⟩:=q2
  rw[if_pos rfl]
  refine wpAny_passesOwn hp (thn (hb pins s2 σ1 H2 _ I2 q2) λf s3 q3=>?_)
  cases f with
  | next=>
   obtain⟨σ3,H3,I3,n3⟩:=q3
   obtain⟨m',hm,w3⟩:=hN σ3 H3 n3
   exact⟨m',hm,σ3,H3,I3,w3⟩
  | cont=>
   obtain⟨σ3,H3,I3,n3⟩:=q3
   obtain⟨m',hm,w3⟩:=hN σ3 H3 n3
   exact⟨m',hm,σ3,H3,I3,w3⟩
  | brk=>exact q3
  | ret v=>exact q3
 | false=>
  rw[if_neg ZO]
  exact wpAny_execs_nil ⟨σ1,H2,I2,q2⟩
end
structure It where
 go:Nat->Hp->Prop
 yld:Nat->Hp->V->Hp->Prop
 stop:Nat->Hp->Prop
def Qey(X:Cx)(pins:List (Addr×Obj))(H:Hp)(b:Addr):Prop:=
 H b=none/\b≠X.env.locals/\b∉X.fs/\(b∈X.ex∨X.s₀.heap.objs.size<=b)/\(∀x c,X.env.cells.lookup x=some c->c≠b)/\∀p∈X.pn++pins,p.1≠b
theorem Inv.QkY{X:Cx}{pins:List (Addr×Obj)}{σ:St}{H H':Hp}{s:Shared}{b:Addr}(I:Inv X pins σ H s)(hb:s.heap.objs.size<=b)(hn:H' b=none):Qey X pins H' b:=by
 refine⟨hn,Nat.ne_of_gt (Zm I.lt hb),I.QyR hb,.inr (Zq I.sz hb),λx c e z=>?_,λp hp z=>?_⟩
 ·obtain⟨v,q⟩:=I.cell x c e
  exact absurd (Zm q.lt (by rw[z];exact hb)) (ZV _)
 ·exact absurd (Zm (Zr (I.pin p hp).1) (by rw[z];exact hb)) (ZV _)
structure Turn (P:Program) (w:World) (K:PySem.W.Frag) (tg:Expr) (J:It) (fp:List Addr) (it:Addr) (tn:Nat->Heap->Prop):Prop where
 mem:it∈fp
 obj:∀i h,tn i h->∀b∈fp,∃o,h.get? b=some o/\∀v,o.data≠ .cell v
 keep:∀i h h',tn i h->(∀b∈fp,∀o,h.get? b=some o->h'.get? b=some o)->tn i h'
 item:∀(X:Cx),X.prog=P->X.w=w->X.K=K->X.calm=true->∀(i:Nat) (pins:List (Addr×Obj)) (s:Shared) (σ:St) (H:Hp) (E:Value->Shared->Prop),Inv X pins σ H s->(∀b∈fp,Qey X pins H b)->tn i s.heap->J.go i H→
  wpAny (model P w) X.A (pyNext (.ref it)) (λr s1=>∃u,r=some u∧
   wpAny (model P w) X.A (letOwnedTupleGo tg (.ref it) u) (λ_ s2=>∃x H',Inv X pins σ H' s2/\RelV x u/\J.yld i H x H'/\tn (i+1) s2.heap/\∀b∈fp,H' b=none) E s1) E s
 done:∀(X:Cx),X.prog=P->X.w=w->X.K=K->X.calm=true->∀(i:Nat) (pins:List (Addr×Obj)) (s:Shared) (σ:St) (H:Hp) (E:Value->Shared->Prop),Inv X pins σ H s->(∀b∈fp,Qey X pins H b)->tn i s.heap->J.stop i H→
  wpAny (model P w) X.A (pyNext (.ref it)) (λr s1=>r=none/\Inv X pins σ H s1) E s
 self:∀(A:Around) (i:Nat) (s:Shared) (Q:Value->Shared->Prop) (E:Value->Shared->Prop),tn i s.heap->Q (.ref it) s->wpAny (model P w) A (pyIter (.ref it)) Q E s
noncomputable abbrev TI:=St->Hp->(It->Hp->Prop)->Prop
def PIE(X:Cx)(pins:List (Addr×Obj))(σ:St)(tg:Expr)(R:It->Hp->Prop)(itv:Value)(s2:Shared):Prop:=
 ∃(it:Addr) (fp:List Addr) (tn:Nat->Heap->Prop) (J:It) (H':Hp),itv= .ref it/\Inv X pins σ H' s2/\Turn X.prog X.w X.K tg J fp it tn/\tn 0 s2.heap/\(∀b∈fp,Qey X pins H' b)/\R J H'
def PI(X:Cx)(tg iter:Expr)(wi:TI):Prop:=
 ∀(pins:List (Addr×Obj)) (s:Shared) (σ:St) (H:Hp) (R:It->Hp->Prop),Inv X pins σ H s->wi σ H R→
  wpAny (model X.prog X.w) X.A (eval iter X.env) (λv s1=>wpAny (model X.prog X.w) X.A (pyIter v) (PIE X pins σ tg R) X.xe s1) X.xe s
theorem Qmj{M:Model}{A:Around}{E:Value->Shared->Prop}{s:Shared}{tg:Expr}{it:Addr}{u:Value}{o:Obj}{n:String}{vs:Array Value}{Q:Unit->Shared->Prop}(ho:s.heap.get? it=some o)(hc:o.cls= .type n)(hd:o.data= .fields vs)
    (hn:["enumerate","zip","dict_itemiterator","dict_reverseitemiterator","odict_iterator","itertools.zip_longest","itertools.pairwise"].contains n=false) (hQ:Q () s):wpAny M A (letOwnedTupleGo tg (.ref it) u) Q E s:=by
  unfold letOwnedTupleGo
  cases tg<;>first
    | exact wpAny_pure hQ
    | (cases u<;>first
        | exact wpAny_pure hQ
        | (refine wpAny_bind (wpAny_load ho ?_)
           rw[hc,hd]
           show wpAny M A (if(["enumerate","zip","dict_itemiterator","dict_reverseitemiterator","odict_iterator","itertools.zip_longest","itertools.pairwise"].contains n && vs[0]? == some (rawInt _))=true then _ else _) Q E s
           rw[if_neg (by intro h;rw[hn,Bool.false_and]at h;cases h)]
           exact wpAny_pure hQ))
noncomputable def Itl(K:PySem.W.Frag)(a:Addr):It:=
 ⟨λi H=>∃xs x,SqL K H a xs/\xs[i]? =some x,λi H x H'=>H'=H/\∀xs,SqL K H a xs->xs[i]? =some x,λi H=>∃xs,SqL K H a xs/\xs.length<=i⟩
noncomputable def Itt(K:PySem.W.Frag)(a:Addr):It:=
 ⟨λi H=>∃xs x,SqT K H a xs/\xs[i]? =some x,λi H x H'=>H'=H/\∀xs,SqT K H a xs->xs[i]? =some x,λi H=>∃xs,SqT K H a xs/\xs.length<=i⟩
noncomputable def Itr(lo:Int)(n:Nat):It:=⟨λi _=>i<n,λi H x H'=>H'=H/\x= .int (lo+i),λi _=>n<=i⟩
theorem Qrt{P:Program}{w:World}{K:PySem.W.Frag}{tg:Expr}(a it:Addr):Turn P w K tg (Itl K a) [it] it (λi h=>h.IsListIter it a i) where
 mem:=by simp
 obj:=λi h st b hb=>by
  have e:b=it:=by simpa using hb
  subst e
  obtain⟨o,e,c,d⟩:=st
  exact⟨o,e,λv z=>by rw[d]at z;cases z⟩
 keep:=λi h h' st k=>st.at λo e=>k it (by simp) o e
 item:=by
  intro X hP hw hK hc i pins s σ H E I hf st hg
  subst hP hw hK
  obtain⟨xs,x,hq,hx⟩:=hg
  obtain⟨its,rv,p,hz⟩:=I.list hq
  obtain⟨u,hu,ru⟩:=rv.get hx
  obtain⟨f0,f1,f2,f3,f4,f5⟩:=hf it (by simp)
  refine wpAny_pyNext_list_item st p.isList (x:=u) (by simpa using hu) λh' st' sb=>?_
  have I1:Inv X pins σ H {s with heap:=h'}:=I.turned (t':=s.toks) (λb o hb e=>(sb.2 b hb).trans e) f0 f1 f3 f4 f5
  obtain⟨o,e,c,d⟩:=id st'
  exact⟨u,rfl,Qmj (s:={s with heap:=h'}) e c d (by decide) ⟨x,H,I1,ru,⟨rfl,λys hy=>by rw[I.Qg6 hy hq];exact hx⟩,st',λb hb=>(hf b hb).1⟩⟩
 done:=by
  intro X hP hw hK hc i pins s σ H E I hf st hg
  subst hP hw hK
  obtain⟨xs,hq,hx⟩:=hg
  obtain⟨its,rv,p,hz⟩:=I.list hq
  obtain⟨f0,f1,f2,f3,f4,f5⟩:=hf it (by simp)
  have hl:=rv.length
  exact wpAny_pyNext_list_end (I.ok.hd hc) st p.isList (by simp;omega) λh' eb=>⟨rfl,I.turned (t':=s.toks) (λb o hb e=>eb b o hb e) f0 f1 f3 f4 f5⟩
 self:=λ_ _ _ _ _ st h=>wpAny_pyIter_listiter st h
theorem Qpl{P:Program}{w:World}{K:PySem.W.Frag}{tg:Expr}(a it:Addr):Turn P w K tg (Itt K a) [it] it (λi h=>h.IsTupleIter it a i) where
 mem:=by simp
 obj:=λi h st b hb=>by
  have e:b=it:=by simpa using hb
  subst e
  obtain⟨o,e,c,d⟩:=st
  exact⟨o,e,λv z=>by rw[d]at z;cases z⟩
 keep:=λi h h' st k=>st.at λo e=>k it (by simp) o e
 item:=by
  intro X hP hw hK hc i pins s σ H E I hf st hg
  subst hP hw hK
  obtain⟨xs,x,hq,hx⟩:=hg
  obtain⟨its,rv,p,hz⟩:=I.tuple hq
  obtain⟨u,hu,ru⟩:=rv.get hx
  obtain⟨f0,f1,f2,f3,f4,f5⟩:=hf it (by simp)
  refine wpAny_pyNext_tuple_item st (show s.heap.IsTuple a its.toArray from p) (x:=u) (by simpa using hu) λh' st' sb=>?_
  have I1:Inv X pins σ H {s with heap:=h'}:=I.turned (t':=s.toks) (λb o hb e=>(sb.2 b hb).trans e) f0 f1 f3 f4 f5
  obtain⟨o,e,c,d⟩:=id st'
  exact⟨u,rfl,Qmj (s:={s with heap:=h'}) e c d (by decide) ⟨x,H,I1,ru,⟨rfl,λys hy=>by rw[I.Qra hy hq];exact hx⟩,st',λb hb=>(hf b hb).1⟩⟩
 done:=by
  intro X hP hw hK hc i pins s σ H E I hf st hg
  subst hP hw hK
  obtain⟨xs,hq,hx⟩:=hg
  obtain⟨its,rv,p,hz⟩:=I.tuple hq
  obtain⟨f0,f1,f2,f3,f4,f5⟩:=hf it (by simp)
  have hl:=rv.length
  exact wpAny_pyNext_tuple_end (I.ok.hd hc) st (show s.heap.IsTuple a its.toArray from p) (by simp;omega) λh' eb=>⟨rfl,I.turned (t':=s.toks) (λb o hb e=>eb b o hb e) f0 f1 f3 f4 f5⟩
 self:=λ_ _ _ _ _ st h=>wpAny_pyIter_tupleiter st h
theorem Qps{P:Program}{w:World}{K:PySem.W.Frag}{tg:Expr}(it:Addr)(lo:Int)(n:Nat):Turn P w K tg (Itr lo n) [it] it (λi h=>IsRangeIter h it (lo+(i:Nat)*1) ((n:Int)-(i:Nat)) 1) where
 mem:=by simp
 obj:=λi h st b hb=>by
  have e:b=it:=by simpa using hb
  subst e
  exact⟨_,st,λv z=>by
   have z':Data.fields _=Data.cell v:=z
   cases z'⟩
 keep:=λi h h' st k=>k it (by simp) _ st
 item:=by
  intro X hP hw hK hc i pins s σ H E I hf st hg
  subst hP hw hK
  obtain⟨f0,f1,f2,f3,f4,f5⟩:=hf it (by simp)
  have W:=Walks.range (prog:=X.prog) (w:=X.w) (I.ok.hd hc) it lo 1 n
  refine W.item i s _ _ hg st λv h' tk hv st' kk=>?_
  obtain⟨t,rfl⟩:=hv
  have I1:Inv X pins σ H {s with heap:=h',toks:=tk}:=I.turned (λb o hb e=>kk b o (by simpa using hb) e) f0 f1 f3 f4 f5
  refine⟨_,rfl,Qmj (s:={s with heap:=h',toks:=tk}) (n:= "range_iterator") st' rfl rfl (by decide) ⟨.int (lo+i),H,I1,⟨t,?_⟩,⟨rfl,rfl⟩,st',λb hb=>(hf b hb).1⟩⟩
  rw[Zal]
 done:=by
  intro X hP hw hK hc i pins s σ H E I hf st hg
  subst hP hw hK
  obtain⟨f0,f1,f2,f3,f4,f5⟩:=hf it (by simp)
  exact wpAny_pyNext_range_end (I.ok.hd hc) st (by have:n<=i:=hg;omega) λh' eb=>⟨rfl,I.turned (t':=s.toks) (λb o hb e=>eb b o hb e) f0 f1 f3 f4 f5⟩
 self:=λ_ _ _ _ _ st h=>wpAny_pyIter_rangeiter st h
end L2
namespace L2
open PySem PySem.Spec PyProof.Rows
section
variable {X:Cx}{tg:Expr}
theorem QnT{pins:List (Addr×Obj)}{σ:St}{H:Hp}{s:Shared}{R:It->Hp->Prop}{E:Value->Shared->Prop}{lo hi:Int}{t u v:Tok}{tk:Nat}(I:Inv X pins σ H s)(h1: -(2^62)<=lo)(h2:lo<2^62)(h3: -(2^62)<=hi)(h4:hi<2^62)
  (q:R (Itr lo (hi-lo).toNat) H):wpAny (model X.prog X.w) X.A (pyIter (.ref s.heap.objs.size)) (PIE X pins σ tg R) E {s with heap:=s.heap.push {cls:= .type "range",data:= .fields #[.int lo t,.int hi u,.int 1 v]},toks:=tk}:=by
 refine wpAny_pyIter_range (IsRange.new ..) (small_one h1 h2 h3 h4) ?_
 have I1:Inv X pins σ H {s with heap:=s.heap.push {cls:= .type "range",data:= .fields #[.int lo t,.int hi u,.int 1 v]},toks:=tk}:=I.kept λb o e=>Zu _ e
 refine⟨(s.heap.push {cls:= .type "range",data:= .fields #[.int lo t,.int hi u,.int 1 v]}).objs.size,[(s.heap.push {cls:= .type "range",data:= .fields #[.int lo t,.int hi u,.int 1 v]}).objs.size],_,_,H,rfl,
  I1.kept (t':=tk) λb o e=>Zu _ e,Qps _ lo (hi-lo).toNat,?_,λb hb=>?_,q⟩
 ·have e1:lo+((0:Nat):Int)*1=lo:=by simp
  have e2:(((hi-lo).toNat:Nat):Int)-((0:Nat):Int)=Builtin.Range.rangeSize lo hi 1:=by rw[rangeSize_one];split<;>omega
  show IsRangeIter _ _ (lo+((0:Nat):Int)*1) ((((hi-lo).toNat:Nat):Int)-((0:Nat):Int)) 1
  rw[e1,e2]
  exact ZQ _ rfl
 ·have e:b=(s.heap.push {cls:= .type "range",data:= .fields #[.int lo t,.int hi u,.int 1 v]}).objs.size:=by simpa using hb
  subst e
  exact I1.QkY (Zj _) (I1.hok.fresh (Zj _))
noncomputable def Qxx(ta:TA):TI:=λσ H R=>ta σ H λvs H1=>∃j:Int,vs=[.int j]/\ -(2^62)<=j/\j<2^62/\R (Itr 0 j.toNat) H1
noncomputable def QxX(ta:TA):TI:=λσ H R=>ta σ H λvs H1=>∃i j:Int,vs=[.int i,.int j]/\(-(2^62)<=i/\i<2^62/\ -(2^62)<=j/\j<2^62)/\R (Itr i (j-i).toNat) H1
theorem Qrk{a:Expr}{ta:TA}{p pos:Pos}(hg:Gl X "range")(hm:X.mg "range" =none)(ha:PA X [a] ta)(hs:starEach [a] X.env=[(false,eval a X.env)]:=by rfl):PI X tg (.Call (.Name "range" p) [a] [] pos) (Qxx ta):=by
 intro pins s σ H R I h
 refine Call_ (Qc5 I hg hm boot_range (ZL (thn (ha pos pins s σ H _ I h) λus s1 ⟨vs,H1,I1,r1,q1⟩=>?_) hs rfl))
 obtain⟨j,e,q1,q2,q⟩:=q1
 subst e
 cases r1 with
 | cons r rr=>
  cases rr
  obtain⟨t,rfl⟩:=r
  exact call_range_1 (QnT I1 (by omega) (by omega) q1 q2 (by simpa using q))
theorem QqB{a b:Expr}{ta:TA}{p pos:Pos}(hg:Gl X "range")(hm:X.mg "range" =none)(ha:PA X [a,b] ta)(hs:starEach [a,b] X.env=[(false,eval a X.env),(false,eval b X.env)]:=by rfl)(hs2:starEach [b] X.env=[(false,eval b X.env)]:=by rfl):
  PI X tg (.Call (.Name "range" p) [a,b] [] pos) (QxX ta):=by
 intro pins s σ H R I h
 refine Call_ (Qc5 I hg hm boot_range (ZL (thn (ha pos pins s σ H _ I h) λus s1 ⟨vs,H1,I1,r1,q1⟩=>?_) (by rw[hs,hs2]) (by rw[hs2];rfl)))
 obtain⟨i,j,e,⟨q1,q2,q3,q4⟩,q⟩:=q1
 subst e
 cases r1 with
 | cons r rr=>
  cases rr with
  | cons r' rr=>
   cases rr
   obtain⟨t,rfl⟩:=r
   obtain⟨t',rfl⟩:=r'
   exact call_range_2 (QnT I1 q1 q2 q3 q4 q)
noncomputable def Qyx(wi:TI)(g:TG)(tb:TS):TS:=λD σ H=>wi σ H λJ H1=>∃W:Nat->Nat->St->Hp->Prop,(∃m,W 0 m σ H1)/\∀i m σ H,W i m σ H→
 (J.stop i H/\D.nx σ H)∨(J.go i H/\∃N:St->Hp->Prop,(∀σ' H',N σ' H'->∃m',m'<m/\W (i+1) m' σ' H')/\∀x H',J.yld i H x H'->g x σ H' λσ2 H2=>tb {D with nx:=N,ct:=N,bk:=D.nx} σ2 H2)
noncomputable def QhB(fp:List Addr)(h:Heap):List (Addr×Obj):=fp.filterMap λb=>(h.get? b).map λo=>(b,o)
theorem QgY{fp:List Addr}{h:Heap}{b:Addr}{o:Obj}(hb:b∈fp)(e:h.get? b=some o):(b,o)∈QhB fp h:=ZaK.mpr ⟨b,hb,by rw[e];rfl⟩
theorem Qqn{fp:List Addr}{h:Heap}{p:Addr×Obj}(hp:p∈QhB fp h):p.1∈fp/\h.get? p.1=some p.2:=by
 obtain⟨b,hb,e⟩:=ZaK.mp hp
 cases q:h.get? b with
 | none=>rw[q]at e;cases e
 | some o=>
  rw[q]at e
  have e':(b,o)=p:=Option.some.inj e
  subst e'
  exact⟨hb,q⟩
theorem Inv.pinned{pins:List (Addr×Obj)}{σ:St}{H:Hp}{s:Shared}{fp:List Addr}(I:Inv X pins σ H s)(hf:∀b∈fp,Qey X pins H b)(ho:∀b∈fp,∃o,s.heap.get? b=some o/\∀v,o.data≠ .cell v):Inv X (pins++QhB fp s.heap) σ H s:=
 I.Qoo λp hp=>(ZM.mp hp).elim (λz=>I.pin p (Zd _ z)) λz=>by
  obtain⟨hb,e⟩:=Qqn z
  obtain⟨f0,f1,f2,_⟩:=hf p.1 hb
  obtain⟨o,e',d⟩:=ho p.1 hb
  rw[e]at e';cases e'
  exact⟨e,f0,f1,f2,d⟩
theorem Inv.Qg0{pins pl:List (Addr×Obj)}{σ:St}{H:Hp}{s:Shared}(I:Inv X (pins++pl) σ H s):Inv X pins σ H s:=I.Qoo λp hp=>I.pin p (Zd _ (Zh _ hp))
theorem Qq6{iter:Expr}{body:List Stmt}{wi:TI}{g:TG}{tb:TS}{pos:Pos}(hp:PassesOwn (model X.prog X.w) X.A X.env X.xe)(hc:X.calm=true)(hi:PI X tg iter wi)(hg:PG X tg g)(hb:PSs X body tb)
  (hs:∀x,foldedSetIterable iter X.env x=pure x:=by intro _;rfl):PS X (.For tg iter body [] pos) (Qyx wi g tb):=by
 intro pins s σ H D I h
 refine wpAny_For (thn (hi pins s σ H _ I h) λv s1 h1=>thn h1 λitv s2 h2=>?_) hs
 obtain⟨it,fp,tn,J,H2,e,I2,T,st2,f2,W,⟨m0,w0⟩,turn⟩:=h2
 subst e
 have stat:∀{H':Hp},(∀b∈fp,H' b=none)->∀b∈fp,Qey X pins H' b:=λhn b hb=>⟨hn b hb,(f2 b hb).2⟩
 refine codeAny_forLoop_any (λn s'=>∃i σ' H',Inv X pins σ' H' s'/\tn i s'.heap/\(∀b∈fp,H' b=none)/\W i n σ' H') ?_ m0 ⟨0,σ,H2,I2,st2,λb hb=>(f2 b hb).1,w0⟩
 rintro n s3 ⟨i,σ3,H3,I3,st3,fr3,w3⟩
 rcases turn i n σ3 H3 w3 with⟨stop,qn⟩ | ⟨go,N,hN,step⟩
 ·refine wpAny_passesOwn hp (thn (T.done X rfl rfl rfl hc i pins s3 σ3 H3 X.xe I3 (stat fr3) st3 stop) λr s4 ⟨hr,I4⟩=>?_)
  subst hr
  exact wpAny_execs_nil ⟨σ3,H3,I4,qn⟩
 ·refine wpAny_passesOwn hp (thn (T.item X rfl rfl rfl hc i pins s3 σ3 H3 X.xe I3 (stat fr3) st3 go) λr s4 ⟨u,hr,h4⟩=>?_)
  subst hr
  refine wpAny_passesOwn hp (thn h4 λ_ s5 ⟨x,H5,I5,r5,y5,st5,fr5⟩=>?_)
  have I5':=I5.pinned (stat fr5) (T.obj _ _ st5)
  refine wpAny_passesOwn hp (thn (hg _ s5 σ3 H5 x u _ I5' r5 (step x H5 y5)) λ_ s6 ⟨σ6,H6,I6,q6⟩=>?_)
  refine wpAny_passesOwn hp (thn (hb _ s6 σ6 H6 _ I6 q6) λf s7 q7=>?_)
  have again:∀{σ7:St}{H7:Hp},Inv X (pins++QhB fp s5.heap) σ7 H7 s7->N σ7 H7->∃m,m<n/\∃i σ' H',Inv X pins σ' H' s7/\tn i s7.heap/\(∀b∈fp,H' b=none)/\W i m σ' H':=λ{σ7 H7} I7 n7=>by
   obtain⟨m',hm,w7⟩:=hN σ7 H7 n7
   refine⟨m',hm,i+1,σ7,H7,I7.Qg0,T.keep _ _ _ st5 λb hb o e=>(I7.pin (b,o) (Zd _ (Zd _ (QgY hb e)))).1,λb hb=>?_,w7⟩
   obtain⟨o,e,d⟩:=T.obj _ _ st5 b hb
   exact(I7.pin (b,o) (Zd _ (Zd _ (QgY hb e)))).2.1
  cases f with
  | next=>obtain⟨σ7,H7,I7,n7⟩:=q7;exact again I7 n7
  | cont=>obtain⟨σ7,H7,I7,n7⟩:=q7;exact again I7 n7
  | brk=>obtain⟨σ7,H7,I7,q7⟩:=q7;exact⟨σ7,H7,I7.Qg0,q7⟩
  | ret v=>obtain⟨x7,σ7,H7,I7,r7,q7⟩:=q7;exact⟨x7,σ7,H7,I7.Qg0,r7,q7⟩
end
end L2
namespace L2
open PySem PySem.Spec PyProof.Rows
noncomputable abbrev R2:=V->V->Hp->VK->Prop
def OpR(X:Cx)(f:Value->Value->Sem Value)(r:R2):Prop:=
 ∀(pins:List (Addr×Obj)) (s:Shared) (σ:St) (H:Hp) (x y:V) (v u:Value) (Q:VK),Inv X pins σ H s->RelV x v->RelV y u->r x y H Q→
  wpAny (model X.prog X.w) X.A (f v u) (EP X pins σ Q) X.xe s
def UnR(X:Cx)(f:Value->Sem Value)(r:V->Hp->VK->Prop):Prop:=
 ∀(pins:List (Addr×Obj)) (s:Shared) (σ:St) (H:Hp) (x:V) (v:Value) (Q:VK),Inv X pins σ H s->RelV x v->r x H Q→
  wpAny (model X.prog X.w) X.A (f v) (EP X pins σ Q) X.xe s
def QeF(X:Cx)(f:Value)(r:List V->Hp->VK->Prop):Prop:=
 ∀(pins:List (Addr×Obj)) (s:Shared) (σ:St) (H:Hp) (xs:List V) (us:List Value) (Q:VK),Inv X pins σ H s->Qz xs us->r xs H Q→
  wpAny (model X.prog X.w) X.A (call f us) (EP X pins σ Q) X.xe s
def Qyy(X:Cx)(r:V->Hp->(Bool->Hp->Prop)->Prop):Prop:=
 ∀(pins:List (Addr×Obj)) (s:Shared) (σ:St) (H:Hp) (x:V) (v:Value) (Q:Bool->Hp->Prop),Inv X pins σ H s->RelV x v->r x H Q→
  wpAny (model X.prog X.w) X.A (truthy v) (TP X pins σ Q) X.xe s
noncomputable def tOp(r:R2)(ta tb:TE):TE:=λσ H Q=>ta σ H λx H1=>tb σ H1 λy H2=>r x y H2 Q
noncomputable def tUn(r:V->Hp->VK->Prop)(ta:TE):TE:=λσ H Q=>ta σ H λx H1=>r x H1 Q
noncomputable def rI(C:Int->Int->Prop)(g:Int->Int->V):R2:=λx y H Q=>∃i j,x= .int i/\y= .int j/\C i j/\Q (g i j) H
noncomputable def rI0(g:Int->Int->V):R2:=λx y H Q=>∃i j,x= .int i/\y= .int j/\Q (g i j) H
noncomputable def rU(g:Int->V):V->Hp->VK->Prop:=λx H Q=>∃i,x= .int i/\Q (g i) H
section
variable {X:Cx}{a b c:Expr}{ta tb tc:TE}{pos:Pos}
theorem QsI(ha:PE X a ta)(hb:PE X b tb){pins:List (Addr×Obj)}{s:Shared}{σ:St}{H:Hp}{R:V->V->Hp->Prop}(I:Inv X pins σ H s)
  (h:ta σ H λx H1=>tb σ H1 λy H2=>R x y H2) {Q:Value->Shared->Prop}{f:Value->Value->Sem Value}
  (hf:∀v u s2 x y H2,Inv X pins σ H2 s2->RelV x v->RelV y u->R x y H2->wpAny (model X.prog X.w) X.A (f v u) Q X.xe s2):
  wpAny (model X.prog X.w) X.A (eval a X.env) (λv s₁=>wpAny (model X.prog X.w) X.A (eval b X.env) (λu s₂=>wpAny (model X.prog X.w) X.A (f v u) Q X.xe s₂) X.xe s₁) X.xe s:=by
 refine thn (ha pins s σ H _ I h) λv s1 ⟨x,H1,I1,r1,q1⟩=>?_
 refine thn (hb pins s1 σ H1 _ I1 q1) λu s2 ⟨y,H2,I2,r2,q2⟩=>?_
 exact hf v u s2 x y H2 I2 r1 r2 q2
theorem QpB{op:Operator}{r:R2}(ho:OpR X (binaryOp op) r)(ha:PE X a ta)(hb:PE X b tb):PE X (.BinOp a op b pos) (tOp r ta tb):=by
 intro pins s σ H Q I h
 exact wpAny_BinOp (QsI ha hb I h λv u s2 x y H2 I2 rx ry q=>ho pins s2 σ H2 x y v u Q I2 rx ry q)
theorem QxK{op:UnaryOp}{r:V->Hp->VK->Prop}(ho:UnR X (unaryOp op) r)(ha:PE X a ta):PE X (.UnaryOp op a pos) (tUn r ta):=by
 intro pins s σ H Q I h
 exact UnaryOp_ (thn (ha pins s σ H _ I h) λv s1 ⟨x,H1,I1,r1,q1⟩=>ho pins s1 σ H1 x v Q I1 r1 q1)
theorem opI{f:Value->Value->Sem Value}{C:Int->Int->Prop}{g:Int->Int->Int}
  (rule:∀(i j:Int) (t u:Tok) (s:Shared) (Q:Value->Shared->Prop) (E:Value->Shared->Prop),C i j->Q (.int (g i j) s.toks) {s with toks:=s.toks+1}->wpAny (model X.prog X.w) X.A (f (.int i t) (.int j u)) Q E s):
  OpR X f (rI C λi j=> .int (g i j)):=by
 intro pins s σ H x y v u Q I rx ry h
 obtain⟨i,j,rfl,rfl,hc,q⟩:=h
 obtain⟨t,rfl⟩:=rx
 obtain⟨t',rfl⟩:=ry
 exact rule i j t t' s _ _ hc ⟨.int (g i j),H,I.tok _,⟨_,rfl⟩,q⟩
theorem Qwl{f:Value->Value->Sem Value}{g:Int->Int->Int}
  (rule:∀(i j:Int) (t u:Tok) (s:Shared) (Q:Value->Shared->Prop) (E:Value->Shared->Prop),Q (.int (g i j) s.toks) {s with toks:=s.toks+1}->wpAny (model X.prog X.w) X.A (f (.int i t) (.int j u)) Q E s):
  OpR X f (rI0 λi j=> .int (g i j)):=by
 intro pins s σ H x y v u Q I rx ry h
 obtain⟨i,j,rfl,rfl,q⟩:=h
 obtain⟨t,rfl⟩:=rx
 obtain⟨t',rfl⟩:=ry
 exact rule i j t t' s _ _ ⟨.int (g i j),H,I.tok _,⟨_,rfl⟩,q⟩
theorem Qo7{f:Value->Value->Sem Value}{g:Int->Int->Bool}
  (rule:∀(i j:Int) (t u:Tok) (s:Shared) (Q:Value->Shared->Prop) (E:Value->Shared->Prop),Q (.bool (g i j)) s->wpAny (model X.prog X.w) X.A (f (.int i t) (.int j u)) Q E s):
  OpR X f (rI0 λi j=> .bl (g i j)):=by
 intro pins s σ H x y v u Q I rx ry h
 obtain⟨i,j,rfl,rfl,q⟩:=h
 obtain⟨t,rfl⟩:=rx
 obtain⟨t',rfl⟩:=ry
 exact rule i j t t' s _ _ ⟨.bl (g i j),H,I,rfl,q⟩
theorem Qwi:OpR X (binaryOp .Add) (rI0 λi j=> .int (i+j)):=Qwl λ_ _ _ _ _ _ _ q=>add_int q
theorem Qw3:OpR X (binaryOp .Sub) (rI0 λi j=> .int (i-j)):=Qwl λ_ _ _ _ _ _ _ q=>sub_int q
theorem unI{f:Value->Sem Value}{g:Int->Int}
  (rule:∀(i:Int) (t:Tok) (s:Shared) (Q:Value->Shared->Prop) (E:Value->Shared->Prop),Q (.int (g i) s.toks) {s with toks:=s.toks+1}->wpAny (model X.prog X.w) X.A (f (.int i t)) Q E s):
  UnR X f (rU λi=> .int (g i)):=by
 intro pins s σ H x v Q I rx h
 obtain⟨i,rfl,q⟩:=h
 obtain⟨t,rfl⟩:=rx
 exact rule i t s _ _ ⟨.int (g i),H,I.tok _,⟨_,rfl⟩,q⟩
theorem QvG:UnR X (unaryOp .USub) (rU λi=> .int (-i)):=unI λ_ _ _ _ _ q=>neg_int q
end
section
variable {X:Cx}{a b c:Expr}{ta tb tc:TE}{pos:Pos}
theorem Qx8:OpR X (compareOp .Lt) (rI0 λi j=> .bl (decide (i<j))):=Qo7 λ_ _ _ _ _ _ _ q=>lt_int q
theorem Qx2:OpR X (compareOp .LtE) (rI0 λi j=> .bl (decide (i<=j))):=Qo7 λ_ _ _ _ _ _ _ q=>le_int q
theorem QxM:OpR X (compareOp .Gt) (rI0 λi j=> .bl (decide (j<i))):=Qo7 λ_ _ _ _ _ _ _ q=>gt_int q
theorem Qyb:OpR X (compareOp .GtE) (rI0 λi j=> .bl (decide (j<=i))):=Qo7 λ_ _ _ _ _ _ _ q=>ge_int q
theorem OpR.or{f:Value->Value->Sem Value}{r r':R2}(h:OpR X f r)(h':OpR X f r'):OpR X f (λx y H Q=>r x y H Q∨r' x y H Q):=by
 intro pins s σ H x y v u Q I rx ry q
 rcases q with q | q
 ·exact h pins s σ H x y v u Q I rx ry q
 ·exact h' pins s σ H x y v u Q I rx ry q
theorem Qvj{op:CmpOp}{r:R2}(ho:OpR X (compareOp op) r)(ha:PE X a ta)(hb:PE X b tb)(hm:behindInMarks op b=false):PE X (.Compare a [op] [b] pos) (tOp r ta tb):=by
 intro pins s σ H Q I h
 exact wpAny_Compare1 (QsI ha hb I h λv u s2 x y H2 I2 rx ry q=>ho pins s2 σ H2 x y v u Q I2 rx ry q) hm
noncomputable def Qxw(t:TE):TT:=λσ H Q=>t σ H λx H'=>∃k,x= .bl k/\Q k H'
theorem QuT{op:CmpOp}{r:R2}(ho:OpR X (compareOp op) r)(ha:PE X a ta)(hb:PE X b tb)(hm:behindInMarks op b=false):PT X (.Compare a [op] [b] pos) (Qxw (tOp r ta tb)):=by
 intro pins s σ H Q I h
 refine wpAny_isTrue_Compare1 (thn (ha pins s σ H _ I h) λv s1 ⟨x,H1,I1,r1,q1⟩=>thn (hb pins s1 σ H1 _ I1 q1) λu s2 ⟨y,H2,I2,r2,q2⟩=>
  thn (ho pins s2 σ H2 x y v u _ I2 r1 r2 q2) λc s3 ⟨z,H3,I3,r3,k,e,q3⟩=>?_) hm
 subst e
 cases r3
 exact wpAny_truthy_bool ⟨H3,I3,q3⟩
def Qtm(K:PySem.W.Frag)(x:V)(H:Hp)(k:Bool):Prop:=
 match x with
 | .non=>k=false
 | .bl b=>k=b
 | .int i=>k=(i != 0)
 | .str y=>y.length<=sizeLine/\k=((y.length:Int) != 0)
 | .byt y=>y.size<=sizeLine/\k=((y.size:Int) != 0)
 | .ref p=>(∃xs,SqL K H p xs/\k= !xs.isEmpty)∨(∃xs,SqT K H p xs/\k= !xs.isEmpty)∨∃kvs,H p=some (.dK kvs)/\k= !kvs.isEmpty
 | _=>False
theorem Qpz{κ:Type}{kvs:List (κ×V)}{vs:List (κ×Value)}(r:KV kvs vs):(!vs.isEmpty)= !kvs.isEmpty:=by
 cases r<;>rfl
theorem QjB{xs:List V}{its:List Value}(r:Qz xs its):(!its.toArray.isEmpty)= !xs.isEmpty:=by
 cases r<;>simp
theorem Qh3:(sizeLine:Nat)<2^63:=by rw[sizeLine_eq];decide
theorem QjW:Qyy X (λx H Q=>∃k,Qtm X.K x H k/\Q k H):=by
 intro pins s σ H x v Q I rx h
 obtain⟨k,e,q⟩:=h
 have hl:=Qh3
 have hs:sizeLine=16777216:=sizeLine_eq
 cases x with
 | non=>
  cases rx
  have e':k=false:=e
  subst e'
  exact truthy_none ⟨H,I,q⟩
 | bl b=>
  cases rx
  have e':k=b:=e
  subst e'
  exact wpAny_truthy_bool ⟨H,I,q⟩
 | int i=>
  obtain⟨t,rfl⟩:=rx
  have e':k=(i != 0):=e
  subst e'
  exact PySem.P.truthy_int ⟨H,I,q⟩
 | str y=>
  obtain⟨t,rfl⟩:=rx
  obtain⟨hy,e'⟩:y.length<=sizeLine/\k=((y.length:Int) != 0):=e
  subst e'
  exact PySem.P.truthy_str (by omega) ⟨H,I.tok _,q⟩
 | byt y=>
  obtain⟨t,rfl⟩:=rx
  obtain⟨hy,e'⟩:y.size<=sizeLine/\k=((y.size:Int) != 0):=e
  subst e'
  exact PySem.W.truthy_bytes (by omega) ⟨H,I.tok _,q⟩
 | ref p=>
  cases rx
  have e':(∃xs,SqL X.K H p xs/\k= !xs.isEmpty)∨(∃xs,SqT X.K H p xs/\k= !xs.isEmpty)∨∃kvs,H p=some (.dK kvs)/\k= !kvs.isEmpty:=e
  rcases e' with⟨xs,hx,e'⟩ | ⟨xs,hx,e'⟩ | ⟨kvs,hx,e'⟩
  ·subst e'
   obtain⟨its,r,pl,hz⟩:=I.list hx
   have hlen:=r.length
   exact wpAny_truthy_list pl.isList (by simp only[Zv];omega) ⟨H,I.tok _,by rw[QjB r];exact q⟩
  ·subst e'
   obtain⟨its,r,pl,hz⟩:=I.tuple hx
   have hlen:=r.length
   exact truthy_tuple pl (by simp only[Zv];omega) ⟨H,I.tok _,by rw[QjB r];exact q⟩
  ·subst e'
   obtain⟨hz,hS,vs,r,m⟩:kvs.length<=sizeLine/\(p == sysModules)=false/\∃vs,KV kvs vs/\s.heap.DictOf (QkJ X.prog X.w) p vs:=I.hok p _ hx
   have hlen:kvs.length=vs.length:=Paired.length r
   exact wpAny_truthy_dict hS m (by omega) ⟨H,I.tok _,by rw[Qpz r];exact q⟩
 | _=>exact(show False from e).elim
theorem Qs0(ha:PE X a ta)(he:∀whole,isTrue a X.env whole=(do let v ← whole;standAt a.pos;holding [v] (truthy v))):
  PT X a (λσ H Q=>ta σ H λx H'=>∃k,Qtm X.K x H' k/\Q k H'):=by
 intro pins s σ H Q I h
 exact isTrue_plain (thn (ha pins s σ H _ I h) λv s1 ⟨x,H1,I1,r1,q1⟩=>QjW pins s1 σ H1 x v Q I1 r1 q1) (he _)
theorem vals1{x:V}{us:List Value}(r:Qz [x] us):∃u,us=[u]/\RelV x u:=by
 cases r with
 | cons r1 r2=>cases r2;exact⟨_,rfl,r1⟩
theorem vals2{x y:V}{us:List Value}(r:Qz [x,y] us):∃u w',us=[u,w']/\RelV x u/\RelV y w':=by
 cases r with
 | cons r1 r2=>
  cases r2 with
  | cons r3 r4=>cases r4;exact⟨_,_,rfl,r1,r3⟩
theorem QrE:QeF X (.builtin "abs") (λxs H Q=>∃i,xs=[.int i]/\Q (.int (if i<0 then-i else i)) H):=by
 intro pins s σ H xs us Q I r h
 obtain⟨i,rfl,q⟩:=h
 obtain⟨u,rfl,t,rfl⟩:=vals1 r
 exact call_abs_int λu tk=>⟨.int (if i<0 then-i else i),H,I.tok _,⟨_,rfl⟩,q⟩
end
end L2
namespace L2
open PySem PySem.Spec PyProof.Rows
structure Qy3 (h:Heap) (x dx C:Addr) (mA:Str->Option Value):Prop where
 obj:h.get? x=some (PySem.W.instObj C dx)
 ns:h.Ns1 dx mA
 ne:dx≠x
section
variable {prog:Program}{w:World}{A:Around}{E:Value->Shared->Prop}{s:Shared}{K:PySem.W.Frag}{x dx C f:Addr}{mA:Str->Option Value}{name:Str}{v:Value}
end
section
variable {P:Program}{w:World}{H H':Hp}{h h':Heap}{a C dx:Addr}{fs fs':List (Str×V)}
end
structure Cls (K:PySem.W.Frag) (C:Addr):Prop where
 pg:PySem.W.plainGet K C Str.empty=true
 hd:PySem.W.hasDictIn K C=true
 po:PySem.W.plainOver K C=true
 sa:PySem.W.findIn K (.ref C) "__setattr__" =some (some (.builtin "object.__setattr__"))
structure Con (K:PySem.W.Frag) (C:Addr) (f:Str) (v:V) (u:Value):Prop where
 at_:PySem.W.findIn K (.ref C) f=some (some u)
 rel:RelV v u
 get:PySem.W.specialIn K u "__get__" =some none
 cp:PySem.W.copiedNames.contains f=false
structure Qy5 (K:PySem.W.Frag) (C:Addr) (m:Str) (f:Addr):Prop where
 at_:PySem.W.findIn K (.ref C) m=some (some (.ref f))
 fn:PySem.W.isFn K (.ref f)=true
 kp:PySem.W.keepIn K (.ref f)=true
section
variable {X:Cx}{pins:List (Addr×Obj)}{σ:St}{H:Hp}{s:Shared}{a C dx:Addr}{fs:List (Str×V)}{f:Str}{v:V}{A:Around}{E:Value->Shared->Prop}
end
section
variable {X:Cx}{o e value:Expr}{f:Str}{pos pos' tpos:Pos}{ta tv:TE}
end
section
variable {X:Cx}{pins:List (Addr×Obj)}{σ:St}{H:Hp}{s:Shared}{A:Around}{E:Value->Shared->Prop}{Q:Value->Shared->Prop}{c:Value}{b:Bool}
end
end L2
namespace L2
open PySem PySem.Spec PyProof.Rows
structure Qa1 (k:Nat) (A:Around):Prop where
 hd:A.handled=none
 dp:A.depth+3*k+5<recursionLimit
 un:A.units+16*k+200<cLine
theorem Qa1.mono{j k:Nat}{A:Around}(r:Qa1 k A)(h:j<=k):Qa1 j A:=⟨r.hd,by have:=r.dp;omega,by have:=r.un;omega⟩
theorem Qa1.deeper{k:Nat}{A:Around}(r:Qa1 (k+1) A)(env:Env):Qa1 k (A.deeper env):=
 ⟨r.hd,by have:=r.dp;show A.depth+1+3*k+5<_;omega,by have:=r.un;show A.units+3+16*k+200<_;omega⟩
theorem Qa1.depth{k:Nat}{A:Around}(r:Qa1 k A):A.depth<recursionLimit:=by have:=r.dp;omega
theorem Qa1.units{k:Nat}{A:Around}(r:Qa1 k A):A.units+64<cLine:=by have:=r.un;omega
noncomputable def Qnz:TA:=λ_ H Q=>Q [] H
noncomputable def QgN(ta:TE)(tr:TA):TA:=λσ H Q=>ta σ H λx H1=>tr σ H1 λxs H2=>Q (x::xs) H2
section
variable {X:Cx}{e:Expr}{es:List Expr}{te:TE}{t:TA}{pos:Pos}
theorem Qb4:PA X [] Qnz:=λ_ _ _ _ H Q I h=>Calls.spliced_nil ⟨[],H,I,.nil,h⟩
theorem Q5(ha:PE X e te)(hr:PA X es t)(hs:starEach (e::es) X.env=(false,eval e X.env)::starEach es X.env:=by rfl):PA X (e::es) (QgN te t):=by
 intro pos pins s σ H Q I h
 rw[hs]
 show wpAny _ _ (spliced ((false,eval e X.env)::backTo pos (starEach es X.env))) _ _ s
 refine Calls.spliced_cons (thn (ha pins s σ H _ I h) λu s1 ⟨x,H1,I1,r1,q1⟩=>?_)
 exact thn (hr pos pins s1 σ H1 _ I1 q1) λus s2 ⟨xs,H2,I2,r2,q2⟩=>⟨x::xs,H2,I2,.cons r1 r2,q2⟩
noncomputable def QvW(t:TA):TE:=λσ H Q=>t σ H λxs H1=>xs.length<=sizeLine/\∀p,H1 p=none->Q (.ref p) (upd H1 p (.tup xs))
noncomputable def Qys(t:TA):TE:=λσ H Q=>t σ H λxs H1=>xs.length<=sizeLine/\∀p,H1 p=none->Q (.ref p) (upd H1 p (.lst xs))
theorem Qno{x1}(h:PA X es t):PE X (.Tuple es x1 pos) (QvW t):=by
 intro pins s σ H Q I hq
 refine wpAny_Tuple_spliced (thn (h pos pins s σ H _ I hq) λus s1 ⟨xs,H1,I1,r,z,q⟩=>⟨by rw[← r.length];exact z,?_⟩)
 have hf:H1 s1.heap.objs.size=none:=I1.hok.fresh (Zj _)
 refine⟨.ref s1.heap.objs.size,upd H1 s1.heap.objs.size (.tup xs),I1.laid (t':=s1.toks) (λb u e=>Zu _ e) (Zj _) ?_,rfl,q _ hf⟩
 exact⟨z,us,r,⟨_,ZQ _ rfl,rfl,_,rfl⟩⟩
theorem Qxg(h:PA X es t):PE X (.List es pos) (Qys t):=by
 intro pins s σ H Q I hq
 refine wpAny_List_spliced (thn (h pos pins s σ H _ I hq) λus s1 ⟨xs,H1,I1,r,z,q⟩=>⟨by rw[← r.length];exact z,?_⟩)
 have hf:H1 s1.heap.objs.size=none:=I1.hok.fresh (Zj _)
 refine⟨.ref s1.heap.objs.size,upd H1 s1.heap.objs.size (.lst xs),I1.laid (t':=s1.toks) (λb u e=>Zu _ e) (Zj _) ?_,rfl,q _ hf⟩
 exact⟨z,us,0,r,ZQ _ rfl⟩
end
noncomputable abbrev Sp:=List V->Hp->VK->XK->Prop
noncomputable abbrev CXT:=List Env->Hp->Shared->XK->Value->Shared->Prop
structure Qm8 (P:Program) (w:World) (K:PySem.W.Frag) (mg:Str->Option Value) (base:Heap) (A:Around) (outer:List Env) (s:Shared) (H:Hp):Prop where
 frames:A.frames=some outer
 mod:Mod K mg base
 bs:∀b o,base.get? b=some o->s.heap.get? b=some o/\H b=none
 bsz:base.objs.size<=s.heap.objs.size
 Qd3:s.heap.FunFrames base outer
 frf:∀b∈frs outer,H b=none
 hok:HOk P w H s.heap
 bare:AllBare s.gens
def CE(outer:List Env)(P:Program)(w:World)(H:Hp)(s:Shared)(Q:VK)(u:Value)(s':Shared):Prop:=
 ∃v H',s'.os=s.os/\AllBare s'.gens/\Un (frs outer) [] H H' s.heap s'.heap/\HOk P w H' s'.heap/\RelV v u/\Q v H'
def CR(CX:CXT)(outer:List Env)(P:Program)(w:World)(H:Hp)(s:Shared)(Q:VK)(E:XK)(r:Result)(s':Shared):Prop:=
 match r with
 | .ok (.ret u)=>CE outer P w H s Q u s'
 | .ok _=>False
 | .error e=>CX outer H s E e s'
structure Qck (P:Program) (w:World) (K:PySem.W.Frag) (mg:Str->Option Value) (base:Heap) (CX:CXT) (k:Nat) (f:Addr) (fd:FuncData) (ps:List Str) (sp:Sp):Prop where
 len:∀vs H Q E,sp vs H Q E->vs.length=ps.length
 run:∀(A:Around) (outer:List Env) (s:Shared) (H:Hp) (args:Args) (us:List Value) (vs:List V) (Q:VK) (E:XK),Qa1 k A->Qm8 P w K mg base A outer s H->BindsTo s fd args (ps.zip us)->Qz vs us->sp vs H Q E→
  codeAny (model P w) A (.call (.ref f) args) (CR CX outer P w H s Q E) s
theorem Qck.mono{P:Program}{w:World}{K:PySem.W.Frag}{mg:Str->Option Value}{base:Heap}{CX:CXT}{j k:Nat}{f:Addr}{fd:FuncData}{ps:List Str}{sp:Sp}(F:Qck P w K mg base CX j f fd ps sp)(h:j<=k):
  Qck P w K mg base CX k f fd ps sp:=⟨F.len,λA outer s H args us vs Q E hr=>F.run A outer s H args us vs Q E (hr.mono h)⟩
section
variable {X:Cx}{pins:List (Addr×Obj)}{σ:St}{H:Hp}{s s':Shared}
theorem Inv.Qsn(I:Inv X pins σ H s):Qm8 X.prog X.w X.K X.mg X.base X.A X.stack s H:=
 ⟨I.ok.frames,I.ok.mod,I.bs,Zq I.ok.bsz I.sz,I.stack,I.QkH,I.hok,I.bare⟩
theorem Inv.after{Q:VK}{u:Value}(I:Inv X pins σ H s)(h:CE X.stack X.prog X.w H s Q u s'):EP X pins σ Q u s':=by
 obtain⟨v,H',os,bare,un,hok,r,q⟩:=h
 obtain⟨hh,g,d,t,os'⟩:=s'
 obtain rfl:os'=s.os:=os
 exact⟨v,H',I.call (h':=hh) (g':=g) (d':=d) (t':=t) (ch:=[]) un hok bare (λb z=>absurd z (by simp)),r,q⟩
end
noncomputable def Qpr(sp:Sp)(dvs:List V)(E:XK)(t:TA):TE:=λσ H Q=>t σ H λvs H1=>sp (vs++dvs) H1 Q E
def Binds(K:PySem.W.Frag)(fd:FuncData)(ps:List Str)(ds:List Value):Prop:=
 ∀(s:Shared) (us:List Value),K.In s.heap->(us++ds).length=ps.length->BindsTo s fd ⟨us,[]⟩ (ps.zip (us++ds))
theorem Binds.all{K:PySem.W.Frag}{fd:FuncData}{ps:List Str}(h:∀us:List Value,us.length=ps.length->bindArgs fd ⟨us,[]⟩=pure (ps.zip us)):Binds K fd ps []:=λs us _ hl=>by
 rw[Zaq]at hl ⊢
 exact .of_eq (h us hl)
def QjQ(CX:CXT)(X:Cx)(E:XK):Prop:=∀(pins:List (Addr×Obj)) (σ:St) (H:Hp) (s:Shared) (e:Value) (s':Shared),Inv X pins σ H s->CX X.stack H s E e s'->X.xe e s'
section
variable {X:Cx}{CX:CXT}{k:Nat}{f C:Addr}{fd:FuncData}{ps:List Str}{sp:Sp}{dvs:List V}{ds:List Value}{E:XK}{x m:Str}{p pos apos:Pos}{e o:Expr}{es:List Expr}{ta:TE}{t:TA}
theorem QrC{pins:List (Addr×Obj)}{σ:St}{H:Hp}{s:Shared}{Q:VK}{us:List Value}{vs:List V}(F:Qck X.prog X.w X.K X.mg X.base CX k f fd ps sp)(hr:Qa1 k X.A)(hb:Binds X.K fd ps ds)(hd:Qz dvs ds)(hx:QjQ CX X E)
  (I:Inv X pins σ H s) (r:Qz vs us) (h:sp (vs++dvs) H Q E):wpAny (model X.prog X.w) X.A (call (.ref f) us) (EP X pins σ Q) X.xe s:=by
 have r2:Qz (vs++dvs) (us++ds):=r.append hd
 have hl:(us++ds).length=ps.length:=by rw[← r2.length];exact F.len _ _ _ _ h
 refine wpAny_call (codeAny_mono (F.run X.A X.stack s H ⟨us,[]⟩ (us++ds) (vs++dvs) Q E hr I.Qsn (hb s us I.kIn hl) r2 h) λr s' hq=>?_)
 cases r with
 | error e=>exact hx pins σ H s e s' I hq
 | ok fl=>
  cases fl with
  | ret u=>exact I.after hq
  | next=>exact False.elim hq
  | brk=>exact False.elim hq
  | cont=>exact False.elim hq
theorem Qud(F:Qck X.prog X.w X.K X.mg X.base CX k f fd ps sp)(hr:Qa1 k X.A)(hg:Gl X x)(hm:X.mg x=some (.ref f))(hk:PySem.W.keepIn X.K (.ref f)=true)(hb:Binds X.K fd ps ds)(hd:Qz dvs ds)(hx:QjQ CX X E)
  (ha:PA X (e::es) t) (hdb:(x == ("__debug__" :Str))=false:=by decide) (he:starEach (e::es) X.env=(false,eval e X.env)::starEach es X.env:=by rfl) (hpl:(backTo pos (starEach es X.env)).any (·.1)=false:=by rfl):
  PE X (.Call (.Name x p) (e::es) [] pos) (Qpr sp dvs E t):=by
 intro pins s σ H Q I h
 refine wpAny_Call_Name_kw (Qex I hg hm ?_ hdb)
 refine Zbm (h₀:=X.base) I.ok.mod.kin hk (thn (ha pos pins s σ H _ I h) λus s1 ⟨vs,H1,I1,r,q⟩=>⟨I1.kIn,?_⟩) he hpl
 exact QrC F hr hb hd hx I1 r q
theorem QsZ(F:Qck X.prog X.w X.K X.mg X.base CX k f fd ps sp)(hr:Qa1 k X.A)(hg:Gl X x)(hm:X.mg x=some (.ref f))(hk:PySem.W.keepIn X.K (.ref f)=true)(hb:Binds X.K fd ps ds)(hd:Qz dvs ds)(hx:QjQ CX X E)
  (hdb:(x == ("__debug__" :Str))=false:=by decide):PE X (.Call (.Name x p) [] [] pos) (Qpr sp dvs E Qnz):=by
 intro pins s σ H Q I h
 refine wpAny_Call_Name_kw (Qex I hg hm ?_ hdb)
 exact PySem.W.callWith_K0 I.kIn hk (QrC (us:=[]) F hr hb hd hx I .nil h)
structure Mk (K:PySem.W.Frag) (C f:Addr):Prop where
 makes:PySem.W.makesIn K C=true
 init:PySem.W.findIn K (.ref C) "__init__" =some (some (.ref f))
 fn:PySem.W.isFn K (.ref f)=true
 kp:PySem.W.keepIn K (.ref C)=true
end
section
variable {X:Cx}{CX:CXT}{k:Nat}{f C:Addr}{fd:FuncData}{ps ks:List Str}{sp:Sp}{E:XK}{x m:Str}{p pos apos kpos:Pos}{e o:Expr}{es:List Expr}{kws:List Keyword}{te ta:TE}{t tk:TA}{nm:Option Str}
structure Qy2 (K:PySem.W.Frag) (fd:FuncData) (ps ks:List Str) (g:List Value->List Value->List Value) (gV:List V->List V->List V):Prop where
 to:∀(s:Shared) (us ws:List Value),K.In s.heap->(g us ws).length=ps.length->BindsTo s fd ⟨us,ks.zip ws⟩ (ps.zip (g us ws))
 rel:∀{vs:List V}{us:List Value}{zs:List V}{ws:List Value},Qz vs us->Qz zs ws->Qz (gV vs zs) (g us ws)
variable {g:List Value->List Value->List Value}{gV:List V->List V->List V}
end
structure Qb9 (N P:List Str) (sc:Scope):Prop where
 kind:sc.kind= .function
 co:sc.isCoroutine=false
 gen:sc.isGenerator=false
 nd:N.Nodup
 pre:N.take P.length=P
 par:∀x∈P,sc.names.lookup x=some .local ∨sc.names.lookup x=some .cell
 nofree:∀y∈sc.names,y.2≠ .free
theorem Qly{kindOf:Str->Option NameKind}{x:Str}:∀{binds:List (Str×Value)}{m:Str->Option Value},(∀v,(x,v)∉binds)->bindL kindOf binds m x=m x
 | [],_,_=>rfl
 | (n,v)::r,m,h=>by
  unfold bindL
  rw[Qly λw hw=>h w (Ze _ hw)]
  split
  ·have:x≠n:=by rintro rfl;exact h v Zo
   simp[this]
  ·rfl
theorem QlR{kindOf:Str->Option NameKind}{x:Str}:∀{binds:List (Str×Value)}{m:Str->Option Value},(∀v,(x,v)∉binds)->bindC kindOf binds m x=m x
 | [],_,_=>rfl
 | (n,v)::r,m,h=>by
  unfold bindC
  rw[QlR λw hw=>h w (Ze _ hw)]
  split
  ·rfl
  ·have:x≠n:=by rintro rfl;exact h v Zo
   simp[this]
theorem QlQ{kindOf:Str->Option NameKind}{x:Str}{v:Value}:∀{P:List Str}{vs:List Value}{i:Nat}{m:Str->Option Value},P.Nodup->P[i]? =some x->vs[i]? =some v->kindOf x=some .local →
  bindL kindOf (P.zip vs) m x=some v
 | [],_,_,_,_,h,_,_=>by simp at h
 | _::_,[],_,_,_,_,h,_=>by simp at h
 | p::P,w::vs,0,m,nd,h1,h2,hk=>by
  simp at h1 h2;subst h1;subst h2
  show bindL kindOf ((p,w)::P.zip vs) m p=_
  unfold bindL
  rw[Qly λv hv=>(Zar.mp nd).1 (ZbG hv).1,if_pos hk]
  simp
 | p::P,w::vs,i+1,m,nd,h1,h2,hk=>by
  show bindL kindOf ((p,w)::P.zip vs) m x=_
  unfold bindL
  exact QlQ (i:=i) (Zar.mp nd).2 (by simpa using h1) (by simpa using h2) hk
theorem QlP{kindOf:Str->Option NameKind}{x:Str}{v:Value}:∀{P:List Str}{vs:List Value}{i:Nat}{m:Str->Option Value},P.Nodup->P[i]? =some x->vs[i]? =some v->kindOf x≠some .local →
  bindC kindOf (P.zip vs) m x=some v
 | [],_,_,_,_,h,_,_=>by simp at h
 | _::_,[],_,_,_,_,h,_=>by simp at h
 | p::P,w::vs,0,m,nd,h1,h2,hk=>by
  simp at h1 h2;subst h1;subst h2
  show bindC kindOf ((p,w)::P.zip vs) m p=_
  unfold bindC
  rw[QlR λv hv=>(Zar.mp nd).1 (ZbG hv).1,if_neg hk]
  simp
 | p::P,w::vs,i+1,m,nd,h1,h2,hk=>by
  show bindC kindOf ((p,w)::P.zip vs) m x=_
  unfold bindC
  exact QlP (i:=i) (Zar.mp nd).2 (by simpa using h1) (by simpa using h2) hk
noncomputable def start(N:List Str)(vs:List V):St:=vs.map some++List.replicate (N.length-vs.length) none
noncomputable def QeS(CX:CXT)(P:Program)(w:World)(K:PySem.W.Frag)(mg:Str->Option Value)(base:Heap)(N:List Str)(qual:Str)(scope:Scope)(f:Addr)(cd:Value)(A:Around)(outer:List Env)(s:Shared)(H:Hp)(E:XK):Cx where
 prog:=P
 w:=w
 K:=K
 mg:=mg
 base:=base
 A:=A.deeper (envOfC qual scope s.heap.objs.size f cd)
 N:=N
 s₀:=s
 H₀:=H
 env:=envOfC qual scope s.heap.objs.size f cd
 outer:=outer
 stack:=envOfC qual scope s.heap.objs.size f cd::outer
 ex:=[]
 calm:=decide (A.handled=none)
 fn:=λ_=>true
 pn:=[]
 xe:=λe s'=>wpAny (model P w) (A.deeper (envOfC qual scope s.heap.objs.size f cd)) (leaving (envOfC qual scope s.heap.objs.size f cd) e) (λ_ s''=>CX outer H s E e s'') (λe' s''=>CX outer H s E e' s'') s'
theorem Qm7{sc:Scope}{n:Nat}{x:Str}(h:sc.names.lookup x=some .cell):∃c,(cellsFrom n sc.names []).lookup x=some c:=by
 have q:=ZbB sc.names n [] (.inl h)
 exact Zbr.mp q
theorem Qqx{CX:CXT}{P:Program}{w:World}{K:PySem.W.Frag}{mg:Str->Option Value}{base:Heap}{N ps:List Str}{qual:Str}{scope:Scope}{f:Addr}{cd:Value}{A:Around}{outer:List Env}{s s1:Shared}{H:Hp}{E:XK}{us:List Value}{vs:List V}
  (S:Qb9 N ps scope) (e0:Qm8 P w K mg base A outer s H) (hl:vs.length=ps.length) (r:Qz vs us)
  (x:InCallC s s.heap.objs.size (bindL (envOfC qual scope s.heap.objs.size f cd).kindOf (ps.zip us) λ_=>none) (cellsFrom (s.heap.objs.size+1) scope.names []) (bindC (envOfC qual scope s.heap.objs.size f cd).kindOf (ps.zip us) λ_=>none) s1):
  Inv (QeS CX P w K mg base N qual scope f cd A outer s H E) [] (start N vs) H s1:=by
 have hpl:ps.length<=N.length:=by have:=congrArg List.length S.pre;rw[ZaH]at this;omega
 obtain⟨h1,tk,rfl,hk⟩:=x.done
 have noA:∀b:Addr,b∉(QeS CX P w K mg base N qual scope f cd A outer s H E).ex:=λb z=>absurd (show b∈([]:List Addr)from z) (by simp)
 refine⟨⟨e0.mod,S.kind,rfl,rfl,Zj _,λy z c h1 h2=>?_,λy hy=>?_,λy c _ h=>?_,λh=>of_decide_eq_true h,Around.frames_deeper e0.frames,.inr ⟨rfl,rfl⟩,λb z=>absurd z (noA b),e0.bs,e0.bsz,λb _ _=>noA b,λb z=>absurd z (noA b),e0.Qd3,e0.frf⟩,
  rfl,e0.bare,Un.kept hk,⟨_,x.toInCall.ns,λi y v h1 h2 h3=>?_⟩,λy c h=>⟨_,x.cell y c h⟩,e0.hok.fresh (Zj _),λy c h=>?_,λp hp=>absurd (show p∈([]:List (Addr×Obj))from hp) (by simp),e0.hok.kept hk,?_⟩
 ·exact name_of_addr x.apart (Zaa h1) (Zaa h2)
 ·have hy:scope.names.lookup y=some .cell∨scope.names.lookup y=some .free:=hy
  rcases hy with hy | hy
  ·exact Qm7 hy
  ·exact absurd rfl (S.nofree _ (Zaa hy))
 ·exact ZaT (x.above y c (Zaa h))
 ·have hi:i<vs.length:=by
   unfold start at h2
   by_cases hi:i<vs.length
   ·exact hi
   ·rw[Zbn (by simpa using hi)]at h2
    rw[Zbt]at h2
    split at h2<;>cases h2
  have ha:vs[i]? =some v:=by
   unfold start at h2
   rw[ZaU (by simpa using hi),Zn]at h2
   cases e:vs[i]? with
   | none=>rw[e]at h2;cases h2
   | some a=>rw[e]at h2;cases h2;rfl
  obtain⟨u,hu,rv⟩:=r.get ha
  have hp:ps[i]? =some y:=by
   rw[← S.pre,List.getElem?_take_of_lt (by omega)];exact h1
  have ndP:ps.Nodup:=by rw[← S.pre];exact S.nd.sublist (List.take_sublist _ _)
  refine⟨u,rv,?_⟩
  rcases S.par y (ZaE hp)with k | k
  ·exact .inl ⟨k,QlQ ndP hp hu k⟩
  ·obtain⟨c,e⟩:=Qm7 (n:=s.heap.objs.size+1) k
   refine .inr ⟨.inl k,c,e,?_⟩
   have q:=x.cell y c e
   rw[QlP ndP hp hu (by show scope.names.lookup y≠_;rw[k];decide)]at q
   exact q
 ·exact e0.hok.fresh (ZaT (x.above y c (Zaa h)))
 ·unfold start
  show _=N.length
  rw[Zx,Zy,List.length_replicate]
  omega
theorem QtE{CX:CXT}{P:Program}{w:World}{K:PySem.W.Frag}{mg:Str->Option Value}{base:Heap}{k:Nat}{f:Addr}{name qual:Str}{params:Arguments}{body:List Stmt}{scope:Scope}{dV kV doc pm cdv ct oc:Value}{an od:Option Addr}
  {osl:Array (Option Value)}{N ps:List Str}{sp:Sp}(lk:K.lookup f=some ⟨oc,od,.func (PySem.W.fnOf name qual params body scope dV kV doc pm an cdv ct),osl⟩) (hcd:PySem.W.codeIn K cdv qual=true) (S:Qb9 N ps scope)
  (len:∀vs H Q E,sp vs H Q E->vs.length=ps.length)
  (hbody:∀(A:Around) (outer:List Env) (s:Shared) (H:Hp) (vs:List V) (Q:VK) (E:XK),Qa1 k (A.deeper (envOfC qual scope s.heap.objs.size f cdv))->sp vs H Q E→
   ∃t,PSs (QeS CX P w K mg base N qual scope f cdv A outer s H E) body t/\t {nx:=λ_ H'=>Q .non H',rt:=Q} (start N vs) H):
  Qck P w K mg base CX (k+1) f (PySem.W.fnOf name qual params body scope dV kV doc pm an cdv ct) ps sp:=by
 refine⟨len,λA outer s H args us vs Q E hr e0 hb r hsp=>?_⟩
 have hl:=len _ _ _ _ hsp
 have KX:K.In s.heap:=e0.mod.kin.keeps λb o e=>(e0.bs b o e).1
 have lim:s.heap.NoLimit:=e0.mod.nolimit.keeps λb o e=>(e0.bs b o e).1
 have hkind:∀y∈ps.zip us,scope.names.lookup y.1=some .local ∨(scope.names.lookup y.1=some .cell/\((cellsFrom (s.heap.objs.size+1) scope.names []).lookup y.1).isSome=true):=λ⟨n,v⟩ hy=>by
  rcases S.par n (ZbG hy).1 with q | q
  ·exact .inl q
  ·exact .inr ⟨q,ZbB _ _ _ (.inl q)⟩
 refine codeAny_call_function hr.depth (KX _ _ lk) rfl S.co S.gen rfl (PySem.W.codeRec_of KX hcd) (hb _ _ _ _ ?_)
 refine wpAny_newFunctionEnv_cells S.kind hkind λenv he s1 x=>?_
 subst he
 refine⟨lim.keeps x.toInCall.keep,codeAny_func ?_⟩
 obtain⟨t,ht,hq⟩:=hbody A outer s H vs Q E (hr.deeper _) hsp
 have I:Inv (QeS CX P w K mg base N qual scope f cdv A outer s H E) [] (start N vs) H s1:=Qqx S e0 hl r x
 refine wpAny_mono (ht [] s1 (start N vs) H _ I hq) (λfl s' hs=>?_) λe s' hs=>hs
 have fin:∀{σ':St}{H':Hp}{v:V}{u:Value},Inv (QeS CX P w K mg base N qual scope f cdv A outer s H E) [] σ' H' s'->RelV v u->Q v H'->CE outer P w H s Q u s':=
  λ{σ' H' v u} J rv q=>⟨v,H',J.os,J.bare,J.base,J.hok,rv,q⟩
 cases fl with
 | ret u=>
  obtain⟨v,σ',H',J,rv,q⟩:=hs
  exact fin J rv q
 | next=>
  obtain⟨σ',H',J,q⟩:=hs
  exact fin (v:=V.non) (u:=Value.none) J rfl q
 | brk=>
  obtain⟨_,_,_,q⟩:=hs
  exact False.elim q
 | cont=>
  obtain⟨_,_,_,q⟩:=hs
  exact False.elim q
end L2
namespace L2
open PySem PySem.Spec PyProof.Rows
section
variable {X:Cx}{x:Str}{p pos:Pos}{e:Expr}{es:List Expr}{t:TA}{id T:String}{r:List V->Hp->VK->Prop}
noncomputable def tCB(r:List V->Hp->VK->Prop)(t:TA):TE:=λσ H Q=>t σ H λvs H1=>r vs H1 Q
theorem Qg1(hc:QeF X (.builtin id) r)(hg:Gl X x)(hm:X.mg x=none)(hv:bootBuiltins x=some (.builtin id))(ha:PA X (e::es) t)(hn:x≠ "__name__" :=by decide)(hdb:(x == ("__debug__" :Str))=false:=by decide)
  (he:starEach (e::es) X.env=(false,eval e X.env)::starEach es X.env:=by rfl) (hpl:(backTo pos (starEach es X.env)).any (·.1)=false:=by rfl):PE X (.Call (.Name x p) (e::es) [] pos) (tCB r t):=by
 intro pins s σ H Q I h
 refine wpAny_Call_Name_kw (Qc5 I hg hm hv ?_ hn hdb)
 exact PyProof.Rows.callWith_builtin1 (thn (ha pos pins s σ H _ I h) λus s1 ⟨vs,H1,I1,r1,q1⟩=>hc pins s1 σ H1 vs us Q I1 r1 q1) he hpl
theorem QhM(hc:QeF X (.type T) r)(hg:Gl X x)(hm:X.mg x=none)(hv:bootBuiltins x=some (.type T))(ha:PA X (e::es) t)(hn:x≠ "__name__" :=by decide)(hdb:(x == ("__debug__" :Str))=false:=by decide)
  (he:starEach (e::es) X.env=(false,eval e X.env)::starEach es X.env:=by rfl) (hpl:(backTo pos (starEach es X.env)).any (·.1)=false:=by rfl):PE X (.Call (.Name x p) (e::es) [] pos) (tCB r t):=by
 intro pins s σ H Q I h
 refine wpAny_Call_Name_kw (Qc5 I hg hm hv ?_ hn hdb)
 exact ZL (thn (ha pos pins s σ H _ I h) λus s1 ⟨vs,H1,I1,r1,q1⟩=>hc pins s1 σ H1 vs us Q I1 r1 q1) he hpl
end
end L2
namespace HT
open PySem PyProof.Rows
section
open PySem.SeqAt
open PySem.AutoSeq1 (wpAny_loadPart')
open PySem.MeetsSeq PySem.MeetsSeq2 PySem.MeetsSeq3
end
section
variable {prog:Program}{w:World}{A:Around}{E:Value->Shared->Prop}{s:Shared}
noncomputable def sIx(n d:Nat):Option Int->Nat
 | none=>d
 | some v=>if v<0 then(v+(n:Int)).toNat else min v.toNat n
theorem Qjv(n d:Nat):sIx n d none=d:=rfl
theorem QkA(n d k:Nat):sIx n d (some (k:Int))=min k n:=by
 show(if(k:Int)<0 then((k:Int)+(n:Int)).toNat else min (k:Int).toNat n)=min k n
 rw[if_neg (by omega),ZJ]
end
end HT
namespace L2
open PySem PySem.Spec PyProof.Rows
noncomputable abbrev TO:=St->Hp->(Option Int->Hp->Prop)->Prop
def PO(X:Cx)(e:Option Expr)(t:TO):Prop:=
 ∀(pins:List (Addr×Obj)) (s:Shared) (σ:St) (H:Hp) (Q:Option Int->Hp->Prop),Inv X pins σ H s->t σ H Q→
  wpAny (model X.prog X.w) X.A (evalPart e X.env) (λu s'=>∃o H',Inv X pins σ H' s'/\IsPart u o/\Q o H') X.xe s
noncomputable def Qvs:TO:=λ_ H Q=>Q none H
noncomputable def Qyc(t:TE):TO:=λσ H Q=>t σ H λx H1=>∃i,x= .int i/\Q (some i) H1
theorem intsAre_of{ns:List Int}:∀{us:List Value},Qz (ns.map V.int) us->IntsAre us ns:=by
 induction ns with
 | nil=>intro us r;rw[List.map_nil]at r;cases r;exact .nil
 | cons n ns ih=>
  intro us r
  rw[ZR]at r
  cases r with
  | cons r1 r2=>
   obtain⟨t,e⟩:=r1
   subst e
   exact .cons n t (ih r2)
section
variable {X:Cx}{e:Expr}{te:TE}{lo hi:Option Expr}{tl th:TO}{pos p2:Pos}
theorem Qt9:PO X none Qvs:=by
 intro pins s σ H Q I h
 rw[evalPart_none]
 exact wpAny_pure ⟨none,H,I,.none,h⟩
theorem Qua(h:PE X e te):PO X (some e) (Qyc te):=by
 intro pins s σ H Q I hw
 rw[evalPart_some]
 refine thn (h pins s σ H _ I hw) λu s1 ⟨x,H1,I1,r1,q1⟩=>?_
 obtain⟨i,rfl,q⟩:=q1
 obtain⟨t,rfl⟩:=r1
 exact⟨some i,H1,I1,.int i t,q⟩
def SlR(X:Cx)(r:V->Option Int->Option Int->Hp->VK->Prop):Prop:=
 ∀(pins:List (Addr×Obj)) (s:Shared) (σ:St) (H:Hp) (x:V) (v vl vu:Value) (lo hi:Option Int) (sl:Addr) (Q:VK),Inv X pins σ H s->RelV x v->s.heap.IsSliceOf sl vl vu .none->IsPart vl lo->IsPart vu hi->r x lo hi H Q→
  ∃T id,typeLookup (.type T) "__getitem__" =pure (some (.builtin id))/\s.TypeIs v T/\wpAny (model X.prog X.w) X.A (getItem v (.ref sl)) (EP X pins σ Q) X.xe s
noncomputable def tSl(r:V->Option Int->Option Int->Hp->VK->Prop)(te:TE)(tl th:TO):TE:=λσ H Q=>te σ H λx H1=>tl σ H1 λl H2=>th σ H2 λu H3=>r x l u H3 Q
theorem Qs4{r:V->Option Int->Option Int->Hp->VK->Prop}(hr:SlR X r)(he:PE X e te)(hl:PO X lo tl)(hu:PO X hi th):PE X (.Subscript e (.Slice lo hi none p2) pos) (tSl r te tl th):=by
 intro pins s σ H Q I h
 refine Subscript_ (thn (he pins s σ H _ I h) λv s1 ⟨x,H1,I1,r1,q1⟩=>?_)
 refine wpAny_Slice (thn (hl pins s1 σ H1 _ I1 q1) λvl s2 ⟨l,H2,I2,pl,q2⟩=>thn (hu pins s2 σ H2 _ I2 q2) λvu s3 ⟨u,H3,I3,pu,q3⟩=>?_)
 rw[evalPart_none]
 refine wpAny_pure ?_
 have I4:Inv X pins σ H3 {s3 with heap:=s3.heap.push {cls:= .type "slice",data:= .fields #[vl,vu,.none]}}:=I3.kept (t':=s3.toks) λb ob q=>Zu _ q
 obtain⟨T,id,hT,ht,hg⟩:=hr pins {s3 with heap:=s3.heap.push {cls:= .type "slice",data:= .fields #[vl,vu,.none]}} σ H3 x v vl vu l u s3.heap.objs.size Q I4 r1 (Heap.IsSliceOf.new ..) pl pu q3
 show wpAny (model X.prog X.w) X.A (subscriptTail e (.Slice lo hi none p2) v (.ref s3.heap.objs.size)) (EP X pins σ Q) X.xe {s3 with heap:=s3.heap.push {cls:= .type "slice",data:= .fields #[vl,vu,.none]}}
 exact tail_any (ops:=[.ref s3.heap.objs.size,v]) ht hT hg (by with_unfolding_all rfl)
noncomputable def QkL(xs:List V)(lo hi:Option Int):List V:=(xs.drop (HT.sIx xs.length 0 lo)).take (HT.sIx xs.length xs.length hi-HT.sIx xs.length 0 lo)
theorem Qof(xs:List V)(lo hi:Option Int):(QkL xs lo hi).length<=xs.length:=by
 unfold QkL
 rw[ZaH,List.length_drop]
 omega
end
end L2
namespace L2
open PySem PySem.Spec PyProof.Rows
noncomputable def ixN(n:Nat)(i:Int):Option Nat:=if 0<=i then(if i<n then some i.toNat else none)else if-(n:Int)<=i then some (i+n).toNat else none
noncomputable def atI{α:Type}(xs:List α)(i:Int):Option α:=(ixN xs.length i).bind λj=>xs[j]?
theorem QcF{n:Nat}{i:Int}{j:Nat}(h:ixN n i=some j):seqIndex? i n=some j/\j<n/\ -(n:Int)<=i/\i<n:=by
 unfold ixN at h
 by_cases h0:0<=i
 ·rw[if_pos h0]at h
  by_cases h1:i<n
  ·rw[if_pos h1]at h
   have e:i.toNat=j:=Option.some.inj h
   exact⟨by rw[seqIndex_of h0 h1,e],by omega,by omega,h1⟩
  ·rw[if_neg h1]at h;cases h
 ·rw[if_neg h0]at h
  by_cases h1: -(n:Int)<=i
  ·rw[if_pos h1]at h
   have e:(i+n).toNat=j:=Option.some.inj h
   exact⟨by rw[seqIndex_neg (by omega) h1,e],by omega,h1,by omega⟩
  ·rw[if_neg h1]at h;cases h
theorem QoG{α:Type}{xs:List α}{i:Int}{v:α}(h:atI xs i=some v):∃j,seqIndex? i xs.length=some j/\xs[j]? =some v/\j<xs.length/\ -(xs.length:Int)<=i/\i<xs.length:=by
 unfold atI at h
 cases e:ixN xs.length i with
 | none=>rw[e]at h;cases h
 | some j=>
  rw[e]at h
  obtain⟨h1,h2,h3,h4⟩:=QcF e
  exact⟨j,h1,h,h2,h3,h4⟩
def Qiw(b:Expr):Prop:=∀o i,subscripted b false o i=operate [o,i] (getItem o i)
def IxR(X:Cx)(r:R2):Prop:=
 ∀(value slice:Expr) (pins:List (Addr×Obj)) (s:Shared) (σ:St) (H:Hp) (x y:V) (v u:Value) (Q:VK),Inv X pins σ H s->RelV x v->RelV y u->r x y H Q→
  subscripted slice false v u=operate [v,u] (getItem v u)->wpAny (model X.prog X.w) X.A (subscriptTail value slice v u) (EP X pins σ Q) X.xe s
def MtR(X:Cx)(id:String)(r:V->List V->Hp->VK->Prop):Prop:=
 ∀(pins:List (Addr×Obj)) (s:Shared) (σ:St) (H:Hp) (x:V) (xs:List V) (v:Value) (us:List Value) (Q:VK),Inv X pins σ H s->RelV x v->Qz xs us->r x xs H Q→
  wpAny (model X.prog X.w) X.A (call (.builtin id) (v::us)) (EP X pins σ Q) X.xe s
section
variable {X:Cx}{a b:Expr}{ta tb:TE}{pos:Pos}
theorem IxR.or{r r':R2}(h:IxR X r)(h':IxR X r'):IxR X (λx y H Q=>r x y H Q∨r' x y H Q):=by
 intro value slice pins s σ H x y v u Q I rx ry q hs
 rcases q with q | q
 ·exact h value slice pins s σ H x y v u Q I rx ry q hs
 ·exact h' value slice pins s σ H x y v u Q I rx ry q hs
theorem QtP{r:R2}(hr:IxR X r)(ha:PE X a ta)(hb:PE X b tb)(hs:Qiw b):PE X (.Subscript a b pos) (tOp r ta tb):=by
 intro pins s σ H Q I h
 exact Subscript_ (QsI ha hb I h λv u s2 x y H2 I2 rx ry q=>hr a b pins s2 σ H2 x y v u Q I2 rx ry q (hs _ _))
noncomputable def QyY(K:PySem.W.Frag):R2:=λx y H Q=>∃p xs i v,x= .ref p/\y= .int i/\SqL K H p xs/\atI xs i=some v/\Q v H
noncomputable def QyX(K:PySem.W.Frag):R2:=λx y H Q=>∃p xs i v,x= .ref p/\y= .int i/\SqT K H p xs/\atI xs i=some v/\Q v H
theorem Qop:IxR X (QyY X.K):=by
 intro value slice pins s σ H x y v u Q I rx ry h hs
 obtain⟨p,xs,i,z,rfl,rfl,hq,he,q⟩:=h
 cases rx
 obtain⟨t,rfl⟩:=ry
 obtain⟨its,r,pl,hz⟩:=I.list hq
 obtain⟨j,h1,h2,h3,h4,h5⟩:=QoG he
 obtain⟨w,ew,rw'⟩:=r.get h2
 have hl:=r.length
 have hn:=Qh3
 have fin:EP X pins σ Q w s:=⟨z,H,I,rw',q⟩
 by_cases h0:0<=i
 ·have hj:i.toNat=j:=by
   rw[seqIndex_of h0 h5]at h1
   exact Option.some.inj h1
  exact item_listR pl.isList h0 (by omega) (by rw[hj];simpa using ew) fin hs
 ·have hj:(i+(its.toArray.size:Int)).toNat=j:=by
   rw[seqIndex_neg (by omega) h4]at h1
   rw[Zv,← hl]
   exact Option.some.inj h1
  exact subscriptTail_builtinR (x:=w) pl.isList.typeIs slot_list_getitem.lookup
   (wpAny_getItem_list_neg (Q:=λr s'=>r=w/\EP X pins σ Q r s') pl.isList (by omega) (by rw[Zv]<;>omega) (by omega) (by rw[hj];simpa using ew) ⟨rfl,fin⟩) hs
theorem Qrh:IxR X (QyX X.K):=by
 intro value slice pins s σ H x y v u Q I rx ry h hs
 obtain⟨p,xs,i,z,rfl,rfl,hq,he,q⟩:=h
 cases rx
 obtain⟨t,rfl⟩:=ry
 obtain⟨its,r,pl,hz⟩:=I.tuple hq
 obtain⟨j,h1,h2,h3,h4,h5⟩:=QoG he
 obtain⟨w,ew,rw'⟩:=r.get h2
 have hl:=r.length
 have hn:=Qh3
 have fin:EP X pins σ Q w s:=⟨z,H,I,rw',q⟩
 exact subscriptTail_builtinR (x:=w) pl.typeIs slot_tuple_getitem.lookup
  (getItem_tuple (j:=j) (Q:=λr s'=>r=w/\EP X pins σ Q r s') pl (by omega) (by omega) (by rw[Zv,← hl];exact h1) (by simpa using ew) ⟨rfl,fin⟩) hs
theorem Qpb(its:List Value)(n j:Nat)(u:Value):Obj.mapSeq (·.setIfInBounds j u) {cls:= .type "list",data:= .seq its.toArray n}={cls:= .type "list",data:= .seq (its.set j u).toArray n}:=by
 simp[Obj.mapSeq]
theorem Inv.lst{pins:List (Addr×Obj)}{σ:St}{H:Hp}{s:Shared}{p:Addr}{xs:List V}(I:Inv X pins σ H s)(h:H p=some (.lst xs)):
  ∃(its:List Value) (n:Nat),Qz xs its/\s.heap.get? p=some {cls:= .type "list",data:= .seq its.toArray n}/\xs.length<=sizeLine:=by
 obtain⟨z,its,n,r,e⟩:=I.hok p _ h
 exact⟨its,n,r,e,z⟩
theorem Inv.QwI{pins:List (Addr×Obj)}{σ:St}{H:Hp}{s:Shared}{p:Addr}{xs ys:List V}{its its':List Value}{n n':Nat}{f:Obj->Obj}(I:Inv X pins σ H s)(h:H p=some (.lst xs))
  (ho:s.heap.get? p=some {cls:= .type "list",data:= .seq its.toArray n}) (hf:f {cls:= .type "list",data:= .seq its.toArray n}={cls:= .type "list",data:= .seq its'.toArray n'}) (r:Qz ys its') (hz:ys.length<=sizeLine) (t:Nat):
  Inv X pins σ (upd H p (.lst ys)) {s with heap:=s.heap.update p f,toks:=t}:=by
 have e:(s.heap.update p f).get? p=some {cls:= .type "list",data:= .seq its'.toArray n'}:=by
  rw[Heap.get?_update_self f ho (by rw[hf]<;>rfl),hf]
 refine I.write (x:=p) (e:=p) (by rw[h];trivial) (.inl rfl) (λb u hb q=>(Heap.get?_update_other _ _ (Ne.symm hb)).trans q) ⟨_,e⟩ ?_
 exact⟨hz,its',n',r,e⟩
noncomputable def QfX:V->V->V->Hp->(Hp->Prop)->Prop:=λo i v H Q=>∃p xs k j,o= .ref p/\i= .int k/\H p=some (.lst xs)/\ixN xs.length k=some j/\Q (upd H p (.lst (xs.set j v)))
theorem set_list:Qwq X QfX:=by
 intro pins s σ H o i v ov iv u Q I ro ri rv h
 obtain⟨p,xs,k,j,rfl,rfl,hp,hj,q⟩:=h
 cases ro
 obtain⟨t,rfl⟩:=ri
 obtain⟨its,n,r,ho,hz⟩:=I.lst hp
 obtain⟨h1,h2,h3,h4⟩:=QcF hj
 have hl:=r.length
 have hn:=Qh3
 have I':Inv X pins σ (upd H p (.lst (xs.set j v))) {s with heap:=s.heap.update p (Obj.mapSeq (·.setIfInBounds j u))}:=
  I.QwI hp ho (Qpb its n j u) (r.set rv j) (by rw[ZN];exact hz) s.toks
 by_cases h0:0<=k
 ·have hk:k.toNat=j:=by
   rw[seqIndex_of h0 h4]at h1
   exact Option.some.inj h1
  exact PySem.W.ki_setAt ho h0 (by omega) (by rw[Zv,← hl];exact h4) (by rw[hk];exact⟨_,I',q⟩)
 ·have hk:(k+(its.toArray.size:Int)).toNat=j:=by
   rw[seqIndex_neg (by omega) h3]at h1
   rw[Zv,← hl]
   exact Option.some.inj h1
  exact PySem.W.ki_setBack ho (by omega) (by rw[Zv,← hl];exact h3) (by omega) (by rw[hk];exact⟨_,I',q⟩)
theorem Qnk(lo hi:Option Int)(n:Nat):(sliceBounds lo hi none n).1=((HT.sIx n 0 lo:Nat):Int)/\(sliceBounds lo hi none n).2.1=((HT.sIx n n hi:Nat):Int)/\(sliceBounds lo hi none n).2.2=1:=by
 refine⟨?_,?_,rfl⟩
 ·cases lo with
  | none=>simp[sliceBounds,HT.sIx]
  | some i=>
   simp only[sliceBounds,HT.sIx,Option.getD_none,show(1:Int)>0 by decide,if_true]
   by_cases h:i<0
   ·simp only[h,if_true]<;>omega
   ·simp only[h,if_false]<;>omega
 ·cases hi with
  | none=>simp[sliceBounds,HT.sIx]
  | some i=>
   simp only[sliceBounds,HT.sIx,Option.getD_none,show(1:Int)>0 by decide,if_true]
   by_cases h:i<0
   ·simp only[h,if_true]<;>omega
   ·simp only[h,if_false]<;>omega
theorem Ql5(its:List Value)(lo hi:Option Int):slicePick its.toArray lo hi none=((its.drop (HT.sIx its.length 0 lo)).take (HT.sIx its.length its.length hi-HT.sIx its.length 0 lo)).toArray:=by
 obtain⟨h1,h2,h3⟩:=Qnk lo hi its.toArray.size
 unfold slicePick
 rw[h1,h2,h3]
 simp only[sliceRange_one,pick_run,Zv]<;>rfl
noncomputable def QyM(K:PySem.W.Frag):V->Option Int->Option Int->Hp->VK->Prop:=λx lo hi H Q=>∃a xs,x= .ref a/\SqL K H a xs/\∀p,H p=none->Q (.ref p) (upd H p (.lst (QkL xs lo hi)))
theorem QuJ:SlR X (QyM X.K):=by
 intro pins s σ H x v vl vu lo hi sl Q I rx hs pl pu h
 obtain⟨a,xs,rfl,hx,q⟩:=h
 cases rx
 obtain⟨its,r,ht,hz⟩:=I.list hx
 have hlen:=r.length
 refine⟨"list",_,slot_list_getitem.lookup,ht.isList.typeIs,?_⟩
 refine wpAny_getItem_list_slice ht.isList hs pl pu .none (by simp) ?_ (by rw[Zv]<;>omega)
 rw[Ql5,← hlen]
 refine⟨.ref s.heap.objs.size,_,I.laid (t':=s.toks) (o:= .lst (QkL xs lo hi)) (λb ob q=>Zu _ q) (Zj _) ?_,rfl,q _ (I.hok.fresh (Zj _))⟩
 exact⟨Zq (Qof xs lo hi) hz,_,0,(r.drop (HT.sIx xs.length 0 lo)).take (HT.sIx xs.length xs.length hi-HT.sIx xs.length 0 lo),ZQ _ rfl⟩
theorem Qnj:QeF X (.builtin "len") (λxs H Q=>∃p ys,xs=[.ref p]/\(SqL X.K H p ys∨SqT X.K H p ys)/\Q (.int ys.length) H):=by
 intro pins s σ H xs us Q I r h
 obtain⟨p,ys,rfl,hq,q⟩:=h
 obtain⟨u,rfl,rx⟩:=vals1 r
 cases rx
 have hn:=Qh3
 rcases hq with hq | hq
 ·obtain⟨its,r',pl,hz⟩:=I.list hq
  have hlen:=r'.length
  exact Calls.call_len_list pl.isList (by simp only[Zv]<;>omega) ⟨.int ys.length,H,I.tok _,⟨s.toks+1,by rw[Zv,hlen]⟩,q⟩
 ·obtain⟨its,r',pl,hz⟩:=I.tuple hq
  have hlen:=r'.length
  exact len_tuple pl (by simp only[Zv]<;>omega) ⟨.int ys.length,H,I.tok _,⟨s.toks+1,by rw[Zv,hlen]⟩,q⟩
theorem QhL:QeF X (.type "list") (λxs H Q=>∃p ys,xs=[.ref p]/\(SqL X.K H p ys∨SqT X.K H p ys)/\∀l,H l=none->Q (.ref l) (upd H l (.lst ys))):=by
 intro pins s σ H xs us Q I r h
 obtain⟨p,ys,rfl,hq,q⟩:=h
 obtain⟨u,rfl,rx⟩:=vals1 r
 cases rx
 have fin:∀(its:List Value),Qz ys its->ys.length<=sizeLine->∀(h':Heap) (c':Nat),(∀b o',s.heap.get? b=some o'->h'.get? b=some o')→
   h'.get? s.heap.objs.size=some {cls:= .type "list",dict:=none,data:= .seq its.toArray c',slots:= #[]}->EP X pins σ Q (.ref s.heap.objs.size) {s with heap:=h'}:=λits r' hz h' c' kp e=>
  ⟨.ref s.heap.objs.size,_,I.laid (t':=s.toks) kp (Zj _) (show Qbx X.prog X.w _ h' _ (.lst ys)from⟨hz,its,c',r',e⟩),rfl,q _ (I.hok.fresh (Zj _))⟩
 rcases hq with hq | hq
 ·obtain⟨its,r',pl,hz⟩:=I.list hq
  have hlen:=r'.length
  obtain⟨o,ho,hc,n,hd⟩:=pl.isList
  exact call_list_seq p (.inl rfl) ho hc hd (λh' c' kp e=>fin its r' hz h' c' kp e) (by simp only[Zv]<;>omega)
 ·obtain⟨its,r',pl,hz⟩:=I.tuple hq
  have hlen:=r'.length
  obtain⟨o,ho,hc,n,hd⟩:=pl
  exact call_list_seq p (.inr rfl) ho hc hd (λh' c' kp e=>fin its r' hz h' c' kp e) (by simp only[Zv]<;>omega)
theorem Ql2:QeF X (.type "tuple") (λxs H Q=>∃p ys,xs=[.ref p]/\((SqL X.K H p ys/\∀l,H l=none->Q (.ref l) (upd H l (.tup ys)))∨(SqT X.K H p ys/\Q (.ref p) H))):=by
 intro pins s σ H xs us Q I r h
 obtain⟨p,ys,rfl,h⟩:=h
 obtain⟨u,rfl,rx⟩:=vals1 r
 cases rx
 rcases h with⟨hq,q⟩ | ⟨hq,q⟩
 ·obtain⟨its,r',pl,hz⟩:=I.list hq
  have hlen:=r'.length
  refine call_tuple_list pl.isList (λh' kp=>?_) (by simp only[Zv]<;>omega)
  have I1:Inv X pins σ H {s with heap:=h'}:=I.kept (t':=s.toks) kp
  have I2:Inv X pins σ (upd H h'.objs.size (.tup ys)) {s with heap:=h'.push {cls:= .type "tuple",data:= .seq its.toArray}}:=
   I1.laid (t':=s.toks) (λb o e=>Zu _ e) (Zj _) (show Qbx X.prog X.w _ _ _ (.tup ys)from⟨hz,its,r',IsTup.new _ _⟩)
  exact⟨.ref h'.objs.size,_,I2,rfl,q _ (I1.hok.fresh (Zj _))⟩
 ·obtain⟨its,r',pl,hz⟩:=I.tuple hq
  exact call_tuple_same pl ⟨.ref p,H,I,rfl,q⟩
def tyV(K:PySem.W.Frag)(T:String)(x:V)(H:Hp):Prop:=match x with
 | .str _=>T= "str"
 | .int _=>T= "int"
 | .ref p=>(T= "list" /\∃xs,SqL K H p xs)∨(T= "tuple" /\∃o,K.lookup p=some o/\o.cls= .type "tuple" /\o.dict=none)∨
   (T= "dict" /\((∃kvs,H p=some (.dK kvs))∨∃kvs,H p=some (.dT kvs)))∨(T= "set" /\∃S n,H p=some (.set S n))
 | _=>False
theorem Qqo{pins:List (Addr×Obj)}{σ:St}{H:Hp}{s:Shared}{T:String}{x:V}{v:Value}(I:Inv X pins σ H s)(r:RelV x v)(ty:tyV X.K T x H):
  s.TypeIs v T/\∀a,v= .ref a->∃ob,s.heap.get? a=some ob/\ob.dict=none:=by
 cases x with
 | str z=>
  obtain⟨t,rfl⟩:=r
  cases(show T= "str" from ty)
  exact⟨typeIs_str s z t,λ_ e=>nomatch e⟩
 | int i=>
  obtain⟨t,rfl⟩:=r
  cases(show T= "int" from ty)
  exact⟨typeIs_int s i t,λ_ e=>nomatch e⟩
 | ref p=>
  cases r
  rcases ty with⟨rfl,xs,hq⟩ | ⟨rfl,o,hk,hc,hd⟩ | ⟨rfl,hk⟩ | ⟨rfl,S,n,hk⟩
  ·obtain⟨its,_,pl,_⟩:=I.list hq
   refine⟨pl.isList.typeIs,λa e=>?_⟩
   cases e
   obtain⟨o,n,e,c,hd,_⟩:=pl
   exact⟨o,e,hd⟩
  ·refine⟨⟨o,I.kIn p o hk,hc⟩,λa e=>?_⟩
   cases e
   exact⟨o,I.kIn _ o hk,hd⟩
  ·have z:∃o,s.heap.get? p=some o/\o.ExactDict:=by
    rcases hk with⟨kvs,hk⟩ | ⟨kvs,hk⟩
    ·obtain⟨_,_,_,_,o,_,_,e,ex,_⟩:=I.hok p _ hk
     exact⟨o,e,ex⟩
    ·obtain⟨_,_,_,_,o,_,_,e,ex,_⟩:=I.hok p _ hk
     exact⟨o,e,ex⟩
   obtain⟨o,e,ex⟩:=z
   refine⟨⟨o,e,ex.1⟩,λa e2=>?_⟩
   cases e2
   exact⟨o,e,ex.2.1⟩
  ·obtain⟨o,_,_,_,e,ex,_⟩:=I.hok p _ hk
   refine⟨⟨o,e,ex.1⟩,λa e2=>?_⟩
   cases e2
   exact⟨o,e,ex.2.1⟩
 | _=>exact False.elim ty
noncomputable def Qv6(K:PySem.W.Frag)(T:String)(r:V->List V->Hp->VK->Prop)(to:TE):TE:=λσ H Q=>to σ H λx H1=>tyV K T x H1/\r x [] H1 Q
noncomputable def tBM(K:PySem.W.Frag)(T:String)(r:V->List V->Hp->VK->Prop)(to:TE)(t:TA):TE:=λσ H Q=>to σ H λx H1=>tyV K T x H1/\t σ H1 λxs H2=>r x xs H2 Q
variable {o e:Expr}{es:List Expr}{to:TE}{t:TA}{name:Str}{apos cpos:Pos}{T id:String}{r:V->List V->Hp->VK->Prop}
theorem Qv9(pa:PlainAttrs T)(slot:Slot T name id)(hty:typeOf (.builtin id)=pure (.type "method_descriptor"))(hm:MtR X id r)(ho:PE X o to)
  (hbase:attributeBase o name X.env (eval o X.env)=eval o X.env:=by rfl) (hline:(apos.endLine == cpos.line)=true:=by rfl):PE X (.Call (.Attribute o name apos) [] [] cpos) (Qv6 X.K T r to):=by
 intro pins s σ H Q I h
 refine wpAny_Call_method0_late hbase hline (thn (ho pins s σ H _ I h) λv s1 ⟨x,H1,I1,r1,ty,q1⟩=>?_)
 obtain⟨h1,h2⟩:=Qqo I1 r1 ty
 exact⟨T,id,pa,slot,hty,h1,h2,Calls.callWith_builtin rfl (PySem.evalArgs_none (hm pins s1 σ H1 x [] v [] Q I1 r1 .nil q1))⟩
theorem Qxu(pa:PlainAttrs T)(slot:Slot T name id)(hty:typeOf (.builtin id)=pure (.type "method_descriptor"))(hm:MtR X id r)(ho:PE X o to)(ha:PA X (e::es) t)
  (hbase:attributeBase o name X.env (eval o X.env)=eval o X.env:=by rfl)
  (hfew:((backTo cpos (starEach (e::es) X.env)).all (λx=> !x.1) && (backToKw cpos (keywordEach [] X.env)).all (λx=>x.1.isSome)
   && decide ((e::es).length+([]:List Keyword).length+(if([]:List Keyword).isEmpty then 0 else 1)<30))=true:=by rfl)
  (hline:(apos.endLine == cpos.line)=true:=by rfl) (hs:starEach (e::es) X.env=(false,eval e X.env)::starEach es X.env:=by rfl) (hplain:(backTo cpos (starEach es X.env)).any (·.1)=false:=by rfl):
  PE X (.Call (.Attribute o name apos) (e::es) [] cpos) (tBM X.K T r to t):=by
 intro pins s σ H Q I h
 refine wpAny_Call_method_late hbase hfew hline rfl (thn (ho pins s σ H _ I h) λv s1 ⟨x,H1,I1,r1,ty,q1⟩=>?_)
 obtain⟨h1,h2⟩:=Qqo I1 r1 ty
 refine⟨T,id,pa,slot,hty,h1,h2,?_⟩
 have hA:=ha cpos pins s1 σ H1 _ I1 q1
 rw[hs]at hA ⊢
 refine Calls.callWith_builtin (by show(false || (backTo cpos (starEach es X.env)).any (·.1))=false;rw[hplain]<;>rfl) (Calls.evalArgs_plain ?_)
 exact thn hA λus s2 ⟨vs,H2,I2,r2,q2⟩=>hm pins s2 σ H2 x vs v us Q I2 r1 r2 q2
end
end L2
namespace L2
open PySem PySem.Spec PyProof.Rows
def MtM(X:Cx)(id:String)(r:V->List V->Hp->VK->Prop):Prop:=
 ∀(pins:List (Addr×Obj)) (s:Shared) (σ:St) (H:Hp) (x:V) (xs:List V) (v:Value) (us:List Value) (Q:VK),Inv X pins σ H s->RelV x v->Qz xs us->r x xs H Q→
  wpAny (model X.prog X.w) X.A (call (.builtin id) (v::us)) (EP X pins σ Q) X.xe s
theorem Qz.one:∀{x:V}{us:List Value},Qz [x] us->∃u,us=[u]/\RelV x u
 | _,_,.cons r .nil=>⟨_,rfl,r⟩
theorem Qz.zero:∀{us:List Value},Qz [] us->us=[]
 | _,.nil=>rfl
theorem Qz.rep{xs:List V}{us:List Value}(h:Qz xs us):∀k:Nat,Qz (List.replicate k xs).flatten (List.replicate k us).flatten
 | 0=> .nil
 | k+1=>by
  rw[Zab,Zab,Zai,Zai]
  exact Qz.append h (Qz.rep h k)
theorem foldl_rep(its:List Value):∀(k:Nat) (acc:List Value),
  List.foldl (λx1 x2=>x1++x2) acc.toArray (List.replicate k its.toArray)=(acc++(List.replicate k its).flatten).toArray
 | 0,acc=>by simp
 | k+1,acc=>by
  have e:acc.toArray++its.toArray=(acc++its).toArray:=by simp
  have e2:(acc++its)++(List.replicate k its).flatten=acc++(List.replicate (k+1) its).flatten:=by
   rw[Zab,Zai,ZaS]
  rw[← e2,← foldl_rep its k (acc++its),← e,Zab,List.foldl_cons]
section
variable {X:Cx}{pins:List (Addr×Obj)}{σ:St}{H:Hp}{s:Shared}{l b:Addr}{xs ys zs:List V}
theorem Inv.QwF{its its':List Value}{n:Nat}{f:Array Value->Array Value}{t':Nat}(I:Inv X pins σ H s)(hH:H l=some (.lst xs))
  (e:s.heap.get? l=some {cls:= .type "list",data:= .seq its.toArray n}) (hf:f its.toArray=its'.toArray) (hv:Qz ys its') (hz:ys.length<=sizeLine):
  Inv X pins σ (upd H l (.lst ys)) {s with heap:=s.heap.update l (Obj.mapSeq f),toks:=t'}:=by
 have q:=PySem.IsL.update e f
 rw[hf]at q
 refine I.write (x:=l) (e:=l) (by rw[hH];exact trivial) (.inl rfl) (λb' u hb hu=>(Heap.get?_update_other s.heap (Obj.mapSeq f) (Ne.symm hb)).trans hu) ⟨_,q⟩ ?_
 exact⟨hz,its',_,hv,q⟩
theorem Inv.Qwj{its:List Value}{t':Nat}(I:Inv X pins σ H s)(hv:Qz ys its)(hz:ys.length<=sizeLine):
  Inv X pins σ (upd H s.heap.objs.size (.lst ys)) {s with heap:=s.heap.push {cls:= .type "list",data:= .seq its.toArray},toks:=t'}:=
 I.laid (λ_ _ q=>Zu _ q) (Zj _) ⟨hz,its,0,hv,ZQ _ rfl⟩
theorem Inv.fresh(I:Inv X pins σ H s):H s.heap.objs.size=none:=I.hok.fresh (Zj _)
theorem Inv.Qsr(I:Inv X pins σ H s)(hH:H l=some (.lst xs)):xs.length<=sizeLine/\∃(its:List Value) (n:Nat),Qz xs its/\xs.length=its.length/\s.heap.get? l=some {cls:= .type "list",data:= .seq its.toArray n}:=by
 obtain⟨z,its,n,r,e⟩:=I.hok l _ hH
 exact⟨z,its,n,r,r.length,e⟩
theorem Qsy{n:Nat}(h:n<=sizeLine):Builtin.List.listTooLong n=false:=by
 unfold Builtin.List.listTooLong
 exact decide_eq_false (by omega)
end
section
variable {X:Cx}
noncomputable def QoJ:V->List V->Hp->VK->Prop:=λx vs H Q=>∃l xs y,x= .ref l/\vs=[y]/\H l=some (.lst xs)/\xs.length<sizeLine/\Q .non (upd H l (.lst (xs++[y])))
theorem QlO:MtM X "list.append" QoJ:=by
 intro pins s σ H x vs v us Q I rx rv h
 obtain⟨l,xs,y,rfl,rfl,hH,hz,q⟩:=h
 cases rx
 obtain⟨u,rfl,ru⟩:=rv.one
 obtain⟨z,its,n,r,hl,e⟩:=I.Qsr hH
 refine call_meets F.slot_list_append ⟨_,e,rfl⟩ F.entry_list_append (F.args_list_append_2 _ _) (PySem.list_append l its.toArray n u (by rw[Zv];omega)) ⟨e,?_⟩
 refine⟨.non,_,I.QwF (its':=its++[u]) hH e (by simp) (r.append (.cons ru .nil)) ?_,rfl,q⟩
 rw[Zx,Zbf]
 omega
noncomputable def QqP:V->List V->Hp->VK->Prop:=λx vs H Q=>∃l xs,x= .ref l/\vs=[]/\H l=some (.lst xs)/\Q .non (upd H l (.lst []))
theorem QsT:MtM X "list.clear" QqP:=by
 intro pins s σ H x vs v us Q I rx rv h
 obtain⟨l,xs,rfl,rfl,hH,q⟩:=h
 cases rx
 have hus:=rv.zero
 subst hus
 obtain⟨z,its,n,r,hl,e⟩:=I.Qsr hH
 refine call_meets F.slot_list_clear ⟨_,e,rfl⟩ F.entry_list_clear (F.args_list_clear_1 _) (AutoSeq1.list_clear_list_0 l its.toArray n (by rw[Zv];omega)) ⟨e,?_⟩
 exact⟨.non,_,I.QwF (its':=[]) (ys:=[]) hH e rfl .nil (ZT _),rfl,q⟩
theorem len_rep{α:Type}(xs:List α)(k:Nat):(List.replicate k xs).flatten.length=k*xs.length:=by
 induction k with
 | zero=>simp
 | succ k ih=>rw[Zab,Zai,Zx,ih,Nat.succ_mul,Nat.add_comm]
end
section
variable {prog:Program}{w:World}{A:Around}{E:Value->Shared->Prop}{s:Shared}
end
section
variable {X:Cx}
end
end L2
namespace Att
open PySem PySem.W PySem.Calls PyProof.Rows
theorem Qkn{P:Params}{h:Heap}:∀(ns:List Int) (vs:List Value),WellAll P h vs (ns.map WData.int)->IntsAre vs ns:=by
 intro ns
 induction ns with
 | nil=>
  intro vs w
  rw[List.map_nil]at w
  cases w
  exact .nil
 | cons n ns ih=>
  intro vs w
  rw[ZR]at w
  cases w with
  | cons a b=>
   cases a
   exact .cons _ _ (ih _ b)
theorem Qp5{l:OpenLaw}{n:Nat}(hn:l.most=some n){P:Params}{h:Heap}{args:List WData}{vals:List Value}
  (hpre:l.row.toRowW.claim.pre args=true) (hwl:WellAll P h vals args):
  ∃a vs ns,vals=[Value.ref a]/\args=[WData.list (ns.map WData.int)]/\h.get? a=some {cls:= .type "list",data:= .seq vs.toArray}/\IntsAre vs ns/\ns.length<=n:=by
 have hsh:WShape.hasAll [] args [.list .int]=true:=(pre_splitW hpre).1
 have hc:l.pre.holds [] {args:=args}=true:=(pre_splitW hpre).2
 obtain⟨d,r,rfl,h1,h2⟩:=hasAllW_cons hsh
 obtain rfl:=hasAllW_nil h2
 obtain⟨xs,rfl,h3⟩:=hasW_list h1
 obtain⟨ns,rfl⟩:=items_int h3
 have hlen:ns.length<=n:=by
  unfold OpenLaw.pre at hc
  have h4:(WTm.not (.lt (.lit (.int (n:Int))) (.len (.arg 0)))).holds [] {args:=[.list (ns.map .int)]}=true:=by
   have h4:=(holds_andW hc).1
   rw[hn]at h4
   exact h4
  have h5:=condW_of h4 (w_not (w_lt w_lit (w_len_list (w_arg rfl))))
  rw[Zy]at h5
  refine Nat.le_of_not_lt λq=>?_
  have q':(n:Int)<((ns.length:Nat):Int):=by omega
  first
   | (rw[decide_eq_true q']at h5;exact absurd h5 (by decide))
   | (simp at h5;omega)
 cases hwl with
 | cons w1 w2=>
  cases w2
  cases w1 with
  | list ho hall=>exact⟨_,_,ns,rfl,rfl,ho,Qkn ns _ hall,hlen⟩
theorem Qp0(l:OpenLaw)(args:List WData):l.row.toRowW.claim.post args (.bool true) args=true:=
 postW_of (r:=l.row.toRowW) (X:=(true == true))
  (show WShape.has [] (.bool true) .bool=true by first | rfl | decide | simp[WShape.has,WShape.arms,WShape.armsAll])
  (show(WTm.eq .res (.lit (.bool true))).value [] {args:=args,res:=some (.bool true),after:=args}=some (.bool (true == true))from w_eq_bool (w_res rfl) w_lit) rfl
section
variable {prog:Program}{w:World}{A:Around}{E:Value->Shared->Prop}{s:Shared}{K:Frag}
end
end Att
namespace L2
open PySem PySem.Spec PyProof.Rows
theorem QeJ:∀{vs:List Value}{ns:List Int},IntsAre vs ns->Qz (ns.map V.int) vs
 | _,_,.nil=> .nil
 | _,_,.cons n t h=> .cons ⟨t,rfl⟩ (QeJ h)
def Qwm(H:Hp):Prop:=∀b,H b=none∨∃o xs,H b=some (.frz o (.lst xs))
theorem Qs8{P:Program}{w:World}{K:PySem.W.Frag}{mg mb:Str->Option Value}{CX:CXT}{k:Nat}{fa a:Addr}{fd:FuncData}{x:Str}{sp:Sp}{s₁:Shared}{vs:List Value}{ns:List Int}
  (KX:K.In s₁.heap) (hns:s₁.heap.Ns mainGlobals mg) (hb:s₁.heap.Ns builtinsNs mb) (hbb:∀x:Str,x≠ "__name__" ->mb x=bootBuiltins x) (hlim:s₁.heap.NoLimit) (hg:s₁.gens= #[])
  (ha:s₁.heap.get? a=some {cls:= .type "list",data:= .seq vs.toArray}) (hi:IntsAre vs ns) (hl:ns.length<=sizeLine) (hr:Qa1 k callerA)
  (F:∀base:Heap,K.In base->base.Ns mainGlobals mg->Qck P w K mg base CX k fa fd [x] sp) (hbind:∀(s:Shared) (u:Value),BindsTo s fd ⟨[u],[]⟩ [(x,u)])
  (hsp:∀H:Hp,Qwm H->SqL K H a (ns.map V.int)->sp [.ref a] H (λv _=>v= .bl true) λ_ _ _=>False)
  (hCX:∀H e s',CX [] H s₁ (λ_ _ _=>False) e s'->False):
  codeAny (model P w) callerA (.call (.ref fa) ⟨[.ref a],[]⟩) (λr s'=>r= .ok (.ret (.bool true))/\OldK s₁.heap s'.heap/\s'.os=s₁.os/\AllBare s'.gens) s₁:=by
 have rv:=QeJ hi
 have lenV:=hi.length
 have core:∀H:Hp,Qwm H->SqL K H a (ns.map V.int)->HOk P w H s₁.heap->(∀b,H b≠none->b=a)->(H a≠none->K.lookup a=none)→
   codeAny (model P w) callerA (.call (.ref fa) ⟨[.ref a],[]⟩) (λr s'=>r= .ok (.ret (.bool true))/\OldK s₁.heap s'.heap/\s'.os=s₁.os/\AllBare s'.gens) s₁:=by
  intro H hO hS hok hA hK
  have base_of:∀{b:Addr}{o:Obj},s₁.heap.get? b=some o->H b=none->(QgJ s₁.heap H).get? b=some o:=λe n=>Qtk e n
  have noA:∀{b:Addr}{o:Obj}{es:Array DictEntry}{ep:Nat},s₁.heap.get? b=some o->o.data= .dict es ep->H b=none:=λ{b o es ep} e d=>by
   cases q:H b with
   | none=>rfl
   | some u=>
    have e':b=a:=hA b (by rw[q];simp)
    subst e'
    rw[ha]at e;cases e
    have d':Data.seq vs.toArray _=Data.dict es ep:=d
    cases d'
  have nsK:∀{b:Addr}{m:Str->Option Value},s₁.heap.Ns b m->(QgJ s₁.heap H).Ns b m:=λ{b m} ⟨o,es,ep,e,d,r⟩=>⟨o,es,ep,base_of e (noA e d),d,r⟩
  have hKb:K.In (QgJ s₁.heap H):=λb o e=>base_of (KX b o e) (by
   cases q:H b with
   | none=>rfl
   | some u=>
    have e':b=a:=hA b (by rw[q];simp)
    subst e'
    rw[hK (by rw[q];simp)]at e;cases e)
  have hM:Mod K mg (QgJ s₁.heap H):=⟨hKb,nsK hns,⟨mb,nsK hb,hbb⟩,let ⟨mc,h1,h2⟩:=hlim;⟨mc,nsK h1,h2⟩⟩
  have e0:Qm8 P w K mg (QgJ s₁.heap H) callerA [] s₁ H:=⟨rfl,hM,λb o e=>Qu6 e,Nat.le_of_eq (Qrs _ _),trivial,λb hb=>absurd (show b∈([]:List Addr)from hb) (by simp),hok,.of_eq hg⟩
  refine codeAny_mono ((F _ hKb (nsK hns)).run callerA [] s₁ H ⟨[.ref a],[]⟩ [.ref a] [.ref a] _ _ hr e0 (hbind s₁ (.ref a)) (.cons rfl .nil) (hsp H hO hS)) λr s' h=>?_
  cases r with
  | error e=>exact(hCX H e s' h).elim
  | ok fl=>
   cases fl with
   | next=>exact False.elim h
   | brk=>exact False.elim h
   | cont=>exact False.elim h
   | ret u=>
    obtain⟨v,H',os,bare,un,hok',r',q⟩:=h
    have q':v= .bl true:=q
    subst q'
    obtain rfl:u=Value.bool true:=r'
    refine⟨rfl,OldK.of_keep λb o e=>?_,os,bare⟩
    cases q:H b with
    | none=>exact un.keep b o e q (by intro z;exact absurd (show b∈([]:List Addr)from z) (by simp)) (by simp)
    | some u=>
     rcases hO b with z | ⟨ob,xs,z⟩
     ·rw[q]at z;cases z
     ·have z2:=un.frzs b ob _ z
      obtain⟨e1,_⟩:=hok b _ z
      obtain⟨e2,_⟩:=hok' b _ z2
      rw[e]at e1;cases e1
      exact e2
 cases hk:K.lookup a with
 | some o=>
  have e:=KX a o hk
  rw[ha]at e
  cases e
  refine core (λ_=>none) (λ_=> .inl rfl) (.inr ⟨_,vs.toArray,_,hk,rfl,rfl,rfl,by rw[Zv,lenV];exact hl,by simpa using rv⟩) (λb u z=>by have z':(none:Option HO)=some u:=z;cases z') (λb z=>absurd rfl z) λz=>absurd rfl z
 | none=>
  refine core (λb=>if b=a then some (.frz {cls:= .type "list",data:= .seq vs.toArray} (.lst (ns.map V.int)))else none) (λb=>?_) (.inl (.inr ⟨{cls:= .type "list",data:= .seq vs.toArray},if_pos rfl⟩)) (λb u z=>?_) (λb z=>?_) λ_=>hk
  ·by_cases hb:b=a
   ·exact .inr ⟨_,_,if_pos hb⟩
   ·exact .inl (if_neg hb)
  ·by_cases hb:b=a
   ·have z':=(if_pos hb).symm.trans z
    cases z'
    subst hb
    exact⟨ha,by rw[Zy];exact hl,vs,_,rv,ha⟩
   ·have z':=(if_neg hb).symm.trans z
    cases z'
  ·by_cases hb:b=a
   ·exact hb
   ·exact absurd (if_neg hb) z
end L2
namespace L2
open PySem PySem.Spec PyProof.Rows
noncomputable abbrev KOf{K:PySem.W.Frag}{h:Heap}(_:K.In h):PySem.W.Frag:=K
end L2
namespace L2
open PySem PySem.Spec PyProof.Rows
noncomputable def Qfb(s:Stmt):Arguments:=match s with
 | .FunctionDef _ a _ _ _ _ _ _ _ _=>a
 | _=>{posonlyargs:=[],args:=[],vararg:=none,kwonlyargs:=[],kw_defaults:=[],kwarg:=none,defaults:=[]}
noncomputable def QaT(s:Stmt):List Stmt:=match s with
 | .FunctionDef _ _ b _ _ _ _ _ _ _=>b
 | _=>[]
noncomputable def Qj(s:Stmt):Scope:=match s with
 | .FunctionDef _ _ _ _ _ _ sc _ _ _=>sc
 | _=>{kind:= .function,names:=[],isGenerator:=false,isCoroutine:=false}
noncomputable abbrev CX0:CXT:=λ_ _ _ _ _ _=>False
noncomputable abbrev E0:XK:=λ_ _ _=>False
theorem QoY{X:Cx}:QjQ CX0 X E0:=λ_ _ _ _ _ _ _ h=>h.elim
structure Fun (K:PySem.W.Frag) (x qual:Str) (st:Stmt) (f:Addr) (fd:FuncData):Prop where
 ex:∃(oc:Value) (od:Option Addr) (kV doc pm:Value) (an:Option Addr) (cdv ct:Value) (osl:Array (Option Value)),
  fd=PySem.W.fnOf x qual (Qfb st) (QaT st) (Qj st) .none kV doc pm an cdv ct/\K.lookup f=some ⟨oc,od,.func fd,osl⟩/\PySem.W.codeIn K cdv qual=true
 kp:PySem.W.keepIn K (.ref f)=true
section
variable {P:Program}{w:World}{K:PySem.W.Frag}{mg:Str->Option Value}{base:Heap}
theorem Fun.ok{x qual:Str}{st:Stmt}{f:Addr}{fd:FuncData}{N ps:List Str}{k:Nat}{sp:Sp}(F:Fun K x qual st f fd)(S:Qb9 N ps (Qj st))(len:∀vs H Q E,sp vs H Q E->vs.length=ps.length)
  (hbody:∀(cdv:Value) (A:Around) (outer:List Env) (s:Shared) (H:Hp) (vs:List V) (Q:VK) (E:XK),Qa1 k (A.deeper (envOfC qual (Qj st) s.heap.objs.size f cdv))->sp vs H Q E→
   ∃t,PSs (QeS CX0 P w K mg base N qual (Qj st) f cdv A outer s H E).nox (QaT st) t/\t {nx:=λ_ H'=>Q .non H',rt:=Q} (start N vs) H):Qck P w K mg base CX0 (k+1) f fd ps sp:=by
 obtain⟨oc,od,kV,doc,pm,an,cdv,ct,osl,rfl,lk,hcd⟩:=F.ex
 refine QtE lk hcd S len λA outer s H vs Q E hr hsp=>?_
 obtain⟨t,h,q⟩:=hbody cdv A outer s H vs Q E hr hsp
 exact⟨t,h.nox,q⟩
theorem Fun.binds{x qual:Str}{st:Stmt}{f:Addr}{fd:FuncData}{ps:List Str}(F:Fun K x qual st f fd)
  (h:∀(kV doc pm:Value) (an:Option Addr) (cdv ct:Value) (us:List Value),us.length=ps.length->bindArgs (PySem.W.fnOf x qual (Qfb st) (QaT st) (Qj st) .none kV doc pm an cdv ct) ⟨us,[]⟩=pure (ps.zip us)):Binds K fd ps []:=by
 obtain⟨oc,od,kV,doc,pm,an,cdv,ct,osl,rfl,lk,hcd⟩:=F.ex
 exact .all (h kV doc pm an cdv ct)
theorem QwS{x qual:Str}{st:Stmt}{f:Addr}{oc:Value}{od an:Option Addr}{osl:Array (Option Value)}{kV doc pm cdv ct:Value}(l:K.lookup f=some ⟨oc,od,.func (PySem.W.fnOf x qual (Qfb st) (QaT st) (Qj st) .none kV doc pm an cdv ct),osl⟩)
  (c:PySem.W.codeIn K cdv qual=true) (k:PySem.W.keepIn K (.ref f)=true):Fun K x qual st f (PySem.W.fnOf x qual (Qfb st) (QaT st) (Qj st) .none kV doc pm an cdv ct):=⟨⟨oc,od,kV,doc,pm,an,cdv,ct,osl,rfl,l,c⟩,k⟩
end
section
variable {X:Cx}
end
theorem QoW{A B:Prop}(h:B):if false=true then A else B:=by
 rw[if_neg ZO]
 exact h
theorem QpG{A B:Prop}(h:A):if true=true then A else B:=by
 rw[if_pos rfl]
 exact h
def QH(H H':Hp):Prop:=∀b o,H b=some o->H' b=some o
theorem QH.refl(H:Hp):QH H H:=λ_ _ h=>h
theorem QH.trans{H H1 H2:Hp}(a:QH H H1)(b:QH H1 H2):QH H H2:=λc o h=>b c o (a c o h)
theorem QH.free{H H':Hp}(e:QH H H'){l:Addr}(h:H' l=Option.none):H l=Option.none:=by
 cases q:H l with
 | none=>rfl
 | some o=>
  rw[e l o q]at h
  cases h
end L2
namespace L2
open PySem PySem.Spec PyProof.Rows
theorem Qlc(env:Env)(body:Str×NameKind->List (Str×Addr)->Sem (ForInStep (List (Str×Addr))))
  (hb:∀n k cs,body (n,k) cs=if(k == NameKind.free)=true then(do let c ← cellOf env n;pure (ForInStep.yield ((n,c)::cs)))else pure (ForInStep.yield cs)):
  ∀(names:List (Str×NameKind)) (acc:List (Str×Addr)),(∀y∈names,y.2= .free->∃c,env.cells.lookup y.1=some c)->(∀x c,acc.lookup x=some c->env.cells.lookup x=some c)→
   ∃cl,forIn names acc body=(pure cl:Sem _)/\(∀x c,cl.lookup x=some c->env.cells.lookup x=some c)/\(∀x,acc.lookup x≠none->cl.lookup x≠none)/\∀y∈names,y.2= .free->cl.lookup y.1≠none
 | [],acc,_,ha=>⟨acc,rfl,ha,λ_ h=>h,λy hy=>by simp at hy⟩
 | (n,k)::r,acc,hn,ha=>by
  rw[List.forIn_cons,hb]
  have hr:∀y∈r,y.2= .free->∃c,env.cells.lookup y.1=some c:=λy hy=>hn y (Ze _ hy)
  by_cases hk:k= .free
  ·subst hk
   obtain⟨c,hc⟩:=hn (n,.free) Zo rfl
   have hce:cellOf env n=pure c:=by unfold cellOf;rw[show env.cells.lookup n=some c from hc]
   rw[if_pos (by rfl),hce]
   obtain⟨cl,e,h1,h2,h3⟩:=Qlc env body hb r ((n,c)::acc) hr (λx c' e=>by
    rw[Zs]at e
    cases q:x == n with
    | true=>rw[q]at e;cases e;rw[beq_iff_eq]at q;rw[q];exact hc
    | false=>rw[q]at e;exact ha x c' e)
   have hcons:∀x,((n,c)::acc).lookup x≠none->cl.lookup x≠none:=h2
   refine⟨cl,by simpa using e,h1,λx hx=>hcons x ?_,λy hy hf=>?_⟩
   ·rw[Zs];cases x == n with
    | true=>simp
    | false=>exact hx
   ·rcases Zl.mp hy with rfl | hy
    ·exact hcons _ (by simp[Zs])
    ·exact h3 y hy hf
  ·rw[if_neg (by simpa using hk)]
   obtain⟨cl,e,h1,h2,h3⟩:=Qlc env body hb r acc hr ha
   refine⟨cl,by simpa using e,h1,h2,λy hy hf=>?_⟩
   rcases Zl.mp hy with rfl | hy
   ·exact absurd hf hk
   ·exact h3 y hy hf
theorem Qvl{scope:Scope}{env:Env}(h:∀y∈scope.names,y.2= .free->∃c,env.cells.lookup y.1=some c):
  ∃cl,closureFor scope env=pure cl/\(∀x c,cl.lookup x=some c->env.cells.lookup x=some c)/\∀y∈scope.names,y.2= .free->∃c,cl.lookup y.1=some c:=by
 unfold closureFor
 obtain⟨cl,e,h1,_,h3⟩:=Qlc env (λx cs=>match x with | (name,kind)=>if(kind == NameKind.free)=true then(do let c ← cellOf env name;pure (ForInStep.yield ((name,c)::cs)))else pure (ForInStep.yield cs)) (λ_ _ _=>rfl) scope.names [] h (λx c e=>by simp at e)
 refine⟨cl,?_,h1,λy hy hf=>Option.ne_none_iff_exists'.mp (h3 y hy hf)⟩
 show(forIn scope.names [] _ >>= λr=>pure r)=_
 rw[e];rfl
noncomputable def cxc(X:Cx)(N':List Str)(scope:Scope)(cl:List (Str×Addr))(C:Addr)(fp:List Addr)(s3:Shared)(H3:Hp):Cx:=
 {X with N:=N',s₀:=s3,H₀:=H3,env:=compEnvC scope cl C X.env,outer:=X.stack,ex:=fp,fn:=λx=>decide (scope.names.lookup x=some .cell),pn:=[],xe:=λ_ _=>False}
def PTs(X:Cx)(ifs:List Expr)(t:TT):Prop:=
 ∀(pins:List (Addr×Obj)) (s:Shared) (σ:St) (H:Hp) (Q:Bool->Hp->Prop),Inv X pins σ H s->t σ H Q→
  wpAny (model X.prog X.w) X.A (forIn ifs true λc r=>if r=true then do let ok ← isTrue c X.env (eval c X.env);pure (ForInStep.yield ok)else pure (ForInStep.yield r)) (TP X pins σ Q) X.xe s
noncomputable def QyL:TT:=λ_ H Q=>Q true H
theorem QuR{X:Cx}:PTs X [] QyL:=λ_ _ _ H _ I h=>wpAny_tests_nil ⟨H,I,h⟩
theorem Quk{X:Cx}{c:Expr}{t:TT}(h:PT X c t):PTs X [c] t:=λpins s σ H Q I q=>wpAny_tests_one (h pins s σ H Q I q)
def Qkm(X:Cx)(N':List Str)(scope:Scope)(σ σ':St):Prop:=
 σ'.length=N'.length/\∀(j:Nat) (x:Str) (v:V),N'[j]? =some x->σ'[j]? =some (some v)->scope.names.lookup x=some .free/\∃i:Nat,X.N[i]? =some x/\σ[i]? =some (some v)/\(X.env.kindOf x=some .cell∨X.env.kindOf x=some .free)
noncomputable def Qmm(wi:TI)(cap:St->St->Prop)(g:TG)(tc:TT)(te:TE):TE:=λσ H Q=>wi σ H λJ H1=>∃σc,cap σ σc/\∀D,H1 D=none->∃W:Nat->Nat->List V->Hp->Prop,
 (∃m,W 0 m [] (upd H1 D (.lst [])))/\∀i m acc H2,W i m acc H2->(J.stop i H2/\Q (.ref D) H2)∨
  (J.go i H2/\∀x H3,J.yld i H2 x H3->g x σc H3 λσ2 H4=>(∀(j:Nat) v,σc[j]? =some (some v)->σ2[j]? =some (some v))/\tc σ2 H4 λb H5=>if b=true then
   te σ2 H5 λy H6=>H6 D=some (.lst acc)/\acc.length<sizeLine/\∃m',m'<m/\W (i+1) m' (acc++[y]) (upd H6 D (.lst (acc++[y])))
   else ∃m',m'<m/\W (i+1) m' acc H5)
theorem QcM{env:Env}:∀{names:List (Str×NameKind)}{x:Str},names.lookup x=some .free→
  (names.map λ(n,k)=>if(k == NameKind.free && env.scope.kind == .function && env.kindOf n == some .cell)then(n,NameKind.cell)else(n,k)).lookup x=some .cell∨
  (names.map λ(n,k)=>if(k == NameKind.free && env.scope.kind == .function && env.kindOf n == some .cell)then(n,NameKind.cell)else(n,k)).lookup x=some .free
 | [],_,h=>by simp at h
 | (n,k)::r,x,h=>by
  have ih:= @QcM env r x
  rw[ZR]
  cases hx:x == n with
  | true=>
   simp only[Zs,hx]at h
   cases h
   dsimp only
   split
   ·left;simp[Zs,hx]
   ·right;simp[Zs,hx]
  | false=>
   simp only[Zs,hx]at h
   dsimp only
   split
   ·simp only[Zs,hx];exact ih h
   ·simp only[Zs,hx];exact ih h
theorem QeI{env:Env}:∀{names:List (Str×NameKind)}{x:Str},
  ((names.map λ(n,k)=>if(k == NameKind.free && env.scope.kind == .function && env.kindOf n == some .cell)then(n,NameKind.cell)else(n,k)).lookup x=some .cell∨
  (names.map λ(n,k)=>if(k == NameKind.free && env.scope.kind == .function && env.kindOf n == some .cell)then(n,NameKind.cell)else(n,k)).lookup x=some .free)→
  ∃k,(x,k)∈names/\(k= .free∨k= .cell)
 | [],_,h=>by simp at h
 | (n,k)::r,x,h=>by
  have ih:= @QeI env r x
  rw[ZR]at h
  cases hx:x == n with
  | true=>
   have hn:x=n:=by simpa using hx
   subst hn
   dsimp only at h
   split at h
   ·rename_i hc
    simp only[Zi]at hc
    refine⟨k,Zo,.inl (by simpa using hc.1.1)⟩
   ·simp only[Zs,hx]at h
    refine⟨k,Zo,?_⟩
    rcases h with h | h
    ·exact .inr (Option.some.inj h)
    ·exact .inl (Option.some.inj h)
  | false=>
   dsimp only at h
   have:∃k,(x,k)∈r/\(k= .free∨k= .cell):=by
    apply ih
    split at h
    ·simpa only[Zs,hx]using h
    ·simpa only[Zs,hx]using h
   obtain⟨k',h1,h2⟩:=this
   exact⟨k',Ze _ h1,h2⟩
theorem Qgk:∀(names:List (Str×NameKind)) (n:Nat) (acc:List (Str×Addr)) (x:Str) (c:Addr),(cellsFrom n names acc).lookup x=some c->acc.lookup x=some c∨(n<=c/\(x,NameKind.cell)∈names)
 | [],_,_,_,_,h=> .inl h
 | (nm,k)::r,n,acc,x,c,h=>by
  unfold cellsFrom at h
  split at h
  ·rename_i hk
   have hk:k= .cell:=by simpa using hk
   rcases Qgk r (n+1) ((nm,n)::acc) x c h with h | ⟨h1,h2⟩
   ·rw[Zs]at h
    cases q:x == nm with
    | true=>
     rw[q]at h
     cases h
     have:x=nm:=by simpa using q
     exact .inr ⟨Zj _,by rw[this,hk];exact Zo⟩
    | false=>rw[q]at h;exact .inl h
   ·exact .inr ⟨by omega,Ze _ h2⟩
  ·rcases Qgk r n acc x c h with h | ⟨h1,h2⟩
   ·exact .inl h
   ·exact .inr ⟨h1,Ze _ h2⟩
theorem Qnv:∀(names:List (Str×NameKind)) (n:Nat) (acc:List (Str×Addr)) (x:Str) (c:Addr),(x,NameKind.cell)∈names->(cellsFrom n names acc).lookup x=some c->n<=c
 | (nm,k)::r,n,acc,x,c,hm,h=>by
  unfold cellsFrom at h
  split at h
  ·by_cases hr:(x,NameKind.cell)∈r
   ·have:=Qnv r (n+1) _ x c hr h
    omega
   ·have hx:x=nm:=by
     rcases Zl.mp hm with e | e
     ·exact(Prod.mk.inj e).1
     ·exact absurd e hr
    rcases Qgk r (n+1) ((nm,n)::acc) x c h with h | ⟨h1,_⟩
    ·rw[Zs,show(x == nm)=true by simpa using hx]at h
     cases h
     exact Zj _
    ·omega
  ·rename_i hk
   rcases Zl.mp hm with e | e
   ·exact absurd (by rw[← (Prod.mk.inj e).2];rfl) hk
   ·exact Qnv r n acc x c e h
theorem QnK:∀(names:List (Str×NameKind)) (n:Nat) (acc:List (Str×Addr)),(∀x y c,acc.lookup x=some c->acc.lookup y=some c->x=y)->(∀x c,acc.lookup x=some c->c<n)→
  ∀x y c,(cellsFrom n names acc).lookup x=some c->(cellsFrom n names acc).lookup y=some c->x=y
 | [],_,_,hi,_,x,y,c,h1,h2=>hi x y c h1 h2
 | (nm,k)::r,n,acc,hi,hb,x,y,c,h1,h2=>by
  unfold cellsFrom at h1 h2
  split at h1
  ·rename_i hk
   rw[if_pos hk]at h2
   refine QnK r (n+1) ((nm,n)::acc) (λx y c h1 h2=>?_) (λx c h=>?_) x y c h1 h2
   ·rw[Zs]at h1 h2
    cases qx:x == nm with
    | true=>
     rw[qx]at h1
     cases h1
     cases qy:y == nm with
     | true=>rw[show x=nm by simpa using qx,show y=nm by simpa using qy]
     | false=>rw[qy]at h2;exact absurd (hb y _ h2) (ZV _)
    | false=>
     rw[qx]at h1
     cases qy:y == nm with
     | true=>rw[qy]at h2;cases h2;exact absurd (hb x _ h1) (ZV _)
     | false=>rw[qy]at h2;exact hi x y c h1 h2
   ·rw[Zs]at h
    cases qx:x == nm with
    | true=>rw[qx]at h;cases h;exact Zbu _
    | false=>rw[qx]at h;exact Zba (hb x c h)
  ·rename_i hk
   rw[if_neg hk]at h2
   exact QnK r n acc hi hb x y c h1 h2
theorem QgD:∀(names:List (Str×NameKind)) (n:Nat) (acc:List (Str×Addr)) (x:Str),(∃c,acc.lookup x=some c)->∃c,(cellsFrom n names acc).lookup x=some c
 | [],_,_,_,h=>h
 | (nm,k)::r,n,acc,x,h=>by
  unfold cellsFrom
  split
  ·refine QgD r (n+1) _ x ?_
   rw[Zs]
   cases x == nm with
   | true=>exact⟨n,rfl⟩
   | false=>exact h
  ·exact QgD r n acc x h
theorem Qm9:∀(names:List (Str×NameKind)) (n:Nat) (acc:List (Str×Addr)) (x:Str),(x,NameKind.cell)∈names->∃c,(cellsFrom n names acc).lookup x=some c
 | (nm,k)::r,n,acc,x,hm=>by
  unfold cellsFrom
  rcases Zl.mp hm with e | e
  ·obtain⟨e1,e2⟩:=Prod.mk.inj e
   subst e1
   rw[← e2,if_pos (by rfl)]
   exact QgD r (n+1) _ x ⟨n,by simp[Zs]⟩
  ·split
   ·exact Qm9 r (n+1) _ x e
   ·exact Qm9 r n acc x e
theorem QkM(lo:Nat):∀(names:List (Str×NameKind)) (h:Heap) (acc:List (Str×Addr)),(∀x c,acc.lookup x=some c->lo<=c->h.IsCell c none)->lo<=h.objs.size→
  ∀x c,(cellsFrom h.objs.size names acc).lookup x=some c->lo<=c->(pushCells h names).IsCell c none
 | [],_,_,ha,_,x,c,e,hl=>ha x c e hl
 | (nm,k)::r,h,acc,ha,hlo,x,c,e,hl=>by
  unfold cellsFrom at e
  unfold pushCells
  split at e
  ·rename_i hk
   rw[if_pos hk]
   have hs:=Zbo h {cls:= .type "cell",data:= .cell none}
   refine QkM lo r (h.push {cls:= .type "cell",data:= .cell none}) ((nm,h.objs.size)::acc) (λx c e hl=>?_) (by rw[hs];omega) x c (by rw[hs];exact e) hl
   rw[Zs]at e
   cases q:x == nm with
   | true=>rw[q]at e;cases e;exact⟨_,ZQ _ rfl,rfl⟩
   | false=>rw[q]at e;exact(ha x c e hl).keeps λb o e=>Zu _ e
  ·rename_i hk
   rw[if_neg hk]
   exact QkM lo r h acc ha hlo x c e hl
theorem QpX{M:Model}{A:Around}{E:Value->Shared->Prop}{s:Shared}{scope:Scope}{globals builtins:Addr}{cl:List (Str×Addr)}{qual:Str}{env:Env}{Q:Env->Shared->Prop}
  (hQ:∀h':Heap,h'.Ns s.heap.objs.size (λ_=>none)->(∀b o,s.heap.get? b=some o->h'.get? b=some o)->((∀x c,cl.lookup x=some c->c<s.heap.objs.size)->∀x c,(cellsFrom (s.heap.objs.size+1) scope.names cl).lookup x=some c->s.heap.objs.size+1<=c->h'.IsCell c none)→
   Q (newEnv scope s.heap.objs.size globals (cellsFrom (s.heap.objs.size+1) scope.names cl) qual none .none (some env) builtins) {s with heap:=h'}):
  wpAny M A (newFunctionEnv scope globals cl [] qual none .none (some env) builtins) Q E s:=by
 simp only[newFunctionEnv,Option.isSome_some,if_true]
 refine wpAny_bind (wpAny_alloc ?_)
 refine wpAny_bind (wpAny_layCells _ (λname kind cells=>by cases hkc:kind == NameKind.cell<;>simp[hkc]) _ _ _ _ ?_)
 have hs:=Zbo s.heap {cls:= .type "dict",data:= .dict #[]}
 rw[show({s with heap:=s.heap.push {cls:= .type "dict",data:= .dict #[]}}:Shared).heap.objs.size=s.heap.objs.size+1 from hs]
 refine wpAny_bind (wpAny_pure (wpAny_pure ?_))
 refine hQ _ ((Heap.Ns.new s.heap (.type "dict")).keeps (pushCells_keeps _ _)) (λb o e=>pushCells_keeps _ _ b o (Zu _ e)) λhb x c e hl=>?_
 refine QkM (s.heap.objs.size+1) scope.names (s.heap.push {cls:= .type "dict",data:= .dict #[]}) cl (λx c e hl=>?_) (by rw[hs];exact Zj _) x c (by rw[hs];exact e) hl
 exact absurd (Zm (hb x c e) (Zq (Zw _) hl)) (ZV _)
section
variable {X:Cx}{tg iter elt:Expr}{ifs:List Expr}{scope:Scope}{N':List Str}{pos:Pos}
structure QeH (X:Cx) (N':List Str) (scope:Scope):Prop where
 kind:scope.kind= .function
 own:∀y∈scope.names,y.2= .cell->scope.names.lookup y.1=some .cell
 loc:∀y∈scope.names,y.2= .local ->scope.names.lookup y.1=some .local
 free:∀y∈scope.names,y.2= .free->X.env.kindOf y.1=some .cell∨X.env.kindOf y.1=some .free
theorem Qtw{pins:List (Addr×Obj)}{σ σc:St}{H3:Hp}{s3:Shared}{fp:List Addr}{cl:List (Str×Addr)}{h':Heap}{tk:Nat}(S:QeH X N' scope)(I:Inv X pins σ H3 s3)
  (hf:∀b∈fp,Qey X pins H3 b) (hfl:∀b∈fp,b<s3.heap.objs.size) (hc1:∀x c,cl.lookup x=some c->X.env.cells.lookup x=some c) (hc2:∀y∈scope.names,y.2= .free->∃c,cl.lookup y.1=some c) (cap:Qkm X N' scope σ σc)
  (hns:h'.Ns s3.heap.objs.size (λ_=>none)) (hk:∀b o,s3.heap.get? b=some o->h'.get? b=some o)
  (hown:(∀x c,cl.lookup x=some c->c<s3.heap.objs.size)->∀x c,(cellsFrom (s3.heap.objs.size+1) scope.names cl).lookup x=some c->s3.heap.objs.size+1<=c->h'.IsCell c none):
  Inv (cxc X N' scope (cellsFrom (s3.heap.objs.size+1) scope.names cl) s3.heap.objs.size fp s3 H3) [] σc H3 {s3 with heap:=h',toks:=tk}:=by
 have nold:∀b,b∈fp->b≠s3.heap.objs.size:=λb hb e=>absurd (hfl b hb) (by rw[e];exact ZV _)
 have cellOld:∀x c,cl.lookup x=some c->∃v,s3.heap.IsCell c v:=λx c e=>I.cell x c (hc1 x c e)
 have cellLt:∀x c,cl.lookup x=some c->c<s3.heap.objs.size:=λx c e=>let ⟨v,q⟩:=cellOld x c e;q.lt
 have cellNew:∀c v,s3.heap.IsCell c v->h'.IsCell c v:=λc v ⟨o,ho,hd⟩=>⟨o,hk c o ho,hd⟩
 have hown:=hown cellLt
 have look:∀x c,(cellsFrom (s3.heap.objs.size+1) scope.names cl).lookup x=some c->cl.lookup x=some c∨(s3.heap.objs.size+1<=c/\(x,NameKind.cell)∈scope.names):=Qgk scope.names _ cl
 refine⟨⟨I.ok.mod,S.kind,I.ok.glob,I.ok.blt,Zj _,QnK scope.names _ cl (λx y c h1 h2=>I.ok.inj x y c (hc1 x c h1) (hc1 y c h2)) (λx c e=>Zba (cellLt x c e)),λx hx=>?_,λx c e1 e2=>?_,I.ok.hd,I.ok.frames,.inl rfl,λb hb=>⟨nold b hb,λx c e=>?_⟩,
  I.bs,Zq I.ok.bsz I.sz,λb o e hb=>?_,λb hb hs=>?_,I.stack,I.QkH⟩,rfl,I.bare,Un.kept hk,⟨_,hns,λj x v h1 h2 h3=>?_⟩,λx c e=>?_,I.hok.fresh (Zj _),λx c e=>?_,λp hp=>absurd (show p∈([]:List (Addr×Obj))from hp) (by simp),I.hok.kept hk,cap.1⟩
 ·obtain⟨k,hm,hk'⟩:=QeI (env:=X.env) (names:=scope.names) (x:=x) hx
  rcases hk' with rfl | rfl
  ·exact QgD scope.names _ cl x (hc2 _ hm rfl)
  ·exact Qm9 scope.names _ cl x hm
 ·have e1:decide (scope.names.lookup x=some .cell)=true:=e1
  have:=Qnv scope.names _ cl x c (Zaa (of_decide_eq_true e1)) e2
  exact Zq (Zw _) this
 ·rcases look x c e with e | ⟨e,_⟩
  ·exact(hf b hb).2.2.2.2.1 x c (hc1 x c e)
  ·intro z
   rw[z]at e
   exact absurd (Zm (hfl b hb) (Zq (Zw _) e)) (ZV _)
 ·rcases(hf b hb).2.2.2.1 with z | z
  ·exact I.ok.noex b o e z
  ·exact absurd (Zm (Zr e) (Zq I.ok.bsz z)) (ZV _)
 ·rcases Zl.mp (I.QfL b hs)with e | z
  ·exact(hf b hb).2.1 e
  ·exact(hf b hb).2.2.1 z
 ·obtain⟨hl,i,e1,e2,e3⟩:=cap.2 j x v h1 h2
  obtain⟨m,hn,look'⟩:=I.loc
  obtain⟨u,r,l⟩:=look' i x v e1 e2 (e3.elim (λz=> .inr (.inl z)) λz=> .inr (.inr z))
  refine⟨u,r,.inr ⟨QcM hl,?_⟩⟩
  rcases l with⟨k,_⟩ | ⟨_,c,ec,hcell⟩
  ·rcases e3 with z | z<;>(rw[k]at z;cases z)
  ·obtain⟨c',ec'⟩:=QgD scope.names (s3.heap.objs.size+1) cl x (hc2 (x,.free) (Zaa hl) rfl)
   rcases look x c' ec' with q | ⟨_,q⟩
   ·have:=hc1 x c' q
    rw[ec]at this;cases this
    exact⟨c,ec',cellNew c _ hcell⟩
   ·have:=S.own _ q rfl
    rw[hl]at this
    cases this
 ·rcases look x c e with q | ⟨q,_⟩
  ·obtain⟨v,q⟩:=cellOld x c q
   exact⟨v,cellNew c v q⟩
  ·exact⟨none,hown x c e q⟩
 ·rcases look x c e with q | ⟨q,_⟩
  ·exact I.freeC x c (hc1 x c q)
  ·exact I.hok.fresh (by omega)
theorem Qqq{prog:Program}{w:World}{A:Around}{env:Env}{it acc:Value}{R:Result->Shared->Prop}{s0:Shared}(J:Nat->Shared->Prop)
  (turn:∀n s,J n s->wpAny (model prog w) A (pyNext it) (λr s1=>match r with
   | none=>R (.ok .next) s1
   | some v=>wpAny (model prog w) A (letOwnedTupleGo tg it v) (λ_ s2=>wpAny (model prog w) A (assign tg env v) (λ_ s3=>
     wpAny (model prog w) A (forIn ifs true λc r=>if r=true then do let ok ← isTrue c env (eval c env);pure (ForInStep.yield ok)else pure (ForInStep.yield r)) (λok s4=>
      if ok=true then wpAny (model prog w) A (eval elt env) (λx s5=>wpAny (model prog w) A (call (.builtin "list.append") [acc,x]) (λ_ s6=>∃m,m<n/\J m s6) (λ_ _=>False) s5) (λ_ _=>False) s4
      else ∃m,m<n/\J m s4) (λ_ _=>False) s3) (λ_ _=>False) s2) (λ_ _=>False) s1) (λ_ _=>False) s)
  (n:Nat) (h:J n s0):codeAny (model prog w) A (.compLoop (.ListComp elt [⟨tg,iter,ifs,0⟩] scope pos) 0 it acc env) R s0:=by
 have up:∀{α:Type}{t:Sem α}{Q:α->Shared->Prop}{E:Value->Shared->Prop}{s:Shared},wpAny (model prog w) A t Q (λ_ _=>False) s->wpAny (model prog w) A t Q E s:=λh=>wpAny_mono h (λ_ _ q=>q) λ_ _ f=>f.elim
 refine codeAny_loop (by rfl) J (λk sk hk=>?_) n h
 show wpAny (model prog w) A ((compTurn (.ListComp elt [⟨tg,iter,ifs,0⟩] scope pos) 0 it acc env).onRaise (λx=>do noteFrame x env;theTreesLotGoes x)) _ _ sk
 refine wpAny_noted (up ?_)
 rw[compTurn_list]
 refine wpAny_bind (wpAny_standAt (wpAny_bind (thn (turn k sk hk) λr s1 h1=>?_)))
 cases r with
 | none=>exact wpAny_pure h1
 | some v=>
  refine wpAny_bind (thn h1 λ_ s2 h2=>wpAny_bind (thn h2 λ_ s3 h3=>wpAny_bind (thn h3 λok s4 h4=>?_)))
  cases ok with
  | false=>exact wpAny_pure ⟨rfl,h4⟩
  | true=>exact wpAny_bind (wpAny_bind (thn h4 λx s5 h5=>wpAny_bind (thn h5 λ_ s6 h6=>wpAny_pure (wpAny_pure ⟨rfl,h6⟩))))
theorem QrN{it D C:Addr}{fp:List Addr}{tn:Nat->Heap->Prop}{J:It}{cl:List (Str×Addr)}{s3 s4:Shared}{H3:Hp}{σc:St}{g:TG}{tc:TT}{te:TE}{Q:Hp->Prop}(hcalm:X.calm=true)
  (T:Turn X.prog X.w X.K tg J fp it tn)
  (hg:PG (cxc X N' scope cl C fp s3 H3) tg g) (ht:PTs (cxc X N' scope cl C fp s3 H3) ifs tc) (he:PE (cxc X N' scope cl C fp s3 H3) elt te)
  (I:Inv (cxc X N' scope cl C fp s3 H3) [] σc H3 s4) (st:tn 0 s4.heap) (ff:∀b∈fp,Qey (cxc X N' scope cl C fp s3 H3) [] H3 b)
  (W:Nat->Nat->List V->Hp->Prop) (hw:∃m,W 0 m [] H3)
  (turn:∀i m acc H2,W i m acc H2->(J.stop i H2/\Q H2)∨
   (J.go i H2/\∀x H5,J.yld i H2 x H5->g x σc H5 λσ2 H6=>(∀(j:Nat) v,σc[j]? =some (some v)->σ2[j]? =some (some v))/\tc σ2 H6 λb H7=>if b=true then
    te σ2 H7 λy H8=>H8 D=some (.lst acc)/\acc.length<sizeLine/\∃m',m'<m/\W (i+1) m' (acc++[y]) (upd H8 D (.lst (acc++[y])))
    else ∃m',m'<m/\W (i+1) m' acc H7))
  {R:Result->Shared->Prop}(hR:∀H' s',Inv (cxc X N' scope cl C fp s3 H3) [] σc H' s'->Q H'->R (.ok .next) s'):
  codeAny (model X.prog X.w) X.A (.compStart (.ListComp elt [⟨tg,iter,ifs,0⟩] scope pos) 0 (.ref it) (.ref D) (compEnvC scope cl C X.env)) R s4:=by
 obtain⟨m0,w0⟩:=hw
 have stat:∀{H':Hp},(∀b∈fp,H' b=none)->∀b∈fp,Qey (cxc X N' scope cl C fp s3 H3) [] H' b:=λhn b hb=>⟨hn b hb,(ff b hb).2⟩
 have loop:codeAny (model X.prog X.w) X.A (.compLoop (.ListComp elt [⟨tg,iter,ifs,0⟩] scope pos) 0 (.ref it) (.ref D) (compEnvC scope cl C X.env)) R s4:=by
  refine Qqq (λn s'=>∃i acc H',Inv (cxc X N' scope cl C fp s3 H3) [] σc H' s'/\tn i s'.heap/\(∀b∈fp,H' b=none)/\W i n acc H') ?_ m0 ⟨0,[],H3,I,st,λb hb=>(ff b hb).1,w0⟩
  rintro n s5 ⟨i,acc,H5,I5,st5,fr5,w5⟩
  rcases turn i n acc H5 w5 with⟨stop,q⟩ | ⟨go,step⟩
  ·refine thn (T.done (cxc X N' scope cl C fp s3 H3) rfl rfl rfl hcalm i [] s5 σc H5 _ I5 (stat fr5) st5 stop) λr s6 ⟨hr,I6⟩=>?_
   subst hr
   exact hR H5 s6 I6 q
  ·refine thn (T.item (cxc X N' scope cl C fp s3 H3) rfl rfl rfl hcalm i [] s5 σc H5 _ I5 (stat fr5) st5 go) λr s6 ⟨u,hr,h6⟩=>?_
   subst hr
   refine thn h6 λ_ s7 ⟨x,H7,I7,r7,y7,st7,fr7⟩=>?_
   have I7':=I7.pinned (stat fr7) (T.obj _ _ st7)
   refine thn (hg _ s7 σc H7 x u _ I7' r7 (step x H7 y7)) λ_ s8 ⟨σ8,H8,I8,k8,q8⟩=>?_
   refine thn (ht _ s8 σ8 H8 _ I8 q8) λok s9 ⟨H9,I9,q9⟩=>?_
   have again:∀{H':Hp}{s':Shared}{acc':List V},Inv (cxc X N' scope cl C fp s3 H3) ([]++QhB fp s7.heap) σ8 H' s'->(∃m',m'<n/\W (i+1) m' acc' H')→
     ∃m,m<n/\∃i acc H',Inv (cxc X N' scope cl C fp s3 H3) [] σc H' s'/\tn i s'.heap/\(∀b∈fp,H' b=none)/\W i m acc H':=λ{H' s' acc'} I' ⟨m',hm,w'⟩=>by
    have pin:∀b∈fp,∀o,s7.heap.get? b=some o->s'.heap.get? b=some o/\H' b=none:=λb hb o e=>by
     have z:=I'.pin (b,o) (Zd _ (Zd _ (QgY hb e)))
     exact⟨z.1,z.2.1⟩
    refine⟨m',hm,i+1,acc',H',?_,T.keep _ _ _ st7 λb hb o e=>(pin b hb o e).1,λb hb=>?_,w'⟩
    ·exact I'.Qg0.weak (I.len.trans I8.len.symm) k8
    ·obtain⟨o,e,_⟩:=T.obj _ _ st7 b hb
     exact(pin b hb o e).2
   cases ok with
   | false=>
    rw[if_neg ZO]at q9 ⊢
    exact again I9 q9
   | true=>
    rw[if_pos rfl]at q9 ⊢
    refine thn (he _ s9 σ8 H9 _ I9 q9) λyv s10 ⟨y,H10,I10,r10,e10,l10,q10⟩=>?_
    refine thn (QlO _ s10 σ8 H10 (.ref D) [y] (.ref D) [yv] (λv H11=>H11=upd H10 D (.lst (acc++[y]))) I10 rfl (.cons r10 .nil) ⟨D,acc,y,rfl,rfl,e10,l10,rfl⟩) λ_ s11 ⟨_,H11,I11,_,e11⟩=>?_
    subst e11
    exact again I11 q10
 exact codeAny_compStart_list loop (T.self _ 0 _ _ _ st loop)
theorem Qnp{wi:TI}{g:TG}{tc:TT}{te:TE}{cp:Pos}{use:Option (Value->Sem Unit)}{pins:List (Addr×Obj)}{s:Shared}{σ:St}{H:Hp}{QV:Value->Shared->Prop}{Q:VK}(hcalm:X.calm=true)(S:QeH X N' scope)(hi:PI X tg iter wi)
  (hin:∀cl C fp s3 H3,PG (cxc X N' scope cl C fp s3 H3) tg g/\PTs (cxc X N' scope cl C fp s3 H3) ifs tc/\PE (cxc X N' scope cl C fp s3 H3) elt te)
  (hs:∀x,foldedSetIterable iter X.env x=pure x) (I:Inv X pins σ H s) (h:Qmm wi (Qkm X N' scope) g tc te σ H Q)
  (fin:∀(D C:Addr) (H':Hp) (s':Shared),Inv X pins σ H' s'->H' C=none->C≠X.env.locals->X.s₀.heap.objs.size<=C->(∀x c,X.env.cells.lookup x=some c->c≠C)->(∀p∈X.pn++pins,p.1≠C)->(∃m,s'.heap.Ns C m)->Q (.ref D) H'→
   compPost (model X.prog X.w) X.A X.xe use QV (.ref D) C (.ok .next) s'):
  wpAny (model X.prog X.w) X.A (comprehension (.ListComp elt [⟨tg,iter,ifs,0⟩] scope pos) scope X.env cp (newList []) false (eval iter X.env) use) QV X.xe s:=by
 obtain⟨cl,hcl,hc1,hc2⟩:=Qvl (scope:=scope) (env:=X.env) λy hy hf=>I.ok.has y.1 (S.free y hy hf)
 refine wpAny_comprehension_free (g:=⟨tg,iter,ifs,0⟩) (gs:=[]) rfl hs hcl S.kind S.loc ?_
 refine thn (hi pins s σ H _ I h) λv s1 h1=>thn h1 λitv s2 h2=>?_
 obtain⟨it,fp,tn,J,H2,e,I2,T,st2,f2,σc,cap,hw⟩:=h2
 subst e
 have hD0:H2 s2.heap.objs.size=none:=I2.hok.fresh (Zj _)
 obtain⟨W,hW0,turn⟩:=hw _ hD0
 have fpl:∀b∈fp,b<s2.heap.objs.size:=λb hb=>let ⟨o,e,_⟩:=T.obj _ _ st2 b hb;Zr e
 have hlist:∀D:Addr,D=s2.heap.objs.size->∃x,x=D:=λD _=>⟨D,rfl⟩
 refine wpAny_newObj_type ?_
 have I3:Inv X pins σ (upd H2 s2.heap.objs.size (.lst [])) {s2 with heap:=s2.heap.push {cls:= .type "list",dict:=none,data:= .seq ([]:List Value).toArray}}:=
  I2.laid (t':=s2.toks) (λb o e=>Zu _ e) (Zj _) ⟨ZT _,[],0,.nil,ZQ _ rfl⟩
 generalize hs3:({s2 with heap:=s2.heap.push {cls:= .type "list",dict:=none,data:= .seq ([]:List Value).toArray}}:Shared)=s3 at I3
 have hs3':s3.heap=s2.heap.push {cls:= .type "list",dict:=none,data:= .seq ([]:List Value).toArray}:=by rw[← hs3]
 have sz3:s3.heap.objs.size=s2.heap.objs.size+1:=by rw[hs3',Zbo]
 have old3:∀b o,s2.heap.get? b=some o->s3.heap.get? b=some o:=λb o e=>by rw[hs3'];exact Zu _ e
 have f3:∀b∈fp,Qey X pins (upd H2 s2.heap.objs.size (.lst [])) b:=λb hb=>⟨by rw[QF (ZI (fpl b hb))];exact(f2 b hb).1,(f2 b hb).2⟩
 have fpl3:∀b∈fp,b<s3.heap.objs.size:=λb hb=>by rw[sz3];exact Zba (fpl b hb)
 refine QpX (λh4 hns4' keep4 hown4=>?_)
 have I4:=Qtw (tk:=s3.toks) S I3 f3 fpl3 hc1 hc2 cap hns4' keep4 hown4
 have hout:∀H' s',Inv (cxc X N' scope (cellsFrom (s3.heap.objs.size+1) scope.names cl) s3.heap.objs.size fp s3 (upd H2 s2.heap.objs.size (.lst []))) [] σc H' s'->Inv X pins σ H' s':=λH' s' J'=>
  I3.QtN (ch:=fp) J'.os J'.base J'.hok J'.bare λb hb=>⟨(f3 b hb).2.2.2.1,(f3 b hb).2.1,(f3 b hb).2.2.2.2.1,(f3 b hb).2.2.2.2.2⟩
 obtain⟨hg,ht,he⟩:=hin (cellsFrom (s3.heap.objs.size+1) scope.names cl) s3.heap.objs.size fp s3 (upd H2 s2.heap.objs.size (.lst []))
 have fc:∀b∈fp,Qey (cxc X N' scope (cellsFrom (s3.heap.objs.size+1) scope.names cl) s3.heap.objs.size fp s3 (upd H2 s2.heap.objs.size (.lst []))) [] (upd H2 s2.heap.objs.size (.lst [])) b:=λb hb=>
  ⟨(f3 b hb).1,ZI (fpl3 b hb),λhs'=>(Zl.mp (I3.QfL b hs')).elim (f3 b hb).2.1 (f3 b hb).2.2.1,.inl hb,λx c e=>(by
   rcases Qgk scope.names _ cl x c e with e | ⟨e,_⟩
   ·exact(f3 b hb).2.2.2.2.1 x c (hc1 x c e)
   ·intro z
    rw[z]at e
    exact absurd (Zm (fpl3 b hb) (Zq (Zw _) e)) (ZV _)),λp hp=>absurd (show p∈([]:List (Addr×Obj))from hp) (by simp)⟩
 have hC1:s3.heap.objs.size≠X.env.locals:=Ne.symm (ZI I3.lt)
 refine QrN (D:=s2.heap.objs.size) (C:=s3.heap.objs.size) (s3:=s3) (σc:=σc) (H3:=upd H2 s2.heap.objs.size (.lst [])) (W:=W) (Q:=λH'=>Q (.ref s2.heap.objs.size) H') hcalm T hg ht he I4 (T.keep _ _ _ st2 λb hb o e=>keep4 b o (old3 b o e)) fc hW0 turn λH' s' J' q=>?_
 have O:=hout H' s' J'
 refine fin _ _ H' s' O J'.free hC1 (Zq I3.sz (Zj _)) (λx c e z=>?_) (λp hp z=>?_) (let ⟨m,hn,_⟩:=J'.loc;⟨m,hn⟩) q
 ·obtain⟨v,o,ho,_⟩:=I3.cell x c e
  exact absurd (Zr ho) (by rw[z];exact ZV _)
 ·exact absurd (Zr (I3.pin p hp).1) (by rw[z];exact ZV _)
theorem Inv.QtF{pins:List (Addr×Obj)}{σ:St}{H:Hp}{s:Shared}{C:Addr}{h':Heap}(I:Inv X pins σ H s)(hs:Heap.SameBut C s.heap h')(hn:H C=none)(hL:C≠X.env.locals)(h1:X.s₀.heap.objs.size<=C)
  (h2:∀x c,X.env.cells.lookup x=some c->c≠C) (h3:∀p∈X.pn++pins,p.1≠C):Inv X pins σ H {s with heap:=h'}:=
 I.turned (t':=s.toks) (λb o hb e=>(hs.2 b hb).trans e) hn hL (.inr h1) h2 h3
theorem QoA{wi:TI}{g:TG}{tc:TT}{te:TE}(hcalm:X.calm=true)(S:QeH X N' scope)(hi:PI X tg iter wi)
  (hin:∀cl C fp s3 H3,PG (cxc X N' scope cl C fp s3 H3) tg g/\PTs (cxc X N' scope cl C fp s3 H3) ifs tc/\PE (cxc X N' scope cl C fp s3 H3) elt te)
  (hs:∀x,foldedSetIterable iter X.env x=pure x:=by intro _;rfl):PE X (.ListComp elt [⟨tg,iter,ifs,0⟩] scope pos) (Qmm wi (Qkm X N' scope) g tc te):=by
 intro pins s σ H Q I h
 rw[eval_ListComp]
 refine Qnp (use:=none) hcalm S hi hin hs I h λD C H' s' O h1 h2 h3 h4 h5 ⟨m,hm⟩ q=>?_
 exact⟨m,hm,λh' hs'=>⟨.ref D,H',O.QtF hs' h1 h2 h3 h4 h5,rfl,q⟩⟩
theorem QuM{wi:TI}{g:TG}{tc:TT}{te:TE}{i:Nat}{x:Str}{pos' spos:Pos}(hN:X.N.Nodup)(hx1:X.N[i]? =some x)(hx:Loc X.env.scope x)(hf:X.fn x=true∨X.env.scope.names.lookup x=some .local)(hcalm:X.calm=true)(S:QeH X N' scope)(hi:PI X tg iter wi)
  (hin:∀cl C fp s3 H3,PG (cxc X N' scope cl C fp s3 H3) tg g/\PTs (cxc X N' scope cl C fp s3 H3) ifs tc/\PE (cxc X N' scope cl C fp s3 H3) elt te)
  (hs:∀x,foldedSetIterable iter X.env x=pure x:=by intro _;rfl):
  PS X (.Assign [.Name x pos'] (.ListComp elt [⟨tg,iter,ifs,0⟩] scope pos) spos) (Qem (Qmm wi (Qkm X N' scope) g tc te) (QfP i)):=by
 have hb:∃b,swapsWith (.ListComp elt [⟨tg,iter,ifs,0⟩] scope pos) (some (.Name x pos')) spos.line X.env=pure b:=⟨_,rfl⟩
 obtain⟨b,hb⟩:=hb
 cases b with
 | false=>exact Qfi hN hx1 hx (QoA hcalm S hi hin hs) hb hf
 | true=>
  intro pins s σ H D I h
  rw[exec_Assign_Name_used _ _ _ _ hb]
  refine wpAny_bind (wpAny_standAt (wpAny_bind ?_))
  show wpAny _ X.A (do let _ ← comprehension (.ListComp elt [⟨tg,iter,ifs,0⟩] scope pos) scope X.env _ (newList []) false (eval iter X.env) (some (assign (.Name x pos') X.env))) _ _ s
  refine wpAny_bind (thn (Qnp (use:=some (assign (.Name x pos') X.env)) (QV:=λ_ s'=>SP X pins D .next s') hcalm S hi hin hs I h λDl C H' s' O h1 h2 h3 h4 h5 ⟨m,hm⟩ q=>?_) λ_ s' hq=>wpAny_pure (wpAny_pure hq))
  refine wpAny_assign_Name (QlT O hN hx1 hx (v:= .ref Dl) (u:= .ref Dl) rfl (λs2 I2 hsb=>?_) hf)
  obtain⟨a,sb,ha⟩:=hsb
  have haC:C≠a:=by
   rcases ha with rfl | ha
   ·exact h2
   ·exact Ne.symm (h4 _ _ ha)
  exact⟨m,hm.sameBut sb haC,λh' hs'=>⟨_,H',I2.QtF hs' h1 h2 h3 h4 h5,q⟩⟩
end
end L2
namespace L2
open PySem PySem.Spec PyProof.Rows
section
variable {X:Cx}{pins:List (Addr×Obj)}{σ:St}{H H':Hp}{s:Shared}{h':Heap}
theorem Inv.QtW{t':Nat}{ch:List Addr}{T:Addr}{ts:List V}(I:Inv X pins σ H s)(hf:∀b∈ch,Qey X pins H b)(k:∀b o,b∉ch->s.heap.get? b=some o->h'.get? b=some o)(hp:∀b∈ch,∃o,h'.get? b=some o)
  (hT:s.heap.objs.size<=T) (hnew:ts.length<=sizeLine/\∃its:List Value,Qz ts its/\IsTup h' T its.toArray):Inv X pins σ (upd H T (.tup ts)) {s with heap:=h',toks:=t'}:=by
 have hn:H T=none:=I.hok.fresh hT
 have neT:∀b u,H b=some u->b≠T:=λb u e=>QbM e hn
 have nch:∀b u,H b=some u->b∉ch:=λb u e hb=>by rw[(hf b hb).1]at e;cases e
 have ltT:∀b o,s.heap.get? b=some o->b≠T:=λb o e=>ZI (Zm (Zr e) hT)
 refine I.step (g':=s.gens) (d':=s.drawn) (ch:=ch) (λb hb=>?_) (λb o _ _ hc e _=>k b o hc e) (λb o _ _ hc e _=>⟨o.slots,k b o hc e⟩) (λb o _ e n=>by rw[QF (ltT b o e)];exact n)
  (λb o hc e=>⟨o,k b o hc e⟩) (λb xs e=>by rw[QF (neT b _ e)];exact e) (λb o u e=>by rw[QF (neT b _ e)];exact e) (λb ps e=>⟨#[],by rw[QF (neT b _ e),e];simp⟩) (λm hm=>?_) (λb u e=>?_) I.bare
 ·obtain⟨f0,f1,f2,f3,f4,f5⟩:=hf b hb
  exact⟨f3,f1,f4,f5⟩
 ·obtain⟨o,es,ep,ho,r⟩:=hm
  exact⟨o,es,ep,k _ o (λz=>(hf _ z).2.1 rfl) ho,r⟩
 ·by_cases hb:b=T
  ·subst hb
   rw[Q1]at e
   cases e
   exact hnew
  ·rw[QF hb]at e
   refine(I.hok b u e).Qf1 (λc v hc q=>k c v ?_ q) (λc q=>by rw[QF (neT c _ q)];exact q) λc xs q=>by rw[QF (neT c _ q)];exact q
   rcases hc with z | z
   ·rw[z];exact nch b u e
   ·exact nch c _ z
theorem Inv.turns{t':Nat}{ch:List Addr}(I:Inv X pins σ H s)(hf:∀b∈ch,Qey X pins H b)(k:∀b o,b∉ch->s.heap.get? b=some o->h'.get? b=some o):Inv X pins σ H {s with heap:=h',toks:=t'}:=by
 have nch:∀b u,H b=some u->b∉ch:=λb u e hb=>by rw[(hf b hb).1]at e;cases e
 refine I.step (g':=s.gens) (d':=s.drawn) (ch:=ch) (λb hb=>?_) (λb o _ _ hc e _=>k b o hc e) (λb o _ _ hc e _=>⟨o.slots,k b o hc e⟩) (λb o _ e n=>n)
  (λb o hc e=>⟨o,k b o hc e⟩) (λb xs e=>e) (λb o u e=>e) (λb ps e=>⟨#[],by rw[e];simp⟩) (λm hm=>?_) (λb u e=>?_) I.bare
 ·obtain⟨f0,f1,f2,f3,f4,f5⟩:=hf b hb
  exact⟨f3,f1,f4,f5⟩
 ·obtain⟨o,es,ep,ho,r⟩:=hm
  exact⟨o,es,ep,k _ o (λz=>(hf _ z).2.1 rfl) ho,r⟩
 ·refine(I.hok b u e).Qf1 (λc v hc q=>k c v ?_ q) (λc q=>q) λc xs q=>q
  rcases hc with z | z
  ·rw[z];exact nch b u e
  ·exact nch c _ z
end
noncomputable def Ite(K:PySem.W.Frag)(a:Addr):It:=
 ⟨λi H=>∃xs x,SqL K H a xs/\xs[i]? =some x,λi H v H'=>∃p x,v= .ref p/\H p=none/\H'=upd H p (.tup [.int i,x])/\∀xs,SqL K H a xs->xs[i]? =some x,λi H=>∃xs,SqL K H a xs/\xs.length<=i⟩
theorem QqQ{P:Program}{w:World}{K:PySem.W.Frag}{es:List Expr}{tk:Nat}{tpos:Pos}(a e it:Addr)(hne:e≠it):Turn P w K (.Tuple es tk tpos) (Ite K a) [e,it] e (λi h=>∃old,IsEnum h e it (i:Int) old/\h.IsListIter it a i) where
 mem:=by simp
 obj:=λi h st b hb=>by
  obtain⟨old,he,o,ho,hc,hd⟩:=st
  have hb:b=e∨b=it:=by simpa using hb
  rcases hb with rfl | rfl
  ·exact⟨_,he,λv z=>by cases z⟩
  ·exact⟨o,ho,λv z=>by rw[hd]at z;cases z⟩
 keep:=λi h h' st k=>by
  obtain⟨old,he,hi⟩:=st
  exact⟨old,k e (by simp) _ he,hi.at λo q=>k it (by simp) o q⟩
 item:=by
  intro X hP hw hK hc i pins s σ H E I hf st hg
  subst hP hw hK
  obtain⟨old,he,hi⟩:=st
  obtain⟨xs,x,hq,hx⟩:=hg
  obtain⟨its,rv,p,hz⟩:=I.list hq
  obtain⟨u,hu,ru⟩:=rv.get hx
  refine wpAny_pyNext_enum_item he hi p.isList (x:=u) (by simpa using hu) hne λh1 heo hi1 ht1 hz1 hk1=>?_
  refine⟨.ref s.heap.objs.size,rfl,wpAny_letOwnedTupleGo_enum heo λh2 he2 hs2=>?_⟩
  replace hs2:Heap.SameBut e h1 h2:=hs2
  have helt:e<s.heap.objs.size:=Zr he
  have hilt:it<s.heap.objs.size:=by obtain⟨o,ho,_⟩:=hi;exact Zr ho
  have ht2:IsTup h2 s.heap.objs.size [Value.int i s.toks,u].toArray:=⟨_,(hs2.2 _ (Nat.ne_of_gt helt)).trans ht1,rfl,_,rfl⟩
  have hi2:h2.IsListIter it a (i+1):=hi1.extBut hs2.extBut (Ne.symm hne)
  have kk:∀b o,b∉[e,it]->s.heap.get? b=some o->h2.get? b=some o:=λb o hb q=>by
   have h1:b≠e:=λz=>hb (by simp[z])
   have h2:b≠it:=λz=>hb (by simp[z])
   exact hs2.extBut b o h1 (hk1 b o h1 h2 q)
  refine⟨.ref s.heap.objs.size,upd H s.heap.objs.size (.tup [.int i,x]),I.QtW (t':=s.toks+1) hf kk (λb hb=>?_) (Zj _) ⟨by show 2<=sizeLine;decide,_,.cons ⟨_,rfl⟩ (.cons ru .nil),ht2⟩,rfl,
   ⟨_,x,rfl,I.hok.fresh (Zj _),rfl,λys hy=>by rw[I.Qg6 hy hq];exact hx⟩,⟨u,?_,hi2⟩,λb hb=>?_⟩
  ·have hb:b=e∨b=it:=by simpa using hb
   rcases hb with rfl | rfl
   ·exact⟨_,he2⟩
   ·obtain⟨o,ho,_⟩:=hi2;exact⟨o,ho⟩
  ·have:((i+1:Nat):Int)=(i:Int)+1:=by push_cast;rfl
   rw[this];exact he2
  ·have hb':b=e∨b=it:=by simpa using hb
   have:b≠s.heap.objs.size:=by
    rcases hb' with rfl | rfl
    ·exact ZI helt
    ·exact ZI hilt
   rw[QF this];exact(hf b hb).1
 done:=by
  intro X hP hw hK hc i pins s σ H E I hf st hg
  subst hP hw hK
  obtain⟨old,he,hi⟩:=st
  obtain⟨xs,hq,hx⟩:=hg
  obtain⟨its,rv,p,hz⟩:=I.list hq
  have hl:=rv.length
  refine wpAny_pyNext_enum_end (I.ok.hd hc) he hi p.isList (by simp;omega) λh1 eb=>⟨rfl,?_⟩
  exact I.turns (t':=s.toks) hf λb o hb q=>eb b o (λz=>hb (by simp[z])) q
 self:=λ_ _ _ _ _ st h=>by
  obtain⟨old,he,hi⟩:=st
  exact wpAny_pyIter_enum he h
section
variable {X:Cx}
noncomputable def QxP(K:PySem.W.Frag)(ta:TA):TI:=λσ H R=>ta σ H λvs H1=>∃a,vs=[.ref a]/\(∃xs,SqL K H1 a xs)/\R (Ite K a) H1
theorem Quc{a:Expr}{ta:TA}{p pos:Pos}{es:List Expr}{tk:Nat}{tpos:Pos}(hg:Gl X "enumerate")(hm:X.mg "enumerate" =none)(ha:PA X [a] ta)(hs:starEach [a] X.env=[(false,eval a X.env)]):
  PI X (.Tuple es tk tpos) (.Call (.Name "enumerate" p) [a] [] pos) (QxP X.K ta):=by
 intro pins s σ H R I h
 refine Call_ (Qc5 I hg hm PyProof.Rows.boot_enumerate (ZL (thn (ha pos pins s σ H _ I h) λus s1 ⟨vs,H1,I1,r1,q1⟩=>?_) hs rfl))
 obtain⟨l,e,⟨xs,hq⟩,q⟩:=q1
 subst e
 obtain⟨u,rfl,ru⟩:=vals1 r1
 cases ru
 obtain⟨its,rv,pl,hz⟩:=I1.list hq
 refine call_enumerate_list pl.isList λh2 he2 hi2 hz2 hk2=>?_
 have I2:Inv X pins σ H1 {s1 with heap:=h2}:=I1.kept (t':=s1.toks) hk2
 refine wpAny_pyIter_enum he2 ⟨_,[s1.heap.objs.size+1,s1.heap.objs.size],_,_,H1,rfl,I2,QqQ l _ _ (Nat.succ_ne_self _),⟨_,he2,hi2⟩,λb hb=>?_,q⟩
 have hb:b=s1.heap.objs.size+1∨b=s1.heap.objs.size:=by simpa using hb
 have hle:s1.heap.objs.size<=b:=by rcases hb with rfl | rfl<;>omega
 exact I1.QkY hle (I1.hok.fresh hle)
end
noncomputable def Itz(K:PySem.W.Frag)(a b:Addr):It:=
 ⟨λi H=>∃xs ys x y,SqL K H a xs/\SqL K H b ys/\xs[i]? =some x/\ys[i]? =some y,λi H v H'=>∃p x y,v= .ref p/\H p=none/\H'=upd H p (.tup [x,y])/\(∀xs,SqL K H a xs->xs[i]? =some x)/\∀ys,SqL K H b ys->ys[i]? =some y,
  λi H=>∃xs ys,SqL K H a xs/\SqL K H b ys/\(xs.length<=i∨ys.length<=i)⟩
structure QuH (z TI TO i1 i2:Addr):Prop where
 a:TI≠z
 b:TO≠z
 c:i1≠z
 d:i2≠z
 e:TI≠TO
 f:TI≠i1
 g:TI≠i2
 h:TO≠i1
 i:TO≠i2
 j:i1≠i2
theorem Qs3{P:Program}{w:World}{K:PySem.W.Frag}{es:List Expr}{tk:Nat}{tpos:Pos}(l1 l2 z TI TO i1 i2:Addr)(D:QuH z TI TO i1 i2):
  Turn P w K (.Tuple es tk tpos) (Itz K l1 l2) [z,TI,TO,i1,i2] z (λi h=>IsZip h z TI TO .none/\IsPair h TI (.ref i1) (.ref i2)/\(∃a b,IsPair h TO a b)/\h.IsListIter i1 l1 i/\h.IsListIter i2 l2 i) where
 mem:=by simp
 obj:=λi h st b hb=>by
  obtain⟨hz,hTI,⟨p,q,hTO⟩,⟨o1,ho1,hc1,hd1⟩,⟨o2,ho2,hc2,hd2⟩⟩:=st
  have hb:b=z∨b=TI∨b=TO∨b=i1∨b=i2:=by simpa using hb
  rcases hb with rfl | rfl | rfl | rfl | rfl
  ·exact⟨_,hz,λv z=>by cases z⟩
  ·exact⟨_,hTI,λv z=>by cases z⟩
  ·exact⟨_,hTO,λv z=>by cases z⟩
  ·exact⟨o1,ho1,λv z=>by rw[hd1]at z;cases z⟩
  ·exact⟨o2,ho2,λv z=>by rw[hd2]at z;cases z⟩
 keep:=λi h h' st k=>by
  obtain⟨hz,hTI,⟨p,q,hTO⟩,h1,h2⟩:=st
  exact⟨k z (by simp) _ hz,k TI (by simp) _ hTI,⟨p,q,k TO (by simp) _ hTO⟩,h1.at λo e=>k i1 (by simp) o e,h2.at λo e=>k i2 (by simp) o e⟩
 item:=by
  intro X hP hw hK hc i pins s σ H E I hf st hg
  subst hP hw hK
  obtain⟨hz,hTI,⟨a0,b0,hTO⟩,h1,h2⟩:=st
  obtain⟨xs,ys,x,y,hq1,hq2,hx,hy⟩:=hg
  obtain⟨its,rv,p,hzz⟩:=I.list hq1
  obtain⟨its2,rv2,p2,hzz2⟩:=I.list hq2
  obtain⟨u,hu,ru⟩:=rv.get hx
  obtain⟨u2,hu2,ru2⟩:=rv2.get hy
  have free:∀l ys,SqL X.K H l ys->∀b,b∈[z,TI,TO,i1,i2]->l≠b:=λl ys hq b hb e=>by
   subst e
   rcases hq with(hq | ⟨o,hq⟩) | ⟨o,its,n,hk,hc',_,hd',_⟩
   ·rw[(hf l hb).1]at hq;cases hq
   ·rw[(hf l hb).1]at hq;cases hq
   ·have e1:=I.kIn l o hk
    obtain⟨o1,ho1,hcc1,hd1⟩:=id h1
    obtain⟨o2,ho2,hcc2,hd2⟩:=id h2
    have hb:l=z∨l=TI∨l=TO∨l=i1∨l=i2:=by simpa using hb
    rcases hb with rfl | rfl | rfl | rfl | rfl
    ·rw[hz]at e1;cases e1;simp at hc'
    ·rw[hTI]at e1;cases e1;simp at hc'
    ·rw[hTO]at e1;cases e1;simp at hc'
    ·rw[ho1]at e1;cases e1;rw[hc']at hcc1;simp at hcc1
    ·rw[ho2]at e1;cases e1;rw[hc']at hcc2;simp at hcc2
  have A1:=free l1 xs hq1
  have A2:=free l2 ys hq2
  have DD:ZipApart z TI TO i1 i2 l1 l2:=⟨D.a,D.b,D.c,D.d,D.e,D.f,D.g,D.h,D.i,D.j,A1 z (by simp),A1 TO (by simp),A1 i1 (by simp),A1 i2 (by simp),A2 z (by simp),A2 TO (by simp),A2 i1 (by simp),A2 i2 (by simp)⟩
  refine wpAny_pyNext_zip_item DD hz hTI hTO h1 h2 p.isList p2.isList (x:=u) (y:=u2) (by simpa using hu) (by simpa using hu2) λh3 z3 TO3 a3 b3 T3 sz3 k3=>?_
  refine⟨.ref s.heap.objs.size,rfl,wpAny_letOwnedTupleGo_zip z3 λh4 z4 hs4=>?_⟩
  replace hs4:Heap.SameBut z h3 h4:=hs4
  have lt:∀{c o},s.heap.get? c=some o->c<s.heap.objs.size:=λe=>Zr e
  have hzlt:=lt hz
  have all:∀b∈[z,TI,TO,i1,i2],b<s.heap.objs.size:=λb hb=>by
   have hb:b=z∨b=TI∨b=TO∨b=i1∨b=i2:=by simpa using hb
   obtain⟨o1,ho1,_⟩:=h1
   obtain⟨o2,ho2,_⟩:=h2
   rcases hb with rfl | rfl | rfl | rfl | rfl
   ·exact lt hz
   ·exact lt hTI
   ·exact lt hTO
   ·exact lt ho1
   ·exact lt ho2
  have kk:∀b o,b∉[z,TI,TO,i1,i2]->s.heap.get? b=some o->h4.get? b=some o:=λb o hb q=>by
   have n1:b≠z:=λe=>hb (by simp[e])
   exact hs4.extBut b o n1 (k3 b o n1 (λe=>hb (by simp[e])) (λe=>hb (by simp[e])) (λe=>hb (by simp[e])) q)
  have TI4:IsPair h4 TI (.ref i1) (.ref i2):=hs4.extBut _ _ D.a (k3 _ _ D.a D.e D.f D.g hTI)
  have TO4:IsPair h4 TO u u2:=hs4.extBut _ _ D.b TO3
  have a4:h4.IsListIter i1 l1 (i+1):=a3.extBut hs4.extBut D.c
  have b4:h4.IsListIter i2 l2 (i+1):=b3.extBut hs4.extBut D.d
  have T4:IsTup h4 s.heap.objs.size [u,u2].toArray:=⟨_,(hs4.2 _ (Nat.ne_of_gt hzlt)).trans T3,rfl,_,rfl⟩
  refine⟨.ref s.heap.objs.size,upd H s.heap.objs.size (.tup [x,y]),I.QtW (t':=s.toks) hf kk (λb hb=>?_) (Zj _) ⟨by show 2<=sizeLine;decide,_,.cons ru (.cons ru2 .nil),T4⟩,rfl,
   ⟨_,x,y,rfl,I.hok.fresh (Zj _),rfl,λzs hy'=>by rw[I.Qg6 hy' hq1];exact hx,λzs hy'=>by rw[I.Qg6 hy' hq2];exact hy⟩,⟨z4,TI4,⟨_,_,TO4⟩,a4,b4⟩,λb hb=>?_⟩
  ·have hb:b=z∨b=TI∨b=TO∨b=i1∨b=i2:=by simpa using hb
   obtain⟨o1,ho1,_⟩:=a4
   obtain⟨o2,ho2,_⟩:=b4
   rcases hb with rfl | rfl | rfl | rfl | rfl
   ·exact⟨_,z4⟩
   ·exact⟨_,TI4⟩
   ·exact⟨_,TO4⟩
   ·exact⟨_,ho1⟩
   ·exact⟨_,ho2⟩
  ·rw[QF (ZI (all b hb))];exact(hf b hb).1
 done:=by
  intro X hP hw hK hc i pins s σ H E I hf st hg
  subst hP hw hK
  obtain⟨hz,hTI,⟨a0,b0,hTO⟩,h1,h2⟩:=st
  obtain⟨xs,ys,hq1,hq2,hx⟩:=hg
  obtain⟨its,rv,p,hzz⟩:=I.list hq1
  obtain⟨its2,rv2,p2,hzz2⟩:=I.list hq2
  have free:∀l ys,SqL X.K H l ys->∀b,b∈[z,TI,TO,i1,i2]->l≠b:=λl ys hq b hb e=>by
   subst e
   rcases hq with(hq | ⟨o,hq⟩) | ⟨o,its,n,hk,hc',_,hd',_⟩
   ·rw[(hf l hb).1]at hq;cases hq
   ·rw[(hf l hb).1]at hq;cases hq
   ·have e1:=I.kIn l o hk
    obtain⟨o1,ho1,hcc1,hd1⟩:=id h1
    obtain⟨o2,ho2,hcc2,hd2⟩:=id h2
    have hb:l=z∨l=TI∨l=TO∨l=i1∨l=i2:=by simpa using hb
    rcases hb with rfl | rfl | rfl | rfl | rfl
    ·rw[hz]at e1;cases e1;simp at hc'
    ·rw[hTI]at e1;cases e1;simp at hc'
    ·rw[hTO]at e1;cases e1;simp at hc'
    ·rw[ho1]at e1;cases e1;rw[hc']at hcc1;simp at hcc1
    ·rw[ho2]at e1;cases e1;rw[hc']at hcc2;simp at hcc2
  have A1:=free l1 xs hq1
  have A2:=free l2 ys hq2
  have DD:ZipApart z TI TO i1 i2 l1 l2:=⟨D.a,D.b,D.c,D.d,D.e,D.f,D.g,D.h,D.i,D.j,A1 z (by simp),A1 TO (by simp),A1 i1 (by simp),A1 i2 (by simp),A2 z (by simp),A2 TO (by simp),A2 i1 (by simp),A2 i2 (by simp)⟩
  have hl:=rv.length
  have hl2:=rv2.length
  refine wpAny_pyNext_zip_end (I.ok.hd hc) DD hz hTI hTO h1 h2 p.isList p2.isList (by rcases hx with hx | hx;(left;simp;omega);(right;simp;omega)) λh3 k3=>⟨rfl,?_⟩
  exact I.turns (t':=s.toks) hf λb o hb q=>k3 b o (λe=>hb (by simp[e])) (λe=>hb (by simp[e])) (λe=>hb (by simp[e])) (λe=>hb (by simp[e])) q
 self:=λ_ _ _ _ _ st h=>wpAny_pyIter_zip st.1 h
section
variable {X:Cx}
noncomputable def QyO(K:PySem.W.Frag)(ta:TA):TI:=λσ H R=>ta σ H λvs H1=>∃a b,vs=[.ref a,.ref b]/\(∃xs,SqL K H1 a xs)/\(∃ys,SqL K H1 b ys)/\R (Itz K a b) H1
theorem Qww{a b:Expr}{ta:TA}{p pos:Pos}{es:List Expr}{tk:Nat}{tpos:Pos}(hg:Gl X "zip")(hm:X.mg "zip" =none)(ha:PA X [a,b] ta)(hs:starEach [a,b] X.env=[(false,eval a X.env),(false,eval b X.env)])(hs2:starEach [b] X.env=[(false,eval b X.env)]):
  PI X (.Tuple es tk tpos) (.Call (.Name "zip" p) [a,b] [] pos) (QyO X.K ta):=by
 intro pins s σ H R I h
 refine Call_ (Qc5 I hg hm PyProof.Rows.boot_zip (ZL (thn (ha pos pins s σ H _ I h) λus s1 ⟨vs,H1,I1,r1,q1⟩=>?_) (by rw[hs,hs2]) (by rw[hs2];rfl)))
 obtain⟨l,l2,e,⟨xs,hq⟩,⟨ys,hq2⟩,q⟩:=q1
 subst e
 obtain⟨u,u2,rfl,ru,ru2⟩:=vals2 r1
 cases ru
 cases ru2
 obtain⟨its,rv,pl,hz⟩:=I1.list hq
 obtain⟨its2,rv2,pl2,hz2⟩:=I1.list hq2
 refine call_zip_2 pl.isList pl2.isList λh2 hz hTI hTO h1 h2' hsz hk2=>?_
 have I2:Inv X pins σ H1 {s1 with heap:=h2}:=I1.kept (t':=s1.toks) hk2
 refine wpAny_pyIter_zip hz ⟨_,[s1.heap.objs.size+4,s1.heap.objs.size+2,s1.heap.objs.size+3,s1.heap.objs.size,s1.heap.objs.size+1],_,_,H1,rfl,I2,Qs3 l l2 _ _ _ _ _ ⟨?_,?_,?_,?_,?_,?_,?_,?_,?_,?_⟩,⟨hz,hTI,⟨_,_,hTO⟩,h1,h2'⟩,λb hb=>?_,q⟩
 iterate 10 (exact(by intro e;first | (have e':(s1.heap.objs.size:Nat)+_=_:=e;omega) | (have e':(s1.heap.objs.size:Nat)=_:=e;omega)))
 have hle:s1.heap.objs.size<=b:=by
  simp only[Zl,List.not_mem_nil,or_false]at hb
  rcases hb with rfl | rfl | rfl | rfl | rfl<;>first | exact Zj _ | exact Nat.le_add_right _ _
 exact I1.QkY hle (I1.hok.fresh hle)
end
end L2
namespace L2
open PySem PySem.Spec
section
variable {prog:Program}{w:World}{A:Around}{E:Value->Shared->Prop}{s:Shared}
end
section
variable {prog:Program}{w:World}{A:Around}{E:Value->Shared->Prop}{s:Shared}
end
open PyProof.Rows
section
variable {X:Cx}
end
end L2
namespace HS
open PySem PySem.Spec PyProof.Rows L2
inductive D where
 | non | bl (b:Bool) | int (i:Int) | str (x:Str) | tup (xs:List D) | lst (xs:List D) | exc (x:Str)
mutual
noncomputable def D.flat:D->Bool
 | .lst _=>false
 | .tup xs=>QZ xs
 | .non=>true
 | .bl _=>true
 | .int _=>true
 | .str _=>true
 | .exc _=>true
noncomputable def QZ:List D->Bool
 | []=>true
 | d::ds=>d.flat && QZ ds
end
mutual
noncomputable def D.nl:D->Nat
 | .lst xs=>nls xs+1
 | .tup xs=>nls xs
 | .non=>0
 | .bl _=>0
 | .int _=>0
 | .str _=>0
 | .exc _=>0
noncomputable def nls:List D->Nat
 | []=>0
 | d::ds=>d.nl+nls ds
end
mutual
theorem Qfa:∀(d:D),d.flat=true->d.nl=0
 | .non,_=>rfl
 | .bl _,_=>rfl
 | .int _,_=>rfl
 | .str _,_=>rfl
 | .exc _,_=>rfl
 | .tup xs,h=>by simp only[D.nl];simp only[D.flat]at h;exact Qji xs h
 | .lst xs,h=>by simp[D.flat]at h
theorem Qji:∀(ds:List D),QZ ds=true->nls ds=0
 | [],_=>rfl
 | d::ds,h=>by simp only[QZ,Zi]at h;simp only[nls,Qfa d h.1,Qji ds h.2]
end
def Fix(K:PySem.W.Frag)(H:Hp)(a:Addr)(vs:List V):Prop:=
 (∃o,H a=some (.frz o (.lst vs)))∨
  ∃(its:List Value) (n:Nat),K.lookup a=some {cls:= .type "list",data:= .seq its.toArray n}/\vs.length<=sizeLine/\Qz vs its
def QdI(a C:Addr)(h:Heap):Prop:=∃o vs,h.get? a=some o/\o.cls= .ref C/\o.data= .fields vs
def ExcAt(K:PySem.W.Frag)(H:Hp)(a:Addr)(x:Str):Prop:=∃C,PySem.W.nsIn K mainGlobals x=some (some (.ref C))/\H a=some (.ext (QdI a C))
theorem Qo1{K:PySem.W.Frag}{H H':Hp}{a:Addr}{x:Str}(s:QH H H')(h:ExcAt K H a x):ExcAt K H' a x:=by
 obtain⟨C,h1,h2⟩:=h
 exact⟨C,h1,s _ _ h2⟩
theorem Qp7{K:PySem.W.Frag}{H:Hp}{a p:Addr}{x:Str}{zs ys:List V}(hp:H p=some (.lst zs))(h:ExcAt K H a x):ExcAt K (upd H p (.lst ys)) a x:=by
 obtain⟨C,h1,h2⟩:=h
 exact⟨C,h1,by rw[QF (Qmn h2 hp (by intro z;cases z))];exact h2⟩
mutual
noncomputable def Rp(K:PySem.W.Frag)(H:Hp):D->V->List Addr->Prop
 | .non,v,F=>v= .non/\F=[]
 | .bl b,v,F=>v= .bl b/\F=[]
 | .int i,v,F=>v= .int i/\F=[]
 | .str x,v,F=>v= .str x/\F=[]
 | .exc x,v,F=>(∃a,v= .ref a/\ExcAt K H a x)/\F=[]
 | .tup ds,v,F=>∃a vs,v= .ref a/\SqT K H a vs/\Rps K H ds vs F
 | .lst ds,v,F=>ds.length<=sizeLine/\∃a vs,v= .ref a/\((∃G,F=a::G/\H a=some (.lst vs)/\Rps K H ds vs G)∨(Fix K H a vs/\Rps K H ds vs F))
noncomputable def Rps(K:PySem.W.Frag)(H:Hp):List D->List V->List Addr->Prop
 | [],vs,F=>vs=[]/\F=[]
 | d::ds,vs,F=>∃v ws F1 F2,vs=v::ws/\F=F1++F2/\Rp K H d v F1/\Rps K H ds ws F2
end
theorem QmK{K:PySem.W.Frag}{H H':Hp}{a:Addr}{vs:List V}(s:QH H H')(h:SqT K H a vs):SqT K H' a vs:=by
 rcases h with(h | ⟨o,h⟩) | h
 ·exact .inl (.inl (s _ _ h))
 ·exact .inl (.inr ⟨o,s _ _ h⟩)
 ·exact .inr h
theorem QmD{K:PySem.W.Frag}{H H':Hp}{a:Addr}{vs:List V}(s:QH H H')(h:Fix K H a vs):Fix K H' a vs:=by
 rcases h with⟨o,h⟩ | h
 ·exact .inl ⟨o,s _ _ h⟩
 ·exact .inr h
theorem QoM{K:PySem.W.Frag}{H:Hp}{a p:Addr}{vs zs ys:List V}(hp:H p=some (.lst zs))(h:SqT K H a vs):SqT K (upd H p (.lst ys)) a vs:=by
 rcases h with(h | ⟨o,h⟩) | h
 ·exact .inl (.inl (by rw[QF (Qmn h hp (by intro z;cases z))];exact h))
 ·exact .inl (.inr ⟨o,by rw[QF (Qmn h hp (by intro z;cases z))];exact h⟩)
 ·exact .inr h
theorem Qvu{K:PySem.W.Frag}{H:Hp}{a p:Addr}{vs zs ys:List V}(hp:H p=some (.lst zs))(h:Fix K H a vs):Fix K (upd H p (.lst ys)) a vs:=by
 rcases h with⟨o,h⟩ | h
 ·exact .inl ⟨o,by rw[QF (Qmn h hp (by intro z;cases z))];exact h⟩
 ·exact .inr h
section
variable {K:PySem.W.Frag}{H H':Hp}
mutual
theorem Rp.same(s:QH H H'):∀{d:D}{v:V}{F:List Addr},Rp K H d v F->Rp K H' d v F
 | .exc _,_,_,h=>by
  simp only[Rp]at h ⊢
  obtain⟨⟨a,e,q⟩,z⟩:=h
  exact⟨⟨a,e,Qo1 s q⟩,z⟩
 | .non,_,_,h=>h
 | .bl _,_,_,h=>h
 | .int _,_,_,h=>h
 | .str _,_,_,h=>h
 | .tup ds,_,_,h=>by
  simp only[Rp]at h ⊢
  obtain⟨a,vs,e,q,r⟩:=h
  exact⟨a,vs,e,QmK s q,Rps.same s r⟩
 | .lst ds,_,_,h=>by
  simp only[Rp]at h ⊢
  obtain⟨hz,a,vs,e,⟨G,eF,q,r⟩ | ⟨q,r⟩⟩:=h
  ·exact⟨hz,a,vs,e,.inl ⟨G,eF,s _ _ q,Rps.same s r⟩⟩
  ·exact⟨hz,a,vs,e,.inr ⟨QmD s q,Rps.same s r⟩⟩
theorem Rps.same(s:QH H H'):∀{ds:List D}{vs:List V}{F:List Addr},Rps K H ds vs F->Rps K H' ds vs F
 | [],_,_,h=>h
 | d::ds,_,_,h=>by
  simp only[Rps]at h ⊢
  obtain⟨v,ws,F1,F2,e,eF,r,q⟩:=h
  exact⟨v,ws,F1,F2,e,eF,Rp.same s r,Rps.same s q⟩
end
mutual
theorem Rp.upd{p:Addr}{zs ys:List V}(hp:H p=some (.lst zs)):∀{d:D}{v:V}{F:List Addr},Rp K H d v F->p∉F->Rp K (upd H p (.lst ys)) d v F
 | .exc _,_,_,h,_=>by
  simp only[Rp]at h ⊢
  obtain⟨⟨a,e,q⟩,z⟩:=h
  exact⟨⟨a,e,Qp7 hp q⟩,z⟩
 | .non,_,_,h,_=>h
 | .bl _,_,_,h,_=>h
 | .int _,_,_,h,_=>h
 | .str _,_,_,h,_=>h
 | .tup ds,_,_,h,hn=>by
  simp only[Rp]at h ⊢
  obtain⟨a,vs,e,q,r⟩:=h
  exact⟨a,vs,e,QoM hp q,Rps.upd hp r hn⟩
 | .lst ds,_,_,h,hn=>by
  simp only[Rp]at h ⊢
  obtain⟨hz,a,vs,e,⟨G,eF,q,r⟩ | ⟨q,r⟩⟩:=h
  ·subst eF
   have h1:a≠p:=λz=>hn (by rw[z];exact Zo)
   exact⟨hz,a,vs,e,.inl ⟨G,rfl,by rw[QF h1];exact q,Rps.upd hp r λz=>hn (Ze _ z)⟩⟩
  ·exact⟨hz,a,vs,e,.inr ⟨Qvu hp q,Rps.upd hp r hn⟩⟩
theorem Rps.upd{p:Addr}{zs ys:List V}(hp:H p=some (.lst zs)):∀{ds:List D}{vs:List V}{F:List Addr},Rps K H ds vs F->p∉F->Rps K (upd H p (.lst ys)) ds vs F
 | [],_,_,h,_=>h
 | d::ds,_,_,h,hn=>by
  simp only[Rps]at h ⊢
  obtain⟨v,ws,F1,F2,e,eF,r,q⟩:=h
  subst eF
  exact⟨v,ws,F1,F2,e,rfl,Rp.upd hp r λz=>hn (Zh _ z),Rps.upd hp q λz=>hn (Zd _ z)⟩
end
mutual
theorem Rp.mem:∀{d:D}{v:V}{F:List Addr},Rp K H d v F->∀a∈F,∃vs,H a=some (.lst vs)
 | .non,_,_,h,a,ha=>by simp only[Rp]at h;rw[h.2]at ha;simp at ha
 | .bl _,_,_,h,a,ha=>by simp only[Rp]at h;rw[h.2]at ha;simp at ha
 | .int _,_,_,h,a,ha=>by simp only[Rp]at h;rw[h.2]at ha;simp at ha
 | .str _,_,_,h,a,ha=>by simp only[Rp]at h;rw[h.2]at ha;simp at ha
 | .exc _,_,_,h,a,ha=>by simp only[Rp]at h;rw[h.2]at ha;simp at ha
 | .tup ds,_,_,h,a,ha=>by
  simp only[Rp]at h
  obtain⟨_,vs,e,q,r⟩:=h
  exact Rps.mem r a ha
 | .lst ds,_,_,h,a,ha=>by
  simp only[Rp]at h
  obtain⟨_,b,vs,e,⟨G,eF,q,r⟩ | ⟨q,r⟩⟩:=h
  ·subst eF
   rcases Zl.mp ha with z | z
   ·exact⟨vs,by rw[z];exact q⟩
   ·exact Rps.mem r a z
  ·exact Rps.mem r a ha
theorem Rps.mem:∀{ds:List D}{vs:List V}{F:List Addr},Rps K H ds vs F->∀a∈F,∃vs,H a=some (.lst vs)
 | [],_,_,h,a,ha=>by simp only[Rps]at h;rw[h.2]at ha;simp at ha
 | d::ds,_,_,h,a,ha=>by
  simp only[Rps]at h
  obtain⟨v,ws,F1,F2,e,eF,r,q⟩:=h
  subst eF
  rcases ZM.mp ha with z | z
  ·exact Rp.mem r a z
  ·exact Rps.mem q a z
end
mutual
theorem Rp.Qcr:∀{d:D}{v:V}{F:List Addr},Rp K H d v F->d.flat=true->F=[]
 | .non,_,_,h,_=>by simp only[Rp]at h;exact h.2
 | .bl _,_,_,h,_=>by simp only[Rp]at h;exact h.2
 | .int _,_,_,h,_=>by simp only[Rp]at h;exact h.2
 | .str _,_,_,h,_=>by simp only[Rp]at h;exact h.2
 | .exc _,_,_,h,_=>by simp only[Rp]at h;exact h.2
 | .tup ds,_,_,h,hf=>by
  simp only[Rp]at h
  simp only[D.flat]at hf
  obtain⟨_,vs,e,q,r⟩:=h
  exact Rps.Qcr r hf
 | .lst ds,_,_,h,hf=>by simp[D.flat]at hf
theorem Rps.Qcr:∀{ds:List D}{vs:List V}{F:List Addr},Rps K H ds vs F->QZ ds=true->F=[]
 | [],_,_,h,_=>by simp only[Rps]at h;exact h.2
 | d::ds,_,_,h,hf=>by
  simp only[Rps]at h
  simp only[QZ,Zi]at hf
  obtain⟨v,ws,F1,F2,e,eF,r,q⟩:=h
  rw[eF,Rp.Qcr r hf.1,Rps.Qcr q hf.2];rfl
end
mutual
theorem Rp.Qao:∀{d:D}{v:V}{F:List Addr},Rp K H d v F->F.length<=d.nl
 | .non,_,_,h=>by simp only[Rp]at h;rw[h.2];exact ZT _
 | .bl _,_,_,h=>by simp only[Rp]at h;rw[h.2];exact ZT _
 | .int _,_,_,h=>by simp only[Rp]at h;rw[h.2];exact ZT _
 | .str _,_,_,h=>by simp only[Rp]at h;rw[h.2];exact ZT _
 | .exc _,_,_,h=>by simp only[Rp]at h;rw[h.2];exact ZT _
 | .tup ds,_,_,h=>by
  simp only[Rp]at h
  obtain⟨_,vs,e,q,r⟩:=h
  simp only[D.nl]
  exact Rps.Qao r
 | .lst ds,_,_,h=>by
  simp only[Rp]at h
  simp only[D.nl]
  obtain⟨_,b,vs,e,⟨G,eF,q,r⟩ | ⟨q,r⟩⟩:=h
  ·rw[eF,ZS];have:=Rps.Qao r;omega
  ·have:=Rps.Qao r;omega
theorem Rps.Qao:∀{ds:List D}{vs:List V}{F:List Addr},Rps K H ds vs F->F.length<=nls ds
 | [],_,_,h=>by simp only[Rps]at h;rw[h.2];exact ZT _
 | d::ds,_,_,h=>by
  simp only[Rps]at h
  obtain⟨v,ws,F1,F2,e,eF,r,q⟩:=h
  simp only[nls]
  rw[eF,Zx]
  have:=Rp.Qao r
  have:=Rps.Qao q
  omega
end
theorem Rps.length:∀{ds:List D}{vs:List V}{F:List Addr},Rps K H ds vs F->ds.length=vs.length
 | [],_,_,h=>by simp only[Rps]at h;rw[h.1];rfl
 | d::ds,_,_,h=>by
  simp only[Rps]at h
  obtain⟨v,ws,F1,F2,e,eF,r,q⟩:=h
  rw[e,ZS,ZS,Rps.length q]
theorem Rps.append:∀{ds es:List D}{vs ws:List V}{F G:List Addr},Rps K H ds vs F->Rps K H es ws G->Rps K H (ds++es) (vs++ws) (F++G)
 | [],_,_,_,_,_,h,g=>by simp only[Rps]at h;rw[h.1,h.2];exact g
 | d::ds,_,_,_,_,_,h,g=>by
  simp only[Rps,Zbv]at h ⊢
  obtain⟨v,ws,F1,F2,e,eF,r,q⟩:=h
  subst e eF
  exact⟨v,_,F1,_,rfl,by rw[ZaS],r,Rps.append q g⟩
theorem Rps.get:∀{ds:List D}{vs:List V}{F:List Addr}{i:Nat}{d:D},Rps K H ds vs F->ds[i]? =some d->∃v F1 G F2,vs[i]? =some v/\F=F1++(G++F2)/\Rp K H d v G/\(F.length=nls ds->G.length=d.nl)
 | [],_,_,_,_,_,e=>by simp at e
 | d::ds,_,_,0,_,h,e=>by
  simp only[Rps]at h
  obtain⟨v,ws,F1,F2,e1,eF,r,q⟩:=h
  simp at e;subst e e1 eF
  refine⟨v,[],F1,F2,by simp,rfl,r,λhl=>?_⟩
  simp only[nls,Zx]at hl
  have:=Rp.Qao r
  have:=Rps.Qao q
  omega
 | d::ds,_,_,i+1,_,h,e=>by
  simp only[Rps]at h
  obtain⟨v,ws,F1,F2,e1,eF,r,q⟩:=h
  obtain⟨v',G1,G,G2,h1,h2,h3,h4⟩:=Rps.get q (i:=i) (by simpa using e)
  have l1:=Rp.Qao r
  have l2:=Rps.Qao q
  subst e1 eF
  refine⟨v',F1++G1,G,G2,by simpa using h1,by rw[h2,ZaS],h3,λhl=>h4 ?_⟩
  simp only[nls,Zx]at hl
  omega
theorem Fix.sq{K:PySem.W.Frag}{H:Hp}{a:Addr}{vs:List V}(h:Fix K H a vs):SqL K H a vs:=by
 rcases h with⟨o,h⟩ | ⟨its,n,h,hz,r⟩
 ·exact .inl (.inr ⟨o,h⟩)
 ·exact .inr ⟨_,its.toArray,n,h,rfl,rfl,rfl,by rw[Zv,← r.length];exact hz,by simpa using r⟩
theorem _root_.L2.Inv.Qnx{X:Cx}{pins:List (Addr×Obj)}{σ:L2.St}{H:Hp}{s:Shared}{a:Addr}{vs:List V}(I:Inv X pins σ H s)(h:H a=some (.lst vs)∨Fix X.K H a vs):
  vs.length<=sizeLine/\∃(its:List Value) (n:Nat),Qz vs its/\vs.length=its.length/\s.heap.get? a=some {cls:= .type "list",data:= .seq its.toArray n}:=by
 rcases h with h | ⟨o,h⟩ | ⟨its,n,h,hz,r⟩
 ·exact I.Qsr h
 ·obtain⟨e,hz,its,n,r,e2⟩:=I.hok a _ h
  exact⟨hz,its,n,r,r.length,e2⟩
 ·exact⟨hz,its,n,r,r.length,I.kIn _ _ h⟩
theorem Rp.lst_inv{K:PySem.W.Frag}{H:Hp}{ds:List D}{v:V}{F:List Addr}(h:Rp K H (.lst ds) v F):
  ∃a vs G,v= .ref a/\(H a=some (.lst vs)∨Fix K H a vs)/\Rps K H ds vs G/\ds.length<=sizeLine/\(F=a::G∨F=G):=by
 simp only[Rp]at h
 obtain⟨hz,a,vs,e,⟨G,eF,q,r⟩ | ⟨q,r⟩⟩:=h
 ·exact⟨a,vs,G,e,.inl q,r,hz,.inl eF⟩
 ·exact⟨a,vs,F,e,.inr q,r,hz,.inr rfl⟩
theorem Q6{K:PySem.W.Frag}{H:Hp}{a:Addr}{vs:List V}(h:H a=some (.lst vs)∨Fix K H a vs):SqL K H a vs:=h.elim (λh=>SqL.of h) Fix.sq
theorem Rp.Qbj{K:PySem.W.Frag}{H:Hp}{ds:List D}{v:V}{F:List Addr}(h:Rp K H (.tup ds) v F):∃a vs,v= .ref a/\SqT K H a vs/\Rps K H ds vs F:=by
 simp only[Rp]at h
 exact h
theorem Rp.Qd1{K:PySem.W.Frag}{H:Hp}{ds:List D}{a:Addr}{vs:List V}{G:List Addr}(h:H a=some (.lst vs))(r:Rps K H ds vs G)(hz:ds.length<=sizeLine):Rp K H (.lst ds) (.ref a) (a::G):=by
 simp only[Rp]
 exact⟨hz,a,vs,rfl,.inl ⟨G,rfl,h,r⟩⟩
theorem Rp.Qho{K:PySem.W.Frag}{H:Hp}{ds:List D}{a:Addr}{vs:List V}{G:List Addr}(h:H a=some (.tup vs))(r:Rps K H ds vs G):Rp K H (.tup ds) (.ref a) G:=by
 simp only[Rp]
 exact⟨a,vs,rfl,SqT.of h,r⟩
theorem Rp.int_inv{K:PySem.W.Frag}{H:Hp}{i:Int}{v:V}{F:List Addr}(h:Rp K H (.int i) v F):v= .int i:=by simp only[Rp]at h;exact h.1
theorem Rp.Qib{K:PySem.W.Frag}{H:Hp}{i:Bool}{v:V}{F:List Addr}(h:Rp K H (.bl i) v F):v= .bl i:=by simp only[Rp]at h;exact h.1
theorem Rp.Qli{K:PySem.W.Frag}{H:Hp}{v:V}{F:List Addr}(h:Rp K H .non v F):v= .non:=by simp only[Rp]at h;exact h.1
theorem Rp.str_inv{K:PySem.W.Frag}{H:Hp}{i:Str}{v:V}{F:List Addr}(h:Rp K H (.str i) v F):v= .str i:=by simp only[Rp]at h;exact h.1
theorem Rp.int_mk{K:PySem.W.Frag}{H:Hp}{i:Int}:Rp K H (.int i) (.int i) []:=by simp[Rp]
theorem Rp.QcO{K:PySem.W.Frag}{H:Hp}{i:Bool}:Rp K H (.bl i) (.bl i) []:=by simp[Rp]
theorem Rp.Qhs{K:PySem.W.Frag}{H:Hp}:Rp K H .non .non []:=by simp[Rp]
theorem Rp.str_mk{K:PySem.W.Frag}{H:Hp}{i:Str}:Rp K H (.str i) (.str i) []:=by simp[Rp]
theorem Qbr{H:Hp}{p:Addr}{o:HO}(h:H p=none):QH H (L2.upd H p o):=λb u e=>by rw[QF (QbM e h)];exact e
end
end HS
namespace HS
open PySem PySem.Spec L2
noncomputable abbrev En:=List (Option (D×Bool))
structure R where
 d:D
 fr:Bool
 M:List Nat
structure RA where
 ds:List D
 fr:Bool
 M:List Nat
noncomputable abbrev DE:=En->Option R
noncomputable abbrev DA:=En->Option RA
noncomputable abbrev DT:=En->Option Bool
structure Rel (K:PySem.W.Frag) (H0:Hp) (A0:List Addr) (hs:List (V×D×List Addr)) (ρ:En) (F:Nat->List Addr) (σ:St) (H:Hp):Prop where
 len:ρ.length=σ.length
 val:∀(i:Nat) d b,ρ[i]? =some (some (d,b))->∃v,σ[i]? =some (some v)/\Rp K H d v (F i)
 own:∀(i:Nat) d,ρ[i]? =some (some (d,true))->(F i).length=d.nl/\(F i).Nodup/\(∀a∈F i,H0 a=none)/\(∀(j:Nat) d' b',j≠i->ρ[j]? =some (some (d',b'))->∀a∈F i,a∉F j)/\∀t∈hs,∀a∈F i,a∉t.2.2
 src:∀(i:Nat) d b,ρ[i]? =some (some (d,b))->∀a∈F i,H0 a=none∨a∈A0
 held:∀t∈hs,Rp K H t.2.1 t.1 t.2.2/\∀a∈t.2.2,H0 a=none∨a∈A0
 same:QH H0 H
def Src(ρ:En)(F:Nat->List Addr)(H:Hp)(M:List Nat)(G:List Addr):Prop:=
 ∀a∈G,H a=none∨∃(i:Nat) (d:D) (b:Bool),ρ[i]? =some (some (d,b))/\a∈F i/\(b=true->i∈M)
noncomputable def nw(H:Hp)(a:Addr):Nat:=match H a with | none=>1 | some _=>0
def Cnt(F:Nat->List Addr)(H:Hp)(M:List Nat)(G:List Addr):Prop:=
 ∀a,G.count a<=nw H a+((M.map F).flatten).count a
def Qa8(ρ:En)(M:List Nat):Prop:=∀i∈M,∃d,ρ[i]? =some (some (d,true))
structure Q2 (K:PySem.W.Frag) (ρ:En) (F:Nat->List Addr) (H H':Hp) (r:R) (v:V) (G:List Addr):Prop where
 same:QH H H'
 rp:Rp K H' r.d v G
 src:Src ρ F H r.M G
 cnt:r.fr=true->Cnt F H r.M G/\G.length=r.d.nl
 own:Qa8 ρ r.M
structure Qpj (K:PySem.W.Frag) (ρ:En) (F:Nat->List Addr) (H H':Hp) (r:RA) (vs:List V) (G:List Addr):Prop where
 same:QH H H'
 rp:Rps K H' r.ds vs G
 src:Src ρ F H r.M G
 cnt:r.fr=true->Cnt F H r.M G/\G.length=nls r.ds
 own:Qa8 ρ r.M
noncomputable def tV(K:PySem.W.Frag)(H0:Hp)(A0:List Addr)(f:DE):TE:=λσ H Q=>∃ρ hs F r,Rel K H0 A0 hs ρ F σ H/\f ρ=some r/\∀v H' G,Q2 K ρ F H H' r v G->Q v H'
noncomputable def tVA(K:PySem.W.Frag)(H0:Hp)(A0:List Addr)(f:DA):TA:=λσ H Q=>∃ρ hs F r,Rel K H0 A0 hs ρ F σ H/\f ρ=some r/\∀v H' G,Qpj K ρ F H H' r v G->Q v H'
noncomputable def tVT(K:PySem.W.Frag)(H0:Hp)(A0:List Addr)(f:DT):TT:=λσ H Q=>∃ρ hs F b,Rel K H0 A0 hs ρ F σ H/\f ρ=some b/\∀H',QH H H'->Q b H'
def SE(X:Cx)(e:Expr)(f:DE):Prop:=∀H0 A0,PE X e (tV X.K H0 A0 f)
def SA(X:Cx)(es:List Expr)(f:DA):Prop:=∀H0 A0,PA X es (tVA X.K H0 A0 f)
def ST(X:Cx)(e:Expr)(f:DT):Prop:=∀H0 A0,PT X e (tVT X.K H0 A0 f)
theorem _root_.L2.PE.mono{X:Cx}{e:Expr}{t t':TE}(h:PE X e t)(m:∀σ H Q,t' σ H Q->t σ H Q):PE X e t':=λpins s σ H Q I q=>h pins s σ H Q I (m σ H Q q)
theorem _root_.L2.PT.mono{X:Cx}{e:Expr}{t t':TT}(h:PT X e t)(m:∀σ H Q,t' σ H Q->t σ H Q):PT X e t':=λpins s σ H Q I q=>h pins s σ H Q I (m σ H Q q)
theorem _root_.L2.PA.mono{X:Cx}{e:List Expr}{t t':TA}(h:PA X e t)(m:∀σ H Q,t' σ H Q->t σ H Q):PA X e t':=λpos pins s σ H Q I q=>h pos pins s σ H Q I (m σ H Q q)
section
variable {K:PySem.W.Frag}{H0 H H':Hp}{A0:List Addr}{hs:List (V×D×List Addr)}{ρ:En}{F:Nat->List Addr}{σ:St}
theorem Rel.ext(r:Rel K H0 A0 hs ρ F σ H)(s:QH H H'):Rel K H0 A0 hs ρ F σ H' where
 len:=r.len
 val:=λi d b e=>let ⟨v,h1,h2⟩:=r.val i d b e;⟨v,h1,h2.same s⟩
 own:=r.own
 src:=r.src
 held:=λt ht=>⟨(r.held t ht).1.same s,(r.held t ht).2⟩
 same:=r.same.trans s
theorem Rel.mem(r:Rel K H0 A0 hs ρ F σ H){i:Nat}{d:D}{b:Bool}(e:ρ[i]? =some (some (d,b))){a:Addr}(h:a∈F i):∃vs,H a=some (.lst vs):=
 let ⟨_,_,h2⟩:=r.val i d b e;h2.mem a h
theorem Qdg{a:Addr}{o:HO}(h:H a=some o):nw H a=0:=by simp[nw,h]
theorem Qbk{a:Addr}(h:H a=none):nw H a=1:=by simp[nw,h]
theorem Rel.fl0(r:Rel K H0 A0 hs ρ F σ H){M:List Nat}(ow:Qa8 ρ M){a:Addr}(h:H a=none):((M.map F).flatten).count a=0:=by
 rw[ZH]
 intro hm
 obtain⟨l,hl,ha⟩:=Zbh.mp hm
 obtain⟨i,hi,rfl⟩:=Zao.mp hl
 obtain⟨d,e⟩:=ow i hi
 obtain⟨vs,q⟩:=r.mem e ha
 rw[h]at q;cases q
theorem Cnt.append(r:Rel K H0 A0 hs ρ F σ H){H1:Hp}{M1 M2:List Nat}{G1 G2:List Addr}(c1:Cnt F H M1 G1)(c2:Cnt F H1 M2 G2)(s:QH H H1)(m1:∀a∈G1,∃vs,H1 a=some (.lst vs)):Cnt F H (M1++M2) (G1++G2):=λa=>by
 rw[Zaj,ZaX,List.flatten_append,Zaj]
 have h1:=c1 a
 have h2:=c2 a
 cases q:H1 a with
 | some o=>rw[Qdg q]at h2;omega
 | none=>
  rw[Qbk q]at h2
  have h3:H a=none:=s.free q
  rw[Qbk h3]at h1 ⊢
  have h4:G1.count a=0:=ZH.mpr λhm=>by obtain⟨vs,z⟩:=m1 a hm;rw[q]at z;cases z
  omega
theorem Src.append{H1:Hp}{M1 M2:List Nat}{G1 G2:List Addr}(c1:Src ρ F H M1 G1)(c2:Src ρ F H1 M2 G2)(s:QH H H1):Src ρ F H (M1++M2) (G1++G2):=λa ha=>by
 rcases ZM.mp ha with h | h
 ·rcases c1 a h with z | ⟨i,d,b,e,m,w⟩
  ·exact .inl z
  ·exact .inr ⟨i,d,b,e,m,λhb=>Zh _ (w hb)⟩
 ·rcases c2 a h with z | ⟨i,d,b,e,m,w⟩
  ·exact .inl (s.free z)
  ·exact .inr ⟨i,d,b,e,m,λhb=>Zd _ (w hb)⟩
theorem Qa8.append{M1 M2:List Nat}(h1:Qa8 ρ M1)(h2:Qa8 ρ M2):Qa8 ρ (M1++M2):=λi hi=>(ZM.mp hi).elim (h1 i) (h2 i)
theorem Qa8.nil:Qa8 ρ []:=λi hi=>by simp at hi
theorem Src.nil{M:List Nat}:Src ρ F H M []:=λa ha=>by simp at ha
theorem Cnt.nil{M:List Nat}:Cnt F H M []:=λa=>by simp
theorem Q2.flat{d:D}{v:V}(s:QH H H')(r:Rp K H' d v [])(hf:d.flat=true:=by rfl):Q2 K ρ F H H' ⟨d,true,[]⟩ v []:=⟨s,r,Src.nil,λ_=>⟨Cnt.nil,(Qfa d hf).symm⟩,Qa8.nil⟩
theorem Q2.sub{r:R}{v u:V}{d:D}{G G':List Addr}{H1:Hp}(p:Q2 K ρ F H H1 r v G)(rp:Rp K H1 d u G')(hs:∀a,G'.count a<=G.count a)(hn:G.length=r.d.nl->G'.length=d.nl):Q2 K ρ F H H1 ⟨d,r.fr,r.M⟩ u G' where
 same:=p.same
 rp:=rp
 src:=λa ha=>p.src a (by
  have:=hs a
  have h1:0<G'.count a:=ZZ.mpr ha
  exact ZZ.mp (by omega))
 cnt:=λh=>⟨λa=>Zq (hs a) ((p.cnt h).1 a),hn (p.cnt h).2⟩
 own:=p.own
noncomputable def R.norm(r:R):R:=if r.d.flat then⟨r.d,true,[]⟩else r
theorem R.Qcw(r:R):r.norm.d=r.d:=by unfold R.norm;split<;>rfl
theorem Q2.norm{r:R}{v:V}{G:List Addr}(p:Q2 K ρ F H H' r v G):Q2 K ρ F H H' r.norm v G:=by
 unfold R.norm
 split
 ·rename_i h
  have:=p.rp.Qcr h
  subst this
  exact .flat p.same p.rp h
 ·exact p
end
noncomputable def Qa(i:Nat):DE:=λρ=>match ρ[i]? with
 | some (some (d,b))=>if d.flat then some ⟨d,true,[]⟩else if b then some ⟨d,true,[i]⟩else some ⟨d,false,[]⟩
 | _=>none
noncomputable def dC(d:D):DE:=λ_=>some ⟨d,true,[]⟩
section
variable {X:Cx}
theorem Qdt{i:Nat}{x:Str}{pos:Pos}(h:PE X (.Name x pos) (Qf6 i)):SE X (.Name x pos) (Qa i):=λH0 A0=>h.mono λσ H Q ⟨ρ,hs,F,r,rel,e,q⟩=>by
 unfold Qa at e
 split at e
 ·rename_i d b q1
  obtain⟨v,h1,h2⟩:=rel.val i d b q1
  refine⟨v,h1,q v H (F i) ?_⟩
  split at e
  ·rename_i hf
   cases e
   have:=h2.Qcr hf
   rw[this]at h2 ⊢
   exact .flat (QH.refl _) h2 hf
  ·split at e
   ·rename_i hb
    cases e
    subst hb
    exact⟨QH.refl _,h2,λa ha=> .inr ⟨i,d,true,q1,ha,λ_=>by simp⟩,λ_=>⟨λa=>(by simp),(rel.own i d q1).1⟩,λj hj=>by simp at hj;subst hj;exact⟨d,q1⟩⟩
   ·rename_i hb
    cases e
    simp at hb
    subst hb
    exact⟨QH.refl _,h2,λa ha=> .inr ⟨i,d,false,q1,ha,λz=>by cases z⟩,λz=>(by cases z),Qa8.nil⟩
 ·cases e
theorem QiW{e:Expr}{d:D}{v:V}(h:PE X e (tC v))(r:∀K H,Rp K H d v [])(hf:d.flat=true):SE X e (dC d):=λH0 A0=>h.mono λσ H Q ⟨ρ,hs,F,r',rel,e,q⟩=>by
 cases e
 exact q v H [] (.flat (QH.refl _) (r _ _) hf)
theorem two{K:PySem.W.Frag}{H0:Hp}{A0:List Addr}{fa fb:DE}{σ:St}{H:Hp}{hs:List (V×D×List Addr)}{ρ:En}{F:Nat->List Addr}{ra rb:R}{Rr:V->V->Hp->Prop}(rel:Rel K H0 A0 hs ρ F σ H)(ea:fa ρ=some ra)(eb:fb ρ=some rb)
  (k:∀x y H1 H2 G1 G2,Q2 K ρ F H H1 ra x G1->Q2 K ρ F H1 H2 rb y G2->Rr x y H2):tV K H0 A0 fa σ H λx H1=>tV K H0 A0 fb σ H1 λy H2=>Rr x y H2:=
 ⟨ρ,hs,F,ra,rel,ea,λx H1 G1 p1=>⟨ρ,hs,F,rb,rel.ext p1.same,eb,λy H2 G2 p2=>k x y H1 H2 G1 G2 p1 p2⟩⟩
noncomputable def dOp(g:D->D->Option D)(fa fb:DE):DE:=λρ=>(fa ρ).bind λra=>(fb ρ).bind λrb=>(g ra.d rb.d).map λd=>⟨d,true,[]⟩
theorem Qk5{g:D->D->Option D}{fa fb:DE}{ρ:En}{r:R}(e:dOp g fa fb ρ=some r):∃ra rb d,fa ρ=some ra/\fb ρ=some rb/\g ra.d rb.d=some d/\r=⟨d,true,[]⟩:=by
 unfold dOp at e
 cases h1:fa ρ with
 | none=>rw[h1]at e;cases e
 | some ra=>
  cases h2:fb ρ with
  | none=>rw[h1,h2]at e;cases e
  | some rb=>
   rw[h1,h2]at e
   cases h3:g ra.d rb.d with
   | none=>simp[h3]at e
   | some d=>simp[h3]at e;exact⟨ra,rb,d,rfl,rfl,h3,e.symm⟩
def Qdl(K:PySem.W.Frag)(g:D->D->Option D)(r:R2):Prop:=∀a b d,g a b=some d->d.flat=true/\∀H x y F G (Q:VK),Rp K H a x F->Rp K H b y G->(∀v,(∀H',Rp K H' d v [])->Q v H)->r x y H Q
theorem Qme{a b:Expr}{op:Operator}{pos:Pos}{fa fb:DE}{g:D->D->Option D}{r:R2}(ho:OpR X (binaryOp op) r)(hg:Qdl X.K g r)(ha:SE X a fa)(hb:SE X b fb):SE X (.BinOp a op b pos) (dOp g fa fb):=λH0 A0=>
 (QpB ho (ha H0 A0) (hb H0 A0)).mono λσ H Q ⟨ρ,hs,F,r',rel,e,q⟩=>by
  obtain⟨ra,rb,d,ea,eb,eg,rfl⟩:=Qk5 e
  refine two rel ea eb λx y H1 H2 G1 G2 p1 p2=>(hg _ _ _ eg).2 H2 x y G1 G2 Q (p1.rp.same p2.same) p2.rp λv hv=>?_
  exact q v H2 [] (.flat (p1.same.trans p2.same) (hv H2) (hg _ _ _ eg).1)
theorem Qnc{a b:Expr}{op:CmpOp}{pos:Pos}{fa fb:DE}{g:D->D->Option D}{r:R2}(ho:OpR X (compareOp op) r)(hg:Qdl X.K g r)(ha:SE X a fa)(hb:SE X b fb)(hm:behindInMarks op b=false):SE X (.Compare a [op] [b] pos) (dOp g fa fb):=λH0 A0=>
 (Qvj ho (ha H0 A0) (hb H0 A0) hm).mono λσ H Q ⟨ρ,hs,F,r',rel,e,q⟩=>by
  obtain⟨ra,rb,d,ea,eb,eg,rfl⟩:=Qk5 e
  refine two rel ea eb λx y H1 H2 G1 G2 p1 p2=>(hg _ _ _ eg).2 H2 x y G1 G2 Q (p1.rp.same p2.same) p2.rp λv hv=>?_
  exact q v H2 [] (.flat (p1.same.trans p2.same) (hv H2) (hg _ _ _ eg).1)
end
end HS
namespace HS
open PySem PySem.Spec L2
noncomputable def Qeo(i j:Int):Int:=if 0<=j then i / j else i.fdiv j
noncomputable def QcW(i j:Int):Int:=if 0<=j then i % j else i.fmod j
theorem QkE(i j:Int):Qeo i j=i.fdiv j:=by
 unfold Qeo;split
 ·rw[Int.fdiv_eq_ediv_of_nonneg _ (by assumption)]
 ·rfl
theorem Qll(i j:Int):QcW i j=i.fmod j:=by
 unfold QcW;split
 ·rw[Int.fmod_eq_emod_of_nonneg _ (by assumption)]
 ·rfl
noncomputable def Qd5(i j:Int):Bool:=decide (i.natAbs<2^64) || decide (j.natAbs<2^64) || (decide (Builtin.Int.intBits i<=2^20) && decide (Builtin.Int.intBits j<=2^20))
noncomputable def Qdc(j:Int):Bool:=decide (j≠0) && decide (j.natAbs<2^8000)
noncomputable def gI(f:Int->Int->Option D)(a b:D):Option D:=match a,b with
 | .int i,.int j=>f i j
 | _,_=>none
noncomputable def Qa9:=gI λi j=>some (.int (i-j))
noncomputable def Qcn:=gI λi j=>if Qdc j then some (.int (Qeo i j))else none
noncomputable def Qco:=gI λi j=>if j≠0 then some (.int (QcW i j))else none
noncomputable def QhY:=gI λi j=>if 0<=j/\j<=1000/\i.natAbs<2^200 then some (.int (i^j.toNat))else none
noncomputable def gLt:=gI λi j=>some (.bl (decide (i<j)))
noncomputable def gLe:=gI λi j=>some (.bl (decide (i<=j)))
noncomputable def gGt:=gI λi j=>some (.bl (decide (j<i)))
noncomputable def gGe:=gI λi j=>some (.bl (decide (j<=i)))
theorem Qp6{f:Int->Int->Option D}{a b d:D}(h:gI f a b=some d):∃i j,a= .int i/\b= .int j/\f i j=some d:=by
 unfold gI at h
 split at h
 ·exact⟨_,_,rfl,rfl,h⟩
 ·cases h
section
variable {K:PySem.W.Frag}{X:Cx}
theorem Qhv{f:Int->Int->Option D}{r:R2}(hf:∀i j d,f i j=some d->d.flat=true)(h:∀i j d,f i j=some d->∀H (Q:VK),(∀v,(∀H',Rp K H' d v [])->Q v H)->r (.int i) (.int j) H Q):Qdl K (gI f) r:=λa b d e=>by
 obtain⟨i,j,rfl,rfl,ef⟩:=Qp6 e
 refine⟨hf i j d ef,λH x y F G Q ha hb q=>?_⟩
 rw[ha.int_inv,hb.int_inv]
 exact h i j d ef H Q q
theorem QvP:Qdl K Qa9 (rI0 λi j=> .int (i-j)):=Qhv (λi j d e=>by cases e;rfl) λi j d e H Q q=>by cases e;exact⟨i,j,rfl,rfl,q _ λ_=> .int_mk⟩
theorem QrM{i j:Int}(h:Qd5 i j=true):IntMulOk i j:=by
 have small:∀k:Int,k.natAbs<2^64->Builtin.Int.intBits k<=64:=λk hk=>by
  unfold Builtin.Int.intBits
  split
  ·omega
  ·rename_i h0;have h0':k.natAbs≠0:=λz=>by simp_all
   have:=(Nat.log2_lt h0').mpr hk;omega
 unfold Qd5 at h
 simp only[ZbH,Zi,decide_eq_true_eq]at h
 rcases h with(h | h) | ⟨h1,h2⟩
 ·exact .of_left (small i h)
 ·exact .of_right (small j h)
 ·exact .of_bits h1 h2
theorem QuB:OpR X (binaryOp .Mult) (rI (λi j=>Qd5 i j=true) λi j=> .int (i*j)):=opI λ_ _ _ _ _ _ _ hc q=>PyProof.Rows.mul_int q (QrM hc)
theorem Qt0:OpR X (binaryOp .FloorDiv) (rI (λi j=>Qdc j=true) λi j=> .int (Qeo i j)):=opI λi j _ _ _ _ _ hc q=>by
 unfold Qdc at hc
 simp only[Zi,decide_eq_true_eq]at hc
 rw[QkE]at q
 refine PyProof.Rows.floordiv_int hc.1 q (.inl (Zbs ?_))
 have h0:j.natAbs≠0:=by omega
 exact ZbC ((Nat.log2_lt h0).mpr hc.2) (by decide)
theorem Qvv:OpR X (binaryOp .Mod) (rI (λi j=>j≠0) λi j=> .int (QcW i j)):=opI λi j _ _ _ _ _ hc q=>by
 rw[Qll]at q
 exact PyProof.Rows.mod_int' hc q
theorem QvZ:Qdl K Qcn (rI (λi j=>Qdc j=true) λi j=> .int (Qeo i j)):=Qhv (λi j d e=>by split at e<;>cases e;rfl) λi j d e H Q q=>by
 split at e
 ·cases e;exact⟨i,j,rfl,rfl,by assumption,q _ λ_=> .int_mk⟩
 ·cases e
theorem Qwd:Qdl K Qco (rI (λi j=>j≠0) λi j=> .int (QcW i j)):=Qhv (λi j d e=>by split at e<;>cases e;rfl) λi j d e H Q q=>by
 split at e
 ·cases e;exact⟨i,j,rfl,rfl,by assumption,q _ λ_=> .int_mk⟩
 ·cases e
theorem Qvo:OpR X (binaryOp .Pow) (rI (λi j=>0<=j/\j<=1000/\i.natAbs<2^200) λi j=> .int (i^j.toNat)):=opI λi j _ _ _ _ _ hc q=>by
 refine PyProof.Rows.pow_int hc.1 ?_ q
 have hb:Builtin.Int.intBits i<=200:=by
  unfold Builtin.Int.intBits
  split
  ·omega
  ·rename_i h0;have h0':i.natAbs≠0:=λz=>by simp_all
   have:=(Nat.log2_lt h0').mpr hc.2.2;omega
 have h1:((Builtin.Int.intBits i:Nat):Int)*j<=200*1000:=Int.mul_le_mul (by omega) hc.2.1 hc.1 (by decide)
 omega
theorem QvR:Qdl K QhY (rI (λi j=>0<=j/\j<=1000/\i.natAbs<2^200) λi j=> .int (i^j.toNat)):=Qhv (λi j d e=>by split at e<;>cases e;rfl) λi j d e H Q q=>by
 split at e
 ·rename_i h;cases e;exact⟨i,j,rfl,rfl,h,q _ λ_=> .int_mk⟩
 ·cases e
theorem QxW:Qdl K gLt (rI0 λi j=> .bl (decide (i<j))):=Qhv (λi j d e=>by cases e;rfl) λi j d e H Q q=>by cases e;exact⟨i,j,rfl,rfl,q _ λ_=> .QcO⟩
theorem QxY:Qdl K gLe (rI0 λi j=> .bl (decide (i<=j))):=Qhv (λi j d e=>by cases e;rfl) λi j d e H Q q=>by cases e;exact⟨i,j,rfl,rfl,q _ λ_=> .QcO⟩
theorem Qx1:Qdl K gGt (rI0 λi j=> .bl (decide (j<i))):=Qhv (λi j d e=>by cases e;rfl) λi j d e H Q q=>by cases e;exact⟨i,j,rfl,rfl,q _ λ_=> .QcO⟩
theorem QxL:Qdl K gGe (rI0 λi j=> .bl (decide (j<=i))):=Qhv (λi j d e=>by cases e;rfl) λi j d e H Q q=>by cases e;exact⟨i,j,rfl,rfl,q _ λ_=> .QcO⟩
end
theorem QbY:∀(xs ys:List D),QZ (xs++ys)=(QZ xs && QZ ys)
 | [],ys=>by simp[QZ]
 | x::xs,ys=>by simp[QZ,QbY xs ys,Bool.and_assoc]
noncomputable def Qa2(ds:List D)(M:List Nat):R:=if QZ ds then⟨.lst ds,true,[]⟩else⟨.lst ds,false,M⟩
section
variable {K:PySem.W.Frag}{H0 H H':Hp}{A0:List Addr}{hs:List (V×D×List Addr)}{ρ:En}{F:Nat->List Addr}{σ:L2.St}
theorem Q2.Qa2{ds:List D}{M:List Nat}{vs:List V}{G:List Addr}{H1:Hp}{p:Addr}(s:QH H H1)(hp:H1 p=none)(r:Rps K H1 ds vs G)(hz:ds.length<=sizeLine)(src:Src ρ F H M G)(ow:Qa8 ρ M):
  Q2 K ρ F H (upd H1 p (.lst vs)) (Qa2 ds M) (.ref p) (p::G):=by
 have s2:QH H1 (upd H1 p (.lst vs)):=Qbr hp
 have rp:Rp K (upd H1 p (.lst vs)) (.lst ds) (.ref p) (p::G):=Rp.Qd1 Q1 (r.same s2) hz
 have hH:H p=none:=s.free hp
 unfold HS.Qa2
 split
 ·rename_i hf
  have:=r.Qcr hf
  subst this
  refine⟨s.trans s2,rp,λa ha=>?_,λ_=>⟨λa=>?_,by simp only[D.nl,Qji ds hf];rfl⟩,Qa8.nil⟩
  ·have:a=p:=by simpa using ha
   subst this;exact .inl hH
  ·rw[List.count_singleton]
   split
   ·rename_i e;have e':p=a:=by simpa using e
    subst e';rw[Qbk hH];omega
   ·omega
 ·refine⟨s.trans s2,rp,λa ha=>?_,λz=>(by cases z),ow⟩
  rcases Zl.mp ha with rfl | h
  ·exact .inl hH
  ·exact src a h
end
noncomputable def QX(fa fb:DE):DE:=λρ=>(fa ρ).bind λra=>(fb ρ).bind λrb=>match ra.d,rb.d with
 | .int i,.int j=>some ⟨.int (i+j),true,[]⟩
 | .lst xs,.lst ys=>if xs.length+ys.length<=sizeLine then some (Qa2 (xs++ys) (ra.M++rb.M))else none
 | _,_=>none
noncomputable def QaM(fa fb:DE):DE:=λρ=>(fa ρ).bind λra=>(fb ρ).bind λrb=>match ra.d,rb.d with
 | .int i,.int j=>if Qd5 i j then some ⟨.int (i*j),true,[]⟩else none
 | .lst xs,.int j=>if xs.length*j.toNat<=sizeLine/\ -(2^63)<=j/\j<2^63/\QZ xs=true then some ⟨.lst (List.replicate j.toNat xs).flatten,true,[]⟩else none
 | _,_=>none
theorem QpF{fa fb:DE}{ρ:En}{k:R->R->Option R}{r:R}(e:((fa ρ).bind λra=>(fb ρ).bind λrb=>k ra rb)=some r):∃ra rb,fa ρ=some ra/\fb ρ=some rb/\k ra rb=some r:=by
 cases h1:fa ρ with
 | none=>rw[h1]at e;cases e
 | some ra=>
  cases h2:fb ρ with
  | none=>rw[h1,h2]at e;cases e
  | some rb=>rw[h1,h2]at e;exact⟨ra,rb,rfl,rfl,e⟩
theorem bind1{α β:Type}{x:Option α}{k:α->Option β}{r:β}(e:x.bind k=some r):∃a,x=some a/\k a=some r:=by
 cases x with
 | none=>cases e
 | some a=>exact⟨a,rfl,e⟩
section
variable {X:Cx}{a b:Expr}{fa fb:DE}{pos:Pos}
noncomputable def QxE(K:PySem.W.Frag):R2:=λx y H Q=>∃l c xs zs,x= .ref l/\y= .ref c/\(H l=some (.lst xs)∨Fix K H l xs)/\(H c=some (.lst zs)∨Fix K H c zs)/\xs.length+zs.length<=sizeLine/\∀p,H p=none->Q (.ref p) (upd H p (.lst (xs++zs)))
theorem Qu4:OpR X (binaryOp .Add) (QxE X.K):=by
 intro pins s σ H x y v u Q I rx ry h
 obtain⟨l,c,xs,zs,rfl,rfl,hH,hB,hz,q⟩:=h
 cases rx
 cases ry
 obtain⟨z,its,n,r,hl,e⟩:=I.Qnx hH
 obtain⟨z2,its2,n2,r2,hl2,e2⟩:=I.Qnx hB
 refine PySem.P.add_list e e2 ?_ (by rw[Zv,Zv];omega)
 have ea:its.toArray++its2.toArray=(its++its2).toArray:=by simp
 rw[ea]
 exact⟨.ref _,_,I.Qwj (t':=s.toks) (r.append r2) (by rw[Zx];omega),rfl,q _ I.fresh⟩
theorem Qv4(ha:SE X a fa)(hb:SE X b fb):SE X (.BinOp a .Add b pos) (QX fa fb):=λH0 A0=>
 (QpB (Qwi.or Qu4) (ha H0 A0) (hb H0 A0)).mono λσ H Q ⟨ρ,hs,F,r',rel,e,q⟩=>by
  obtain⟨ra,rb,ea,eb,ek⟩:=QpF e
  refine two rel ea eb λx y H1 H2 G1 G2 p1 p2=>?_
  have p1':=p1.rp.same p2.same
  have p2':=p2.rp
  have c1:=p1.src.append p2.src p1.same
  have o1:=p1.own.append p2.own
  revert ek
  revert p1' p2'
  cases ra.d<;>cases rb.d<;>intro p1' p2' ek<;>first | (cases ek;done) | skip
  ·cases ek
   rw[p1'.int_inv,p2'.int_inv]
   exact .inl ⟨_,_,rfl,rfl,q _ H2 [] (.flat (p1.same.trans p2.same) .int_mk)⟩
  ·rename_i xs ys
   dsimp only at ek
   split at ek
   ·rename_i hz
    cases ek
    obtain⟨l,vs,L1,rfl,hl,rl,zl,el⟩:=p1'.lst_inv
    obtain⟨c,ws,L2',rfl,hc,rc,zc,ec⟩:=p2'.lst_inv
    have n1:=rl.length
    have n2:=rc.length
    refine .inr ⟨l,c,vs,ws,rfl,rfl,hl,hc,by omega,λp hp=>?_⟩
    refine q _ _ (p::(L1++L2')) (Q2.Qa2 (p1.same.trans p2.same) hp (rl.append rc) (by rw[Zx];exact hz) (λa ha=>c1 a ?_) o1)
    rcases ZM.mp ha with h | h
    ·refine Zh _ ?_
     rcases el with rfl | rfl
     ·exact Ze _ h
     ·exact h
    ·refine Zd _ ?_
     rcases ec with rfl | rfl
     ·exact Ze _ h
     ·exact h
   ·cases ek
noncomputable def Qx6(K:PySem.W.Frag):R2:=λx y H Q=>∃l k xs,x= .ref l/\y= .int k/\(H l=some (.lst xs)∨Fix K H l xs)/\ -(2^63)<=k/\k<2^63/\xs.length*k.toNat<=sizeLine∧
 ∀p,H p=none->Q (.ref p) (upd H p (.lst (List.replicate k.toNat xs).flatten))
theorem Qt2:OpR X (binaryOp .Mult) (Qx6 X.K):=by
 intro pins s σ H x y v u Q I rx ry h
 obtain⟨l,k,xs,rfl,rfl,hH,h1,h2,hz,q⟩:=h
 cases rx
 obtain⟨t,rfl⟩:=ry
 obtain⟨z,its,n,r,hl,e⟩:=I.Qnx hH
 have hlen:its.toArray.size*k.toNat<=sizeLine:=by rw[Zv,← hl];exact hz
 have hcap:¬its.toArray.size*k.toNat>(2^63-1) / 8:=by
  have:(sizeLine:Nat)<=(2^63-1) / 8:=by decide
  omega
 have hfit:¬(!Builtin.List.listFitsIndex k)=true:=by
  rw[fitsIndex_both h1 h2]
  exact ZO
 have hlong:¬Builtin.List.listTooLong (its.toArray.size*k.toNat)=true:=by
  rw[Qsy hlen]
  exact ZO
 have hnew:List.foldl (λx1 x2=>x1++x2) #[] (List.replicate (if its.toArray.isEmpty=true then 0 else k.toNat) its.toArray)=(List.replicate k.toNat its).flatten.toArray:=by
  have f0:∀m:Nat,List.foldl (λx1 x2=>x1++x2) #[] (List.replicate m its.toArray)=(List.replicate m its).flatten.toArray:=λm=>by
   have:=foldl_rep its m []
   rw[List.nil_append]at this
   exact this
  rw[f0]
  cases its with
  | nil=>simp
  | cons a r'=>rw[if_neg (by simp)]
 open PyProof.Rows in
 refine wpAny_binaryOp_repeat_ref (T:= "list") (U:= "int") (by decide) ⟨_,e,rfl⟩ (λs'=>typeIs_int s' k t) noFill_list_mul F.fills_int_mul F.slot_int_rmul repeat_list F.slot_int_index.lookup
  (call_meets F.slot_int_rmul (typeIs_int s k t) F.entry_int_rmul (F.args_int_rmul_2 _ _) (int___rmul___int_list k t l its.toArray n)
   ⟨e,rfl,⟨_,e,rfl⟩,call_meets F.slot_list_mul ⟨_,e,rfl⟩ F.entry_list_mul (F.args_list_mul_2 _ _) (AutoListH.list___mul___list_int_3 l its.toArray n k t hfit hcap hlong) ⟨e,?_⟩⟩)
 rw[hnew]
 exact⟨.ref _,_,I.Qwj (t':=s.toks) (r.rep k.toNat) (by rw[len_rep,ZaF];exact hz),rfl,q _ I.fresh⟩
theorem QlM{xs:List D}(h:QZ xs=true):∀n:Nat,QZ (List.replicate n xs).flatten=true
 | 0=>by simp[QZ]
 | n+1=>by rw[Zab,Zai,QbY,h,QlM h n];rfl
theorem Rps.rep{K:PySem.W.Frag}{H:Hp}{ds:List D}{vs:List V}(h:Rps K H ds vs []):∀n:Nat,Rps K H (List.replicate n ds).flatten (List.replicate n vs).flatten []
 | 0=>by simp[Rps]
 | n+1=>by rw[Zab,Zai,Zab,Zai];exact h.append (Rps.rep h n)
theorem Qxa(ha:SE X a fa)(hb:SE X b fb):SE X (.BinOp a .Mult b pos) (QaM fa fb):=λH0 A0=>
 (QpB (QuB.or Qt2) (ha H0 A0) (hb H0 A0)).mono λσ H Q ⟨ρ,hs,F,r',rel,e,q⟩=>by
  obtain⟨ra,rb,ea,eb,ek⟩:=QpF e
  refine two rel ea eb λx y H1 H2 G1 G2 p1 p2=>?_
  have p1':=p1.rp.same p2.same
  have p2':=p2.rp
  revert ek
  revert p1' p2'
  cases ra.d<;>cases rb.d<;>intro p1' p2' ek<;>first | (cases ek;done) | skip
  ·dsimp only at ek
   split at ek
   ·rename_i hm
    cases ek
    rw[p1'.int_inv,p2'.int_inv]
    exact .inl ⟨_,_,rfl,rfl,hm,q _ H2 [] (.flat (p1.same.trans p2.same) .int_mk)⟩
   ·cases ek
  ·rename_i xs j
   dsimp only at ek
   split at ek
   ·rename_i hz
    cases ek
    obtain⟨hz1,hz2,hz3,hf⟩:=hz
    obtain⟨l,vs,L1,rfl,hl,rl,zl,el⟩:=p1'.lst_inv
    have n1:=rl.length
    have e0:=rl.Qcr hf
    subst e0
    rw[p2'.int_inv]
    refine .inr ⟨l,j,vs,rfl,rfl,hl,hz2,hz3,by rw[← n1];exact hz1,λp hp=>?_⟩
    have w:HS.Qa2 (List.replicate j.toNat xs).flatten []=⟨.lst (List.replicate j.toNat xs).flatten,true,[]⟩:=by
     unfold HS.Qa2;rw[if_pos (QlM hf _)]
    rw[← w]at q
    exact q _ _ (p::[]) (Q2.Qa2 (p1.same.trans p2.same) hp (rl.rep _) (by rw[len_rep,ZaF];exact hz1) Src.nil Qa8.nil)
   ·cases ek
end
end HS
namespace HS
open PySem PySem.Spec L2
noncomputable def Qe:DA:=λ_=>some ⟨[],true,[]⟩
noncomputable def Qc(fa:DE)(fr:DA):DA:=λρ=>(fa ρ).bind λr=>(fr ρ).bind λrs=>some ⟨r.d::rs.ds,r.fr && rs.fr,r.M++rs.M⟩
noncomputable def Qdk(fa:DA):DE:=λρ=>(fa ρ).bind λr=>if r.ds.length<=64 then some ⟨.tup r.ds,r.fr,r.M⟩else none
noncomputable def Qat(fa:DA):DE:=λρ=>(fa ρ).bind λr=>if r.ds.length<=64 then some ⟨.lst r.ds,r.fr,r.M⟩else none
section
variable {X:Cx}{a b e:Expr}{es:List Expr}{fa fb:DE}{fs:DA}{pos:Pos}
theorem Qhr:SA X [] Qe:=λH0 A0=>Qb4.mono λσ H Q ⟨ρ,hs,F,r',rel,e,q⟩=>by
 cases e
 exact q [] H [] ⟨QH.refl _,by simp[Rps],Src.nil,λ_=>⟨Cnt.nil,rfl⟩,Qa8.nil⟩
theorem Qfd(ha:SE X e fa)(hr:SA X es fs)(hs:starEach (e::es) X.env=(false,eval e X.env)::starEach es X.env):SA X (e::es) (Qc fa fs):=λH0 A0=>
 (Q5 (ha H0 A0) (hr H0 A0) hs).mono λσ H Q ⟨ρ,hs,F,r',rel,e,q⟩=>by
  obtain⟨r,e1,e⟩:=bind1 e
  obtain⟨rs,e2,e⟩:=bind1 e
  cases e
  refine⟨ρ,hs,F,r,rel,e1,λx H1 G1 p1=>⟨ρ,hs,F,rs,rel.ext p1.same,e2,λxs H2 G2 p2=>?_⟩⟩
  refine q _ H2 (G1++G2) ⟨p1.same.trans p2.same,?_,p1.src.append p2.src p1.same,λh=>?_,p1.own.append p2.own⟩
  ·simp only[Rps]
   exact⟨x,xs,G1,G2,rfl,rfl,p1.rp.same p2.same,p2.rp⟩
  ·simp only[Zi]at h
   exact⟨(p1.cnt h.1).1.append rel (p2.cnt h.2).1 p1.same p1.rp.mem,by simp only[nls,Zx,(p1.cnt h.1).2,(p2.cnt h.2).2]⟩
theorem Qe1{n:Nat}(h:n<=64):n<=sizeLine:=Zq h (by decide)
theorem Qwv{k:Nat}(ha:SA X es fs):SE X (.Tuple es k pos) (Qdk fs):=λH0 A0=>
 (Qno (ha H0 A0)).mono λσ H Q ⟨ρ,hs,F,r',rel,e,q⟩=>by
  obtain⟨r,e1,e⟩:=bind1 e
  split at e
  ·rename_i hz
   cases e
   refine⟨ρ,hs,F,r,rel,e1,λxs H1 G p=>⟨by rw[← p.rp.length];exact Qe1 hz,λc hc=>q _ _ G ⟨p.same.trans (Qbr hc),Rp.Qho Q1 (p.rp.same (Qbr hc)),p.src,λh=>⟨(p.cnt h).1,by simp only[D.nl];exact(p.cnt h).2⟩,p.own⟩⟩⟩
  ·cases e
theorem Qq0(ha:SA X es fs):SE X (.List es pos) (Qat fs):=λH0 A0=>
 (Qxg (ha H0 A0)).mono λσ H Q ⟨ρ,hs,F,r',rel,e,q⟩=>by
  obtain⟨r,e1,e⟩:=bind1 e
  split at e
  ·rename_i hz
   cases e
   refine⟨ρ,hs,F,r,rel,e1,λxs H1 G p=>⟨by rw[← p.rp.length];exact Qe1 hz,λc hc=>?_⟩⟩
   have hH:H c=none:=p.same.free hc
   refine q _ _ (c::G) ⟨p.same.trans (Qbr hc),Rp.Qd1 Q1 (p.rp.same (Qbr hc)) (Qe1 hz),λz hz'=>?_,λh=>⟨λz=>?_,by simp only[D.nl,ZS,(p.cnt h).2]⟩,p.own⟩
   ·rcases Zl.mp hz' with rfl | h
    ·exact .inl hH
    ·exact p.src z h
   ·rw[ZaC]
    have:=(p.cnt h).1 z
    split
    ·rename_i e'
     have e':c=z:=by simpa using e'
     subst e'
     have h0:G.count c=0:=ZH.mpr λhm=>by obtain⟨vs,w⟩:=p.rp.mem c hm;rw[hc]at w;cases w
     rw[Qbk hH];omega
    ·exact this
  ·cases e
noncomputable def D.items:D->Option (List D)
 | .lst xs=>some xs
 | .tup xs=>some xs
 | _=>none
noncomputable def Qs(fa fb:DE):DE:=λρ=>(fa ρ).bind λra=>(fb ρ).bind λrb=>match rb.d with
 | .int i=>(ra.d.items).bind λxs=>(atI xs i).map λd=>(R.norm ⟨d,ra.fr,ra.M⟩)
 | _=>none
theorem QuP{α β:Type}{xs:List α}{i:Int}{d:α}(h:atI xs i=some d):∃j:Nat,xs[j]? =some d/\∀(ys:List β),ys.length=xs.length->∀y,ys[j]? =some y->atI ys i=some y:=by
 unfold atI at h
 cases e:ixN xs.length i with
 | none=>rw[e]at h;cases h
 | some j=>
  rw[e]at h
  refine⟨j,h,λys hl y hy=>?_⟩
  unfold atI
  rw[hl,e]
  exact hy
theorem QvK(ha:SE X a fa)(hb:SE X b fb)(hs:Qiw b):SE X (.Subscript a b pos) (Qs fa fb):=λH0 A0=>
 (QtP (Qop.or Qrh) (ha H0 A0) (hb H0 A0) hs).mono λσ H Q ⟨ρ,hs,F,r',rel,e,q⟩=>by
  obtain⟨ra,rb,ea,eb,ek⟩:=QpF e
  refine two rel ea eb λx y H1 H2 G1 G2 p1 p2=>?_
  have p1':=p1.rp.same p2.same
  have p2':=p2.rp
  have pp:Q2 X.K ρ F H H2 ra x G1:=⟨p1.same.trans p2.same,p1',p1.src,p1.cnt,p1.own⟩
  cases hb':rb.d with
  | int i=>
   rw[hb']at ek p2'
   rw[p2'.int_inv]
   obtain⟨xs,ex,ek⟩:=bind1 ek
   obtain⟨d,ed,ek⟩:=Zb.mp ek
   subst ek
   obtain⟨j,hj,hm⟩:=QuP (β:=V) ed
   have fin:∀(L:List Addr) (vs:List V),Rps X.K H2 xs vs L->(∀z,L.count z<=G1.count z)->(G1.length=ra.d.nl->L.length=nls xs)->∃v,atI vs i=some v/\Q v H2:=λL vs rl hc hn=>by
    obtain⟨v,F1,G,F2,hv,eF,rv,hx⟩:=rl.get hj
    refine⟨v,hm vs rl.length.symm v hv,q v H2 G (Q2.norm (Q2.sub pp rv (λz=>Zq ?_ (hc z)) λz=>hx (hn z)))⟩
    rw[eF,Zaj,Zaj];omega
   cases hra:ra.d with
   | lst ys=>
    rw[hra]at ex p1'
    cases ex
    obtain⟨l,vs,L,rfl,hl,rl,zl,el⟩:=p1'.lst_inv
    have hn:G1.length=ra.d.nl->L.length=nls xs:=λhz=>by
     have:=rl.Qao
     simp only[hra,D.nl]at hz
     rcases el with rfl | rfl
     ·rw[ZS]at hz;omega
     ·omega
    have hc:∀z,L.count z<=G1.count z:=λz=>by
     rcases el with rfl | rfl
     ·rw[ZaC];omega
     ·exact Zj _
    obtain⟨v,h1,h2⟩:=fin L vs rl hc hn
    exact .inl ⟨l,vs,i,v,rfl,rfl,Q6 hl,h1,h2⟩
   | tup ys=>
    rw[hra]at ex p1'
    cases ex
    obtain⟨l,vs,rfl,hl,rl⟩:=p1'.Qbj
    obtain⟨v,h1,h2⟩:=fin G1 vs rl (λz=>Zj _) λz=>(by simpa only[hra,D.nl]using z)
    exact .inr ⟨l,vs,i,v,rfl,rfl,hl,h1,h2⟩
   | _=>rw[hra]at ex;cases ex
  | _=>rw[hb']at ek;cases ek
noncomputable abbrev DO:=En->Option (Option Int)
noncomputable def Qa6:DO:=λ_=>some none
noncomputable def Qa3(f:DE):DO:=λρ=>(f ρ).bind λr=>match r.d with
 | .int i=>some (some i)
 | _=>none
noncomputable def tVO(K:PySem.W.Frag)(H0:Hp)(A0:List Addr)(f:DO):TO:=λσ H Q=>∃ρ hs F o,Rel K H0 A0 hs ρ F σ H/\f ρ=some o/\∀H',QH H H'->Q o H'
def SO(X:Cx)(e:Option Expr)(f:DO):Prop:=∀H0 A0,PO X e (tVO X.K H0 A0 f)
theorem _root_.L2.PO.mono{X:Cx}{e:Option Expr}{t t':TO}(h:PO X e t)(m:∀σ H Q,t' σ H Q->t σ H Q):PO X e t':=by
 intro pins s σ H Q I q
 exact h pins s σ H Q I (m σ H Q q)
theorem QuZ:SO X none Qa6:=λH0 A0=>Qt9.mono λσ H Q ⟨ρ,hs,F,o,rel,e,q⟩=>by
 cases e
 exact q H (QH.refl _)
theorem Qur(h:SE X a fa):SO X (some a) (Qa3 fa):=λH0 A0=>(Qua (h H0 A0)).mono λσ H Q ⟨ρ,hs,F,o,rel,e,q⟩=>by
 obtain⟨r,e1,e⟩:=bind1 e
 refine⟨ρ,hs,F,r,rel,e1,λv H1 G p=>?_⟩
 have rp:=p.rp
 cases hr:r.d with
 | int i=>
  rw[hr]at e rp
  cases e
  exact⟨i,rp.int_inv,q H1 p.same⟩
 | _=>rw[hr]at e;cases e
noncomputable def cutD(xs:List D)(lo hi:Option Int):List D:=(xs.drop (HT.sIx xs.length 0 lo)).take (HT.sIx xs.length xs.length hi-HT.sIx xs.length 0 lo)
noncomputable def Qby(fa:DE)(lo hi:DO):DE:=λρ=>(fa ρ).bind λra=>(lo ρ).bind λl=>(hi ρ).bind λh=>match ra.d with
 | .lst xs=>some (Qa2 (cutD xs l h) ra.M)
 | _=>none
theorem Rps.drop:∀{ds:List D}{vs:List V}{F:List Addr}{K:PySem.W.Frag}{H:Hp}(n:Nat),Rps K H ds vs F->∃G,Rps K H (ds.drop n) (vs.drop n) G/\∀a∈G,a∈F
 | [],vs,F,K,H,n,h=>by simp only[Rps]at h;rw[h.1,h.2];exact⟨[],by simp[Rps],λ_ h=>h⟩
 | d::ds,vs,F,K,H,0,h=>⟨F,by simpa using h,λ_ h=>h⟩
 | d::ds,vs,F,K,H,n+1,h=>by
  simp only[Rps]at h
  obtain⟨v,ws,F1,F2,e,eF,r,q⟩:=h
  subst e eF
  obtain⟨G,h1,h2⟩:=Rps.drop n q
  exact⟨G,by simpa using h1,λa ha=>Zd _ (h2 a ha)⟩
theorem Rps.take:∀{ds:List D}{vs:List V}{F:List Addr}{K:PySem.W.Frag}{H:Hp}(n:Nat),Rps K H ds vs F->∃G,Rps K H (ds.take n) (vs.take n) G/\∀a∈G,a∈F
 | [],vs,F,K,H,n,h=>by simp only[Rps]at h;rw[h.1,h.2];exact⟨[],by simp[Rps],λ_ h=>h⟩
 | d::ds,vs,F,K,H,0,h=>⟨[],by simp[Rps],λ_ h=>by simp at h⟩
 | d::ds,vs,F,K,H,n+1,h=>by
  simp only[Rps]at h
  obtain⟨v,ws,F1,F2,e,eF,r,q⟩:=h
  subst e eF
  obtain⟨G,h1,h2⟩:=Rps.take n q
  refine⟨F1++G,?_,λa ha=>?_⟩
  ·simp only[List.take_succ_cons,Rps]
   exact⟨v,_,F1,G,rfl,rfl,r,h1⟩
  ·rcases ZM.mp ha with h | h
   ·exact Zh _ h
   ·exact Zd _ (h2 a h)
theorem Qwu{lo hi:Option Expr}{fl fh:DO}{p2:Pos}(ha:SE X a fa)(hl:SO X lo fl)(hh:SO X hi fh):SE X (.Subscript a (.Slice lo hi none p2) pos) (Qby fa fl fh):=λH0 A0=>
 (Qs4 QuJ (ha H0 A0) (hl H0 A0) (hh H0 A0)).mono λσ H Q ⟨ρ,hs,F,r',rel,e,q⟩=>by
  obtain⟨ra,e1,e⟩:=bind1 e
  obtain⟨l,e2,e⟩:=bind1 e
  obtain⟨h,e3,e⟩:=bind1 e
  refine⟨ρ,hs,F,ra,rel,e1,λx H1 G1 p1=>⟨ρ,hs,F,l,rel.ext p1.same,e2,λH2 s2=>⟨ρ,hs,F,h,(rel.ext p1.same).ext s2,e3,λH3 s3=>?_⟩⟩⟩
  have rp:=p1.rp.same (s2.trans s3)
  cases hra:ra.d with
  | lst xs=>
   rw[hra]at e rp
   cases e
   obtain⟨c,vs,L,rfl,hc,rl,zl,el⟩:=rp.lst_inv
   refine⟨c,vs,rfl,Q6 hc,λp hp=>?_⟩
   obtain⟨G2,h2,m2⟩:=rl.drop (HT.sIx xs.length 0 l)
   obtain⟨G3,h3,m3⟩:=h2.take (HT.sIx xs.length xs.length h-HT.sIx xs.length 0 l)
   have n1:=rl.length
   rw[show QkL vs l h=(vs.drop (HT.sIx xs.length 0 l)).take (HT.sIx xs.length xs.length h-HT.sIx xs.length 0 l) by unfold QkL;rw[n1]]
   refine q _ _ (p::G3) (Q2.Qa2 (p1.same.trans (s2.trans s3)) hp h3 ?_ (λz hz=>p1.src z ?_) p1.own)
   ·unfold cutD;rw[ZaH,List.length_drop];omega
   ·have:=m2 z (m3 z hz)
    rcases el with rfl | rfl
    ·exact Ze _ this
    ·exact this
  | _=>rw[hra]at e;cases e
noncomputable def dBf(g:List D->Option D)(fs:DA):DE:=λρ=>(fs ρ).bind λr=>(g r.ds).map λd=>⟨d,true,[]⟩
def Qj0(K:PySem.W.Frag)(g:List D->Option D)(r:List V->Hp->VK->Prop):Prop:=∀ds d,g ds=some d->d.flat=true/\∀H vs F (Q:VK),Rps K H ds vs F->(∀v,(∀H',Rp K H' d v [])->Q v H)->r vs H Q
theorem Qpp{x:Str}{id:String}{g:List D->Option D}{r:List V->Hp->VK->Prop}{p:Pos}(hc:QeF X (.builtin id) r)(hk:Qj0 X.K g r)(hg:Gl X x)(hm:X.mg x=none)(hv:bootBuiltins x=some (.builtin id))(ha:SA X (e::es) fs)(hn:x≠ "__name__")(hdb:(x == ("__debug__" :Str))=false)
  (he:starEach (e::es) X.env=(false,eval e X.env)::starEach es X.env) (hpl:(backTo pos (starEach es X.env)).any (·.1)=false):SE X (.Call (.Name x p) (e::es) [] pos) (dBf g fs):=λH0 A0=>
 (Qg1 hc hg hm hv (ha H0 A0) hn hdb he hpl).mono λσ H Q ⟨ρ,hs,F,r',rel,e,q⟩=>by
  obtain⟨ra,e1,e⟩:=bind1 e
  obtain⟨d,ed,e⟩:=Zb.mp e
  subst e
  exact⟨ρ,hs,F,ra,rel,e1,λvs H1 G p1=>(hk _ _ ed).2 H1 vs G Q p1.rp λv hv=>q v H1 [] (.flat p1.same (hv _) (hk _ _ ed).1)⟩
theorem Rps.one{K:PySem.W.Frag}{H:Hp}{d:D}{vs:List V}{F:List Addr}(h:Rps K H [d] vs F):∃v,vs=[v]/\Rp K H d v F:=by
 simp only[Rps]at h
 obtain⟨v,ws,F1,F2,rfl,rfl,r,rfl,rfl⟩:=h
 exact⟨v,rfl,by simpa using r⟩
noncomputable def Q8:List D->Option D
 | [.lst xs]=>some (.int xs.length)
 | [.tup xs]=>some (.int xs.length)
 | _=>none
theorem QvQ{K:PySem.W.Frag}:Qj0 K Q8 (λxs H Q=>∃p ys,xs=[.ref p]/\(SqL K H p ys∨SqT K H p ys)/\Q (.int ys.length) H):=λds d e=>by
 unfold Q8 at e
 split at e
 ·cases e
  refine⟨rfl,λH vs F Q r q=>?_⟩
  obtain⟨v,rfl,rp⟩:=r.one
  obtain⟨l,ws,L,rfl,hl,rl,zl,el⟩:=rp.lst_inv
  exact⟨l,ws,rfl,.inl (Q6 hl),by rw[← rl.length];exact q _ λ_=> .int_mk⟩
 ·cases e
  refine⟨rfl,λH vs F Q r q=>?_⟩
  obtain⟨v,rfl,rp⟩:=r.one
  obtain⟨l,ws,rfl,hl,rl⟩:=rp.Qbj
  exact⟨l,ws,rfl,.inr hl,by rw[← rl.length];exact q _ λ_=> .int_mk⟩
 ·cases e
noncomputable def Qjj:List D->Option D
 | [.int i]=>some (.int (if i<0 then-i else i))
 | _=>none
theorem QwL{K:PySem.W.Frag}:Qj0 K Qjj (λxs H Q=>∃i,xs=[.int i]/\Q (.int (if i<0 then-i else i)) H):=λds d e=>by
 unfold Qjj at e
 split at e
 ·cases e
  refine⟨rfl,λH vs F Q r q=>?_⟩
  obtain⟨v,rfl,r1⟩:=r.one
  exact⟨_,by rw[r1.int_inv],q _ λ_=> .int_mk⟩
 ·cases e
noncomputable def dList(fs:DA):DE:=λρ=>(fs ρ).bind λr=>match r.ds with
 | [.lst xs]=>some (Qa2 xs r.M)
 | [.tup xs]=>if xs.length<=sizeLine then some (Qa2 xs r.M)else none
 | _=>none
theorem QuG{p:Pos}(hg:Gl X "list")(hm:X.mg "list" =none)(ha:SA X (e::es) fs)(he:starEach (e::es) X.env=(false,eval e X.env)::starEach es X.env)(hpl:(backTo pos (starEach es X.env)).any (·.1)=false):
  SE X (.Call (.Name "list" p) (e::es) [] pos) (dList fs):=λH0 A0=>
 (QhM QhL hg hm Zbb (ha H0 A0) (by decide) (by decide) he hpl).mono λσ H Q ⟨ρ,hs,F,r',rel,e,q⟩=>by
  obtain⟨ra,e1,e⟩:=bind1 e
  refine⟨ρ,hs,F,ra,rel,e1,λvs H1 G p1=>?_⟩
  have rp:=p1.rp
  have src:=p1.src
  split at e
  ·rename_i xs hds
   cases e
   rw[hds]at rp
   obtain⟨v,rfl,rq⟩:=rp.one
   obtain⟨l,ws,L,rfl,hl,rl,zl,el⟩:=rq.lst_inv
   refine⟨l,ws,rfl,.inl (Q6 hl),λc hc=>q _ _ (c::L) (Q2.Qa2 p1.same hc rl zl (λz hz=>src z ?_) p1.own)⟩
   rcases el with rfl | rfl
   ·exact Ze _ hz
   ·exact hz
  ·rename_i xs hds
   split at e
   ·rename_i hz
    cases e
    rw[hds]at rp
    obtain⟨v,rfl,rq⟩:=rp.one
    obtain⟨l,ws,rfl,hl,rl⟩:=rq.Qbj
    exact⟨l,ws,rfl,.inr hl,λc hc=>q _ _ (c::G) (Q2.Qa2 p1.same hc rl hz src p1.own)⟩
   ·cases e
  ·cases e
end
end HS
namespace HS
open PySem PySem.Spec L2
mutual
noncomputable def D.py:D->PyData
 | .non=> .none
 | .bl b=> .bool b
 | .int i=> .int i
 | .str x=> .str x
 | .tup xs=> .tuple (pys xs)
 | .lst xs=> .list (pys xs)
 | .exc _=> .none
noncomputable def pys:List D->List PyData
 | []=>[]
 | d::ds=>d.py::pys ds
end
theorem QoV:∀ds:List D,pys ds=ds.map D.py
 | []=>rfl
 | d::ds=>by simp[pys,QoV ds]
noncomputable def D.sim:Nat->D->Bool
 | _,.non=>true
 | _,.bl _=>true
 | _,.int _=>true
 | _,.str x=>PyData.canLay0 (.str x)
 | 0,.tup xs=>xs.isEmpty
 | 0,.lst xs=>xs.isEmpty
 | n+1,.tup xs=>xs.all (D.sim n)
 | n+1,.lst xs=>xs.all (D.sim n)
 | _,.exc _=>false
theorem QfI:∀{ds:List D},(∀d∈ds,d.py.canLay0=true)->PyData.canLayAll0 (pys ds)=true
 | [],_=>rfl
 | d::ds,h=>by
  simp only[pys,PyData.canLayAll0,Zi]
  exact⟨h d Zo,QfI λe he=>h e (Ze _ he)⟩
theorem Qf5{n:Nat}:∀{ds:List D},(∀d∈ds,d.py.depth<=n)->PyData.depthAll (pys ds)<=n
 | [],_=>ZT _
 | d::ds,h=>by
  simp only[pys,PyData.depthAll]
  exact Nat.max_le.mpr ⟨h d Zo,Qf5 λe he=>h e (Ze _ he)⟩
theorem Qb7:∀(n:Nat) (d:D),d.sim n=true->d.py.canLay0=true/\d.py.depth<=n+1
 | n,.exc _,h=>by cases n<;>cases h
 | n,.non,_=>by simp[D.py,PyData.canLay0,PyData.depth]
 | n,.bl _,_=>by simp[D.py,PyData.canLay0,PyData.depth]
 | n,.int _,_=>by simp[D.py,PyData.canLay0,PyData.depth]
 | n,.str x,h=>by
  simp only[D.py,PyData.depth]
  refine⟨?_,ZT _⟩
  cases n<;>exact h
 | 0,.tup xs,h=>by
  have:xs=[]:=by simpa[D.sim]using h
  subst this
  simp[D.py,pys,PyData.canLay0,PyData.canLayAll0,PyData.depth,PyData.depthAll]
 | 0,.lst xs,h=>by
  have:xs=[]:=by simpa[D.sim]using h
  subst this
  simp[D.py,pys,PyData.canLay0,PyData.canLayAll0,PyData.depth,PyData.depthAll]
 | n+1,.tup xs,h=>by
  simp only[D.sim,Zam]at h
  simp only[D.py,PyData.canLay0,PyData.depth]
  exact⟨QfI λd hd=>(Qb7 n d (h d hd)).1,Zbj (Qf5 λd hd=>(Qb7 n d (h d hd)).2) 1⟩
 | n+1,.lst xs,h=>by
  simp only[D.sim,Zam]at h
  simp only[D.py,PyData.canLay0,PyData.depth]
  exact⟨QfI λd hd=>(Qb7 n d (h d hd)).1,Zbj (Qf5 λd hd=>(Qb7 n d (h d hd)).2) 1⟩
noncomputable def deq(a b:D):Bool:=PyData.eqv a.py b.py
theorem QmZ{n:Nat}{d:D}(h:d.sim n=true):deq d d=true:=SeqAt.eqv_refl _ (Qb7 n d h).1
mutual
noncomputable def D.noX:D->Bool
 | .exc _=>false
 | .tup xs=>Qi4 xs
 | .lst xs=>Qi4 xs
 | .non=>true
 | .bl _=>true
 | .int _=>true
 | .str _=>true
noncomputable def Qi4:List D->Bool
 | []=>true
 | d::ds=>d.noX && Qi4 ds
end
theorem Qkx:∀{ds:List D},(∀d∈ds,d.noX=true)->Qi4 ds=true
 | [],_=>rfl
 | d::ds,h=>by
  simp only[Qi4,Zi]
  exact⟨h d Zo,Qkx λe he=>h e (Ze _ he)⟩
theorem QcD:∀(n:Nat) (d:D),d.sim n=true->d.noX=true
 | n,.exc _,h=>by cases n<;>cases h
 | n,.non,_=>rfl
 | n,.bl _,_=>rfl
 | n,.int _,_=>rfl
 | n,.str x,_=>rfl
 | 0,.tup xs,h=>by
  have:xs=[]:=by simpa[D.sim]using h
  subst this;rfl
 | 0,.lst xs,h=>by
  have:xs=[]:=by simpa[D.sim]using h
  subst this;rfl
 | n+1,.tup xs,h=>by
  simp only[D.sim,Zam]at h
  simp only[D.noX]
  exact Qkx λd hd=>QcD n d (h d hd)
 | n+1,.lst xs,h=>by
  simp only[D.sim,Zam]at h
  simp only[D.noX]
  exact Qkx λd hd=>QcD n d (h d hd)
section
variable {X:Cx}{pins:List (Addr×Obj)}{σ:L2.St}{H:Hp}{s:Shared}
mutual
theorem Rp.reads(I:Inv X pins σ H s):∀{d:D}{v:V}{F:List Addr}{u:Value},d.noX=true->Rp X.K H d v F->RelV v u->∃as,Reads s.heap u d.py as
 | .exc _,v,_,u,hx,h,r=>by cases hx
 | .non,v,_,u,hx,h,r=>by
  rw[h.Qli]at r
  cases(show u=Value.none from r)
  exact⟨_,.none⟩
 | .bl b,v,_,u,hx,h,r=>by
  rw[h.Qib]at r
  cases(show u=Value.bool b from r)
  exact⟨_,.bool b⟩
 | .int i,v,_,u,hx,h,r=>by
  rw[h.int_inv]at r
  obtain⟨t,rfl⟩:=(show ∃t,u=Value.int i t from r)
  exact⟨_,.int i t⟩
 | .str i,v,_,u,hx,h,r=>by
  rw[h.str_inv]at r
  obtain⟨t,rfl⟩:=(show ∃t,u=Value.str i t from r)
  exact⟨_,.str i t⟩
 | .tup ds,v,_,u,hx,h,r=>by
  obtain⟨a,vs,rfl,hq,rs⟩:=h.Qbj
  cases(show u=Value.ref a from r)
  obtain⟨its,rv,⟨o,h1,h2,n,h3⟩,_⟩:=I.tuple hq
  obtain⟨as,ra⟩:=Rps.reads I (by simpa only[D.noX]using hx) rs rv
  exact⟨_,.tuple h1 h2 h3 (by simpa using ra)⟩
 | .lst ds,v,_,u,hx,h,r=>by
  simp only[Rp]at h
  obtain⟨hz,a,vs,rfl,h⟩:=h
  have key:∃G,(H a=some (.lst vs)∨Fix X.K H a vs)/\Rps X.K H ds vs G:=by
   rcases h with⟨G,_,q,rs⟩ | ⟨q,rs⟩
   ·exact⟨G,.inl q,rs⟩
   ·exact⟨_,.inr q,rs⟩
  obtain⟨G,hq,rs⟩:=key
  cases(show u=Value.ref a from r)
  obtain⟨_,its,n,rv,_,e⟩:=I.Qnx hq
  obtain⟨as,ra⟩:=Rps.reads I (by simpa only[D.noX]using hx) rs rv
  exact⟨_,.list e rfl rfl (by simpa using ra)⟩
theorem Rps.reads(I:Inv X pins σ H s):∀{ds:List D}{vs:List V}{F:List Addr}{us:List Value},Qi4 ds=true->Rps X.K H ds vs F->Qz vs us->∃as,ReadsAll s.heap us (pys ds) as
 | [],vs,_,us,_,h,r=>by
  simp only[Rps]at h
  rw[h.1]at r
  cases r
  exact⟨_,.nil⟩
 | d::ds,vs,_,us,hx,h,r=>by
  simp only[Qi4,Zi]at hx
  simp only[Rps]at h
  obtain⟨v,ws,F1,F2,rfl,rfl,h1,h2⟩:=h
  cases r with
  | cons r rr=>
   obtain⟨as,ra⟩:=Rp.reads I hx.1 h1 r
   obtain⟨bs,rb⟩:=Rps.reads I hx.2 h2 rr
   exact⟨_,.cons ra rb⟩
end
end
noncomputable def gEq(a b:D):Option D:=if a.sim 8 && b.sim 8 then some (.bl (deq a b))else none
noncomputable def gNe(a b:D):Option D:=if a.sim 8 && b.sim 8 then some (.bl (!deq a b))else none
noncomputable def gIn(neg:Bool)(a b:D):Option D:=match b with
 | .lst xs=>if a.sim 8 && b.sim 8 then some (.bl (if neg then !(xs.any λy=>deq y a)else xs.any λy=>deq y a))else none
 | .tup xs=>if a.sim 8 && b.sim 8 then some (.bl (if neg then !(xs.any λy=>deq y a)else xs.any λy=>deq y a))else none
 | _=>none
noncomputable def QvC(K:PySem.W.Frag):R2:=λx y H Q=>∃a b F G,Rp K H a x F/\Rp K H b y G/\a.sim 8=true/\b.sim 8=true/\Q (.bl (deq a b)) H
noncomputable def Qw0(K:PySem.W.Frag):R2:=λx y H Q=>∃a b F G,Rp K H a x F/\Rp K H b y G/\a.sim 8=true/\b.sim 8=true/\Q (.bl (!deq a b)) H
section
variable {X:Cx}
theorem QqY(hu:X.A.units+64<cLine):OpR X (compareOp .Eq) (QvC X.K):=by
 intro pins s σ H x y v u Q I rx ry h
 obtain⟨a,b,F,G,ha,hb,sa,sb,q⟩:=h
 obtain⟨as,ra⟩:=Rp.reads I (QcD 8 _ sa) ha rx
 obtain⟨bs,rb⟩:=Rp.reads I (QcD 8 _ sb) hb ry
 have h1:=Qb7 8 a sa
 have h2:=Qb7 8 b sb
 exact SeqAt.compareEq_reads ra rb h1.1 h2.1 (by have:=Nat.min_le_left a.py.depth b.py.depth;omega) ⟨.bl _,H,I,rfl,q⟩
theorem Qrc(hu:X.A.units+64<cLine):OpR X (compareOp .NotEq) (Qw0 X.K):=by
 intro pins s σ H x y v u Q I rx ry h
 obtain⟨a,b,F,G,ha,hb,sa,sb,q⟩:=h
 obtain⟨as,ra⟩:=Rp.reads I (QcD 8 _ sa) ha rx
 obtain⟨bs,rb⟩:=Rp.reads I (QcD 8 _ sb) hb ry
 have h1:=Qb7 8 a sa
 have h2:=Qb7 8 b sb
 exact SeqAt.compareNe_reads ra rb h1.1 h2.1 (by have:=Nat.min_le_left a.py.depth b.py.depth;omega) ⟨.bl _,H,I,rfl,q⟩
theorem QtC{K:PySem.W.Frag}:Qdl K gEq (QvC K):=λa b d e=>by
 unfold gEq at e
 split at e
 ·rename_i h
  simp only[Zi]at h
  cases e
  exact⟨rfl,λH x y F G Q ha hb q=>⟨a,b,F,G,ha,hb,h.1,h.2,q _ λ_=> .QcO⟩⟩
 ·cases e
theorem QtU{K:PySem.W.Frag}:Qdl K gNe (Qw0 K):=λa b d e=>by
 unfold gNe at e
 split at e
 ·rename_i h
  simp only[Zi]at h
  cases e
  exact⟨rfl,λH x y F G Q ha hb q=>⟨a,b,F,G,ha,hb,h.1,h.2,q _ λ_=> .QcO⟩⟩
 ·cases e
noncomputable def Qtb(K:PySem.W.Frag)(neg:Bool):R2:=λx y H Q=>∃a b F G xs,Rp K H a x F/\Rp K H b y G/\a.sim 8=true/\b.sim 8=true/\(b= .lst xs∨b= .tup xs)/\Q (.bl (if neg then !(xs.any λy=>deq y a)else xs.any λy=>deq y a)) H
theorem Qqb(xs:List D)(a:D):((pys xs).any λy=>PyData.eqv y a.py)=xs.any λy=>deq y a:=by
 rw[QoV,List.any_map];rfl
theorem Qv1(hu:X.A.units+64<cLine):OpR X (compareOp .In) (Qtb X.K false):=by
 intro pins s σ H x y v u Q I rx ry h
 obtain⟨a,b,F,G,xs,ha,hb,sa,sb,hk,q⟩:=h
 obtain⟨as,ra⟩:=Rp.reads I (QcD 8 _ sa) ha rx
 obtain⟨bs,rb⟩:=Rp.reads I (QcD 8 _ sb) hb ry
 have h1:=Qb7 8 a sa
 have h2:=Qb7 8 b sb
 have q':Q (.bl ((pys xs).any λy=>PyData.eqv y a.py)) H:=by rw[Qqb];exact q
 rcases hk with rfl | rfl
 ·exact SeqAt.in_list_reads rb ra h2.1 h1.1 (by have:=Zbi (PyData.depthAll (pys xs)) a.py.depth;omega) ⟨.bl _,H,I,rfl,q'⟩
 ·exact SeqAt.in_tuple_reads rb ra h2.1 h1.1 (by have:=Zbi (PyData.depthAll (pys xs)) a.py.depth;omega) ⟨.bl _,H,I,rfl,q'⟩
theorem Qre(hu:X.A.units+64<cLine):OpR X (compareOp .NotIn) (Qtb X.K true):=by
 intro pins s σ H x y v u Q I rx ry h
 obtain⟨a,b,F,G,xs,ha,hb,sa,sb,hk,q⟩:=h
 obtain⟨as,ra⟩:=Rp.reads I (QcD 8 _ sa) ha rx
 obtain⟨bs,rb⟩:=Rp.reads I (QcD 8 _ sb) hb ry
 have h1:=Qb7 8 a sa
 have h2:=Qb7 8 b sb
 have q':Q (.bl (!(pys xs).any λy=>PyData.eqv y a.py)) H:=by rw[Qqb];exact q
 rcases hk with rfl | rfl
 ·exact SeqAt.notIn_list_reads rb ra h2.1 h1.1 (by have:=Zbi (PyData.depthAll (pys xs)) a.py.depth;omega) ⟨.bl _,H,I,rfl,q'⟩
 ·exact SeqAt.notIn_tuple_reads rb ra h2.1 h1.1 (by have:=Zbi (PyData.depthAll (pys xs)) a.py.depth;omega) ⟨.bl _,H,I,rfl,q'⟩
theorem QtI{K:PySem.W.Frag}{neg:Bool}:Qdl K (gIn neg) (Qtb K neg):=λa b d e=>by
 unfold gIn at e
 split at e
 ·split at e
  ·rename_i h
   simp only[Zi]at h
   cases e
   exact⟨rfl,λH x y F G Q ha hb q=>⟨a,_,F,G,_,ha,hb,h.1,h.2,.inl rfl,q _ λ_=> .QcO⟩⟩
  ·cases e
 ·split at e
  ·rename_i h
   simp only[Zi]at h
   cases e
   exact⟨rfl,λH x y F G Q ha hb q=>⟨a,_,F,G,_,ha,hb,h.1,h.2,.inr rfl,q _ λ_=> .QcO⟩⟩
  ·cases e
 ·cases e
noncomputable def D.tyN:D->String
 | .non=> "NoneType" | .bl _=> "bool" | .int _=> "int" | .str _=> "str" | .tup _=> "tuple" | .lst _=> "list" | .exc _=> "?"
noncomputable def D.isE:D->Bool
 | .exc _=>true
 | _=>false
noncomputable def D.isa(T:String)(d:D):Option Bool:=if(T == "int" || T == "bool" || T == "list" || T == "tuple" || T == "str") && !d.isE then some (d.tyN == T || (d.tyN == "bool" && T == "int"))else none
theorem QwW{pins:List (Addr×Obj)}{σ:L2.St}{H:Hp}{s:Shared}{A:Around}{E Q:Value->Shared->Prop}{d:D}{v:V}{F:List Addr}{u:Value}{T:String}{b:Bool}(I:Inv X pins σ H s)(rp:Rp X.K H d v F)(rx:RelV v u)(e:d.isa T=some b)(h:∀tk,Q (.bool b) {s with toks:=tk}):
  wpAny (model X.prog X.w) A (call (.builtin "isinstance") [u,.type T]) Q E s:=by
 have kit:PySem.W.kitOne X.K (.type d.tyN) (.type T)=some b:=by
  unfold D.isa at e
  split at e
  ·rename_i hT
   cases e
   simp only[Zi,ZbH,beq_iff_eq]at hT
   obtain⟨hT,hE⟩:=hT
   rcases hT with(((rfl | rfl) | rfl) | rfl) | rfl<;>cases d<;>first | rfl | (cases hE)
  ·cases e
 cases d with
 | exc x=>unfold D.isa at e;split at e;(rename_i hT;exfalso;simp only[Zi]at hT;exact nomatch hT.2);cases e
 | non=>rw[rp.Qli]at rx;cases(show u=Value.none from rx);exact ZaD PySem.W.kitx_none I.kIn True.intro kit (λz=>nomatch z) h
 | bl y=>rw[rp.Qib]at rx;cases(show u=Value.bool y from rx);exact ZaD PySem.W.kitx_bool I.kIn True.intro kit (λz=>nomatch z) h
 | int i=>rw[rp.int_inv]at rx;obtain⟨t,q⟩:=(show ∃t,u=Value.int i t from rx);cases q;exact ZaD PySem.W.kitx_int I.kIn True.intro kit (λz=>nomatch z) h
 | str y=>rw[rp.str_inv]at rx;obtain⟨t,q⟩:=(show ∃t,u=Value.str y t from rx);cases q;exact ZaD PySem.W.kitx_str I.kIn True.intro kit (λz=>nomatch z) h
 | tup ds=>
  obtain⟨a,vs,rfl,hq,_⟩:=rp.Qbj
  cases(show u=Value.ref a from rx)
  obtain⟨its,rv,⟨o,h1,h2,n,h3⟩,_⟩:=I.tuple hq
  exact ZaD PySem.W.kitx_tuple I.kIn ⟨o,h1,h2⟩ kit (λz=>nomatch z) h
 | lst ds=>
  obtain⟨a,vs,G,rfl,hq,_⟩:=rp.lst_inv
  cases(show u=Value.ref a from rx)
  obtain⟨_,its,n,rv,_,e1⟩:=I.Qnx hq
  exact ZaD PySem.W.kitx_list I.kIn ⟨_,e1,rfl⟩ kit (λz=>nomatch z) h
noncomputable def Qyq(K:PySem.W.Frag):List V->Hp->VK->Prop:=λxs H Q=>∃x T d F b,xs=[x,.ty T]/\Rp K H d x F/\d.isa T=some b/\Q (.bl b) H
theorem Qst:QeF X (.builtin "isinstance") (Qyq X.K):=by
 intro pins s σ H xs us Q I r h
 obtain⟨x,T,d,F,b,rfl,rp,e,q⟩:=h
 obtain⟨u,w,rfl,ru,rw'⟩:=vals2 r
 cases(show w=Value.type T from rw')
 exact QwW I rp ru e λtk=>⟨.bl b,H,I.tok _,rfl,q⟩
noncomputable def QhW(T:String)(fa:DE):DE:=λρ=>(fa ρ).bind λr=>(r.d.isa T).map λb=>⟨.bl b,true,[]⟩
theorem Qxi{a:Expr}{fa:DE}{T:String}{x:Str}{p p2 pos:Pos}(hg:Gl X "isinstance")(hm:X.mg "isinstance" =none)(ha:SE X a fa)(hT:PE X (.Name x p2) (tC (.ty T)))
  (he:starEach [a,.Name x p2] X.env=(false,eval a X.env)::starEach [.Name x p2] X.env):SE X (.Call (.Name "isinstance" p) [a,.Name x p2] [] pos) (QhW T fa):=λH0 A0=>
 (Qg1 Qst hg hm ZaP (Q5 (ha H0 A0) (Q5 hT Qb4) he) (by decide) (by decide) he (by rfl)).mono λσ H Q ⟨ρ,hs,F,r',rel,e,q⟩=>by
  obtain⟨r,e1,e⟩:=bind1 e
  obtain⟨b,eb,e⟩:=Zb.mp e
  subst e
  exact⟨ρ,hs,F,r,rel,e1,λv H1 G p=>⟨v,T,r.d,G,b,rfl,p.rp,eb,q _ H1 [] (.flat p.same .QcO)⟩⟩
noncomputable def D.tru:D->Option Bool
 | .non=>some false
 | .bl b=>some b
 | .int i=>some (i != 0)
 | .lst xs=>some (!xs.isEmpty)
 | .tup xs=>some (!xs.isEmpty)
 | .str _=>none
 | .exc _=>none
theorem Qmi{K:PySem.W.Frag}{H:Hp}{d:D}{v:V}{F:List Addr}{b:Bool}(h:Rp K H d v F)(e:d.tru=some b):Qtm K v H b:=by
 have emp:∀{ds:List D}{vs:List V}{G:List Addr},Rps K H ds vs G->(!ds.isEmpty)= !vs.isEmpty:=λ{ds vs G} r=>by
  have:=r.length
  cases ds<;>cases vs<;>simp_all
 cases d with
 | non=>rw[h.Qli];cases e;exact rfl
 | bl c=>rw[h.Qib];cases e;exact rfl
 | int i=>rw[h.int_inv];cases e;exact rfl
 | str i=>cases e
 | exc i=>cases e
 | tup ds=>cases e;obtain⟨a,vs,rfl,hq,r⟩:=h.Qbj;exact .inr (.inl ⟨vs,hq,emp r⟩)
 | lst ds=>cases e;obtain⟨a,vs,G,rfl,hq,r,_⟩:=h.lst_inv;exact .inl ⟨vs,Q6 hq,emp r⟩
noncomputable def QO(fa:DE):DT:=λρ=>(fa ρ).bind λr=>r.d.tru
noncomputable def Qsi(f g:DT):DT:=λρ=>(f ρ).bind λb=>if b=true then g ρ else some false
noncomputable def bOr(f g:DT):DT:=λρ=>(f ρ).bind λb=>if b=true then some true else g ρ
noncomputable def Qek(f:DT):DT:=λρ=>(f ρ).bind λb=>some (!b)
def SW(X:Cx)(e:Expr)(f:DT):Prop:=∀H0 A0,PW X e (tVT X.K H0 A0 f)
theorem _root_.L2.PW.mono{X:Cx}{e:Expr}{t t':TT}(h:PW X e t)(m:∀σ H Q,t' σ H Q->t σ H Q):PW X e t':=λwh pins s σ H Q I q=>h wh pins s σ H Q I (m σ H Q q)
variable {a b e:Expr}{fa fb:DE}{ga gb gc:DT}{pos:Pos}{rest:List Expr}
theorem QwM(ha:SE X a fa)(he:∀whole,isTrue a X.env whole=(do let v ← whole;standAt a.pos;holding [v] (truthy v))):ST X a (QO fa):=λH0 A0=>
 (Qs0 (ha H0 A0) he).mono λσ H Q ⟨ρ,hs,F,b,rel,e,q⟩=>by
  obtain⟨r,e1,e⟩:=bind1 e
  exact⟨ρ,hs,F,r,rel,e1,λv H1 G p=>⟨b,Qmi p.rp e,q H1 p.same⟩⟩
theorem Qw2{op:CmpOp}{g:D->D->Option D}{r:R2}(ho:OpR X (compareOp op) r)(hg:Qdl X.K g r)(hbl:∀a b d,g a b=some d->∃k,d= .bl k)(ha:SE X a fa)(hb:SE X b fb)(hm:behindInMarks op b=false):ST X (.Compare a [op] [b] pos) (QO (dOp g fa fb)):=λH0 A0=>
 (QuT ho (ha H0 A0) (hb H0 A0) hm).mono λσ H Q ⟨ρ,hs,F,k,rel,e,q⟩=>by
  obtain⟨r',e0,e⟩:=bind1 e
  obtain⟨ra,rb,d,ea,eb,eg,rfl⟩:=Qk5 e0
  obtain⟨k',rfl⟩:=hbl _ _ _ eg
  cases e
  refine two rel ea eb λx y H1 H2 G1 G2 p1 p2=>(hg _ _ _ eg).2 H2 x y G1 G2 _ (p1.rp.same p2.same) p2.rp λv hv=>?_
  exact⟨_,(hv H2).Qib,q H2 (p1.same.trans p2.same)⟩
theorem QvI(ha:ST X a ga):ST X (.UnaryOp .Not a pos) (Qek ga):=λH0 A0=>
 (QvY (ha H0 A0)).mono λσ H Q ⟨ρ,hs,F,b,rel,e,q⟩=>by
  obtain⟨c,e1,e⟩:=bind1 e
  cases e
  exact⟨ρ,hs,F,c,rel,e1,λH1 s1=>q H1 s1⟩
theorem QuS(ha:ST X a ga):SW X (.BoolOp .And [a] pos) ga:=λH0 A0=>Qul (ha H0 A0)
theorem QvU(ha:ST X a ga):SW X (.BoolOp .Or [a] pos) ga:=λH0 A0=>Qwx (ha H0 A0)
theorem Qwz(ha:ST X a ga)(hb:SW X (.BoolOp .And (b::rest) pos) gb):SW X (.BoolOp .And (a::b::rest) pos) (Qsi ga gb):=λH0 A0=>
 (Qv8 (ha H0 A0) (hb H0 A0)).mono λσ H Q ⟨ρ,hs,F,c,rel,e,q⟩=>by
  obtain⟨d,e1,e⟩:=bind1 e
  refine⟨ρ,hs,F,d,rel,e1,λH1 s1=>?_⟩
  cases d with
  | true=>exact⟨ρ,hs,F,c,rel.ext s1,e,λH2 s2=>q H2 (s1.trans s2)⟩
  | false=>cases e;exact q H1 s1
theorem Qxy(ha:ST X a ga)(hb:SW X (.BoolOp .Or (b::rest) pos) gb):SW X (.BoolOp .Or (a::b::rest) pos) (bOr ga gb):=λH0 A0=>
 (Qx9 (ha H0 A0) (hb H0 A0)).mono λσ H Q ⟨ρ,hs,F,c,rel,e,q⟩=>by
  obtain⟨d,e1,e⟩:=bind1 e
  refine⟨ρ,hs,F,d,rel,e1,λH1 s1=>?_⟩
  cases d with
  | true=>cases e;exact q H1 s1
  | false=>exact⟨ρ,hs,F,c,rel.ext s1,e,λH2 s2=>q H2 (s1.trans s2)⟩
theorem SW.st(h:SW X e ga):ST X e ga:=λH0 A0=>(h H0 A0).pt
noncomputable def Qep(fa fb:DE):DE:=λρ=>(fa ρ).bind λra=>(ra.d.tru).bind λb=>if b=true then fb ρ else some ra
noncomputable def dOr(fa fb:DE):DE:=λρ=>(fa ρ).bind λra=>(ra.d.tru).bind λb=>if b=true then some ra else fb ρ
noncomputable def Qg5(fa:DE):DE:=λρ=>(fa ρ).bind λra=>(ra.d.tru).bind λb=>some ⟨.bl (!b),true,[]⟩
noncomputable def dIf(g:DT)(fa fb:DE):DE:=λρ=>(g ρ).bind λb=>if b=true then fa ρ else fb ρ
theorem Qkk{op}(h:SE X a fa):SE X (.BoolOp op [a] pos) fa:=λH0 A0=>QvL (h H0 A0)
theorem Q2.ext{K:PySem.W.Frag}{ρ:En}{F:Nat->List Addr}{H H1 H2:Hp}{r:R}{v:V}{G:List Addr}(s:QH H H1)(p:Q2 K ρ F H1 H2 r v G){H0:Hp}{A0:List Addr}{hs:List (V×D×List Addr)}{σ:L2.St}(rel:Rel K H0 A0 hs ρ F σ H):Q2 K ρ F H H2 r v G where
 same:=s.trans p.same
 rp:=p.rp
 src:=λa ha=>(p.src a ha).elim (λz=> .inl (s.free z)) .inr
 cnt:=λh=>⟨λa=>Zq ((p.cnt h).1 a) (Zbj (by
  cases q:H1 a with
  | none=>rw[Qbk q,Qbk (s.free q)];exact Zj _
  | some o=>rw[Qdg q];exact ZT _) _),(p.cnt h).2⟩
 own:=p.own
theorem QqT(ha:SE X a fa)(hb:SE X (.BoolOp .And (b::rest) pos) fb):SE X (.BoolOp .And (a::b::rest) pos) (Qep fa fb):=λH0 A0=>by
 intro pins s σ H Q I ⟨ρ,hs,F,r,rel,e,q⟩
 obtain⟨ra,e1,e⟩:=bind1 e
 obtain⟨c,e2,e⟩:=bind1 e
 refine PyProof.Rows.BoolOp_and (thn (ha H0 A0 pins s σ H _ I ⟨ρ,hs,F,ra,rel,e1,λv H' G p=>(⟨G,p⟩:∃G,Q2 X.K ρ F H H' ra v G)⟩) λv s1 ⟨x,H1,I1,r1,G,p⟩=>?_)
 refine thn (QjW pins s1 σ H1 x v (λk H2=>k=c/\H2=H1) I1 r1 ⟨c,Qmi p.rp e2,rfl,rfl⟩) λk s2 ⟨H2,I2,e3,e4⟩=>?_
 subst e3 e4
 cases k with
 | true=>exact hb H0 A0 pins s2 σ _ Q I2 ⟨ρ,hs,F,r,rel.ext p.same,e,λw H3 G3 p3=>q w H3 G3 (p3.ext p.same rel)⟩
 | false=>cases e;exact⟨x,_,I2,r1,q x _ G p⟩
theorem QtX(ha:SE X a fa)(hb:SE X (.BoolOp .Or (b::rest) pos) fb):SE X (.BoolOp .Or (a::b::rest) pos) (dOr fa fb):=λH0 A0=>by
 intro pins s σ H Q I ⟨ρ,hs,F,r,rel,e,q⟩
 obtain⟨ra,e1,e⟩:=bind1 e
 obtain⟨c,e2,e⟩:=bind1 e
 refine PyProof.Rows.BoolOp_or (thn (ha H0 A0 pins s σ H _ I ⟨ρ,hs,F,ra,rel,e1,λv H' G p=>(⟨G,p⟩:∃G,Q2 X.K ρ F H H' ra v G)⟩) λv s1 ⟨x,H1,I1,r1,G,p⟩=>?_)
 refine thn (QjW pins s1 σ H1 x v (λk H2=>k=c/\H2=H1) I1 r1 ⟨c,Qmi p.rp e2,rfl,rfl⟩) λk s2 ⟨H2,I2,e3,e4⟩=>?_
 subst e3 e4
 cases k with
 | false=>exact hb H0 A0 pins s2 σ _ Q I2 ⟨ρ,hs,F,r,rel.ext p.same,e,λw H3 G3 p3=>q w H3 G3 (p3.ext p.same rel)⟩
 | true=>cases e;exact⟨x,_,I2,r1,q x _ G p⟩
theorem Qqm(ha:SE X a fa):SE X (.UnaryOp .Not a pos) (Qg5 fa):=λH0 A0=>by
 intro pins s σ H Q I ⟨ρ,hs,F,r,rel,e,q⟩
 obtain⟨ra,e1,e⟩:=bind1 e
 obtain⟨c,e2,e⟩:=bind1 e
 cases e
 refine PyProof.Rows.UnaryOp_ (thn (ha H0 A0 pins s σ H _ I ⟨ρ,hs,F,ra,rel,e1,λv H' G p=>(⟨G,p⟩:∃G,Q2 X.K ρ F H H' ra v G)⟩) λv s1 ⟨x,H1,I1,r1,G,p⟩=>?_)
 refine PyProof.Rows.not_of (thn (QjW pins s1 σ H1 x v (λk H2=>k=c/\H2=H1) I1 r1 ⟨c,Qmi p.rp e2,rfl,rfl⟩) λk s2 ⟨H2,I2,e3,e4⟩=>?_)
 subst e3 e4
 exact⟨.bl (!k),_,I2,rfl,q _ _ [] (.flat p.same .QcO)⟩
theorem Qxn{c:Expr}(hc:ST X c gc)(ha:SE X a fa)(hb:SE X b fb):SE X (.IfExp c a b pos) (dIf gc fa fb):=λH0 A0=>
 (QsH (hc H0 A0) (ha H0 A0) (hb H0 A0)).mono λσ H Q ⟨ρ,hs,F,r,rel,e,q⟩=>by
  obtain⟨c,e1,e⟩:=bind1 e
  refine⟨ρ,hs,F,c,rel,e1,λH1 s1=>?_⟩
  cases c with
  | true=>exact⟨ρ,hs,F,r,rel.ext s1,e,λv H2 G p=>q v H2 G (p.ext s1 rel)⟩
  | false=>exact⟨ρ,hs,F,r,rel.ext s1,e,λv H2 G p=>q v H2 G (p.ext s1 rel)⟩
noncomputable def Qo2(fa:DE):DE:=λρ=>(fa ρ).bind λra=>match ra.d with
 | .int i=>some ⟨.int (-i),true,[]⟩
 | _=>none
theorem Qxe(ha:SE X a fa):SE X (.UnaryOp .USub a pos) (Qo2 fa):=λH0 A0=>
 (QxK QvG (ha H0 A0)).mono λσ H Q ⟨ρ,hs,F,r,rel,e,q⟩=>by
  obtain⟨ra,e1,e⟩:=bind1 e
  refine⟨ρ,hs,F,ra,rel,e1,λv H1 G p=>?_⟩
  have rp:=p.rp
  cases hr:ra.d with
  | int i=>
   rw[hr]at e rp
   cases e
   exact⟨i,rp.int_inv,q _ H1 [] (.flat p.same .int_mk)⟩
  | _=>rw[hr]at e;cases e
end
end HS
namespace HS
open PySem PySem.Spec L2
section
variable {K:PySem.W.Frag}{H0 H H':Hp}{A0:List Addr}{hs:List (V×D×List Addr)}{ρ ρ':En}{F:Nat->List Addr}{σ:L2.St}
def QcV(ρ ρ':En):Prop:=ρ'.length=ρ.length/\∀(i:Nat) d b,ρ'[i]? =some (some (d,b))->∃b',ρ[i]? =some (some (d,b'))/\(b=true->b'=true)
theorem QcV.refl:QcV ρ ρ:=⟨rfl,λi d b h=>⟨b,h,id⟩⟩
theorem QcV.trans{ρ'':En}(a:QcV ρ ρ')(b:QcV ρ' ρ''):QcV ρ ρ'':=⟨b.1.trans a.1,λi d c h=>by
 obtain⟨c',h1,h2⟩:=b.2 i d c h
 obtain⟨c'',h3,h4⟩:=a.2 i d c' h1
 exact⟨c'',h3,λz=>h4 (h2 z)⟩⟩
theorem Rel.weak(r:Rel K H0 A0 hs ρ F σ H)(w:QcV ρ ρ'):Rel K H0 A0 hs ρ' F σ H where
 len:=w.1.trans r.len
 val:=λi d b e=>let ⟨b',h,_⟩:=w.2 i d b e;r.val i d b' h
 own:=λi d e=>by
  obtain⟨b',h,hb⟩:=w.2 i d true e
  have:b'=true:=hb rfl
  subst this
  obtain⟨h1,h2,h3,h4,h5⟩:=r.own i d h
  exact⟨h1,h2,h3,λj d' b' hj e'=>let ⟨b'',h',_⟩:=w.2 j d' b' e';h4 j d' b'' hj h',h5⟩
 src:=λi d b e=>let ⟨b',h,_⟩:=w.2 i d b e;r.src i d b' h
 held:=r.held
 same:=r.same
noncomputable def kill:List Nat->En->En
 | [],ρ=>ρ
 | i::M,ρ=>kill M (ρ.set i none)
noncomputable def Qaz:List Nat->En->En
 | [],ρ=>ρ
 | i::M,ρ=>Qaz M (match ρ[i]? with
  | some (some (d,_))=>ρ.set i (some (d,false))
  | _=>ρ)
theorem Qc1(i:Nat):QcV ρ (ρ.set i none):=⟨by simp,λj d b h=>by
 by_cases hj:i=j
 ·subst hj
  by_cases hl:i<ρ.length
  ·rw[Zg hl]at h;cases h
  ·rw[Zk (by simp;omega)]at h;cases h
 ·rw[Zc hj]at h
  exact⟨b,h,id⟩⟩
theorem Qc0:∀(M:List Nat) (ρ:En),QcV ρ (kill M ρ)
 | [],ρ=> .refl
 | i::M,ρ=>(Qc1 i).trans (Qc0 M _)
theorem Qh0:∀(M:List Nat) (ρ:En) (i:Nat) (d:D) (b:Bool),i∈M->(kill M ρ)[i]? =some (some (d,b))->False
 | [],ρ,i,d,b,h,_=>by simp at h
 | j::M,ρ,i,d,b,h,e=>by
  rcases Zl.mp h with rfl | h
  ·obtain⟨b',e',_⟩:=(Qc0 M (ρ.set i none)).2 i d b e
   by_cases hl:i<ρ.length
   ·rw[Zg hl]at e';cases e'
   ·rw[Zk (by simp;omega)]at e';cases e'
  ·exact Qh0 M _ i d b h e
theorem QrP(i:Nat):QcV ρ (match ρ[i]? with
  | some (some (d,_))=>ρ.set i (some (d,false))
  | _=>ρ):=by
 split
 ·rename_i d b e
  refine⟨by simp,λj d' b' h=>?_⟩
  by_cases hj:i=j
  ·subst hj
   have hl:i<ρ.length:=(Zf.mp e).1
   rw[Zg hl]at h
   cases h
   exact⟨b,e,λz=>by cases z⟩
  ·rw[Zc hj]at h
   exact⟨b',h,id⟩
 ·exact .refl
theorem QaF:∀(M:List Nat) (ρ:En),QcV ρ (Qaz M ρ)
 | [],ρ=> .refl
 | i::M,ρ=>(QrP i).trans (QaF M _)
theorem QjP:∀(M:List Nat) (ρ:En) (i:Nat) (d:D),i∈M->(Qaz M ρ)[i]? =some (some (d,true))->False
 | [],ρ,i,d,h,_=>by simp at h
 | j::M,ρ,i,d,h,e=>by
  rcases Zl.mp h with rfl | h
  ·obtain⟨b',e',hb⟩:=(QaF M _).2 i d true e
   have:b'=true:=hb rfl
   subst this
   split at e'
   ·rename_i d' b e1
    have hl:i<ρ.length:=(Zf.mp e1).1
    rw[Zg hl]at e'
    cases e'
   ·rename_i h1
    exact h1 d true e'
  ·exact QjP M _ i d h e
def Shr(H0:Hp)(A0:List Addr)(ρ:En)(F:Nat->List Addr)(G:List Addr):Prop:=
 ∀a∈G,(H0 a=none∨a∈A0)/\∀(i:Nat) d,ρ[i]? =some (some (d,true))->a∉F i
theorem Shr.of(r:Rel K H0 A0 hs ρ F σ H){M:List Nat}{G:List Addr}(s:Src ρ F H M G):Shr H0 A0 (Qaz M ρ) F G:=λa ha=>by
 have w:=QaF M ρ
 rcases s a ha with h | ⟨i,d,b,e,m,hm⟩
 ·refine⟨.inl (r.same.free h),λj d' e' hj=>?_⟩
  obtain⟨b',e2,_⟩:=w.2 j d' true e'
  obtain⟨vs,q⟩:=r.mem e2 hj
  rw[h]at q;cases q
 ·refine⟨r.src i d b e a m,λj d' e' hj=>?_⟩
  obtain⟨b',e2,hb⟩:=w.2 j d' true e'
  have:b'=true:=hb rfl
  subst this
  by_cases hij:i=j
  ·subst hij
   rw[e]at e2
   cases e2
   exact QjP M ρ i _ (hm rfl) e'
  ·exact(r.own j d' e2).2.2.2.1 i d b hij e a hj m
theorem Rel.QkW(r:Rel K H0 A0 hs ρ F σ H){i:Nat}{d:D}{v:V}{G:List Addr}(rp:Rp K H d v G)(sh:Shr H0 A0 ρ F G):
  Rel K H0 A0 hs (ρ.set i (some (d,d.flat))) (λj=>if j=i then G else F j) (σ.set i (some v)) H where
 len:=by simp[r.len]
 val:=λj d' b e=>by
  by_cases hj:j=i
  ·subst hj
   have hl:j<ρ.length:=by
    by_cases hl:j<ρ.length
    ·exact hl
    ·rw[Zk (by simp;omega)]at e;cases e
   rw[Zg hl]at e
   cases e
   exact⟨v,by rw[Zg (by rw[← r.len];exact hl)],by rw[if_pos rfl];exact rp⟩
  ·rw[Zc (Ne.symm hj)]at e
   obtain⟨w,h1,h2⟩:=r.val j d' b e
   exact⟨w,by rw[Zc (Ne.symm hj)];exact h1,by rw[if_neg hj];exact h2⟩
 own:=λj d' e=>by
  by_cases hj:j=i
  ·subst hj
   have hl:j<ρ.length:=by
    by_cases hl:j<ρ.length
    ·exact hl
    ·rw[Zk (by simp;omega)]at e;cases e
   rw[Zg hl]at e
   have e1:=Option.some.inj (Option.some.inj e)
   have ed:d=d':=congrArg Prod.fst e1
   have ef:d.flat=true:=congrArg Prod.snd e1
   subst ed
   have:=rp.Qcr ef
   subst this
   rw[if_pos rfl]
   exact⟨(Qfa d ef).symm,Zay,λa ha=>by simp at ha,λ_ _ _ _ _ a ha=>by simp at ha,λ_ _ a ha=>by simp at ha⟩
  ·rw[Zc (Ne.symm hj)]at e
   obtain⟨h1,h2,h3,h4,h5⟩:=r.own j d' e
   rw[if_neg hj]
   refine⟨h1,h2,h3,λk d'' b hk ek a ha=>?_,h5⟩
   by_cases hki:k=i
   ·subst hki
    rw[if_pos rfl]
    exact λhG=>(sh a hG).2 j d' e ha
   ·rw[Zc (Ne.symm hki)]at ek
    rw[if_neg hki]
    exact h4 k d'' b hk ek a ha
 src:=λj d' b e a ha=>by
  by_cases hj:j=i
  ·subst hj
   rw[if_pos rfl]at ha
   exact(sh a ha).1
  ·rw[Zc (Ne.symm hj)]at e
   rw[if_neg hj]at ha
   exact r.src j d' b e a ha
 held:=r.held
 same:=r.same
theorem Qxr(r:Rel K H0 A0 hs ρ F σ H){M:List Nat}(ow:Qa8 ρ M)(nd:M.Nodup)(a:Addr):((M.map F).flatten).count a<=1:=by
 induction M with
 | nil=>simp
 | cons i M ih=>
  rw[ZR,Zai,Zaj]
  obtain⟨h1,h2⟩:=Zar.mp nd
  have ih':=ih (λj hj=>ow j (Ze _ hj)) h2
  obtain⟨d,e⟩:=ow i Zo
  obtain⟨_,nd1,_,apart,_⟩:=r.own i d e
  by_cases ha:a∈F i
  ·have c1:(F i).count a<=1:=Zad.mp nd1 a
   have c2:((M.map F).flatten).count a=0:=ZH.mpr λhm=>by
    obtain⟨l,hl,hal⟩:=Zbh.mp hm
    obtain⟨j,hj,rfl⟩:=Zao.mp hl
    obtain⟨d',e'⟩:=ow j (Ze _ hj)
    exact apart j d' true (λz=>h1 (z▸hj)) e' a ha hal
   omega
  ·have:(F i).count a=0:=ZH.mpr ha
   omega
theorem Q2.fresh(r:Rel K H0 A0 hs ρ F σ H){rr:R}{v:V}{G:List Addr}(p:Q2 K ρ F H H' rr v G)(hf:rr.fr=true)(nd:rr.M.Nodup):
  G.Nodup/\∀a∈G,H0 a=none/\(H a=none∨∃i d,i∈rr.M/\ρ[i]? =some (some (d,true))/\a∈F i):=by
 obtain⟨c,_⟩:=p.cnt hf
 refine⟨Zad.mpr λa=>?_,λa ha=>?_⟩
 ·have h1:=c a
  have h2:=Qxr r p.own nd a
  cases q:H a with
  | none=>rw[Qbk q,r.fl0 p.own q]at h1;omega
  | some o=>rw[Qdg q]at h1;omega
 ·cases q:H a with
  | none=>exact⟨r.same.free q,.inl rfl⟩
  | some o=>
   have h1:=c a
   rw[Qdg q]at h1
   have h2:0<G.count a:=ZZ.mpr ha
   obtain⟨l,hl,hal⟩:=Zbh.mp (ZZ.mp (by omega:0<((rr.M.map F).flatten).count a))
   obtain⟨i,hi,rfl⟩:=Zao.mp hl
   obtain⟨d,e⟩:=p.own i hi
   exact⟨(r.own i d e).2.2.1 a hal,.inr ⟨i,d,hi,e,hal⟩⟩
theorem Rel.QyZ(r:Rel K H0 A0 hs ρ F σ H){i:Nat}{rr:R}{v:V}{G:List Addr}(p:Q2 K ρ F H H' rr v G)(hf:rr.fr=true)(nd:rr.M.Nodup):
  Rel K H0 A0 hs ((kill rr.M ρ).set i (some (rr.d,true))) (λj=>if j=i then G else F j) (σ.set i (some v)) H':=by
 have r1:=(r.ext p.same).weak (Qc0 rr.M ρ)
 obtain⟨gn,gs⟩:=p.fresh r hf nd
 have gl:=(p.cnt hf).2
 have apart:∀(j:Nat) d b,(kill rr.M ρ)[j]? =some (some (d,b))->∀a∈G,a∉F j:=λj d b e a ha hj=>by
  obtain⟨b',e',_⟩:=(Qc0 rr.M ρ).2 j d b e
  rcases(gs a ha).2 with q | ⟨k,d',hk,ek,hak⟩
  ·obtain⟨vs,w⟩:=r.mem e' hj
   rw[q]at w;cases w
  ·have hjk:j≠k:=λz=>by subst z;exact Qh0 rr.M ρ j d b hk e
   exact(r.own k d' ek).2.2.2.1 j d b' hjk e' a hak hj
 have apartH:∀t∈hs,∀a∈G,a∉t.2.2:=λt ht a ha hj=>by
  rcases(gs a ha).2 with q | ⟨k,d',hk,ek,hak⟩
  ·obtain⟨vs,w⟩:=(r.held t ht).1.mem a hj
   rw[q]at w;cases w
  ·exact(r.own k d' ek).2.2.2.2 t ht a hak hj
 have lt:∀{j:Nat}{x:Option (D×Bool)}{y:D×Bool},((kill rr.M ρ).set j x)[j]? =some (some y)->j<(kill rr.M ρ).length:=λ{j x y} e=>by
  by_cases hl:j<(kill rr.M ρ).length
  ·exact hl
  ·rw[Zk (by simp;omega)]at e;cases e
 refine⟨by simp[r1.len],λj d b e=>?_,λj d e=>?_,λj d b e a ha=>?_,r1.held,r1.same⟩
 ·by_cases hj:j=i
  ·subst hj
   have hl:=lt e
   rw[Zg hl]at e
   cases e
   exact⟨v,by rw[Zg (by rw[← r1.len];exact hl)],by rw[if_pos rfl];exact p.rp⟩
  ·rw[Zc (Ne.symm hj)]at e
   obtain⟨w,h1,h2⟩:=r1.val j d b e
   exact⟨w,by rw[Zc (Ne.symm hj)];exact h1,by rw[if_neg hj];exact h2⟩
 ·by_cases hj:j=i
  ·subst hj
   have hl:=lt e
   rw[Zg hl]at e
   cases e
   rw[if_pos rfl]
   refine⟨gl,gn,λa ha=>(gs a ha).1,λk d' b hk ek a ha=>?_,apartH⟩
   rw[Zc (Ne.symm hk)]at ek
   rw[if_neg hk]
   exact apart k d' b ek a ha
  ·rw[Zc (Ne.symm hj)]at e
   obtain⟨h1,h2,h3,h4,h5⟩:=r1.own j d e
   rw[if_neg hj]
   refine⟨h1,h2,h3,λk d' b hk ek a ha=>?_,h5⟩
   by_cases hki:k=i
   ·subst hki
    rw[if_pos rfl]
    exact λhG=>apart j d true e a hG ha
   ·rw[Zc (Ne.symm hki)]at ek
    rw[if_neg hki]
    exact h4 k d' b hk ek a ha
 ·by_cases hj:j=i
  ·subst hj
   rw[if_pos rfl]at ha
   exact .inl (gs a ha).1
  ·rw[Zc (Ne.symm hj)]at e
   rw[if_neg hj]at ha
   exact r1.src j d b e a ha
noncomputable def asg(i:Nat)(r:R)(ρ:En):En:=
 if r.norm.fr && decide r.norm.M.Nodup then(kill r.norm.M ρ).set i (some (r.d,true))else(Qaz r.norm.M ρ).set i (some (r.d,r.d.flat))
theorem Rel.asg(r:Rel K H0 A0 hs ρ F σ H){i:Nat}{rr:R}{v:V}{G:List Addr}(p:Q2 K ρ F H H' rr v G):∃F',Rel K H0 A0 hs (asg i rr ρ) F' (σ.set i (some v)) H':=by
 have p':=p.norm
 unfold HS.asg
 split
 ·rename_i h
  simp only[Zi,decide_eq_true_eq]at h
  have:=r.QyZ (i:=i) p' h.1 h.2
  rw[rr.Qcw]at this
  exact⟨_,this⟩
 ·have r1:=(r.ext p'.same).weak (QaF rr.norm.M ρ)
  have rp:=p'.rp
  rw[rr.Qcw]at rp
  have sh:=Shr.of r p'.src
  exact⟨_,r1.QkW rp sh⟩
theorem Rel.hold(r:Rel K H0 A0 hs ρ F σ H){ts:List (V×D×List Addr)}(h:∀t∈ts,Rp K H t.2.1 t.1 t.2.2/\Shr H0 A0 ρ F t.2.2):Rel K H0 A0 (ts++hs) ρ F σ H where
 len:=r.len
 val:=r.val
 own:=λi d e=>by
  obtain⟨h1,h2,h3,h4,h5⟩:=r.own i d e
  refine⟨h1,h2,h3,h4,λt ht a ha hm=>?_⟩
  rcases ZM.mp ht with z | z
  ·exact((h t z).2 a hm).2 i d e ha
  ·exact h5 t z a ha hm
 src:=r.src
 held:=λt ht=>by
  rcases ZM.mp ht with z | z
  ·exact⟨(h t z).1,λa ha=>((h t z).2 a ha).1⟩
  ·exact r.held t z
 same:=r.same
theorem Rel.Qnd{ts:List (V×D×List Addr)}(r:Rel K H0 A0 (ts++hs) ρ F σ H):Rel K H0 A0 hs ρ F σ H where
 len:=r.len
 val:=r.val
 own:=λi d e=>let ⟨h1,h2,h3,h4,h5⟩:=r.own i d e;⟨h1,h2,h3,h4,λt ht=>h5 t (Zd _ ht)⟩
 src:=r.src
 held:=λt ht=>r.held t (Zd _ ht)
 same:=r.same
end
end HS
namespace HS
open PySem PySem.Spec L2
structure Ret (K:PySem.W.Frag) (H0:Hp) (A0:List Addr) (d:D) (fr:Bool) (v:V) (H':Hp) (G:List Addr):Prop where
 same:QH H0 H'
 rp:Rp K H' d v G
 src:∀a∈G,H0 a=none∨a∈A0
 cnt:fr=true->G.Nodup/\G.length=d.nl/\∀a∈G,H0 a=none
noncomputable abbrev Den:=List D->Option (D×Bool)
noncomputable def spV(K:PySem.W.Frag)(n:Nat)(den:Den):Sp:=λvs H Q _=>∃ds F d fr,Rps K H ds vs F/\ds.length=n/\den ds=some (d,fr)/\∀v H' G,Ret K H F d fr v H' G->Q v H'
theorem QoL{K:PySem.W.Frag}{n:Nat}{den:Den}{ps:List Str}(hn:ps.length=n):∀vs H Q E,spV K n den vs H Q E->vs.length=ps.length:=λvs H Q E ⟨ds,F,d,fr,r,hl,_⟩=>by rw[hn,← hl,r.length]
noncomputable def Qh(n:Nat)(den:Den)(dfl:List D)(fs:DA):DE:=λρ=>(fs ρ).bind λr=>if r.ds.length+dfl.length=n then(den (r.ds++dfl)).map λq=>if q.2=true then⟨q.1,true,[]⟩else R.norm ⟨q.1,false,r.M⟩else none
section
variable {X:Cx}{e:Expr}{es:List Expr}{fs:DA}{pos p:Pos}{x:Str}{n k:Nat}{f:Addr}{fd:FuncData}{ps:List Str}{den:Den}{dfl:List D}{dvs:List V}{ds:List Value}
theorem Qh1{σ:L2.St}{H H0:Hp}{A0:List Addr}{Q:VK}(hdf:∀H,Rps X.K H dfl dvs []):tV X.K H0 A0 (Qh n den dfl fs) σ H Q->Qpr (spV X.K n den) dvs E0 (tVA X.K H0 A0 fs) σ H Q:=λ⟨ρ,hs,F,r,rel,e,q⟩=>by
 obtain⟨ra,e1,e⟩:=bind1 e
 split at e
 ·rename_i hl
  obtain⟨⟨d,fr⟩,e2,e⟩:=Zb.mp e
  refine⟨ρ,hs,F,ra,rel,e1,λvs H1 G p1=>⟨ra.ds++dfl,G++[],d,fr,p1.rp.append (hdf H1),by rw[Zx];exact hl,e2,λv H2 G2 rt=>?_⟩⟩
  subst e
  have src:Src ρ F H ra.M G2:=λa ha=>by
   rcases rt.src a ha with z | z
   ·exact .inl (p1.same.free z)
   ·rw[Zaq]at z
    exact p1.src a z
  split at q
  ·rename_i hf
   have hf:fr=true:=hf
   obtain⟨nd,hn,fresh⟩:=rt.cnt hf
   have hH:∀a∈G2,H a=none:=λa ha=>p1.same.free (fresh a ha)
   refine q v H2 G2 ⟨p1.same.trans rt.same,rt.rp,λa ha=> .inl (hH a ha),λ_=>⟨λa=>?_,hn⟩,Qa8.nil⟩
   by_cases ha:a∈G2
   ·rw[Qbk (hH a ha)];have:=Zad.mp nd a;omega
   ·rw[ZH.mpr ha];exact ZT _
  ·refine q v H2 G2 (Q2.norm ⟨p1.same.trans rt.same,rt.rp,src,λz=>(by cases z),p1.own⟩)
 ·cases e
theorem QuA(Fk:Qck X.prog X.w X.K X.mg X.base CX0 k f fd ps (spV X.K n den))(hr:Qa1 k X.A)(hg:Gl X x)(hm:X.mg x=some (.ref f))(hk:PySem.W.keepIn X.K (.ref f)=true)(hb:Binds X.K fd ps ds)(hd:Qz dvs ds)(hdf:∀H,Rps X.K H dfl dvs [])
  (ha:SA X (e::es) fs) (hdb:(x == ("__debug__" :Str))=false) (he:starEach (e::es) X.env=(false,eval e X.env)::starEach es X.env) (hpl:(backTo pos (starEach es X.env)).any (·.1)=false):
  SE X (.Call (.Name x p) (e::es) [] pos) (Qh n den dfl fs):=λH0 A0=>
 (Qud Fk hr hg hm hk hb hd QoY (ha H0 A0) hdb he hpl).mono λσ H Q h=>Qh1 hdf h
theorem QsJ(Fk:Qck X.prog X.w X.K X.mg X.base CX0 k f fd ps (spV X.K n den))(hr:Qa1 k X.A)(hg:Gl X x)(hm:X.mg x=some (.ref f))(hk:PySem.W.keepIn X.K (.ref f)=true)(hb:Binds X.K fd ps ds)(hd:Qz dvs ds)(hdf:∀H,Rps X.K H dfl dvs [])
  (hdb:(x == ("__debug__" :Str))=false):SE X (.Call (.Name x p) [] [] pos) (Qh n den dfl Qe):=λH0 A0=>
 (QsZ Fk hr hg hm hk hb hd QoY hdb).mono λσ H Q h=>by
  have h':=Qh1 (X:=X) (H0:=H0) (A0:=A0) hdf h
  obtain⟨ρ,hs,F,r,rel,e,q⟩:=h'
  cases e
  exact q [] H [] ⟨QH.refl _,by simp[Rps],Src.nil,λ_=>⟨Cnt.nil,rfl⟩,Qa8.nil⟩
end
structure IR where
 items:List D
 M:List Nat
noncomputable abbrev DI:=En->Option IR
def Qlb(K:PySem.W.Frag)(H:Hp)(ts:List (V×D×List Addr)):Prop:=∀t∈ts,Rp K H t.2.1 t.1 t.2.2
structure Walk (K:PySem.W.Frag) (J:It) (ts:List (V×D×List Addr)) (ds:List D):Prop where
 stop:∀H,Qlb K H ts->J.stop ds.length H
 go:∀i H,i<ds.length->Qlb K H ts->J.go i H
 yld:∀(i:Nat) d H x H',ds[i]? =some d->Qlb K H ts->J.yld i H x H'->QH H H'/\∃G,Rp K H' d x G/\∀a∈G,∃t∈ts,a∈t.2.2
noncomputable def tI(K:PySem.W.Frag)(H0:Hp)(A0:List Addr)(f:DI):TI:=λσ H Rr=>∃ρ hs F ir,Rel K H0 A0 hs ρ F σ H/\f ρ=some ir∧
 ∀J H1 ts,QH H H1->Walk K J ts ir.items->(∀t∈ts,Rp K H1 t.2.1 t.1 t.2.2/\Src ρ F H ir.M t.2.2)->Qa8 ρ ir.M->ir.items.length<=sizeLine->Rr J H1
def SI(X:Cx)(tg e:Expr)(f:DI):Prop:=∀H0 A0,PI X tg e (tI X.K H0 A0 f)
theorem _root_.L2.PI.mono{X:Cx}{tg e:Expr}{t t':TI}(h:PI X tg e t)(m:∀σ H Q,t' σ H Q->t σ H Q):PI X tg e t':=λpins s σ H Q I q=>h pins s σ H Q I (m σ H Q q)
section
variable {X:Cx}{tg a b:Expr}{fa fb:DE}{fs:DA}{pos p:Pos}
theorem Rps.nth{K:PySem.W.Frag}{H:Hp}{ds:List D}{vs:List V}{F:List Addr}{i:Nat}{d:D}(h:Rps K H ds vs F)(e:ds[i]? =some d):∃v G,vs[i]? =some v/\Rp K H d v G/\∀a∈G,a∈F:=by
 obtain⟨v,F1,G,F2,h1,h2,h3,_⟩:=h.get e
 exact⟨v,G,h1,h3,λa ha=>by rw[h2];exact Zd _ (Zh _ ha)⟩
noncomputable def Qyj(K:PySem.W.Frag)(tl:TE):TI:=λσ H Rr=>tl σ H λx H1=>(∃a,x= .ref a/\(∃xs,SqL K H1 a xs)/\Rr (Itl K a) H1)∨(∃a,x= .ref a/\(∃xs,SqT K H1 a xs)/\Rr (Itt K a) H1)
theorem Qxh{l:Expr}{tl:TE}(hl:PE X l tl):PI X tg l (Qyj X.K tl):=by
 intro pins s σ H Rr I h
 refine thn (hl pins s σ H _ I h) λv s1 ⟨x,H1,I1,r1,q1⟩=>?_
 rcases q1 with⟨a,e,⟨xs,hq⟩,q⟩ | ⟨a,e,⟨xs,hq⟩,q⟩
 ·subst e
  cases r1
  obtain⟨its,rv,pl,hz⟩:=I1.list hq
  refine wpAny_pyIter_list pl.isList ⟨s1.heap.objs.size,[s1.heap.objs.size],_,_,H1,rfl,I1.kept (t':=s1.toks) λb o e=>Zu _ e,Qrt a _,⟨_,ZQ _ rfl,rfl,rfl⟩,λb hb=>?_,q⟩
  have e:b=s1.heap.objs.size:=by simpa using hb
  subst e
  exact I1.QkY (Zj _) (I1.hok.fresh (Zj _))
 ·subst e
  cases r1
  obtain⟨its,rv,pl,hz⟩:=I1.tuple hq
  refine wpAny_pyIter_tuple (show s1.heap.IsTuple a its.toArray from pl) ⟨s1.heap.objs.size,[s1.heap.objs.size],_,_,H1,rfl,I1.kept (t':=s1.toks) λb o e=>Zu _ e,Qpl a _,⟨_,ZQ _ rfl,rfl,rfl⟩,λb hb=>?_,q⟩
  have e:b=s1.heap.objs.size:=by simpa using hb
  subst e
  exact I1.QkY (Zj _) (I1.hok.fresh (Zj _))
noncomputable def Qag(fa:DE):DI:=λρ=>(fa ρ).bind λr=>match r.d with
 | .lst xs=>some ⟨xs,r.M⟩
 | .tup xs=>if xs.length<=sizeLine then some ⟨xs,r.M⟩else none
 | _=>none
theorem Qrq{K:PySem.W.Frag}{c:Addr}{ds:List D}{G:List Addr}:Walk K (Itl K c) [(.ref c,.lst ds,G)] ds where
 stop:=λH h=>by
  obtain⟨l,vs,L,e,hl,rl,zl,el⟩:=(h _ (ZD.mpr rfl)).lst_inv
  cases e
  exact⟨vs,Q6 hl,by rw[rl.length];exact Zj _⟩
 go:=λi H hi h=>by
  obtain⟨l,vs,L,e,hl,rl,zl,el⟩:=(h _ (ZD.mpr rfl)).lst_inv
  cases e
  have:i<vs.length:=by rw[← rl.length];exact hi
  exact⟨vs,vs[i],Q6 hl,by simp[this]⟩
 yld:=λi d H x H' e h y=>by
  obtain⟨l,vs,L,e1,hl,rl,zl,el⟩:=(h _ (ZD.mpr rfl)).lst_inv
  cases e1
  obtain⟨rfl,y⟩:=y
  obtain⟨v,G',h1,h2,h3⟩:=rl.nth e
  have:=y vs (Q6 hl)
  rw[h1]at this
  cases this
  refine⟨QH.refl _,G',h2,λz hz=>⟨_,ZD.mpr rfl,?_⟩⟩
  have:=h3 z hz
  rcases el with rfl | rfl
  ·exact Ze _ this
  ·exact this
theorem Qsp{K:PySem.W.Frag}{c:Addr}{ds:List D}{G:List Addr}:Walk K (Itt K c) [(.ref c,.tup ds,G)] ds where
 stop:=λH h=>by
  obtain⟨l,vs,e,hl,rl⟩:=(h _ (ZD.mpr rfl)).Qbj
  cases e
  exact⟨vs,hl,by rw[rl.length];exact Zj _⟩
 go:=λi H hi h=>by
  obtain⟨l,vs,e,hl,rl⟩:=(h _ (ZD.mpr rfl)).Qbj
  cases e
  have:i<vs.length:=by rw[← rl.length];exact hi
  exact⟨vs,vs[i],hl,by simp[this]⟩
 yld:=λi d H x H' e h y=>by
  obtain⟨l,vs,e1,hl,rl⟩:=(h _ (ZD.mpr rfl)).Qbj
  cases e1
  obtain⟨rfl,y⟩:=y
  obtain⟨v,G',h1,h2,h3⟩:=rl.nth e
  have:=y vs hl
  rw[h1]at this
  cases this
  exact⟨QH.refl _,G',h2,λz hz=>⟨_,ZD.mpr rfl,h3 z hz⟩⟩
theorem Qxb(ha:SE X a fa):SI X tg a (Qag fa):=λH0 A0=>(Qxh (ha H0 A0)).mono λσ H Rr ⟨ρ,hs,F,ir,rel,e,q⟩=>by
 obtain⟨r,e1,e⟩:=bind1 e
 refine⟨ρ,hs,F,r,rel,e1,λv H1 G p=>?_⟩
 have rp:=p.rp
 cases hr:r.d with
 | lst xs=>
  rw[hr]at e rp
  cases e
  obtain⟨c,vs,L,rfl,hl,rl,zl,el⟩:=rp.lst_inv
  refine .inl ⟨c,rfl,⟨vs,Q6 hl⟩,q _ H1 [(.ref c,.lst xs,G)] p.same Qrq (λt ht=>?_) p.own zl⟩
  rw[ZD.mp ht]
  exact⟨rp,p.src⟩
 | tup xs=>
  rw[hr]at e rp
  dsimp only at e
  split at e
  ·rename_i hz
   cases e
   obtain⟨c,vs,rfl,hl,rl⟩:=rp.Qbj
   refine .inr ⟨c,rfl,⟨vs,hl⟩,q _ H1 [(.ref c,.tup xs,G)] p.same Qsp (λt ht=>?_) p.own hz⟩
   rw[ZD.mp ht]
   exact⟨rp,p.src⟩
  ·cases e
 | _=>rw[hr]at e;cases e
noncomputable def QhE(lo:Int)(n:Nat):List D:=(List.range n).map λ(k:Nat)=> .int (lo+(k:Int))
theorem Qg7{lo:Int}{n:Nat}:(QhE lo n).length=n:=by simp[QhE]
theorem Qr5{lo:Int}{n i:Nat}{d:D}(h:(QhE lo n)[i]? =some d):i<n/\d= .int (lo+i):=by
 unfold QhE at h
 rw[Zn]at h
 cases q:(List.range n)[i]? with
 | none=>rw[q]at h;cases h
 | some k=>
  rw[q]at h
  obtain⟨h1,h2⟩:=Zf.mp q
  simp at h1 h2
  subst h2
  exact⟨h1,(Option.some.inj h).symm⟩
theorem QjY{K:PySem.W.Frag}{lo:Int}{n:Nat}:Walk K (Itr lo n) [] (QhE lo n) where
 stop:=λH _=>by rw[Qg7];exact Zj _
 go:=λi H hi _=>by rw[Qg7]at hi;exact hi
 yld:=λi d H x H' e _ y=>by
  obtain⟨h1,rfl⟩:=Qr5 e
  obtain⟨rfl,rfl⟩:=y
  exact⟨QH.refl _,[],.int_mk,λz hz=>by simp at hz⟩
noncomputable def QaK(fa:DE):DI:=λρ=>(fa ρ).bind λr=>match r.d with
 | .int j=>if j<=16777216/\ -(2^62)<=j then some ⟨QhE 0 j.toNat,[]⟩else none
 | _=>none
noncomputable def Qec(fa fb:DE):DI:=λρ=>(fa ρ).bind λr=>(fb ρ).bind λr'=>match r.d,r'.d with
 | .int i,.int j=>if j-i<=16777216/\ -(2^62)<=i/\i<2^62/\ -(2^62)<=j/\j<2^62 then some ⟨QhE i (j-i).toNat,[]⟩else none
 | _,_=>none
theorem QgC:(sizeLine:Nat)=16777216:=sizeLine_eq
theorem Qql(hg:Gl X "range")(hm:X.mg "range" =none)(ha:SE X a fa)(hs:starEach [a] X.env=[(false,eval a X.env)]):SI X tg (.Call (.Name "range" p) [a] [] pos) (QaK fa):=λH0 A0=>
 (Qrk hg hm (Q5 (ha H0 A0) Qb4 hs) hs).mono λσ H Rr ⟨ρ,hs,F,ir,rel,e,q⟩=>by
  obtain⟨r,e1,e⟩:=bind1 e
  refine⟨ρ,hs,F,r,rel,e1,λv H1 G pp=>?_⟩
  have rp:=pp.rp
  cases hr:r.d with
  | int j=>
   rw[hr]at e rp
   dsimp only at e
   split at e
   ·rename_i hz
    cases e
    rw[rp.int_inv]
    refine⟨j,rfl,hz.2,by omega,q _ H1 [] pp.same QjY (λt ht=>by simp at ht) Qa8.nil ?_⟩
    rw[Qg7,QgC];omega
   ·cases e
  | _=>rw[hr]at e;cases e
theorem Qrd(hg:Gl X "range")(hm:X.mg "range" =none)(ha:SE X a fa)(hb:SE X b fb)(hs:starEach [a,b] X.env=[(false,eval a X.env),(false,eval b X.env)])(hs2:starEach [b] X.env=[(false,eval b X.env)]):
  SI X tg (.Call (.Name "range" p) [a,b] [] pos) (Qec fa fb):=λH0 A0=>
 (QqB hg hm (Q5 (ha H0 A0) (Q5 (hb H0 A0) Qb4 hs2) (by rw[hs,hs2])) hs hs2).mono λσ H Rr ⟨ρ,hs,F,ir,rel,e,q⟩=>by
  obtain⟨r,e1,e⟩:=bind1 e
  obtain⟨r',e2,e⟩:=bind1 e
  refine⟨ρ,hs,F,r,rel,e1,λv H1 G pp=>⟨ρ,hs,F,r',rel.ext pp.same,e2,λv' H2 G' pp'=>?_⟩⟩
  have rp:=pp.rp.same pp'.same
  have rp':=pp'.rp
  cases hr:r.d with
  | int i=>
   cases hr':r'.d with
   | int j=>
    rw[hr,hr']at e
    rw[hr]at rp
    rw[hr']at rp'
    dsimp only at e
    split at e
    ·rename_i hz
     cases e
     rw[rp.int_inv,rp'.int_inv]
     refine⟨i,j,rfl,hz.2,q _ H2 [] (pp.same.trans pp'.same) QjY (λt ht=>by simp at ht) Qa8.nil ?_⟩
     rw[Qg7,QgC];omega
    ·cases e
   | _=>rw[hr,hr']at e;cases e
  | _=>rw[hr]at e;cases e
noncomputable def QeZ(ds:List D):List D:=ds.zipIdx.map λq=> .tup [.int q.2,q.1]
theorem Qic{ds:List D}:(QeZ ds).length=ds.length:=by simp[QeZ]
theorem Qrn{ds:List D}{i:Nat}{d:D}(h:(QeZ ds)[i]? =some d):∃e,ds[i]? =some e/\d= .tup [.int i,e]:=by
 unfold QeZ at h
 rw[Zn,List.getElem?_zipIdx]at h
 cases q:ds[i]? with
 | none=>rw[q]at h;cases h
 | some e=>rw[q]at h;simp at h;exact⟨e,rfl,h.symm⟩
theorem Qry{K:PySem.W.Frag}{c:Addr}{ds:List D}{G:List Addr}:Walk K (Ite K c) [(.ref c,.lst ds,G)] (QeZ ds) where
 stop:=λH h=>by
  obtain⟨l,vs,L,e,hl,rl,zl,el⟩:=(h _ (ZD.mpr rfl)).lst_inv
  cases e
  exact⟨vs,Q6 hl,by rw[Qic,rl.length];exact Zj _⟩
 go:=λi H hi h=>by
  obtain⟨l,vs,L,e,hl,rl,zl,el⟩:=(h _ (ZD.mpr rfl)).lst_inv
  cases e
  rw[Qic]at hi
  have:i<vs.length:=by rw[← rl.length];exact hi
  exact⟨vs,vs[i],Q6 hl,by simp[this]⟩
 yld:=λi d H x H' e h y=>by
  obtain⟨l,vs,L,e1,hl,rl,zl,el⟩:=(h _ (ZD.mpr rfl)).lst_inv
  cases e1
  obtain⟨d',e',rfl⟩:=Qrn e
  obtain⟨pp,u,rfl,hp,rfl,y⟩:=y
  obtain⟨v,G',h1,h2,h3⟩:=rl.nth e'
  have:=y vs (Q6 hl)
  rw[h1]at this
  cases this
  have s:=Qbr (o:= .tup [.int i,u]) hp
  refine⟨s,G',Rp.Qho Q1 ?_,λz hz=>⟨_,ZD.mpr rfl,?_⟩⟩
  ·simp only[Rps]
   exact⟨.int i,[u],[],G',rfl,rfl,.int_mk,u,[],G',[],rfl,by simp,h2.same s,rfl,rfl⟩
  ·have:=h3 z hz
   rcases el with rfl | rfl
   ·exact Ze _ this
   ·exact this
noncomputable def QfG(fa:DE):DI:=λρ=>(fa ρ).bind λr=>match r.d with
 | .lst xs=>some ⟨QeZ xs,r.M⟩
 | _=>none
theorem Quq{es:List Expr}{tk:Nat}{tpos:Pos}(hg:Gl X "enumerate")(hm:X.mg "enumerate" =none)(ha:SE X a fa)(hs:starEach [a] X.env=[(false,eval a X.env)]):SI X (.Tuple es tk tpos) (.Call (.Name "enumerate" p) [a] [] pos) (QfG fa):=λH0 A0=>
 (Quc hg hm (Q5 (ha H0 A0) Qb4 hs) hs).mono λσ H Rr ⟨ρ,hs,F,ir,rel,e,q⟩=>by
  obtain⟨r,e1,e⟩:=bind1 e
  refine⟨ρ,hs,F,r,rel,e1,λv H1 G pp=>?_⟩
  have rp:=pp.rp
  cases hr:r.d with
  | lst xs=>
   rw[hr]at e rp
   cases e
   obtain⟨c,vs,L,rfl,hl,rl,zl,el⟩:=rp.lst_inv
   refine⟨c,rfl,⟨vs,Q6 hl⟩,q _ H1 [(.ref c,.lst xs,G)] pp.same Qry (λt ht=>?_) pp.own (by rw[Qic];exact zl)⟩
   rw[ZD.mp ht]
   exact⟨rp,pp.src⟩
  | _=>rw[hr]at e;cases e
noncomputable def QhV(xs ys:List D):List D:=(xs.zip ys).map λq=> .tup [q.1,q.2]
theorem Qi6{xs ys:List D}:(QhV xs ys).length=min xs.length ys.length:=by simp[QhV]
theorem QrJ{xs ys:List D}{i:Nat}{d:D}(h:(QhV xs ys)[i]? =some d):∃e f,xs[i]? =some e/\ys[i]? =some f/\d= .tup [e,f]:=by
 unfold QhV at h
 rw[Zn]at h
 cases q:(xs.zip ys)[i]? with
 | none=>rw[q]at h;cases h
 | some e=>
  rw[q]at h
  obtain⟨h1,h2⟩:=List.getElem?_zip_eq_some.mp q
  exact⟨e.1,e.2,h1,h2,(Option.some.inj h).symm⟩
theorem QrX{K:PySem.W.Frag}{c c':Addr}{xs ys:List D}{G G':List Addr}:Walk K (Itz K c c') [(.ref c,.lst xs,G),(.ref c',.lst ys,G')] (QhV xs ys) where
 stop:=λH h=>by
  obtain⟨l,vs,L,e,hl,rl,zl,el⟩:=(h _ (Zo)).lst_inv
  obtain⟨l',vs',L',e',hl',rl',zl',el'⟩:=(h _ (Ze _ Zo)).lst_inv
  cases e
  cases e'
  refine⟨vs,vs',Q6 hl,Q6 hl',?_⟩
  rw[Qi6,← rl.length,← rl'.length];omega
 go:=λi H hi h=>by
  obtain⟨l,vs,L,e,hl,rl,zl,el⟩:=(h _ (Zo)).lst_inv
  obtain⟨l',vs',L',e',hl',rl',zl',el'⟩:=(h _ (Ze _ Zo)).lst_inv
  cases e
  cases e'
  rw[Qi6]at hi
  have h1:i<vs.length:=by rw[← rl.length];omega
  have h2:i<vs'.length:=by rw[← rl'.length];omega
  exact⟨vs,vs',vs[i],vs'[i],Q6 hl,Q6 hl',by simp[h1],by simp[h2]⟩
 yld:=λi d H x H' e h y=>by
  obtain⟨l,vs,L,e1,hl,rl,zl,el⟩:=(h _ (Zo)).lst_inv
  obtain⟨l',vs',L',e1',hl',rl',zl',el'⟩:=(h _ (Ze _ Zo)).lst_inv
  cases e1
  cases e1'
  obtain⟨d1,d2,ea,eb,rfl⟩:=QrJ e
  obtain⟨pp,u,u',rfl,hp,rfl,y,y'⟩:=y
  obtain⟨v,G1,h1,h2,h3⟩:=rl.nth ea
  obtain⟨v',G2,h1',h2',h3'⟩:=rl'.nth eb
  have:=y vs (Q6 hl)
  rw[h1]at this
  cases this
  have:=y' vs' (Q6 hl')
  rw[h1']at this
  cases this
  have s:=Qbr (o:= .tup [u,u']) hp
  refine⟨s,G1++G2,Rp.Qho Q1 ?_,λz hz=>?_⟩
  ·simp only[Rps]
   exact⟨u,[u'],G1,G2,rfl,rfl,h2.same s,u',[],G2,[],rfl,by simp,h2'.same s,rfl,rfl⟩
  ·rcases ZM.mp hz with hz | hz
   ·refine⟨_,Zo,?_⟩
    have:=h3 z hz
    rcases el with rfl | rfl
    ·exact Ze _ this
    ·exact this
   ·refine⟨_,Ze _ Zo,?_⟩
    have:=h3' z hz
    rcases el' with rfl | rfl
    ·exact Ze _ this
    ·exact this
noncomputable def QbO(fa fb:DE):DI:=λρ=>(fa ρ).bind λr=>(fb ρ).bind λr'=>match r.d,r'.d with
 | .lst xs,.lst ys=>some ⟨QhV xs ys,r.M++r'.M⟩
 | _,_=>none
theorem QwT{es:List Expr}{tk:Nat}{tpos:Pos}(hg:Gl X "zip")(hm:X.mg "zip" =none)(ha:SE X a fa)(hb:SE X b fb)(hs:starEach [a,b] X.env=[(false,eval a X.env),(false,eval b X.env)])(hs2:starEach [b] X.env=[(false,eval b X.env)]):
  SI X (.Tuple es tk tpos) (.Call (.Name "zip" p) [a,b] [] pos) (QbO fa fb):=λH0 A0=>
 (Qww hg hm (Q5 (ha H0 A0) (Q5 (hb H0 A0) Qb4 hs2) (by rw[hs,hs2])) hs hs2).mono λσ H Rr ⟨ρ,hs,F,ir,rel,e,q⟩=>by
  obtain⟨r,e1,e⟩:=bind1 e
  obtain⟨r',e2,e⟩:=bind1 e
  refine⟨ρ,hs,F,r,rel,e1,λv H1 G pp=>⟨ρ,hs,F,r',rel.ext pp.same,e2,λv' H2 G' pp'=>?_⟩⟩
  have rp:=pp.rp.same pp'.same
  have rp':=pp'.rp
  cases hr:r.d with
  | lst xs=>
   cases hr':r'.d with
   | lst ys=>
    rw[hr,hr']at e
    rw[hr]at rp
    rw[hr']at rp'
    cases e
    obtain⟨c,vs,L,rfl,hl,rl,zl,el⟩:=rp.lst_inv
    obtain⟨c',vs',L',rfl,hl',rl',zl',el'⟩:=rp'.lst_inv
    refine⟨c,c',rfl,⟨vs,Q6 hl⟩,⟨vs',Q6 hl'⟩,q _ H2 [(.ref c,.lst xs,G),(.ref c',.lst ys,G')] (pp.same.trans pp'.same) QrX (λt ht=>?_) (pp.own.append pp'.own) (by rw[Qi6];omega)⟩
    have sa:=pp.src.append pp'.src pp.same
    rcases Zl.mp ht with rfl | ht
    ·exact⟨rp,λz hz=>sa z (Zh _ hz)⟩
    ·rw[ZD.mp ht]
     exact⟨rp',λz hz=>sa z (Zd _ hz)⟩
   | _=>rw[hr,hr']at e;cases e
  | _=>rw[hr]at e;cases e
end
end HS
namespace HS
open PySem L2
section
variable {X:Cx}{a b c:Expr}{fa fb fc:DE}{pos p:Pos}
end
end HS
namespace HS
open PySem PySem.Spec L2
inductive Tg where
 | nm (i:Nat)
 | tp (is:List Nat)
noncomputable def Tg.slots:Tg->List Nat
 | .nm i=>[i]
 | .tp is=>is
noncomputable def QdW:List Nat->List D->En->En
 | i::is,d::ds,ρ=>QdW is ds (ρ.set i (some (d,d.flat)))
 | _,_,ρ=>ρ
noncomputable def QbL:Tg->D->En->Option En
 | .nm i,d,ρ=>some (ρ.set i (some (d,d.flat)))
 | .tp is,.tup xs,ρ=>if xs.length=is.length then some (QdW is xs ρ)else none
 | .tp is,.lst xs,ρ=>if xs.length=is.length then some (QdW is xs ρ)else none
 | .tp _,_,_=>none
noncomputable def tG(K:PySem.W.Frag)(H0:Hp)(A0:List Addr)(t:Tg):TG:=λv σ H Q=>∃ρ hs F d G ρ',Rel K H0 A0 hs ρ F σ H/\Rp K H d v G/\Shr H0 A0 ρ F G/\QbL t d ρ=some ρ'∧
 ∀σ' F',Rel K H0 A0 hs ρ' F' σ' H->(∀j,j∉t.slots->σ'[j]? =σ[j]?)->(∀j a,a∈F' j->a∈F j∨a∈G)->Q σ' H
def SG(X:Cx)(tg:Expr)(t:Tg):Prop:=∀H0 A0,PG X tg (tG X.K H0 A0 t)
theorem _root_.L2.PG.mono{X:Cx}{tg:Expr}{t t':TG}(h:PG X tg t)(m:∀v σ H Q,t' v σ H Q->t v σ H Q):PG X tg t':=λpins s σ H v u Q I r q=>h pins s σ H v u Q I r (m v σ H Q q)
noncomputable def QjF:List Nat->TGs
 | []=>QvD
 | i::is=>QtB (QfP i) (QjF is)
theorem Shr.set{H0:Hp}{A0:List Addr}{ρ:En}{F:Nat->List Addr}{G G1:List Addr}{i:Nat}{d:D}(h:Shr H0 A0 ρ F G)(hf:d.flat=true->G1=[]):Shr H0 A0 (ρ.set i (some (d,d.flat))) (λj=>if j=i then G1 else F j) G:=λa ha=>by
 refine⟨(h a ha).1,λj d' e=>?_⟩
 by_cases hj:j=i
 ·subst hj
  show ¬a∈(if j=j then G1 else F j)
  rw[if_pos rfl]
  have hl:j<ρ.length:=by
   by_cases hl:j<ρ.length
   ·exact hl
   ·rw[Zk (by simp;omega)]at e;cases e
  rw[Zg hl]at e
  have e1:=Option.some.inj (Option.some.inj e)
  rw[hf (congrArg Prod.snd e1)]
  simp
 ·rw[Zc (Ne.symm hj)]at e
  show ¬a∈(if j=i then G1 else F j)
  rw[if_neg hj]
  exact(h a ha).2 j d' e
theorem Qjz{K:PySem.W.Frag}{H0:Hp}{A0:List Addr}{hs:List (V×D×List Addr)}:∀(is:List Nat) (ds:List D) (vs:List V) (ρ:En) (F:Nat->List Addr) (σ:L2.St) (H:Hp) (G:List Addr) (Q:L2.St->Hp->Prop),
  Rel K H0 A0 hs ρ F σ H->Rps K H ds vs G->Shr H0 A0 ρ F G->ds.length=is.length→
  (∀σ' F',Rel K H0 A0 hs (QdW is ds ρ) F' σ' H->(∀j,j∉is->σ'[j]? =σ[j]?)->(∀j a,a∈F' j->a∈F j∨a∈G)->Q σ' H)->QjF is vs σ H Q
 | [],ds,vs,ρ,F,σ,H,G,Q,rel,rp,sh,hl,q=>by
  have:ds=[]:=by simpa using hl
  subst this
  simp only[Rps]at rp
  exact⟨rp.1,q σ F rel (λ_ _=>rfl) λ_ _ h=> .inl h⟩
 | i::is,[],vs,ρ,F,σ,H,G,Q,rel,rp,sh,hl,q=>by simp at hl
 | i::is,d::ds,vs,ρ,F,σ,H,G,Q,rel,rp,sh,hl,q=>by
  simp only[Rps]at rp
  obtain⟨v,ws,G1,G2,rfl,rfl,r1,r2⟩:=rp
  refine⟨v,ws,rfl,?_⟩
  have sh1:Shr H0 A0 ρ F G1:=λa ha=>sh a (Zh _ ha)
  have sh2:Shr H0 A0 ρ F G2:=λa ha=>sh a (Zd _ ha)
  refine Qjz is ds ws _ _ _ H G2 Q (rel.QkW (i:=i) r1 sh1) r2 (sh2.set r1.Qcr) (by simpa using hl) λσ' F' rel' k m=>q σ' F' rel' (λj hj=>?_) λj a ha=>?_
  ·have h1:j≠i:=λz=>hj (by rw[z];exact Zo)
   rw[k j λz=>hj (Ze _ z),Zc (Ne.symm h1)]
  ·rcases m j a ha with z | z
   ·by_cases hj:j=i
    ·rw[if_pos hj]at z;exact .inr (Zh _ z)
    ·rw[if_neg hj]at z;exact .inl z
   ·exact .inr (Zd _ z)
section
variable {X:Cx}{tg:Expr}{pos:Pos}
theorem Qvk{i:Nat}{x:Str}(h:PG X (.Name x pos) (QfP i)):SG X (.Name x pos) (.nm i):=λH0 A0=>h.mono λv σ H Q ⟨ρ,hs,F,d,G,ρ',rel,rp,sh,e,q⟩=>by
 cases e
 refine q _ _ (rel.QkW (i:=i) rp sh) (λj hj=>?_) λj a ha=>?_
 ·have:j≠i:=λz=>hj (by simp[Tg.slots,z])
  rw[Zc (Ne.symm this)]
 ·by_cases hj:j=i
  ·rw[if_pos hj]at ha;exact .inr ha
  ·rw[if_neg hj]at ha;exact .inl ha
theorem Qu0{es:List Expr}{k:Nat}{t:TGs}{n:Nat}(hc:X.calm=true)(h:PGs X es t)
  (hn:(assignEach es X.env).length=n) (hst:(assignEach es X.env).findIdx? (·.1)=none):PG X (.Tuple es k pos) (λv σ H Q=>∃a xs,v= .ref a/\SqL X.K H a xs/\xs.length=n/\t xs σ H Q):=by
 intro pins s σ H v u Q I r hw
 obtain⟨a,xs,e1,hq,hl,hw⟩:=hw
 subst e1
 cases r
 obtain⟨its,rv,ht,hz⟩:=I.list hq
 rw[PyProof.Rows.assign_Tuple]
 refine wpAny_bind (wpAny_standAt ?_)
 unfold unpack
 rw[hn,hst,show n=its.toArray.size by simp[← hl,rv.length]]
 refine wpAny_bind (wpAny_holding (PySem.W.kun_itemsOf (I.ok.hd hc) ht.isList λh' hx=>?_))
 have I1:Inv X pins σ H {s with heap:=h'}:=I.kept (t':=s.toks) λb o e=>hx b o (ZI (Zr e)) e
 exact h pins _ σ H xs _ Q I1 (by simpa using rv) hw
theorem QwU{es:List Expr}{k:Nat}{is:List Nat}(hc:X.calm=true)(h:PGs X es (QjF is))(hn:(assignEach es X.env).length=is.length)(hst:(assignEach es X.env).findIdx? (·.1)=none):SG X (.Tuple es k pos) (.tp is):=λH0 A0=>
 λpins s σ H v u Q I r ⟨ρ,hs,F,d,G,ρ',rel,rp,sh,e,q⟩=>by
  cases d with
  | tup xs=>
   simp only[QbL]at e
   split at e
   ·rename_i hl
    cases e
    obtain⟨a,vs,rfl,hq,rs⟩:=rp.Qbj
    exact Qv2 hc h hn hst pins s σ H _ u Q I r ⟨a,vs,rfl,hq,by rw[← rs.length];exact hl,Qjz is xs vs ρ F σ H G Q rel rs sh hl q⟩
   ·cases e
  | lst xs=>
   simp only[QbL]at e
   split at e
   ·rename_i hl
    cases e
    obtain⟨a,vs,L,rfl,hq,rs,_,eG⟩:=rp.lst_inv
    have sub:∀b∈L,b∈G:=λb hb=>by
     rcases eG with rfl | rfl
     ·exact Ze _ hb
     ·exact hb
    exact Qu0 hc h hn hst pins s σ H _ u Q I r ⟨a,vs,rfl,Q6 hq,by rw[← rs.length];exact hl,Qjz is xs vs ρ F σ H L Q rel rs (λb hb=>sh b (sub b hb)) hl λσ' F' rel' k m=>q σ' F' rel' k λj b hb=>(m j b hb).imp id (sub b)⟩
   ·cases e
  | _=>simp only[QbL]at e;cases e
end
noncomputable def QeY(cap:List (Option Nat))(ρ:En):En:=cap.map λo=>o.bind λi=>match ρ[i]? with
 | some (some (d,_))=>some (d,d.flat)
 | _=>none
noncomputable def Qpe(cap:List (Option Nat))(ρ:En):List Nat:=cap.filterMap λo=>o.bind λi=>match ρ[i]? with
 | some (some (d,b))=>if b && !d.flat then some i else none
 | _=>none
noncomputable def QfN(t:Tg)(ft:DT)(fe:DE)(ρc:En)(acc:List D×Bool)(d:D):Option (List D×Bool):=
 (QbL t d ρc).bind λρ1=>(ft ρ1).bind λc=>if c=true then(fe ρ1).map λr=>(acc.1++[r.d],acc.2 && r.norm.fr)else some acc
noncomputable def QG(fi:DI)(t:Tg)(cap:List (Option Nat))(ft:DT)(fe:DE):DE:=λρ=>(fi ρ).bind λir=>
 (ir.items.foldlM (QfN t ft fe (QeY cap ρ)) ([],true)).map λq=>if q.2=true then⟨.lst q.1,true,[]⟩else⟨.lst q.1,false,ir.M++Qpe cap ρ⟩
def Qc7(ρ:En):Prop:=∀(j:Nat) d,ρ[j]? =some (some (d,true))->d.flat=true
theorem Qc7.set{ρ:En}(h:Qc7 ρ)(i:Nat)(d:D):Qc7 (ρ.set i (some (d,d.flat))):=λj d' e=>by
 by_cases hj:j=i
 ·subst hj
  have hl:j<ρ.length:=by
   by_cases hl:j<ρ.length
   ·exact hl
   ·rw[Zk (by simp;omega)]at e;cases e
  rw[Zg hl]at e
  have e1:=Option.some.inj (Option.some.inj e)
  have h1:d=d':=congrArg Prod.fst e1
  have h2:d.flat=true:=congrArg Prod.snd e1
  rw[← h1];exact h2
 ·rw[Zc (Ne.symm hj)]at e
  exact h j d' e
theorem Qc7.QdW:∀(is:List Nat) (ds:List D) {ρ:En},Qc7 ρ->Qc7 (QdW is ds ρ)
 | [],_,_,h=>h
 | _::_,[],_,h=>h
 | i::is,d::ds,_,h=>Qc7.QdW is ds (h.set i d)
theorem Qc7.bind{t:Tg}{d:D}{ρ ρ':En}(h:Qc7 ρ)(e:QbL t d ρ=some ρ'):Qc7 ρ':=by
 cases t with
 | nm i=>cases e;exact h.set i d
 | tp is=>
  cases d with
  | tup xs=>
   simp only[QbL]at e
   split at e
   ·cases e;exact h.QdW is xs
   ·cases e
  | lst xs=>
   simp only[QbL]at e
   split at e
   ·cases e;exact h.QdW is xs
   ·cases e
  | _=>simp only[QbL]at e;cases e
theorem QiZ(cap:List (Option Nat))(ρ:En):Qc7 (QeY cap ρ):=λj d e=>by
 unfold QeY at e
 rw[Zn]at e
 cases q:cap[j]? with
 | none=>rw[q]at e;cases e
 | some o=>
  rw[q]at e
  cases o with
  | none=>cases e
  | some i=>
   simp only[Zak,Za,Option.some.injEq]at e
   split at e
   ·have e1:=Option.some.inj e
    have h1:=congrArg Prod.fst e1
    have h2:=congrArg Prod.snd e1
    dsimp only at h1 h2
    rw[← h1];exact h2
   ·cases e
theorem QlE{cap:List (Option Nat)}{ρ:En}{j:Nat}{d:D}{b:Bool}(e:(QeY cap ρ)[j]? =some (some (d,b))):∃i b',cap[j]? =some (some i)/\ρ[i]? =some (some (d,b')):=by
 unfold QeY at e
 rw[Zn]at e
 cases q:cap[j]? with
 | none=>rw[q]at e;cases e
 | some o=>
  rw[q]at e
  cases o with
  | none=>cases e
  | some i=>
   simp only[Zak,Za,Option.some.injEq]at e
   split at e
   ·rename_i d' b' hi
    have e1:=Option.some.inj e
    have h1:d'=d:=congrArg Prod.fst e1
    subst h1
    exact⟨i,b',rfl,hi⟩
   ·cases e
def QnJ(X:Cx)(ifs:List Expr)(f:DT):Prop:=∀H0 A0,PTs X ifs (tVT X.K H0 A0 f)
noncomputable def QN:DT:=λ_=>some true
theorem Qtl{X:Cx}:QnJ X [] QN:=λH0 A0 pins s σ H Q I ⟨ρ,hs,F,b,rel,e,q⟩=>by
 cases e
 exact QuR pins s σ H Q I (q H (QH.refl _))
theorem Qsb{X:Cx}{c:Expr}{f:DT}(h:ST X c f):QnJ X [c] f:=λH0 A0=>Quk (h H0 A0)
structure Qmf (X:Cx) (N':List Str) (scope:Scope) (cap:List (Option Nat)) (tgs:List Nat):Prop where
 len:cap.length=N'.length
 get:∀(j i:Nat),cap[j]? =some (some i)->∃x,N'[j]? =some x/\scope.names.lookup x=some .free/\X.N[i]? =some x/\(X.env.kindOf x=some .cell∨X.env.kindOf x=some .free)
 apart:∀(j i:Nat),cap[j]? =some (some i)->j∉tgs
theorem join_some{α:Type}{o:Option (Option α)}{v:α}(h:o.join=some v):o=some (some v):=by
 cases o with
 | none=>cases h
 | some p=>cases p with
  | none=>cases h
  | some x=>exact h▸rfl
theorem QlB{X:Cx}{N':List Str}{scope:Scope}{fi:DI}{t:Tg}{cap:List (Option Nat)}{ft:DT}{fe:DE}{H0:Hp}{A0:List Addr}{σ:L2.St}{H:Hp}{Q:VK}(hc:Qmf X N' scope cap t.slots):
  tV X.K H0 A0 (QG fi t cap ft fe) σ H Q->Qmm (tI X.K H0 A0 fi) (Qkm X N' scope) (tG X.K (λ_=>none) [] t) (tVT X.K (λ_=>none) [] ft) (tV X.K (λ_=>none) [] fe) σ H Q:=λ⟨ρ,hs,F,r,rel,e,q⟩=>by
 obtain⟨ir,e1,e⟩:=bind1 e
 obtain⟨⟨xs,f⟩,ef,e⟩:=Zb.mp e
 subst e
 refine⟨ρ,hs,F,ir,rel,e1,λJ H1 ts s1 wk hts ow hz=>?_⟩
 refine⟨cap.map λo=>o.bind λi=>σ[i]?.join,⟨by simp[hc.len],λj x v hN hv=>?_⟩,λDl hD=>?_⟩
 ·rw[Zn]at hv
  cases qc:cap[j]? with
  | none=>rw[qc]at hv;cases hv
  | some o=>
   rw[qc]at hv
   cases o with
   | none=>cases hv
   | some i=>
    simp only[Zak,Za,Option.some.injEq]at hv
    obtain⟨y,h1,h2,h3,h4⟩:=hc.get j i qc
    rw[hN]at h1;cases h1
    exact⟨h2,i,h3,join_some hv,h4⟩
 generalize hσc:(cap.map λo=>o.bind λi=>σ[i]?.join)=σc
 generalize hρc:QeY cap ρ=ρc at ef
 have hF0:∃Fc:Nat->List Addr,Fc=λj=>match cap[j]? with
  | some (some i)=>(match ρ[i]? with
   | some (some _)=>F i
   | _=>[])
  | _=>[]:=⟨_,rfl⟩
 obtain⟨Fc,hFc⟩:=hF0
 have rel1:=rel.ext s1
 have relC:∀H2,QH H1 H2->Rel X.K (λ_=>none) [] [] ρc Fc σc H2:=λH2 s2=>by
  refine⟨by rw[← hρc,← hσc];simp[QeY],λj d b e=>?_,λj d e=>?_,λj d b e a ha=> .inl rfl,λt ht=>(by simp at ht),λb o z=>(by cases z)⟩
  ·rw[← hρc]at e
   obtain⟨i,b',h1,h2⟩:=QlE e
   obtain⟨v,h3,h4⟩:=(rel1.ext s2).val i d b' h2
   refine⟨v,?_,?_⟩
   ·rw[← hσc,Zn,h1]
    simp only[Zak,Za,h3,Option.join_some]
   ·rw[hFc];simp only[h1,h2];exact h4
  ·have hf:d.flat=true:=QiZ cap ρ j d (by rw[hρc];exact e)
   have:Fc j=[]:=by
    rw[← hρc]at e
    obtain⟨i,b',h1,h2⟩:=QlE e
    obtain⟨v,h3,h4⟩:=rel1.val i d b' h2
    rw[hFc];simp only[h1,h2];exact h4.Qcr hf
   rw[this]
   exact⟨(Qfa d hf).symm,Zay,λa ha=>(by simp at ha),λ_ _ _ _ _ a ha=>(by simp at ha),λt ht=>(by simp at ht)⟩
 have shC:∀G,Shr (λ_=>none) [] ρc Fc G:=λG a ha=>⟨.inl rfl,λj d e hj=>by
  have h0:=(relC H1 (QH.refl _)).own j d e
  have hf:d.flat=true:=QiZ cap ρ j d (by rw[hρc];exact e)
  have:(Fc j).length=0:=by rw[h0.1,Qfa d hf]
  rw[List.eq_nil_of_length_eq_zero this]at hj
  simp at hj⟩
 have hSh:Qc7 ρc:=by rw[← hρc];exact QiZ cap ρ
 have heldOf:∀H2,QH H1 H2->Qlb X.K H2 ts:=λH2 s2 t ht=>(hts t ht).1.same s2
 have oldOf:∀a,((∃t∈ts,a∈t.2.2)∨∃j,a∈Fc j)->(∃vs,H1 a=some (.lst vs))/\(H a=none∨∃(i:Nat) (d:D) (b:Bool),ρ[i]? =some (some (d,b))/\a∈F i/\(b=true->i∈ir.M++Qpe cap ρ)):=λa ha=>by
  rcases ha with⟨t,ht,ha⟩ | ⟨j,ha⟩
  ·refine⟨(hts t ht).1.mem a ha,?_⟩
   rcases(hts t ht).2 a ha with z | ⟨i,d,b,e,m,w⟩
   ·exact .inl z
   ·exact .inr ⟨i,d,b,e,m,λhb=>Zh _ (w hb)⟩
  ·have ha0:=ha
   rw[hFc]at ha
   dsimp only at ha
   split at ha
   ·rename_i i hi
    split at ha
    ·rename_i db hdb
     obtain⟨d,b⟩:=db
     obtain⟨v,h3,h4⟩:=rel1.val i d b hdb
     refine⟨h4.mem a ha,.inr ⟨i,d,b,hdb,ha,λhb=>Zd _ ?_⟩⟩
     unfold Qpe
     refine ZaK.mpr ⟨some i,ZaE hi,?_⟩
     simp only[Za,hdb]
     have hnf:d.flat=false:=by
      cases hf:d.flat with
      | false=>rfl
      | true=>rw[h4.Qcr hf]at ha;simp at ha
     rw[hb,hnf];rfl
    ·simp at ha
   ·simp at ha
 have fresh5:∀H2,QH H1 H2->∀a,H2 a=none->H1 a=none:=λH2 s2 a h=>s2.free h
 refine⟨λi m acc H2=>m=ir.items.length-i/\i<=ir.items.length/\QH H1 H2/\H2 Dl=some (.lst acc)/\∃(ys:List D) (g:Bool) (G:List Addr),(ir.items.drop i).foldlM (QfN t ft fe ρc) (ys,g)=some (xs,f)/\Rps X.K H2 ys acc G/\ys.length<=i∧
  (∀a∈G,a≠Dl/\(H1 a=none∨(∃t∈ts,a∈t.2.2)∨∃j,a∈Fc j))/\(g=true->G.length=nls ys/\∀a,G.count a<=nw H1 a),⟨ir.items.length,rfl,ZT _,Qbr hD,Q1,[],true,[],by simpa using ef,by simp[Rps],Zj _,λa ha=>(by simp at ha),λ_=>⟨rfl,λa=>by simp⟩⟩,?_⟩
 rintro i m acc H2 ⟨rfl,hi,s2,eD,ys,g,G,hfold,rps,hlen,hG,hcnt⟩
 by_cases hlt:i<ir.items.length
 ·refine .inr ⟨wk.go i H2 hlt (heldOf H2 s2),λx H3 hy=>?_⟩
  obtain⟨s3,G0,rp0,hG0⟩:=wk.yld i ir.items[i] H2 x H3 (by simp[hlt]) (heldOf H2 s2) hy
  rw[ZY hlt,Zbw]at hfold
  obtain⟨acc1,hstep,hrest⟩:=bind1 hfold
  unfold QfN at hstep
  obtain⟨ρ1,eb,hstep⟩:=bind1 hstep
  obtain⟨c,ec,hstep⟩:=bind1 hstep
  have sh1:Qc7 ρ1:=hSh.bind eb
  refine⟨ρc,[],Fc,ir.items[i],G0,ρ1,relC H3 (s2.trans s3),rp0,shC G0,eb,λσ2 F2 rel2 keep mem2=>⟨λj v hv=>?_,ρ1,[],F2,c,rel2,ec,λH5 s5=>?_⟩⟩
  ·have hj:j∉t.slots:=λhj=>by
    rw[← hσc,Zn]at hv
    cases qc:cap[j]? with
    | none=>rw[qc]at hv;cases hv
    | some o=>
     cases o with
     | none=>rw[qc]at hv;cases hv
     | some k=>exact hc.apart j k qc hj
   rw[keep j hj];exact hv
  have s15:QH H1 H5:=(s2.trans s3).trans s5
  have eD5:H5 Dl=some (.lst acc):=s5 _ _ (s3 _ _ eD)
  cases c with
  | false=>
   rw[if_neg ZO]at hstep
   refine QoW ?_
   cases hstep
   exact⟨_,by omega,rfl,hlt,s15,eD5,ys,g,G,hrest,rps.same (s3.trans s5),by omega,hG,hcnt⟩
  | true=>
   rw[if_pos rfl]at hstep
   refine QpG ?_
   obtain⟨rr,er,hstep⟩:=Zb.mp hstep
   subst hstep
   refine⟨ρ1,[],F2,rr,rel2.ext s5,er,λy H6 Ge pe=>?_⟩
   have eD6:H6 Dl=some (.lst acc):=pe.same _ _ eD5
   have s16:=s15.trans pe.same
   refine⟨eD6,?_,_,by omega,rfl,hlt,?_⟩
   ·rw[← rps.length];exact Zae hlen (Zm hlt hz)
   have hGe:∀a∈Ge,a≠Dl/\(H1 a=none∨(∃t∈ts,a∈t.2.2)∨∃j,a∈Fc j):=λa ha=>by
    rcases pe.src a ha with z | ⟨j,d,b,ej,hj,_⟩
    ·exact⟨λw=>(by rw[w,eD5]at z;cases z),.inl (s15.free z)⟩
    ·have h1:(∃t∈ts,a∈t.2.2)∨∃j,a∈Fc j:=by
      rcases mem2 j a hj with w | w
      ·exact .inr ⟨j,w⟩
      ·exact .inl (hG0 a w)
     obtain⟨⟨vs,w⟩,_⟩:=oldOf a h1
     exact⟨λw'=>(by rw[w',hD]at w;cases w),.inr h1⟩
   have nD:Dl∉G:=λh=>(hG _ h).1 rfl
   have nDe:Dl∉Ge:=λh=>(hGe _ h).1 rfl
   have sU:QH H1 (L2.upd H6 Dl (.lst (acc++[y]))):=λb o hb=>by rw[QF (QbM hb hD)];exact s16 b o hb
   refine⟨sU,Q1,ys++[rr.d],g && rr.norm.fr,G++Ge,hrest,?_,by rw[Zx,Zbf];omega,λa ha=>?_,λhg=>?_⟩
   ·refine Rps.append ((rps.same ((s3.trans s5).trans pe.same)).upd eD6 nD) ?_
    simp only[Rps]
    exact⟨y,[],Ge,[],rfl,by simp,pe.rp.upd eD6 nDe,rfl,rfl⟩
   ·rcases ZM.mp ha with h | h
    ·exact hG a h
    ·exact hGe a h
   ·simp only[Zi]at hg
    obtain⟨l1,c1⟩:=hcnt hg.1
    have pn:=pe.norm
    obtain⟨c2,l2⟩:=pn.cnt hg.2
    rw[rr.Qcw]at l2
    have nlapp:∀(as bs:List D),nls (as++bs)=nls as+nls bs:=λas bs=>by
     induction as with
     | nil=>simp[nls]
     | cons a as ih=>simp only[Zbv,nls,ih];omega
    refine⟨by rw[Zx,l1,l2,nlapp];simp[nls],λa=>?_⟩
    have fl:((rr.norm.M.map F2).flatten).count a=0:=by
     rw[ZH]
     intro hm
     obtain⟨l,hl,hal⟩:=Zbh.mp hm
     obtain⟨j,hj,rfl⟩:=Zao.mp hl
     obtain⟨d,ej⟩:=pn.own j hj
     have hf:=sh1 j d ej
     obtain⟨v,_,rv⟩:=rel2.val j d true ej
     rw[rv.Qcr hf]at hal
     simp at hal
    have h1:=c1 a
    have h2:=c2 a
    rw[fl]at h2
    rw[Zaj]
    cases q5:H5 a with
    | some o=>rw[Qdg q5]at h2;omega
    | none=>
     rw[Qbk q5]at h2
     have h0:G.count a=0:=ZH.mpr λhm=>by
      obtain⟨vs,w⟩:=rps.mem a hm
      rw[s5 _ _ (s3 _ _ w)]at q5;cases q5
     rw[Qbk (s15.free q5)]
     omega
 ·have hn:i=ir.items.length:=by omega
  subst hn
  refine .inl ⟨wk.stop H2 (heldOf H2 s2),?_⟩
  rw[Zbx]at hfold
  have:(ys,g)=(xs,f):=Option.some.inj hfold
  cases this
  have rp:Rp X.K H2 (.lst xs) (.ref Dl) (Dl::G):=Rp.Qd1 eD rps (Zq hlen hz)
  have hHD:H Dl=none:=s1.free hD
  split at q
  ·rename_i hg
   have hg:f=true:=hg
   obtain⟨l1,c1⟩:=hcnt hg
   have hn:∀a∈G,H1 a=none:=λa ha=>by
    have:=c1 a
    have h2:0<G.count a:=ZZ.mpr ha
    cases w:H1 a with
    | none=>rfl
    | some o=>rw[Qdg w]at this;omega
   refine q _ H2 (Dl::G) ⟨s1.trans s2,rp,λa ha=>?_,λ_=>⟨λa=>?_,by simp only[D.nl,ZS,l1]⟩,Qa8.nil⟩
   ·rcases Zl.mp ha with rfl | h
    ·exact .inl hHD
    ·exact .inl (s1.free (hn a h))
   ·rw[ZaC]
    have h1:=c1 a
    split
    ·rename_i w
     have w:Dl=a:=by simpa using w
     subst w
     have h0:G.count Dl=0:=ZH.mpr λh=>(hG _ h).1 rfl
     rw[Qbk hHD];omega
    ·cases w:H1 a with
     | none=>rw[Qbk w]at h1;rw[Qbk (s1.free w)];omega
     | some o=>rw[Qdg w]at h1;omega
  ·refine q _ H2 (Dl::G) ⟨s1.trans s2,rp,λa ha=>?_,λz=>(by cases z),?_⟩
   ·rcases Zl.mp ha with rfl | h
    ·exact .inl hHD
    ·rcases(hG a h).2 with z | z
     ·exact .inl (s1.free z)
     ·exact(oldOf a z).2
   ·refine ow.append λi hi=>?_
    unfold Qpe at hi
    obtain⟨o,_,ho⟩:=ZaK.mp hi
    cases o with
    | none=>cases ho
    | some k=>
     simp only[Za]at ho
     split at ho
     ·rename_i d b hk
      split at ho
      ·rename_i hb
       cases ho
       simp only[Zi]at hb
       rw[hb.1]at hk
       exact⟨d,hk⟩
      ·cases ho
     ·cases ho
section
variable {X:Cx}{tg iter elt:Expr}{ifs:List Expr}{scope:Scope}{N':List Str}{pos:Pos}{fi:DI}{t:Tg}{cap:List (Option Nat)}{ft:DT}{fe:DE}
theorem Quf(hcalm:X.calm=true)(S:QeH X N' scope)(hi:SI X tg iter fi)(hcap:Qmf X N' scope cap t.slots)
  (hin:∀cl C fp s3 H3,SG (cxc X N' scope cl C fp s3 H3) tg t/\QnJ (cxc X N' scope cl C fp s3 H3) ifs ft/\SE (cxc X N' scope cl C fp s3 H3) elt fe) (hs:∀x,foldedSetIterable iter X.env x=pure x):
  SE X (.ListComp elt [⟨tg,iter,ifs,0⟩] scope pos) (QG fi t cap ft fe):=λH0 A0=>
 (QoA hcalm S (hi H0 A0) (λcl C fp s3 H3=>⟨(hin cl C fp s3 H3).1 _ _,(hin cl C fp s3 H3).2.1 _ _,(hin cl C fp s3 H3).2.2 _ _⟩) hs).mono λσ H Q h=>QlB hcap h
end
end HS
namespace HS
open PySem PySem.Spec L2
inductive Out where
 | nx (ρ:En)
 | bk (ρ:En)
 | ct (ρ:En)
 | rt (d:D) (fr:Bool)
noncomputable abbrev DS:=En->Option Out
noncomputable def Fits(K:PySem.W.Frag)(H0:Hp)(A0:List Addr)(hs:List (V×D×List Addr))(E:Ends):Out->Prop
 | .nx ρ=>∀σ H F,Rel K H0 A0 hs ρ F σ H->E.nx σ H
 | .bk ρ=>∀σ H F,Rel K H0 A0 hs ρ F σ H->E.bk σ H
 | .ct ρ=>∀σ H F,Rel K H0 A0 hs ρ F σ H->E.ct σ H
 | .rt d fr=>∀v H G,Ret K H0 A0 d fr v H G->E.rt v H
noncomputable def tS(K:PySem.W.Frag)(H0:Hp)(A0:List Addr)(f:DS):TS:=λE σ H=>∃ρ hs F o,Rel K H0 A0 hs ρ F σ H/\f ρ=some o/\Fits K H0 A0 hs E o
def S1(X:Cx)(st:Stmt)(f:DS):Prop:=∀H0 A0,PS X st (tS X.K H0 A0 f)
def SS(X:Cx)(sts:List Stmt)(f:DS):Prop:=∀H0 A0,PSs X sts (tS X.K H0 A0 f)
theorem _root_.L2.PS.mono{X:Cx}{st:Stmt}{t t':TS}(h:PS X st t)(m:∀D σ H,t' D σ H->t D σ H):PS X st t':=λpins s σ H D I q=>h pins s σ H D I (m D σ H q)
theorem _root_.L2.PSs.mono{X:Cx}{st:List Stmt}{t t':TS}(h:PSs X st t)(m:∀D σ H,t' D σ H->t D σ H):PSs X st t':=λpins s σ H D I q=>h pins s σ H D I (m D σ H q)
noncomputable def Qo:DS:=λρ=>some (.nx ρ)
noncomputable def Qf(f g:DS):DS:=λρ=>(f ρ).bind λo=>match o with
 | .nx ρ'=>g ρ'
 | .bk ρ'=>some (.bk ρ')
 | .ct ρ'=>some (.ct ρ')
 | .rt d fr=>some (.rt d fr)
noncomputable def QpK:DS:=λρ=>some (.bk ρ)
noncomputable def Qpt:DS:=λρ=>some (.ct ρ)
noncomputable def Qp(i:Nat)(fa:DE):DS:=λρ=>(fa ρ).bind λr=>some (.nx (asg i r ρ))
noncomputable def Q7(fa:DE):DE:=λρ=>(fa ρ).map λr=>⟨r.d,false,r.M⟩
noncomputable def QL(fa:DE):DS:=λρ=>(fa ρ).bind λr=>some (.rt r.d (r.norm.fr && decide r.norm.M.Nodup))
noncomputable def Qpy:DS:=λ_=>some (.rt .non true)
noncomputable def QcU(fa:DE):DS:=λρ=>(fa ρ).bind λ_=>some (.nx ρ)
noncomputable def sIf(g:DT)(f1 f2:DS):DS:=λρ=>(g ρ).bind λb=>if b=true then f1 ρ else f2 ρ
noncomputable def Qdx(t:Tg)(fb:DS):List D->DS
 | [],ρ=>some (.nx ρ)
 | d::ds,ρ=>(QbL t d ρ).bind λρ1=>(fb ρ1).bind λo=>match o with
  | .nx ρ2=>Qdx t fb ds ρ2
  | .ct ρ2=>Qdx t fb ds ρ2
  | .bk ρ2=>some (.nx ρ2)
  | .rt d fr=>some (.rt d fr)
noncomputable def Qdn(fi:DI)(t:Tg)(fb:DS):DS:=λρ=>(fi ρ).bind λir=>Qdx t fb ir.items (Qaz ir.M ρ)
noncomputable def QaX(g:DT)(fb:DS):Nat->DS
 | 0,_=>none
 | n+1,ρ=>(g ρ).bind λb=>if b=true then(fb ρ).bind λo=>match o with
  | .nx ρ2=>QaX g fb n ρ2
  | .ct ρ2=>QaX g fb n ρ2
  | .bk ρ2=>some (.nx ρ2)
  | .rt d fr=>some (.rt d fr)
  else some (.nx ρ)
section
variable {X:Cx}{st:Stmt}{sts:List Stmt}{e:Expr}{fa:DE}{f g:DS}{gc:DT}{pos:Pos}
theorem Qq2:SS X [] Qo:=λH0 A0=>Qup.mono λE σ H ⟨ρ,hs,F,o,rel,e,q⟩=>by
 cases e
 exact q σ H F rel
theorem Qkv(h1:S1 X st f)(h2:SS X sts g):SS X (st::sts) (Qf f g):=λH0 A0=>(QbQ (h1 H0 A0) (h2 H0 A0)).mono λE σ H ⟨ρ,hs,F,o,rel,e,q⟩=>by
 obtain⟨o1,e1,e⟩:=bind1 e
 refine⟨ρ,hs,F,o1,rel,e1,?_⟩
 cases o1 with
 | nx ρ'=>exact λσ' H' F' rel'=>⟨ρ',hs,F',o,rel',e,q⟩
 | bk ρ'=>cases e;exact q
 | ct ρ'=>cases e;exact q
 | rt d fr=>cases e;exact q
theorem QuI:S1 X (.Pass pos) Qo:=λH0 A0=>QuC.mono λE σ H ⟨ρ,hs,F,o,rel,e,q⟩=>by
 cases e
 exact q σ H F rel
theorem Qr7:S1 X (.Break pos) QpK:=λH0 A0=>QsP.mono λE σ H ⟨ρ,hs,F,o,rel,e,q⟩=>by
 cases e
 exact q σ H F rel
theorem Quv:S1 X (.Continue pos) Qpt:=λH0 A0=>Qn7.mono λE σ H ⟨ρ,hs,F,o,rel,e,q⟩=>by
 cases e
 exact q σ H F rel
theorem QrH(h:SE X e fa):SE X e (Q7 fa):=λH0 A0=>(h H0 A0).mono λσ H Q ⟨ρ,hs,F,r,rel,e,q⟩=>by
 obtain⟨r',e1,rfl⟩:=Zb.mp e
 exact⟨ρ,hs,F,r',rel,e1,λv H' G p=>q v H' G ⟨p.same,p.rp,p.src,λz=>(by cases z),p.own⟩⟩
theorem Qj9{i:Nat}(h:∀H0 A0,PS X st (Qem (tV X.K H0 A0 fa) (QfP i))):S1 X st (Qp i fa):=λH0 A0=>(h H0 A0).mono λE σ H ⟨ρ,hs,F,o,rel,e,q⟩=>by
 obtain⟨r,e1,e⟩:=bind1 e
 cases e
 refine⟨ρ,hs,F,r,rel,e1,λv H' G p=>?_⟩
 obtain⟨F',rel'⟩:=rel.asg (i:=i) p
 exact q _ _ F' rel'
theorem Qt3(h:PS X st (Qmd (tV X.K H0 A0 fa))):PS X st (tS X.K H0 A0 (QcU fa)):=h.mono λE σ H ⟨ρ,hs,F,o,rel,e,q⟩=>by
 obtain⟨r,e1,e⟩:=bind1 e
 cases e
 exact⟨ρ,hs,F,r,rel,e1,λv H' G p=>q σ H' F (rel.ext p.same)⟩
theorem Rel.ret{K:PySem.W.Frag}{H0 H H':Hp}{A0:List Addr}{hs:List (V×D×List Addr)}{ρ:En}{F:Nat->List Addr}{σ:L2.St}(rel:Rel K H0 A0 hs ρ F σ H){r:R}{v:V}{G:List Addr}(p:Q2 K ρ F H H' r v G):Ret K H0 A0 r.d (r.norm.fr && decide r.norm.M.Nodup) v H' G where
 same:=rel.same.trans p.same
 rp:=p.rp
 src:=λa ha=>by
  rcases p.src a ha with z | ⟨i,d,b,e,m,_⟩
  ·exact .inl (rel.same.free z)
  ·exact rel.src i d b e a m
 cnt:=λh=>by
  simp only[Zi,decide_eq_true_eq]at h
  have p':=p.norm
  obtain⟨h1,h2⟩:=p'.fresh rel h.1 h.2
  have h3:=(p'.cnt h.1).2
  rw[r.Qcw]at h3
  exact⟨h1,h3,λa ha=>(h2 a ha).1⟩
theorem Qrg(he:SE X e fa):S1 X (.Return (some e) pos) (QL fa):=λH0 A0=>(Qrf (he H0 A0)).mono λE σ H ⟨ρ,hs,F,o,rel,e,q⟩=>by
 obtain⟨r,e1,e⟩:=bind1 e
 cases e
 exact⟨ρ,hs,F,r,rel,e1,λv H' G p=>q v H' G (rel.ret p)⟩
theorem Qu8:S1 X (.Return none pos) Qpy:=λH0 A0=>Qu7.mono λE σ H ⟨ρ,hs,F,o,rel,e,q⟩=>by
 cases e
 exact q .non H [] ⟨rel.same,.Qhs,λa ha=>(by simp at ha),λ_=>⟨Zay,rfl,λa ha=>(by simp at ha)⟩⟩
theorem QxH{c:Expr}{a b:List Stmt}(hc:ST X c gc)(ha:SS X a f)(hb:SS X b g):S1 X (.If c a b pos) (sIf gc f g):=λH0 A0=>(QtQ (hc H0 A0) (ha H0 A0) (hb H0 A0)).mono λE σ H ⟨ρ,hs,F,o,rel,e,q⟩=>by
 obtain⟨c,e1,e⟩:=bind1 e
 refine⟨ρ,hs,F,c,rel,e1,λH1 s1=>?_⟩
 cases c with
 | true=>exact QpG ⟨ρ,hs,F,o,rel.ext s1,e,q⟩
 | false=>exact QoW ⟨ρ,hs,F,o,rel.ext s1,e,q⟩
theorem Qwa{tg iter:Expr}{body:List Stmt}{fi:DI}{t:Tg}(hp:PassesOwn (model X.prog X.w) X.A X.env X.xe)(hc:X.calm=true)(hi:SI X tg iter fi)(hg:SG X tg t)(hb:SS X body f)(hs:∀x,foldedSetIterable iter X.env x=pure x):
  S1 X (.For tg iter body [] pos) (Qdn fi t f):=λH0 A0=>(Qq6 hp hc (hi H0 A0) (hg H0 A0) (hb H0 A0) hs).mono λE σ H ⟨ρ,hs,F,o,rel,e,q⟩=>by
 obtain⟨ir,e1,e⟩:=bind1 e
 refine⟨ρ,hs,F,ir,rel,e1,λJ H1 ts s1 wk hts ow hz=>?_⟩
 have rel1:Rel X.K H0 A0 (ts++hs) (Qaz ir.M ρ) F σ H1:=((rel.ext s1).weak (QaF ir.M ρ)).hold λt ht=>⟨(hts t ht).1,Shr.of rel (hts t ht).2⟩
 refine⟨λi m σ' H'=>m=ir.items.length-i/\i<=ir.items.length/\∃ρi Fi,Rel X.K H0 A0 (ts++hs) ρi Fi σ' H'/\Qdx t f (ir.items.drop i) ρi=some o,⟨_,rfl,ZT _,_,F,rel1,by simpa using e⟩,?_⟩
 rintro i m σ' H' ⟨rfl,hi',ρi,Fi,reli,ei⟩
 have held:Qlb X.K H' ts:=λt ht=>(reli.held t (Zh _ ht)).1
 by_cases hlt:i<ir.items.length
 ·rw[ZY hlt]at ei
  unfold Qdx at ei
  obtain⟨ρ1,eb,ei⟩:=bind1 ei
  obtain⟨o1,eo,ei⟩:=bind1 ei
  refine .inr ⟨wk.go i H' hlt held,λσ2 H2=>∃ρ2 F2,Rel X.K H0 A0 (ts++hs) ρ2 F2 σ2 H2/\Qdx t f (ir.items.drop (i+1)) ρ2=some o,λσ2 H2 ⟨ρ2,F2,rel2,e2⟩=>⟨_,by omega,rfl,hlt,ρ2,F2,rel2,e2⟩,λx H2 hy=>?_⟩
  obtain⟨s2,G0,rp0,hG0⟩:=wk.yld i ir.items[i] H' x H2 (by simp[hlt]) held hy
  have shr:Shr H0 A0 ρi Fi G0:=λa ha=>by
   obtain⟨t,ht,hat⟩:=hG0 a ha
   exact⟨(reli.held t (Zh _ ht)).2 a hat,λj d ej hj=>(reli.own j d ej).2.2.2.2 t (Zh _ ht) a hj hat⟩
  refine⟨ρi,ts++hs,Fi,ir.items[i],G0,ρ1,reli.ext s2,rp0,shr,eb,λσ3 F3 rel3 _ _=>⟨ρ1,ts++hs,F3,o1,rel3,eo,?_⟩⟩
  cases o1 with
  | nx ρ2=>exact λσ4 H4 F4 rel4=>⟨ρ2,F4,rel4,ei⟩
  | ct ρ2=>exact λσ4 H4 F4 rel4=>⟨ρ2,F4,rel4,ei⟩
  | bk ρ2=>cases ei;exact λσ4 H4 F4 rel4=>q σ4 H4 F4 rel4.Qnd
  | rt d fr=>cases ei;exact q
 ·have hn:i=ir.items.length:=by omega
  subst hn
  rw[Zbx]at ei
  cases ei
  exact .inl ⟨wk.stop H' held,q σ' H' Fi reli.Qnd⟩
theorem Qr1{c:Expr}{body:List Stmt}{n:Nat}(hp:PassesOwn (model X.prog X.w) X.A X.env X.xe)(hc:ST X c gc)(hb:SS X body f):S1 X (.While c body [] pos) (QaX gc f n):=λH0 A0=>(QrI hp (hc H0 A0) (hb H0 A0)).mono λE σ H ⟨ρ,hs,F,o,rel,e,q⟩=>by
 refine⟨λm σ' H'=>∃ρi Fi,Rel X.K H0 A0 hs ρi Fi σ' H'/\QaX gc f m ρi=some o,⟨n,ρ,F,rel,e⟩,?_⟩
 rintro m σ' H' ⟨ρi,Fi,reli,ei⟩
 cases m with
 | zero=>cases ei
 | succ m=>
  unfold QaX at ei
  obtain⟨b,eb,ei⟩:=bind1 ei
  refine⟨ρi,hs,Fi,b,reli,eb,λH1 s1=>?_⟩
  cases b with
  | false=>
   rw[if_neg ZO]at ei
   cases ei
   exact QoW (q σ' H1 Fi (reli.ext s1))
  | true=>
   rw[if_pos rfl]at ei
   obtain⟨o1,eo,ei⟩:=bind1 ei
   refine QpG ⟨λσ2 H2=>∃ρ2 F2,Rel X.K H0 A0 hs ρ2 F2 σ2 H2/\QaX gc f m ρ2=some o,λσ2 H2 h=>⟨m,Zbu _,h⟩,ρi,hs,Fi,o1,reli.ext s1,eo,?_⟩
   cases o1 with
   | nx ρ2=>exact λσ4 H4 F4 rel4=>⟨ρ2,F4,rel4,ei⟩
   | ct ρ2=>exact λσ4 H4 F4 rel4=>⟨ρ2,F4,rel4,ei⟩
   | bk ρ2=>cases ei;exact λσ4 H4 F4 rel4=>q σ4 H4 F4 rel4
   | rt d fr=>cases ei;exact q
theorem Rel.Qyu{K:PySem.W.Frag}{H0 H:Hp}{A0:List Addr}{hs:List (V×D×List Addr)}{ρ:En}{F:Nat->List Addr}{σ:L2.St}(rel:Rel K H0 A0 hs ρ F σ H){i:Nat}{d:D}{v:V}(rp:Rp K H d v [])(hf:d.flat=true):
  ∃F',Rel K H0 A0 hs (ρ.set i (some (d,true))) F' (σ.set i (some v)) H:=by
 have:=rel.QkW (i:=i) rp (λa ha=>by simp at ha)
 rw[hf]at this
 exact⟨_,this⟩
end
end HS
namespace HS
open PySem PySem.Spec L2
section
variable {K:PySem.W.Frag}{H H':Hp}
theorem Rps.split:∀{ds:List D}{vs:List V}{F:List Addr}{j:Nat}{d:D},Rps K H ds vs F->ds[j]? =some d→
  ∃F1 G F2 v,F=F1++(G++F2)/\vs[j]? =some v/\Rps K H (ds.take j) (vs.take j) F1/\Rp K H d v G/\Rps K H (ds.drop (j+1)) (vs.drop (j+1)) F2
 | [],_,_,_,_,_,e=>by simp at e
 | d::ds,_,_,0,_,h,e=>by
  simp only[Rps]at h
  obtain⟨v,ws,F1,F2,rfl,rfl,r,q⟩:=h
  simp at e;subst e
  exact⟨[],F1,F2,v,rfl,by simp,by simp[Rps],r,by simpa using q⟩
 | d::ds,_,_,j+1,_,h,e=>by
  simp only[Rps]at h
  obtain⟨v,ws,F1,F2,rfl,rfl,r,q⟩:=h
  obtain⟨G1,G,G2,v',h1,h2,h3,h4,h5⟩:=Rps.split q (j:=j) (by simpa using e)
  refine⟨F1++G1,G,G2,v',by rw[h1,ZaS],by simpa using h2,?_,h4,by simpa using h5⟩
  simp only[List.take_succ_cons,Rps]
  exact⟨v,_,F1,G1,rfl,rfl,r,h3⟩
theorem Rps.join{ds:List D}{vs:List V}{F1 G F2:List Addr}{j:Nat}{d:D}{v:V}(h1:Rps K H (ds.take j) (vs.take j) F1)(hd:Rp K H d v G)(h2:Rps K H (ds.drop (j+1)) (vs.drop (j+1)) F2)(hj:j<ds.length)(hv:vs[j]? =some v):
  Rps K H (ds.set j d) vs (F1++(G++F2)):=by
 have e1:ds.set j d=ds.take j++d::ds.drop (j+1):=ZaB .. |>.trans (by rw[if_pos hj])
 have hjv:j<vs.length:=(Zf.mp hv).1
 have hve:vs[j]=v:=(Zf.mp hv).2
 have e2:vs=vs.take j++v::vs.drop (j+1):=by
  rw[← hve,← ZY hjv,ZaR]
 rw[e1,e2]
 refine h1.append ?_
 simp only[Rps]
 refine⟨v,_,G,F2,rfl,rfl,hd,h2⟩
theorem Rps.QtD{ds:List D}{vs:List V}{F1 G F2:List Addr}{j:Nat}{d:D}{v:V}(h1:Rps K H (ds.take j) (vs.take j) F1)(hd:Rp K H d v G)(h2:Rps K H (ds.drop (j+1)) (vs.drop (j+1)) F2)(hj:j<ds.length)(hv:j<vs.length):
  Rps K H (ds.set j d) (vs.set j v) (F1++(G++F2)):=by
 have e1:ds.set j d=ds.take j++d::ds.drop (j+1):=ZaB .. |>.trans (by rw[if_pos hj])
 have e2:vs.set j v=vs.take j++v::vs.drop (j+1):=ZaB .. |>.trans (by rw[if_pos hv])
 rw[e1,e2]
 refine h1.append ?_
 simp only[Rps]
 exact⟨v,_,G,F2,rfl,rfl,hd,h2⟩
noncomputable def Focus(K:PySem.W.Frag)(H:Hp):List Int->D->V->List Addr->D->V->List Addr->Prop
 | [],d,v,F,dm,w,Gm=>dm=d/\w=v/\Gm=F/\Rp K H d v F
 | i::is,d,v,F,dm,w,Gm=>∃(ds:List D) (a:Addr) (vs:List V) (j:Nat) (F1 G F2:List Addr) (d':D) (v':V),v= .ref a/\ixN ds.length i=some j∧
   ((d= .lst ds/\ds.length<=sizeLine/\((F=a::(F1++(G++F2))/\H a=some (.lst vs))∨(F=F1++(G++F2)/\Fix K H a vs)))∨(d= .tup ds/\F=F1++(G++F2)/\SqT K H a vs))∧
   Rps K H (ds.take j) (vs.take j) F1/\Rps K H (ds.drop (j+1)) (vs.drop (j+1)) F2/\ds[j]? =some d'/\vs[j]? =some v'/\ds.length=vs.length/\Focus K H is d' v' G dm w Gm
theorem Focus.same(s:QH H H'):∀{is:List Int}{d:D}{v:V}{F:List Addr}{dm:D}{w:V}{Gm:List Addr},Focus K H is d v F dm w Gm->Focus K H' is d v F dm w Gm
 | [],_,_,_,_,_,_,h=>⟨h.1,h.2.1,h.2.2.1,h.2.2.2.same s⟩
 | i::is,_,_,_,_,_,_,h=>by
  obtain⟨ds,a,vs,j,F1,G,F2,d',v',h1,h2,h3,h4,h5,h6,h7,h8,h9⟩:=h
  refine⟨ds,a,vs,j,F1,G,F2,d',v',h1,h2,?_,h4.same s,h5.same s,h6,h7,h8,h9.same s⟩
  rcases h3 with⟨e,z,q⟩ | ⟨e,eF,q⟩
  ·refine .inl ⟨e,z,?_⟩
   rcases q with⟨eF,q⟩ | ⟨eF,q⟩
   ·exact .inl ⟨eF,s _ _ q⟩
   ·exact .inr ⟨eF,QmD s q⟩
  ·exact .inr ⟨e,eF,QmK s q⟩
theorem Focus.rp:∀{is:List Int}{d:D}{v:V}{F:List Addr}{dm:D}{w:V}{Gm:List Addr},Focus K H is d v F dm w Gm->Rp K H dm w Gm
 | [],_,_,_,_,_,_,h=>by
  obtain⟨rfl,rfl,rfl,r⟩:=h
  exact r
 | i::is,_,_,_,_,_,_,h=>by
  obtain⟨ds,a,vs,j,F1,G,F2,d',v',h1,h2,h3,h4,h5,h6,h7,h8,h9⟩:=h
  exact h9.rp
theorem Focus.Qq7:∀{is:List Int}{d:D}{v:V}{F:List Addr}{dm:D}{w:V}{Gm:List Addr},Focus K H is d v F dm w Gm->Rp K H d v F
 | [],_,_,_,_,_,_,h=>h.2.2.2
 | i::is,_,_,_,_,_,_,h=>by
  obtain⟨ds,a,vs,j,F1,G,F2,d',v',rfl,h2,h3,h4,h5,h6,h7,h8,h9⟩:=h
  have hjl:j<ds.length:=(Zf.mp h6).1
  have hdj:ds[j]=d':=(Zf.mp h6).2
  have j1:=Rps.join h4 h9.Qq7 h5 hjl h7
  rw[show ds.set j d'=ds by rw[← hdj];exact List.set_getElem_self hjl]at j1
  rcases h3 with⟨rfl,hz,⟨rfl,q⟩ | ⟨rfl,q⟩⟩ | ⟨rfl,rfl,q⟩
  ·exact Rp.Qd1 q j1 hz
  ·simp only[Rp]
   exact⟨hz,a,vs,rfl,.inr ⟨q,j1⟩⟩
  ·simp only[Rp]
   exact⟨a,vs,rfl,q,j1⟩
theorem Focus.one{d:D}{v:V}{F:List Addr}{ds:List D}{i:Int}{d':D}(r:Rp K H d v F)(hd:d.items=some ds)(hi:atI ds i=some d'):
  ∃a vs v' G,v= .ref a/\((d= .lst ds/\SqL K H a vs)∨(d= .tup ds/\SqT K H a vs))/\atI vs i=some v'/\Focus K H [i] d v F d' v' G:=by
 unfold atI at hi
 cases hj:ixN ds.length i with
 | none=>rw[hj]at hi;cases hi
 | some j=>
  rw[hj]at hi
  have hdj:ds[j]? =some d':=hi
  have fin:∀(vs:List V) (L:List Addr),Rps K H ds vs L->∃v' G F1 F2,L=F1++(G++F2)/\vs[j]? =some v'/\atI vs i=some v'/\Rps K H (ds.take j) (vs.take j) F1/\Rp K H d' v' G/\Rps K H (ds.drop (j+1)) (vs.drop (j+1)) F2/\ds.length=vs.length:=λvs L rl=>by
   obtain⟨F1,G,F2,v',h1,h2,h3,h4,h5⟩:=rl.split hdj
   refine⟨v',G,F1,F2,h1,h2,?_,h3,h4,h5,rl.length⟩
   unfold atI
   rw[← rl.length,hj]
   exact h2
  cases d with
  | lst xs=>
   cases hd
   simp only[Rp]at r
   obtain⟨hz,a,vs,rfl,⟨L,rfl,q,rl⟩ | ⟨q,rl⟩⟩:=r
   ·obtain⟨v',G,F1,F2,h1,h2,h3,h4,h5,h6,h7⟩:=fin vs L rl
    exact⟨a,vs,v',G,rfl,.inl ⟨rfl,SqL.of q⟩,h3,ds,a,vs,j,F1,G,F2,d',v',rfl,hj,.inl ⟨rfl,hz,.inl ⟨by rw[h1],q⟩⟩,h4,h6,hdj,h2,h7,rfl,rfl,rfl,h5⟩
   ·obtain⟨v',G,F1,F2,h1,h2,h3,h4,h5,h6,h7⟩:=fin vs _ rl
    exact⟨a,vs,v',G,rfl,.inl ⟨rfl,q.sq⟩,h3,ds,a,vs,j,F1,G,F2,d',v',rfl,hj,.inl ⟨rfl,hz,.inr ⟨h1,q⟩⟩,h4,h6,hdj,h2,h7,rfl,rfl,rfl,h5⟩
  | tup xs=>
   cases hd
   obtain⟨a,vs,rfl,q,rl⟩:=r.Qbj
   obtain⟨v',G,F1,F2,h1,h2,h3,h4,h5,h6,h7⟩:=fin vs _ rl
   exact⟨a,vs,v',G,rfl,.inr ⟨rfl,q⟩,h3,ds,a,vs,j,F1,G,F2,d',v',rfl,hj,.inr ⟨rfl,h1,q⟩,h4,h6,hdj,h2,h7,rfl,rfl,rfl,h5⟩
  | _=>cases hd
theorem Focus.snoc:∀{is:List Int}{d:D}{v:V}{F:List Addr}{dm:D}{w:V}{Gm:List Addr}{i:Int}{d':D}{v':V}{G:List Addr},Focus K H is d v F dm w Gm->Focus K H [i] dm w Gm d' v' G->Focus K H (is++[i]) d v F d' v' G
 | [],_,_,_,_,_,_,_,_,_,_,h,g=>by
  obtain⟨rfl,rfl,rfl,r⟩:=h
  exact g
 | k::is,_,_,_,_,_,_,_,_,_,_,h,g=>by
  obtain⟨ds,a,vs,j,F1,G,F2,d',v',h1,h2,h3,h4,h5,h6,h7,h8,h9⟩:=h
  exact⟨ds,a,vs,j,F1,G,F2,d',v',h1,h2,h3,h4,h5,h6,h7,h8,h9.snoc g⟩
noncomputable def QbX:D->List Int->Option D
 | d,[]=>some d
 | d,i::is=>(d.items).bind λds=>(atI ds i).bind λd'=>QbX d' is
theorem Qj6:∀{is:List Int}{d:D}{i:Int}{d':D},QbX d (is++[i])=some d'->∃dm ds,QbX d is=some dm/\dm.items=some ds/\atI ds i=some d'
 | [],d,i,d',h=>by
  obtain⟨ds,h1,h⟩:=bind1 h
  obtain⟨d'',h2,h⟩:=bind1 h
  cases h
  exact⟨d,ds,rfl,h1,h2⟩
 | k::is,d,i,d',h=>by
  obtain⟨ds,h1,h⟩:=bind1 h
  obtain⟨d'',h2,h⟩:=bind1 h
  obtain⟨dm,es,h3,h4,h5⟩:=Qj6 h
  refine⟨dm,es,?_,h4,h5⟩
  simp only[QbX,h1,h2,Za,h3]
noncomputable def Qbz:List Int->D->D->D
 | [],_,new=>new
 | i::is,.lst ds,new=>match ixN ds.length i with
  | some j=> .lst (ds.set j (Qbz is (ds.getD j .non) new))
  | none=> .lst ds
 | i::is,.tup ds,new=>match ixN ds.length i with
  | some j=> .tup (ds.set j (Qbz is (ds.getD j .non) new))
  | none=> .tup ds
 | _::_,d,_=>d
theorem QiA:∀{ds:List D}{j:Nat}{d e:D},ds[j]? =some d->nls (ds.set j e)+d.nl=nls ds+e.nl
 | [],_,_,_,h=>by simp at h
 | x::ds,0,d,e,h=>by simp at h;subst h;simp only[List.set_cons_zero,nls];omega
 | x::ds,j+1,d,e,h=>by
  have:=QiA (ds:=ds) (j:=j) (e:=e) (by simpa using h)
  simp only[List.set_cons_succ,nls];omega
theorem QdY:∀(as bs:List D),nls (as++bs)=nls as+nls bs
 | [],bs=>by simp[nls]
 | a::as,bs=>by simp only[Zbv,nls,QdY as bs];omega
theorem Focus.mut{p:Addr}{dsm ds':List D}{vs':List V}{G':List Addr}:∀{is:List Int}{d:D}{v:V}{F:List Addr}{Gm:List Addr},Focus K H is d v F (.lst dsm) (.ref p) Gm->F.Nodup->F.length=d.nl→
  ∃vsm Gp,H p=some (.lst vsm)/\Gm=p::Gp/\Rps K H dsm vsm Gp/\Gp.length=nls dsm/\p∈F/\(∀a∈Gp,a∈F)/\p∉Gp∧
   (Rps K (upd H p (.lst vs')) ds' vs' G'->ds'.length<=sizeLine->G'.length=nls ds'→
    ∃F',Rp K (upd H p (.lst vs')) (Qbz is d (.lst ds')) v F'/\F'.length=(Qbz is d (.lst ds')).nl/\∀a,F'.count a+Gp.count a=F.count a+G'.count a)
 | [],d,v,F,Gm,h,nd,hl=>by
  obtain⟨rfl,rfl,rfl,r⟩:=h
  simp only[Rp]at r
  obtain⟨hz,a,vs,e,h⟩:=r
  cases e
  rcases h with⟨L,rfl,q,rl⟩ | ⟨q,rl⟩
  ·obtain⟨n1,n2⟩:=Zar.mp nd
   have hl':L.length=nls dsm:=by simp only[D.nl,ZS]at hl;omega
   refine⟨vs,L,q,rfl,rl,hl',Zo,λa ha=>Ze _ ha,n1,λr' hz' hl2=>⟨p::G',Rp.Qd1 Q1 r' hz',?_,λa=>?_⟩⟩
   ·simp only[Qbz,D.nl,ZS,hl2]
   ·rw[ZaC,ZaC];omega
  ·have:=rl.Qao
   simp only[D.nl]at hl
   omega
 | i::is,d,v,F,Gm,h,nd,hl=>by
  obtain⟨ds,a,vs,j,F1,G,F2,d',v',rfl,hj,h3,h4,h5,h6,h7,h8,h9⟩:=h
  have hjl:j<ds.length:=(Zf.mp h6).1
  have gd:ds.getD j .non=d':=by rw[Zap,h6];rfl
  have l1:=h4.Qao
  have l2:=h5.Qao
  have l3:=h9.Qq7.Qao
  have nlsplit:nls (ds.take j)+(d'.nl+nls (ds.drop (j+1)))=nls ds:=by
   have e1:ds=ds.take j++d'::ds.drop (j+1):=by
    have:ds[j]=d':=(Zf.mp h6).2
    rw[← this,← ZY hjl,ZaR]
   have e2:=congrArg nls e1
   rw[QdY]at e2
   simp only[nls]at e2
   exact e2.symm
  have core:(F1++(G++F2)).Nodup->(F1++(G++F2)).length=nls ds->_:=λnd' hl'=>by
   simp only[Zx]at hl'
   have hG:G.length=d'.nl:=by omega
   have ndG:G.Nodup:=(Zbc.mp (Zbc.mp nd').2.1).1
   exact(h9.mut (vs':=vs') (ds':=ds') (G':=G') ndG hG)
  have apart:(F1++(G++F2)).Nodup->p∈G->p∉F1/\p∉F2:=λnd' hp=>by
   have n1:=Zbc.mp nd'
   have n2:=Zbc.mp n1.2.1
   exact⟨λh=>n1.2.2 p h p (Zh _ hp) rfl,λh=>n2.2.2 p hp p h rfl⟩
  have cnt:∀(G'' Gp:List Addr),(∀a,G''.count a+Gp.count a=G.count a+G'.count a)->∀a,(F1++(G''++F2)).count a+Gp.count a=(F1++(G++F2)).count a+G'.count a:=λG'' Gp hc a=>by
   have:=hc a
   simp only[Zaj];omega
  rcases h3 with⟨rfl,hz,⟨rfl,q⟩ | ⟨rfl,q⟩⟩ | ⟨rfl,rfl,q⟩
  ·
   obtain⟨n1,n2⟩:=Zar.mp nd
   have hl':(F1++(G++F2)).length=nls ds:=by simp only[D.nl,ZS]at hl;omega
   obtain⟨vsm,Gp,e1,e2,e3,e4,e5,e6,e7,e8⟩:=core n2 hl'
   have ap:=apart n2 e5
   have hap:a≠p:=λz=>n1 (by rw[z];exact Zd _ (Zh _ e5))
   refine⟨vsm,Gp,e1,e2,e3,e4,Ze _ (Zd _ (Zh _ e5)),λb hb=>Ze _ (Zd _ (Zh _ (e6 b hb))),e7,λr' hz' hl2=>?_⟩
   obtain⟨G'',f1,f2,f3⟩:=e8 r' hz' hl2
   have j1:=Rps.join (h4.upd (ys:=vs') e1 ap.1) f1 (h5.upd (ys:=vs') e1 ap.2) hjl h7
   refine⟨a::(F1++(G''++F2)),?_,?_,λb=>?_⟩
   ·simp only[Qbz,hj,gd]
    exact Rp.Qd1 (by rw[QF hap];exact q) j1 (by rw[ZN];exact hz)
   ·have:=QiA (ds:=ds) (j:=j) (e:=Qbz is d' (.lst ds')) h6
    simp only[Qbz,hj,gd,D.nl,ZS,Zx,f2]at hl' ⊢
    omega
   ·have:=cnt G'' Gp f3 b
    rw[ZaC,ZaC];omega
  ·have:(F1++(G++F2)).length<=nls ds:=by simp only[Zx];omega
   simp only[D.nl]at hl
   omega
  ·
   have hl':(F1++(G++F2)).length=nls ds:=by simpa only[D.nl]using hl
   obtain⟨vsm,Gp,e1,e2,e3,e4,e5,e6,e7,e8⟩:=core nd hl'
   have ap:=apart nd e5
   refine⟨vsm,Gp,e1,e2,e3,e4,Zd _ (Zh _ e5),λb hb=>Zd _ (Zh _ (e6 b hb)),e7,λr' hz' hl2=>?_⟩
   obtain⟨G'',f1,f2,f3⟩:=e8 r' hz' hl2
   have j1:=Rps.join (h4.upd (ys:=vs') e1 ap.1) f1 (h5.upd (ys:=vs') e1 ap.2) hjl h7
   refine⟨F1++(G''++F2),?_,?_,cnt G'' Gp f3⟩
   ·simp only[Qbz,hj,gd,Rp]
    exact⟨a,vs,rfl,QoM e1 q,j1⟩
   ·have:=QiA (ds:=ds) (j:=j) (e:=Qbz is d' (.lst ds')) h6
    simp only[Qbz,hj,gd,D.nl,Zx,f2]at hl' ⊢
    omega
end
end HS
namespace HS
open PySem PySem.Spec L2
section
variable {K:PySem.W.Frag}{H0 H H1 H2:Hp}{A0:List Addr}{hs:List (V×D×List Addr)}{ρ:En}{F:Nat->List Addr}{σ:L2.St}
theorem Rel.mut(rel:Rel K H0 A0 hs ρ F σ H){r:R}{vn:V}{Gn:List Addr}(p:Q2 K ρ F H H1 r vn Gn)(hf:r.fr=true)(nd:r.M.Nodup)(s12:QH H1 H2){x:Nat}{d:D}(hx:ρ[x]? =some (some (d,true)))(hxM:x∉r.M){v0:V}(hv0:σ[x]? =some (some v0))
  {dnew:D}{q:Addr}{F':List Addr}{vsm vs':List V}(e1:H2 q=some (.lst vsm)) (e5:q∈F x) (f1:Rp K (upd H2 q (.lst vs')) dnew v0 F') (f2:F'.length=dnew.nl) (cF:∀a,F'.count a<=(F x).count a+Gn.count a):
  ∃F',Rel K H0 A0 hs ((kill r.M ρ).set x (some (dnew,true))) F' σ (upd H2 q (.lst vs')):=by
 obtain⟨ol,on,o0,oap,oh⟩:=rel.own x d hx
 obtain⟨gn,gs⟩:=p.fresh rel hf nd
 have rel2:=(rel.ext p.same).ext s12
 have relk:=rel2.weak (Qc0 r.M ρ)
 have apn:∀a∈Gn,a∉F x:=λa ha hax=>by
  rcases(gs a ha).2 with z | ⟨k,d',hk,ek,hak⟩
  ·obtain⟨vs,w⟩:=rel.mem hx hax
   rw[z]at w;cases w
  ·have:k≠x:=λz=>hxM (z▸hk)
   exact oap k d' true this ek a hax hak
 have memF:∀a∈F',a∈F x∨a∈Gn:=λa ha=>by
  have h1:=cF a
  have h2:0<F'.count a:=ZZ.mpr ha
  by_cases h:a∈F x
  ·exact .inl h
  ·rw[ZH.mpr h]at h1
   exact .inr (ZZ.mp (by omega))
 have apart:∀(j:Nat) d' b,j≠x->(kill r.M ρ)[j]? =some (some (d',b))->∀a∈F',a∉F j:=λj d' b hj e a ha haj=>by
  obtain⟨b',e',_⟩:=(Qc0 r.M ρ).2 j d' b e
  rcases memF a ha with h | h
  ·exact oap j d' b' hj e' a h haj
  ·rcases(gs a h).2 with z | ⟨k,d'',hk,ek,hak⟩
   ·obtain⟨vs,w⟩:=rel.mem e' haj
    rw[z]at w;cases w
   ·have hjk:j≠k:=λz=>by subst z;exact Qh0 r.M ρ j d' b hk e
    exact(rel.own k d'' ek).2.2.2.1 j d' b' hjk e' a hak haj
 have apartH:∀t∈hs,∀a∈F',a∉t.2.2:=λt ht a ha hat=>by
  rcases memF a ha with h | h
  ·exact oh t ht a h hat
  ·rcases(gs a h).2 with z | ⟨k,d'',hk,ek,hak⟩
   ·obtain⟨vs,w⟩:=(rel.held t ht).1.mem a hat
    rw[z]at w;cases w
   ·exact(rel.own k d'' ek).2.2.2.2 t ht a hak hat
 have nqj:∀(j:Nat) d' b,j≠x->ρ[j]? =some (some (d',b))->q∉F j:=λj d' b hj e h=>oap j d' b hj e q e5 h
 have nF':F'.Nodup:=Zad.mpr λa=>by
  have h1:=cF a
  have h2:=Zad.mp on a
  have h3:=Zad.mp gn a
  by_cases h:a∈Gn
  ·rw[ZH.mpr (apn a h)]at h1;omega
  ·rw[ZH.mpr h]at h1;omega
 have lt:∀{j:Nat}{z:Option (D×Bool)}{y:D×Bool},((kill r.M ρ).set j z)[j]? =some (some y)->j<(kill r.M ρ).length:=λ{j z y} e=>by
  by_cases hl:j<(kill r.M ρ).length
  ·exact hl
  ·rw[Zk (by simp;omega)]at e;cases e
 refine⟨λj=>if j=x then F' else F j,by simp[relk.len],λj d' b e=>?_,λj d' e=>?_,λj d' b e a ha=>?_,λt ht=>⟨(relk.held t ht).1.upd e1 λh=>oh t ht q e5 h,(relk.held t ht).2⟩,λb o hb=>?_⟩
 ·by_cases hj:j=x
  ·subst hj
   have hl:=lt e
   rw[Zg hl]at e
   cases e
   exact⟨v0,hv0,by rw[if_pos rfl];exact f1⟩
  ·rw[Zc (Ne.symm hj)]at e
   obtain⟨w,h1,h2⟩:=relk.val j d' b e
   obtain⟨b',e',_⟩:=(Qc0 r.M ρ).2 j d' b e
   exact⟨w,h1,by rw[if_neg hj];exact h2.upd e1 (nqj j d' b' hj e')⟩
 ·by_cases hj:j=x
  ·subst hj
   have hl:=lt e
   rw[Zg hl]at e
   cases e
   rw[if_pos rfl]
   refine⟨f2,nF',λa ha=>?_,λk d'' b hk ek a ha=>?_,apartH⟩
   ·rcases memF a ha with h | h
    ·exact o0 a h
    ·exact(gs a h).1
   ·rw[Zc (Ne.symm hk)]at ek
    rw[if_neg hk]
    exact apart k d'' b hk ek a ha
  ·rw[Zc (Ne.symm hj)]at e
   obtain⟨h1,h2,h3,h4,h5⟩:=relk.own j d' e
   rw[if_neg hj]
   refine⟨h1,h2,h3,λk d'' b hk ek a ha=>?_,h5⟩
   by_cases hki:k=x
   ·subst hki
    rw[if_pos rfl]
    exact λhG=>apart j d' true hj e a hG ha
   ·rw[Zc (Ne.symm hki)]at ek
    rw[if_neg hki]
    exact h4 k d'' b hk ek a ha
 ·by_cases hj:j=x
  ·subst hj
   rw[if_pos rfl]at ha
   rcases memF a ha with h | h
   ·exact .inl (o0 a h)
   ·exact .inl (gs a h).1
  ·rw[Zc (Ne.symm hj)]at e
   rw[if_neg hj]at ha
   exact relk.src j d' b e a ha
 ·have hbq:b≠q:=λz=>by rw[z,o0 q e5]at hb;cases hb
  rw[QF hbq]
  exact relk.same b o hb
end
noncomputable abbrev DP:=En->Option (List Int)
noncomputable def Qbs:DP:=λ_=>some []
noncomputable def Qd0(p:DP)(fb:DE):DP:=λρ=>(p ρ).bind λis=>(fb ρ).bind λr=>match r.d with
 | .int i=>some (is++[i])
 | _=>none
noncomputable def tP(K:PySem.W.Frag)(H0:Hp)(A0:List Addr)(x:Nat)(pf:DP):TE:=λσ H Q=>∃ρ hs F d b is dm,Rel K H0 A0 hs ρ F σ H/\ρ[x]? =some (some (d,b))/\pf ρ=some is/\QbX d is=some dm∧
 ∀v0 v H' Gm,QH H H'->σ[x]? =some (some v0)->Focus K H' is d v0 (F x) dm v Gm->Q v H'
def SPa(X:Cx)(e:Expr)(x:Nat)(pf:DP):Prop:=∀H0 A0,PE X e (tP X.K H0 A0 x pf)
section
variable {X:Cx}{a b e:Expr}{fa fb:DE}{pf:DP}{x:Nat}{pos:Pos}
theorem Qfj{y:Str}(h:PE X (.Name y pos) (Qf6 x)):SPa X (.Name y pos) x Qbs:=λH0 A0=>h.mono λσ H Q ⟨ρ,hs,F,d,b,is,dm,rel,hx,hp,hd,q⟩=>by
 cases hp
 cases hd
 obtain⟨v,h1,h2⟩:=rel.val x d b hx
 exact⟨v,h1,q v v H (F x) (QH.refl _) h1 ⟨rfl,rfl,rfl,h2⟩⟩
theorem Qge(ha:SPa X a x pf)(hb:SE X b fb)(hs:Qiw b):SPa X (.Subscript a b pos) x (Qd0 pf fb):=λH0 A0=>
 (QtP (Qop.or Qrh) (ha H0 A0) (hb H0 A0) hs).mono λσ H Q ⟨ρ,hs,F,d,b',is,dm,rel,hx,hp,hd,q⟩=>by
  obtain⟨is',e1,hp⟩:=bind1 hp
  obtain⟨r,e2,hp⟩:=bind1 hp
  cases hr:r.d with
  | int i=>
   rw[hr]at hp
   cases hp
   obtain⟨dn,ds,g1,g2,g3⟩:=Qj6 hd
   refine⟨ρ,hs,F,d,b',is',dn,rel,hx,e1,g1,λv0 w H1 Gm s1 hv fo=>⟨ρ,hs,F,r,rel.ext s1,e2,λu H2 G p2=>?_⟩⟩
   have rp:=p2.rp
   rw[hr]at rp
   rw[rp.int_inv]
   have fo2:=fo.same p2.same
   obtain⟨c,vs,v',G',rfl,hc,h3,h4⟩:=Focus.one fo2.rp g2 g3
   have fin:=q v0 v' H2 G' (s1.trans p2.same) hv (fo2.snoc h4)
   rcases hc with⟨_,hc⟩ | ⟨_,hc⟩
   ·exact .inl ⟨c,vs,i,v',rfl,rfl,hc,h3,fin⟩
   ·exact .inr ⟨c,vs,i,v',rfl,rfl,hc,h3,fin⟩
  | _=>rw[hr]at hp;cases hp
noncomputable def QdH(x:Nat)(pf:DP)(fi fa:DE):DS:=λρ=>(fa ρ).bind λr0=>match ρ[x]? with
 | some (some (d,true))=>(pf ρ).bind λis=>(fi ρ).bind λri=>match ri.d,QbX d is with
  | .int k,some (.lst ds)=>(ixN ds.length k).bind λj=>if r0.norm.fr && decide r0.norm.M.Nodup && !r0.norm.M.contains x then some (.nx ((kill r0.norm.M ρ).set x (some (Qbz is d (.lst (ds.set j r0.d)),true))))else
   if is.isEmpty && !r0.norm.M.contains x then some (.nx ((Qaz r0.norm.M ρ).set x (some (.lst (ds.set j r0.d),false))))else
   none
  | _,_=>none
 | _=>none
theorem set_mk{K:PySem.W.Frag}{H2:Hp}{q:Addr}{dsm:List D}{vsm:List V}{Gp Gn:List Addr}{j:Nat}{dn:D}{vn:V}(hq:H2 q=some (.lst vsm))(rs:Rps K H2 dsm vsm Gp)(hl:Gp.length=nls dsm)(nq:q∉Gp)(nqn:q∉Gn)(hn:Rp K H2 dn vn Gn)(hnl:Gn.length=dn.nl)(hj:j<dsm.length):
  ∃G',Rps K (upd H2 q (.lst (vsm.set j vn))) (dsm.set j dn) (vsm.set j vn) G'/\G'.length=nls (dsm.set j dn)/\∀a,G'.count a<=Gp.count a+Gn.count a:=by
 obtain⟨F1,G,F2,v,e1,e2,h1,h2,h3⟩:=rs.split (j:=j) (d:=dsm[j]) (by simp[hj])
 subst e1
 have hjv:j<vsm.length:=by rw[← rs.length];exact hj
 have n1:q∉F1:=λh=>nq (Zh _ h)
 have n2:q∉F2:=λh=>nq (Zd _ (Zd _ h))
 refine⟨F1++(Gn++F2),Rps.QtD (h1.upd hq n1) (hn.upd hq nqn) (h3.upd hq n2) hj hjv,?_,λa=>?_⟩
 ·have:=QiA (ds:=dsm) (j:=j) (d:=dsm[j]) (e:=dn) (by simp[hj])
  have l1:=h1.Qao
  have l2:=h2.Qao
  have l3:=h3.Qao
  have e1:nls (dsm.take j)+((dsm[j]).nl+nls (dsm.drop (j+1)))=nls dsm:=by
   have e2:=congrArg nls (ZaR j dsm)
   rw[QdY,ZY hj]at e2
   simpa only[nls]using e2
  simp only[Zx]at hl ⊢
  omega
 ·simp only[Zaj];omega
theorem Q2.QfY{K:PySem.W.Frag}{ρ:En}{F:Nat->List Addr}{H H1 H2:Hp}{r:R}{v:V}{G:List Addr}(p:Q2 K ρ F H H1 r v G)(s:QH H1 H2):Q2 K ρ F H H2 r v G:=⟨p.same.trans s,p.rp.same s,p.src,p.cnt,p.own⟩
theorem Qlr{K:PySem.W.Frag}{H2:Hp}{q:Addr}{dsm:List D}{vsm:List V}{Gp Gn:List Addr}{j:Nat}{dn:D}{vn:V}(hq:H2 q=some (.lst vsm))(rs:Rps K H2 dsm vsm Gp)(nq:q∉Gp)(nqn:q∉Gn)(hn:Rp K H2 dn vn Gn)(hj:j<dsm.length):
  ∃G',Rps K (upd H2 q (.lst (vsm.set j vn))) (dsm.set j dn) (vsm.set j vn) G'/\∀a∈G',a∈Gp∨a∈Gn:=by
 obtain⟨F1,G,F2,v,e1,e2,h1,h2,h3⟩:=rs.split (j:=j) (d:=dsm[j]) (by simp[hj])
 subst e1
 have hjv:j<vsm.length:=by rw[← rs.length];exact hj
 have n1:q∉F1:=λh=>nq (Zh _ h)
 have n2:q∉F2:=λh=>nq (Zd _ (Zd _ h))
 refine⟨F1++(Gn++F2),Rps.QtD (h1.upd hq n1) (hn.upd hq nqn) (h3.upd hq n2) hj hjv,λa ha=>?_⟩
 rcases ZM.mp ha with h | h
 ·exact .inl (Zh _ h)
 ·rcases ZM.mp h with h | h
  ·exact .inr h
  ·exact .inl (Zd _ (Zd _ h))
theorem QiO:∀(M:List Nat) (ρ:En) (x:Nat),x∉M->(Qaz M ρ)[x]? =ρ[x]?
 | [],ρ,x,_=>rfl
 | i::M,ρ,x,h=>by
  have hi:i≠x:=λe=>h (e▸Zo)
  unfold Qaz
  rw[QiO M _ x λe=>h (Ze _ e)]
  split
  ·rw[Zc hi]
  ·rfl
theorem Rel.Qyw{K:PySem.W.Frag}{H0 H:Hp}{A0:List Addr}{hs:List (V×D×List Addr)}{ρ:En}{F:Nat->List Addr}{σ:L2.St}(rel:Rel K H0 A0 hs ρ F σ H){x:Nat}{d:D}(hx:ρ[x]? =some (some (d,true))){Gn:List Addr}(sh:Shr H0 A0 ρ F Gn){v0:V}(hv0:σ[x]? =some (some v0))
  {dnew:D}{q:Addr}{G':List Addr}{vsm vs':List V}(e1:H q=some (.lst vsm)) (e5:q∈F x) (f1:Rp K (upd H q (.lst vs')) dnew v0 G') (mem:∀a∈G',a∈F x∨a∈Gn):
  ∃F',Rel K H0 A0 hs (ρ.set x (some (dnew,false))) F' σ (upd H q (.lst vs')):=by
 obtain⟨ol,on,o0,oap,oh⟩:=rel.own x d hx
 have lt:∀{j:Nat}{z:Option (D×Bool)}{y:D×Bool},(ρ.set j z)[j]? =some (some y)->j<ρ.length:=λ{j z y} e=>by
  by_cases hl:j<ρ.length
  ·exact hl
  ·rw[Zk (by simp;omega)]at e;cases e
 refine⟨λj=>if j=x then G' else F j,by simp[rel.len],λj d' b e=>?_,λj d' e=>?_,λj d' b e a ha=>?_,λt ht=>⟨(rel.held t ht).1.upd e1 λh=>oh t ht q e5 h,(rel.held t ht).2⟩,λb o hb=>?_⟩
 ·by_cases hj:j=x
  ·subst hj
   have hl:=lt e
   rw[Zg hl]at e
   cases e
   exact⟨v0,hv0,by rw[if_pos rfl];exact f1⟩
  ·rw[Zc (Ne.symm hj)]at e
   obtain⟨w,h1,h2⟩:=rel.val j d' b e
   exact⟨w,h1,by rw[if_neg hj];exact h2.upd e1 λh=>oap j d' b hj e q e5 h⟩
 ·by_cases hj:j=x
  ·subst hj
   have hl:=lt e
   rw[Zg hl]at e
   cases e
  ·rw[Zc (Ne.symm hj)]at e
   obtain⟨h1,h2,h3,h4,h5⟩:=rel.own j d' e
   rw[if_neg hj]
   refine⟨h1,h2,h3,λk d'' b hk ek a ha=>?_,h5⟩
   by_cases hki:k=x
   ·subst hki
    rw[if_pos rfl]
    intro hG
    rcases mem a hG with h | h
    ·exact h4 k d true (Ne.symm hj) hx a ha h
    ·exact(sh a h).2 j d' e ha
   ·rw[Zc (Ne.symm hki)]at ek
    rw[if_neg hki]
    exact h4 k d'' b hk ek a ha
 ·by_cases hj:j=x
  ·subst hj
   rw[if_pos rfl]at ha
   rcases mem a ha with h | h
   ·exact .inl (o0 a h)
   ·exact(sh a h).1
  ·rw[Zc (Ne.symm hj)]at e
   rw[if_neg hj]at ha
   exact rel.src j d' b e a ha
 ·have hbq:b≠q:=λz=>by rw[z,o0 q e5]at hb;cases hb
  rw[QF hbq]
  exact rel.same b o hb
theorem Qwr{i:Expr}{pos':Pos}{fi:DE}(hv:SE X e fa)(ho:SPa X a x pf)(hi:SE X i fi)
  (h:∀te to ti,PE X e te->PE X a to->PE X i ti->PS X (.Assign [.Subscript a i pos'] e pos) (Qem te (L2.Qa9 to ti QfX))):S1 X (.Assign [.Subscript a i pos'] e pos) (QdH x pf fi fa):=λH0 A0=>
 (h _ _ _ (hv H0 A0) (ho H0 A0) (hi H0 A0)).mono λE σ H ⟨ρ,hs,F,o,rel,e,q⟩=>by
  obtain⟨r0,e1,e⟩:=bind1 e
  split at e
  ·rename_i d hx
   obtain⟨is,e2,e⟩:=bind1 e
   obtain⟨ri,e3,e⟩:=bind1 e
   split at e
   ·rename_i k ds hk hp
    obtain⟨j,e4,e⟩:=bind1 e
    split at e
    ·rename_i hc
     cases e
     simp only[Zi,decide_eq_true_eq,Zaw]at hc
     obtain⟨⟨c1,c2⟩,c3⟩:=hc
     have c3:x∉r0.norm.M:=λh=>by rw[Zbg.mpr h]at c3;cases c3
     refine⟨ρ,hs,F,r0,rel,e1,λvn H1 Gn p=>⟨ρ,hs,F,d,true,is,.lst ds,rel.ext p.same,hx,e2,hp,λv0 w H2 Gm s2 hv0 fo=>⟨ρ,hs,F,ri,(rel.ext p.same).ext s2,e3,λu H3 Gi pi=>?_⟩⟩⟩
     have p':=(p.norm.QfY s2).QfY pi.same
     have fo3:=fo.same pi.same
     have rpi:=pi.rp
     rw[hk]at rpi
     rw[rpi.int_inv]
     obtain⟨l,ws,L,rfl,_⟩:=fo3.rp.lst_inv
     obtain⟨ol,on,_,oap,_⟩:=rel.own x d hx
     have hjl:=(QcF e4).2.1
     obtain⟨gn,gs⟩:=p'.fresh rel c1 c2
     have rn:=p'.rp
     rw[r0.Qcw]at rn
     have hnl:=(p'.cnt c1).2
     rw[r0.Qcw]at hnl
     obtain⟨vsm,_,f1,_⟩:=fo3.mut (vs':=[]) (ds':=[]) (G':=[]) on ol
     obtain⟨_,_,_,_,_,_,zl,_⟩:=fo3.rp.lst_inv
     have key:∃F',Rp X.K (upd H3 l (.lst (vsm.set j vn))) (Qbz is d (.lst (ds.set j r0.d))) v0 F'/\F'.length=(Qbz is d (.lst (ds.set j r0.d))).nl/\l∈F x/\ds.length=vsm.length/\∀a,F'.count a<=(F x).count a+Gn.count a:=by
      have own5:∀G',_:=λG'=>fo3.mut (vs':=vsm.set j vn) (ds':=ds.set j r0.d) (G':=G') on ol
      obtain⟨vs1,Gp,g1,g2,g3,g4,g5,g6,g7,_⟩:=own5 []
      rw[f1]at g1;cases g1
      have hq:l∉Gn:=λh=>by
       rcases(gs l h).2 with z | ⟨k',d',hk',ek,hak⟩
       ·obtain⟨vs,w⟩:=rel.mem hx g5
        rw[z]at w;cases w
       ·exact oap k' d' true (λz=>c3 (z▸hk')) ek l g5 hak
      obtain⟨G',m1,m2,m3⟩:=set_mk f1 g3 g4 g7 hq rn hnl hjl
      obtain⟨vs2,Gp2,k1,k2,k3,k4,k5,k6,k7,k8⟩:=own5 G'
      have eG:Gp2=Gp:=by rw[g2]at k2;exact(List.cons.inj k2).2.symm
      subst eG
      obtain⟨F',h1,h2,h3⟩:=k8 m1 (by rw[ZN];exact zl) m2
      exact⟨F',h1,h2,g5,g3.length,λa=>by have:=h3 a;have:=m3 a;omega⟩
     obtain⟨F',k1,k2,k3,k4,k5⟩:=key
     refine⟨l,vsm,k,j,rfl,rfl,f1,by rw[← k4];exact e4,?_⟩
     obtain⟨F'',rel'⟩:=rel.mut p' c1 c2 (QH.refl _) hx c3 hv0 f1 k3 k1 k2 k5
     exact q _ _ F'' rel'
    ·
     split at e
     ·rename_i hc
      cases e
      simp only[Zi,Zaw,List.isEmpty_iff]at hc
      obtain⟨rfl,c3⟩:=hc
      have c3:x∉r0.norm.M:=λh=>by rw[Zbg.mpr h]at c3;cases c3
      refine⟨ρ,hs,F,r0,rel,e1,λvn H1 Gn p=>⟨ρ,hs,F,d,true,[],.lst ds,rel.ext p.same,hx,e2,hp,λv0 w H2 Gm s2 hv0 fo=>⟨ρ,hs,F,ri,(rel.ext p.same).ext s2,e3,λu H3 Gi pi=>?_⟩⟩⟩
      have p':=(p.norm.QfY s2).QfY pi.same
      have fo3:=fo.same pi.same
      have rpi:=pi.rp
      rw[hk]at rpi
      rw[rpi.int_inv]
      obtain⟨l,ws,L,rfl,_⟩:=fo3.rp.lst_inv
      obtain⟨ol,on,_,oap,_⟩:=rel.own x d hx
      have hjl:=(QcF e4).2.1
      have rn:=p'.rp
      rw[r0.Qcw]at rn
      obtain⟨vsm,Gp,f1,g2,g3,g4,g5,g6,g7,_⟩:=fo3.mut (vs':=[]) (ds':=[]) (G':=[]) on ol
      obtain⟨_,_,_,_,_,_,zl,_⟩:=fo3.rp.lst_inv
      have sh:=Shr.of rel p'.src
      have relD:=(rel.ext p'.same).weak (QaF r0.norm.M ρ)
      have hxD:(Qaz r0.norm.M ρ)[x]? =some (some (d,true)):=by rw[QiO _ _ _ c3];exact hx
      have hq:l∉Gn:=λh=>(sh l h).2 x d hxD g5
      obtain⟨G',m1,m3⟩:=Qlr f1 g3 g7 hq rn hjl
      have e0:v0= .ref l:=(fo3.2.1).symm
      subst e0
      refine⟨l,vsm,k,j,rfl,rfl,f1,by rw[← g3.length];exact e4,?_⟩
      obtain⟨F'',rel'⟩:=relD.Qyw (dnew:= .lst (ds.set j r0.d)) (G':=l::G') (vs':=vsm.set j vn) hxD sh hv0 f1 g5 (Rp.Qd1 Q1 m1 (by rw[ZN];exact zl)) λa ha=>by
       rcases Zl.mp ha with h | h
       ·exact .inl (h▸g5)
       ·rcases m3 a h with h | h
        ·exact .inl (g6 a h)
        ·exact .inr h
      exact q _ _ F'' rel'
     ·
      cases e
   ·cases e
  ·cases e
end
end HS
namespace HS
open PySem PySem.Spec L2
section
variable {K:PySem.W.Frag}{H0 H H1 H2 H3:Hp}{A0:List Addr}{hs:List (V×D×List Addr)}{ρ:En}{F:Nat->List Addr}{σ:L2.St}
theorem Rel.write(rel:Rel K H0 A0 hs ρ F σ H){r:R}{vn:V}{Gn:List Addr}(p:Q2 K ρ F H H3 r vn Gn)(hf:r.fr=true)(nd:r.M.Nodup){x:Nat}{d:D}(hx:ρ[x]? =some (some (d,true)))(hxM:x∉r.M){v0 w:V}(hv0:σ[x]? =some (some v0))
  {is:List Int}{ds:List D}{Gm:List Addr}(fo:Focus K H3 is d v0 (F x) (.lst ds) w Gm):
  ∃l vsm Gp,w= .ref l/\H3 l=some (.lst vsm)/\Rps K H3 ds vsm Gp/\Gp.length=nls ds/\l∉Gp/\l∉Gn/\ds.length<=sizeLine∧
   ∀ds' vs' G',Rps K (upd H3 l (.lst vs')) ds' vs' G'->ds'.length<=sizeLine->G'.length=nls ds'->(∀a,G'.count a<=Gp.count a+Gn.count a)→
    ∃F',Rel K H0 A0 hs ((kill r.M ρ).set x (some (Qbz is d (.lst ds'),true))) F' σ (upd H3 l (.lst vs')):=by
 obtain⟨l,ws,L,rfl,_,_,zl,_⟩:=fo.rp.lst_inv
 obtain⟨ol,on,_,oap,_⟩:=rel.own x d hx
 obtain⟨gn,gs⟩:=p.fresh rel hf nd
 obtain⟨vsm,Gp,g1,g2,g3,g4,g5,g6,g7,_⟩:=fo.mut (vs':=[]) (ds':=[]) (G':=[]) on ol
 have hq:l∉Gn:=λh=>by
  rcases(gs l h).2 with z | ⟨k',d',hk',ek,hak⟩
  ·obtain⟨vs,w⟩:=rel.mem hx g5
   rw[z]at w;cases w
  ·exact oap k' d' true (λz=>hxM (z▸hk')) ek l g5 hak
 refine⟨l,vsm,Gp,rfl,g1,g3,g4,g7,hq,zl,λds' vs' G' m1 m2 m3 m4=>?_⟩
 obtain⟨vs2,Gp2,k1,k2,k3,k4,k5,k6,k7,k8⟩:=fo.mut (vs':=vs') (ds':=ds') (G':=G') on ol
 have eG:Gp2=Gp:=by rw[g2]at k2;exact(List.cons.inj k2).2.symm
 subst eG
 obtain⟨F',h1,h2,h3⟩:=k8 m1 m2 m3
 exact rel.mut p hf nd (QH.refl _) hx hxM hv0 g1 g5 h1 h2 λa=>by have:=h3 a;have:=m4 a;omega
end
section
variable {X:Cx}{a b e:Expr}{fa fb:DE}{pf:DP}{x:Nat}{pos apos:Pos}
noncomputable def Qmo(r:R)(x:Nat):Bool:=r.norm.fr && decide r.norm.M.Nodup && !r.norm.M.contains x
theorem Qrr{r:R}{x:Nat}(h:Qmo r x=true):r.norm.fr=true/\r.norm.M.Nodup/\x∉r.norm.M:=by
 unfold Qmo at h
 simp only[Zi,decide_eq_true_eq,Zaw]at h
 exact⟨h.1.1,h.1.2,λz=>by rw[Zbg.mpr z]at h;cases h.2⟩
noncomputable def Qi0(x:Nat)(pf:DP)(fa:DE):DS:=λρ=>match ρ[x]? with
 | some (some (d,true))=>(pf ρ).bind λis=>(fa ρ).bind λr0=>match QbX d is with
  | some (.lst ds)=>if Qmo r0 x && decide (ds.length<sizeLine)then some (.nx ((kill r0.norm.M ρ).set x (some (Qbz is d (.lst (ds++[r0.d])),true))))else none
  | _=>none
 | _=>none
theorem QsD{H0:Hp}{A0:List Addr}{E:Ends}{σ:L2.St}{H:Hp}:tS X.K H0 A0 (Qi0 x pf fa) E σ H->Qmd (tBM X.K "list" QoJ (tP X.K H0 A0 x pf) (QgN (tV X.K H0 A0 fa) Qnz)) E σ H:=λ⟨ρ,hs,F,o,rel,e,q⟩=>by
 unfold Qi0 at e
 split at e
 ·rename_i d hx
  obtain⟨is,e2,e⟩:=bind1 e
  obtain⟨r0,e1,e⟩:=bind1 e
  split at e
  ·rename_i ds hp
   split at e
   ·rename_i hc
    simp only[Zi,decide_eq_true_eq]at hc
    obtain⟨c1,c2,c3⟩:=Qrr hc.1
    cases e
    refine⟨ρ,hs,F,d,true,is,.lst ds,rel,hx,e2,hp,λv0 w H2 Gm s2 hv0 fo=>?_⟩
    have ty:tyV X.K "list" w H2:=by
     obtain⟨l,ws,L,rfl,hl,_⟩:=fo.rp.lst_inv
     exact .inl ⟨rfl,ws,Q6 hl⟩
    refine⟨ty,ρ,hs,F,r0,rel.ext s2,e1,λvn H3 Gn p=>?_⟩
    have p':=p.norm
    obtain⟨l,vsm,Gp,rfl,g1,g2,g3,g4,g5,g6,g7⟩:=(rel.ext s2).write p' c1 c2 hx c3 hv0 (fo.same p.same)
    refine⟨l,vsm,vn,rfl,rfl,g1,by rw[← g2.length];exact hc.2,?_⟩
    have rn:=p'.rp
    rw[r0.Qcw]at rn
    have hnl:=(p'.cnt c1).2
    rw[r0.Qcw]at hnl
    have rw1:Rps X.K (upd H3 l (.lst (vsm++[vn]))) [r0.d] [vn] Gn:=by
     simp only[Rps]
     exact⟨vn,[],Gn,[],rfl,by simp,rn.upd g1 g5,rfl,rfl⟩
    obtain⟨F',rel'⟩:=g7 (ds++[r0.d]) (vsm++[vn]) (Gp++Gn) ((g2.upd g1 g4).append rw1) (by rw[Zx,Zbf];omega) (by rw[Zx,QdY,g3,hnl];simp[nls]) (λa=>by rw[Zaj];omega)
    exact q _ _ F' rel'
   ·cases e
  ·cases e
 ·cases e
end
end HS
namespace HS
open PySem PySem.Spec L2 PyProof.Rows
noncomputable def D.QtL:D->Option Int
 | .int i=>some i
 | _=>none
noncomputable def QgI:List D->Option (List Int)
 | []=>some []
 | d::ds=>(d.QtL).bind λi=>(QgI ds).map λr=>i::r
theorem QhD:∀{ds:List D}{ns:List Int},QgI ds=some ns->ds=ns.map .int
 | [],_,h=>by cases h;rfl
 | d::ds,ns,h=>by
  unfold QgI at h
  obtain⟨i,h1,h⟩:=bind1 h
  obtain⟨r,h2,rfl⟩:=Zb.mp h
  cases d with
  | int j=>cases h1;rw[QhD h2];rfl
  | _=>cases h1
theorem Qnl:∀(ns:List Int),QgI (ns.map D.int)=some ns
 | []=>rfl
 | n::ns=>by simp[QgI,Qnl ns,D.QtL]
theorem Rps.ints{K:PySem.W.Frag}{H:Hp}:∀{ns:List Int}{vs:List V}{F:List Addr},Rps K H (ns.map .int) vs F->vs=ns.map .int
 | [],_,_,h=>by simp only[List.map_nil,Rps]at h;rw[h.1];rfl
 | n::ns,_,_,h=>by
  simp only[ZR,Rps]at h
  obtain⟨v,ws,F1,F2,rfl,rfl,r,q⟩:=h
  rw[r.int_inv,Rps.ints q];rfl
theorem QeJ{ns:List Int}{us:List Value}(h:Qz (ns.map V.int) us):IntsAre us ns:=intsAre_of h
section
variable {X:Cx}{a b e:Expr}{es:List Expr}{fa fb:DE}{fs:DA}{pos p2:Pos}
theorem QjN{us:List Value}{ns:List Int}(hi:IntsAre us ns):∃xs:Array (Int×Tok),us.toArray=intItems xs/\ns=xs.toList.map (·.1):=by
 obtain⟨xs,e⟩:=hi.allInts.items
 exact⟨xs,e,by rw[← hi.numsOf,← nums_intItems,← e]⟩
theorem QnI{prog:Program}{w:World}{A:Around}{E:Value->Shared->Prop}{s:Shared}{l:Addr}{xs:Array (Int×Tok)}{Q:Value->Shared->Prop}(hh:A.handled=none)(hl:s.heap.IsTuple l (intItems xs))
  (h:∀h' tk t',(∀b o,s.heap.get? b=some o->h'.get? b=some o)->Q (.int (preSum (numAt xs) xs.size) t') {s with heap:=h',toks:=tk}):
  wpAny (model prog w) A (call (.builtin "sum") [.ref l]) Q E s:=by
 have hlt:l<s.heap.objs.size:=by obtain⟨_,e,_⟩:=hl;exact Zr e
 refine call_sum_walkG (wpAny_pyIter_tuple hl ?_)
 refine⟨_,[_,l],[_],_,_,_,numAt xs,rfl,Walks.tuple (A:=A.in1) hh _ l (ZI hlt) (intItems xs),⟨⟨_,ZQ _ rfl,rfl,rfl⟩,hl.push _⟩,λb hb=>?_,(λ_ _=>intItems_at),λh' tk t' hk=>?_⟩
 ·show b<(s.heap.push _).objs.size
  rw[Zbo]
  rcases Zl.mp hb with rfl | hb
  ·exact Zbu _
  ·rcases Zl.mp hb with rfl | hb
   ·exact Zba hlt
   ·cases hb
 ·have:=h h' tk t' λb o e=>by
   refine hk b o (λhm=>?_) (Zu _ e)
   rcases Zl.mp hm with e1 | hm
   ·exact absurd (e1▸Zr e) (ZV _)
   ·cases hm
  simpa[intItems]using this
noncomputable def Qw8(K:PySem.W.Frag):List V->Hp->VK->Prop:=λxs H Q=>∃(p:Addr) (ns:List Int),xs=[.ref p]/\(SqL K H p (ns.map V.int)∨SqT K H p (ns.map V.int))/\Q (.int ns.sum) H
theorem Qqk(hc:X.calm=true):QeF X (.builtin "sum") (Qw8 X.K):=by
 intro pins s σ H xs us Q I r h
 obtain⟨p,ns,rfl,hq,q⟩:=h
 obtain⟨u,rfl,rx⟩:=vals1 r
 cases rx
 rcases hq with hq | hq
 ·obtain⟨its,r',pl,hz⟩:=I.list hq
  obtain⟨ys,e,hns⟩:=QjN (QeJ r')
  have hl:=pl.isList
  rw[e]at hl
  refine sum_intListG (I.ok.hd hc) hl λh' tk t' hk=>?_
  refine⟨.int ns.sum,H,I.kept hk,⟨t',?_⟩,q⟩
  rw[preSum_eq,ZaL (by simp),hns]
 ·obtain⟨its,r',pl,hz⟩:=I.tuple hq
  obtain⟨ys,e,hns⟩:=QjN (QeJ r')
  have hl:=pl
  rw[e]at hl
  refine QnI (I.ok.hd hc) hl λh' tk t' hk=>?_
  refine⟨.int ns.sum,H,I.kept hk,⟨t',?_⟩,q⟩
  rw[preSum_eq,ZaL (by simp),hns]
noncomputable def QiC:List D->Option D
 | [.lst xs]=>(QgI xs).map λns=> .int ns.sum
 | [.tup xs]=>(QgI xs).map λns=> .int ns.sum
 | _=>none
theorem Qu3{K:PySem.W.Frag}:Qj0 K QiC (Qw8 K):=λds d e=>by
 unfold QiC at e
 split at e
 ·obtain⟨ns,h1,rfl⟩:=Zb.mp e
  refine⟨rfl,λH vs F Q r q=>?_⟩
  obtain⟨v,rfl,rp⟩:=r.one
  obtain⟨l,ws,L,rfl,hl,rl,zl,el⟩:=rp.lst_inv
  rw[QhD h1]at rl
  rw[rl.ints]at hl
  exact⟨l,ns,rfl,.inl (Q6 hl),q _ λ_=> .int_mk⟩
 ·obtain⟨ns,h1,rfl⟩:=Zb.mp e
  refine⟨rfl,λH vs F Q r q=>?_⟩
  obtain⟨v,rfl,rp⟩:=r.one
  obtain⟨l,ws,rfl,hl,rl⟩:=rp.Qbj
  rw[QhD h1]at rl
  rw[rl.ints]at hl
  exact⟨l,ns,rfl,.inr hl,q _ λ_=> .int_mk⟩
 ·cases e
end
end HS
namespace HS
open PySem PySem.Spec L2 PyProof.Rows
theorem QiN:∀{vs:List V}{us:List Value},us.length=vs.length->(∀(k:Nat) (v:V),vs[k]? =some v->∃u,us[k]? =some u/\RelV v u)->Qz vs us
 | [],[],_,_=> .nil
 | [],_::_,h,_=>by simp at h
 | _::_,[],h,_=>by simp at h
 | v::vs,u::us,h,g=>by
  obtain⟨u',e,r⟩:=g 0 v rfl
  cases e
  exact .cons r (QiN (by simpa using h) λk v hk=>g (k+1) v hk)
section
variable {X:Cx}{a b c e tg:Expr}{es:List Expr}{fa fb fc:DE}{fs:DA}{pos p2:Pos}
theorem QqN{pins:List (Addr×Obj)}{σ:L2.St}{H:Hp}{s:Shared}{Q:VK}{E:Value->Shared->Prop}{j:Int}{t u v:Tok}{tk:Nat}(I:Inv X pins σ H s)(hc:X.calm=true)(h0:0<=j)(h1:j<=1000000)
  (q:∀l,H l=none->Q (.ref l) (upd H l (.lst ((List.range j.toNat).map λ(k:Nat)=>V.int (k:Int))))):
  wpAny (model X.prog X.w) X.A (call (.type "list") [.ref s.heap.objs.size]) (EP X pins σ Q) E {s with heap:=s.heap.push {cls:= .type "range",data:= .fields #[.int 0 t,.int j u,.int 1 v]},toks:=tk}:=by
 have I2:Inv X pins σ H {s with heap:=s.heap.push {cls:= .type "range",data:= .fields #[.int 0 t,.int j u,.int 1 v]},toks:=tk}:=I.kept λb o e=>Zu _ e
 refine call_list_range (n:=j.toNat) (I.ok.hd hc) (IsRange.new ..) (small_one (by omega) (by omega) (by omega) (by omega)) (by rw[rangeSize_one];split<;>omega) (by omega) λh' tk' acc' c' hk hS hacc=>?_
 have hv:Qz ((List.range j.toNat).map λ(k:Nat)=>V.int (k:Int)) acc'.toList:=by
  have hl:=hacc.1
  refine QiN (by simp[hl]) λk v hk=>?_
  rw[Zn]at hk
  have hkl:k<j.toNat:=by
   by_cases z:k<j.toNat
   ·exact z
   ·rw[Zk (by simp;omega)]at hk;cases hk
  rw[Zz hkl]at hk
  cases hk
  obtain⟨w,hw⟩:∃w,acc'[k]? =some w:=⟨acc'[k]'(by omega),by rw[Array.getElem?_eq_getElem (by omega)]⟩
  obtain⟨t',rfl⟩:=hacc.2 k w hw
  exact⟨_,by rw[Array.getElem?_toList];exact hw,⟨t',by simp⟩⟩
 refine⟨.ref _,_,I2.laid hk (Zj _) (show Qbx X.prog X.w _ h' _ (.lst _)from⟨by simp[QgC];omega,acc'.toList,c',hv,by simpa using hS⟩),rfl,q _ (I2.hok.fresh (Zj _))⟩
theorem QqR{p p' pos':Pos}{ta:TA}(hg:Gl X "list")(hm:X.mg "list" =none)(hg':Gl X "range")(hm':X.mg "range" =none)(hc:X.calm=true)(ha:PA X [a] ta)(hs:starEach [a] X.env=[(false,eval a X.env)]):
  PE X (.Call (.Name "list" p) [.Call (.Name "range" p') [a] [] pos'] [] pos) (λσ H Q=>ta σ H λvs H1=>∃j:Int,vs=[.int j]/\0<=j/\j<=1000000/\∀l,H1 l=none->Q (.ref l) (upd H1 l (.lst ((List.range j.toNat).map λ(k:Nat)=>V.int (k:Int))))):=by
 intro pins s σ H Q I h
 refine wpAny_Call_Name_kw (Qc5 I hg hm boot_list ?_ (by decide) (by decide))
 refine ZL (Calls.spliced_cons ?_) rfl rfl
 refine Call_ (Qc5 I hg' hm' boot_range (ZL (thn (ha pos' pins s σ H _ I h) λus s1 ⟨vs,H1,I1,r1,q1⟩=>?_) hs rfl))
 obtain⟨j,e,q1,q2,q⟩:=q1
 subst e
 cases r1 with
 | cons r rr=>
  cases rr
  obtain⟨t,rfl⟩:=r
  exact call_range_1 (Calls.spliced_nil (QqN I1 hc q1 q2 q))
noncomputable def Qpu(fa:DE):DE:=λρ=>(fa ρ).bind λr=>match r.d with
 | .int j=>if 0<=j/\j<=1000000 then some ⟨.lst ((List.range j.toNat).map λ(k:Nat)=> .int (k:Int)),true,[]⟩else none
 | _=>none
theorem Rps.ofInts{K:PySem.W.Frag}{H:Hp}:∀ns:List Int,Rps K H (ns.map .int) (ns.map .int) []
 | []=>by simp[Rps]
 | n::ns=>by simp only[ZR,Rps];exact⟨_,_,[],[],rfl,rfl,.int_mk,Rps.ofInts ns⟩
theorem Qrp:∀ns:List Int,QZ (ns.map .int)=true
 | []=>rfl
 | n::ns=>by simp[QZ,D.flat,Qrp ns]
theorem Quh{p p' pos':Pos}(hg:Gl X "list")(hm:X.mg "list" =none)(hg':Gl X "range")(hm':X.mg "range" =none)(hc:X.calm=true)(ha:SE X a fa)(hs:starEach [a] X.env=[(false,eval a X.env)]):
  SE X (.Call (.Name "list" p) [.Call (.Name "range" p') [a] [] pos'] [] pos) (Qpu fa):=λH0 A0=>
 (QqR hg hm hg' hm' hc (Q5 (ha H0 A0) Qb4 hs) hs).mono λσ H Q ⟨ρ,hs,F,r',rel,e,q⟩=>by
  obtain⟨ra,e1,e⟩:=bind1 e
  refine⟨ρ,hs,F,ra,rel,e1,λv H1 G p1=>?_⟩
  cases hd:ra.d with
  | int j=>
   rw[hd]at e
   dsimp only at e
   split at e
   ·rename_i hj
    cases e
    have rp:=p1.rp
    rw[hd]at rp
    refine⟨j,by rw[rp.int_inv],hj.1,hj.2,λl hl=>?_⟩
    have e2:((List.range j.toNat).map λ(k:Nat)=>D.int (k:Int))=((List.range j.toNat).map λ(k:Nat)=>(k:Int)).map D.int:=by rw[ZaM];rfl
    have e3:((List.range j.toNat).map λ(k:Nat)=>V.int (k:Int))=((List.range j.toNat).map λ(k:Nat)=>(k:Int)).map V.int:=by rw[ZaM];rfl
    have:=Q2.Qa2 (M:=[]) (ρ:=ρ) (F:=F) p1.same hl (Rps.ofInts (K:=X.K) (H:=H1) ((List.range j.toNat).map λ(k:Nat)=>(k:Int))) (by simp[QgC];omega) Src.nil Qa8.nil
    rw[← e2,← e3]at this
    unfold Qa2 at this
    rw[if_pos (by rw[e2];exact Qrp _)]at this
    exact q _ _ _ this
   ·cases e
  | _=>rw[hd]at e;cases e
noncomputable def Itd(hi:Int)(n:Nat):It:=⟨λi _=>i<n,λi H x H'=>H'=H/\x= .int (hi-i),λi _=>n<=i⟩
theorem QnY{P:Program}{w:World}{K:PySem.W.Frag}{tg:Expr}(it:Addr)(lo:Int)(n:Nat):Turn P w K tg (Itd lo n) [it] it (λi h=>IsRangeIter h it (lo+(i:Nat)*(-1)) ((n:Int)-(i:Nat)) (-1)) where
 mem:=by simp
 obj:=λi h st b hb=>by
  have e:b=it:=by simpa using hb
  subst e
  exact⟨_,st,λv z=>by
   have z':Data.fields _=Data.cell v:=z
   cases z'⟩
 keep:=λi h h' st k=>k it (by simp) _ st
 item:=by
  intro X hP hw hK hc i pins s σ H E I hf st hg
  subst hP hw hK
  obtain⟨f0,f1,f2,f3,f4,f5⟩:=hf it (by simp)
  have W:=Walks.range (prog:=X.prog) (w:=X.w) (I.ok.hd hc) it lo (-1) n
  refine W.item i s _ _ hg st λv h' tk hv st' kk=>?_
  obtain⟨t,rfl⟩:=hv
  have I1:Inv X pins σ H {s with heap:=h',toks:=tk}:=I.turned (λb o hb e=>kk b o (by simpa using hb) e) f0 f1 f3 f4 f5
  refine⟨_,rfl,Qmj (s:={s with heap:=h',toks:=tk}) (n:= "range_iterator") st' rfl rfl (by decide) ⟨.int (lo-i),H,I1,⟨t,?_⟩,⟨rfl,rfl⟩,st',λb hb=>(hf b hb).1⟩⟩
  rw[show lo+(i:Int)* -1=lo-i by omega]
 done:=by
  intro X hP hw hK hc i pins s σ H E I hf st hg
  subst hP hw hK
  obtain⟨f0,f1,f2,f3,f4,f5⟩:=hf it (by simp)
  exact wpAny_pyNext_range_end (I.ok.hd hc) st (by have:n<=i:=hg;omega) λh' eb=>⟨rfl,I.turned (t':=s.toks) (λb o hb e=>eb b o hb e) f0 f1 f3 f4 f5⟩
 self:=λ_ _ _ _ _ st h=>wpAny_pyIter_rangeiter st h
theorem QlF(lo hi:Int):Builtin.Range.rangeSize lo hi (-1)=if lo>hi then lo-hi else 0:=by
 unfold Builtin.Range.rangeSize
 rw[if_neg (by decide)]
 split
 ·rw[show(- -1:Int)=1 by decide,Int.ediv_one];omega
 ·rfl
theorem small_down{lo hi:Int}(h1: -(2^62)<=lo)(h2:lo<2^62)(h3: -(2^62)<=hi)(h4:hi<2^62):Builtin.Range.small lo hi (-1)=true:=by
 unfold Builtin.Range.small
 rw[QlF]
 simp only[Builtin.Range.rangeFitsLong,Zi,ZbH,decide_eq_true_eq,beq_iff_eq,show ¬((-1:Int)>0) by decide,if_false]
 split<;>omega
theorem Qrz{pins:List (Addr×Obj)}{σ:L2.St}{H:Hp}{s:Shared}{R:It->Hp->Prop}{E:Value->Shared->Prop}{lo hi:Int}{t u v:Tok}{tk:Nat}(I:Inv X pins σ H s)(h1: -(2^62)<=lo)(h2:lo<2^62)(h3: -(2^62)<=hi)(h4:hi<2^62)
  (q:R (Itd lo (lo-hi).toNat) H):wpAny (model X.prog X.w) X.A (pyIter (.ref s.heap.objs.size)) (PIE X pins σ tg R) E {s with heap:=s.heap.push {cls:= .type "range",data:= .fields #[.int lo t,.int hi u,.int (-1) v]},toks:=tk}:=by
 refine wpAny_pyIter_range (IsRange.new ..) (small_down h1 h2 h3 h4) ?_
 have I1:Inv X pins σ H {s with heap:=s.heap.push {cls:= .type "range",data:= .fields #[.int lo t,.int hi u,.int (-1) v]},toks:=tk}:=I.kept λb o e=>Zu _ e
 refine⟨(s.heap.push {cls:= .type "range",data:= .fields #[.int lo t,.int hi u,.int (-1) v]}).objs.size,[(s.heap.push {cls:= .type "range",data:= .fields #[.int lo t,.int hi u,.int (-1) v]}).objs.size],_,_,H,rfl,
  I1.kept (t':=tk) λb o e=>Zu _ e,QnY _ lo (lo-hi).toNat,?_,λb hb=>?_,q⟩
 ·have e1:lo+((0:Nat):Int)*(-1)=lo:=by simp
  have e2:(((lo-hi).toNat:Nat):Int)-((0:Nat):Int)=Builtin.Range.rangeSize lo hi (-1):=by rw[QlF];split<;>omega
  show IsRangeIter _ _ (lo+((0:Nat):Int)*(-1)) ((((lo-hi).toNat:Nat):Int)-((0:Nat):Int)) (-1)
  rw[e1,e2]
  exact ZQ _ rfl
 ·have e:b=(s.heap.push {cls:= .type "range",data:= .fields #[.int lo t,.int hi u,.int (-1) v]}).objs.size:=by simpa using hb
  subst e
  exact I1.QkY (Zj _) (I1.hok.fresh (Zj _))
noncomputable def Qx4(ta:TA):TI:=λσ H R=>ta σ H λvs H1=>∃i j:Int,vs=[.int i,.int j,.int (-1)]/\(-(2^62)<=i/\i<2^62/\ -(2^62)<=j/\j<2^62)/\R (Itd i (i-j).toNat) H1
theorem Qqj{ta:TA}{p pos:Pos}(hg:Gl X "range")(hm:X.mg "range" =none)(ha:PA X [a,b,c] ta)(hs:starEach [a,b,c] X.env=(false,eval a X.env)::starEach [b,c] X.env)(hs2:(backTo pos (starEach [b,c] X.env)).any (·.1)=false):
  PI X tg (.Call (.Name "range" p) [a,b,c] [] pos) (Qx4 ta):=by
 intro pins s σ H R I h
 refine Call_ (Qc5 I hg hm boot_range (ZL (thn (ha pos pins s σ H _ I h) λus s1 ⟨vs,H1,I1,r1,q1⟩=>?_) hs hs2))
 obtain⟨i,j,e,⟨q1,q2,q3,q4⟩,q⟩:=q1
 subst e
 cases r1 with
 | cons r rr=>
  cases rr with
  | cons r' rr=>
   cases rr with
   | cons r'' rr=>
    cases rr
    obtain⟨t,rfl⟩:=r
    obtain⟨t',rfl⟩:=r'
    obtain⟨t'',rfl⟩:=r''
    exact call_range_3 (by decide) (Qrz I1 q1 q2 q3 q4 q) (.inl (Zbs (by decide+kernel)))
noncomputable def Qls(hi:Int)(n:Nat):List D:=(List.range n).map λ(k:Nat)=> .int (hi-(k:Int))
theorem Qtn{lo:Int}{n i:Nat}{d:D}(h:(Qls lo n)[i]? =some d):i<n/\d= .int (lo-i):=by
 unfold Qls at h
 rw[Zn]at h
 by_cases hi:i<n
 ·rw[Zz hi]at h;cases h;exact⟨hi,rfl⟩
 ·rw[Zk (by simp;omega)]at h;cases h
noncomputable def QgB(fa fb fc:DE):DI:=λρ=>(fa ρ).bind λr=>(fb ρ).bind λr'=>(fc ρ).bind λr''=>match r.d,r'.d,r''.d with
 | .int i,.int j,.int (-1)=>if i-j<=16777216/\ -(2^62)<=i/\i<2^62/\ -(2^62)<=j/\j<2^62 then some ⟨Qls i (i-j).toNat,[]⟩else none
 | _,_,_=>none
theorem Qje{lo:Int}{n:Nat}:(Qls lo n).length=n:=by simp[Qls]
theorem Qn2{K:PySem.W.Frag}{lo:Int}{n:Nat}:Walk K (Itd lo n) [] (Qls lo n) where
 stop:=λH _=>by rw[Qje];exact Zj _
 go:=λi H hi _=>by rw[Qje]at hi;exact hi
 yld:=λi d H x H' e _ y=>by
  obtain⟨h1,rfl⟩:=Qtn e
  obtain⟨rfl,rfl⟩:=y
  exact⟨QH.refl _,[],.int_mk,λz hz=>by simp at hz⟩
theorem QqE{p:Pos}(hg:Gl X "range")(hm:X.mg "range" =none)(ha:SE X a fa)(hb:SE X b fb)(hc:SE X c fc)(h1:starEach [a,b,c] X.env=(false,eval a X.env)::starEach [b,c] X.env)(h2:starEach [b,c] X.env=(false,eval b X.env)::starEach [c] X.env)(h3:starEach [c] X.env=(false,eval c X.env)::starEach [] X.env):
  SI X tg (.Call (.Name "range" p) [a,b,c] [] pos) (QgB fa fb fc):=λH0 A0=>
 (Qqj hg hm (Q5 (ha H0 A0) (Q5 (hb H0 A0) (Q5 (hc H0 A0) Qb4 h3) h2) h1) h1 (by rw[h2,h3];rfl)).mono λσ H Rr ⟨ρ,hs,F,ir,rel,e,q⟩=>by
  obtain⟨r,e1,e⟩:=bind1 e
  obtain⟨r',e2,e⟩:=bind1 e
  obtain⟨r'',e3,e⟩:=bind1 e
  refine⟨ρ,hs,F,r,rel,e1,λv H1 G pp=>⟨ρ,hs,F,r',rel.ext pp.same,e2,λv' H2 G' pp'=>⟨ρ,hs,F,r'',(rel.ext pp.same).ext pp'.same,e3,λv'' H3 G'' pp''=>?_⟩⟩⟩
  split at e
  ·rename_i i j hr hr' hr''
   split at e
   ·rename_i hz
    cases e
    have rp:=(pp.rp.same pp'.same).same pp''.same
    have rp':=pp'.rp.same pp''.same
    have rp'':=pp''.rp
    rw[hr]at rp
    rw[hr']at rp'
    rw[hr'']at rp''
    rw[rp.int_inv,rp'.int_inv,rp''.int_inv]
    refine⟨i,j,rfl,hz.2,q _ H3 [] ((pp.same.trans pp'.same).trans pp''.same) Qn2 (λt ht=>by simp at ht) Qa8.nil ?_⟩
    rw[Qje,QgC];omega
   ·cases e
  ·cases e
noncomputable def QpI(fs:DA):DE:=λρ=>(fs ρ).bind λr=>match r.ds with
 | [.lst xs]=>if QZ xs=true then some ⟨.tup xs,true,[]⟩else none
 | _=>none
theorem Qvb{p:Pos}(hg:Gl X "tuple")(hm:X.mg "tuple" =none)(ha:SA X (e::es) fs)(he:starEach (e::es) X.env=(false,eval e X.env)::starEach es X.env)(hpl:(backTo pos (starEach es X.env)).any (·.1)=false):
  SE X (.Call (.Name "tuple" p) (e::es) [] pos) (QpI fs):=λH0 A0=>
 (QhM Ql2 hg hm Zby (ha H0 A0) (by decide) (by decide) he hpl).mono λσ H Q ⟨ρ,hs,F,r',rel,e,q⟩=>by
  obtain⟨ra,e1,e⟩:=bind1 e
  refine⟨ρ,hs,F,ra,rel,e1,λvs H1 G p1=>?_⟩
  split at e
  ·rename_i xs hds
   split at e
   ·rename_i hf
    cases e
    have rp:=p1.rp
    rw[hds]at rp
    obtain⟨v,rfl,rq⟩:=rp.one
    obtain⟨l,ws,L,rfl,hl,rl,zl,el⟩:=rq.lst_inv
    have:=rl.Qcr hf
    subst this
    refine⟨l,ws,rfl,.inl ⟨Q6 hl,λc hc=>q _ _ [] (.flat (p1.same.trans (Qbr hc)) (Rp.Qho Q1 (rl.same (Qbr hc))) (by simp only[D.flat];exact hf))⟩⟩
   ·cases e
  ·cases e
end
end HS
namespace HS
open PySem PySem.Spec PyProof.Rows L2
section
variable {X:Cx}{a b c:Expr}{fa fb fc:DE}{pos:Pos}
end
end HS
namespace HS
open PySem PySem.Spec L2
structure FnR where
 n:Nat
 dfl:List D
 den:Den
structure Th where
 N:List Str
 sc:List (Str×NameKind)
 Γ:List (Str×FnR)
 cs:List (Str×Int)
 tr:Stmt->Option DS:=λ_=>none
noncomputable def posOf(x:Str):List Str->Option Nat
 | []=>none
 | y::ys=>if x=y then some 0 else(posOf x ys).map (· +1)
theorem QfQ:∀{x:Str}{ys:List Str}{i:Nat},posOf x ys=some i->ys[i]? =some x
 | x,[],i,h=>by cases h
 | x,y::ys,i,h=>by
  unfold posOf at h
  split at h
  ·rename_i e;cases h;subst e;rfl
  ·obtain⟨j,hj,rfl⟩:=Zb.mp h
   simpa using QfQ hj
noncomputable def look{α:Type}(x:Str):List (Str×α)->Option α
 | []=>none
 | (y,a)::r=>if x=y then some a else look x r
theorem QbB{α:Type}:∀{x:Str}{l:List (Str×α)},look x l=l.lookup x
 | x,[]=>rfl
 | x,(y,a)::r=>by
  unfold look
  rw[Zs]
  by_cases h:x=y
  ·subst h;simp
  ·rw[if_neg h,QbB]
   have:(x == y)=false:=by simpa using h
   rw[this]
noncomputable def QtK:NameKind->Bool
 | .local =>true | .cell=>true | .free=>true | _=>false
noncomputable def QtG:NameKind->Bool
 | .local =>true | .cell=>true | _=>false
noncomputable def Qyk:NameKind->Bool
 | .globalImplicit=>true | _=>false
noncomputable def isFree:NameKind->Bool
 | .free=>true | _=>false
noncomputable def odd(x:Str):Bool:=decide (x= "__debug__") || decide (x= "__classdict__") || decide (x= "__name__")
noncomputable def Th.slot(Θ:Th)(x:Str):Option Nat:=if((look x Θ.sc).map QtK).getD false && !odd x then posOf x Θ.N else none
noncomputable def Th.QbT(Θ:Th)(x:Str):Option Nat:=if((look x Θ.sc).map QtG).getD false && !odd x then posOf x Θ.N else none
noncomputable def Th.gl(Θ:Th)(x:Str):Bool:=((look x Θ.sc).map Qyk).getD false && !odd x
def QuX(X:Cx)(x:Str)(r:FnR):Prop:=∃k f fd ps,Qck X.prog X.w X.K X.mg X.base CX0 k f fd ps (spV X.K r.n r.den)/\Qa1 k X.A/\X.mg x=some (.ref f)/\PySem.W.keepIn X.K (.ref f)=true∧
 ∀m,m<=r.dfl.length->∃ds dvs,Binds X.K fd ps ds/\Qz dvs ds/\∀H,Rps X.K H (r.dfl.drop (r.dfl.length-m)) dvs []
noncomputable def QmP:List Str:=["range","enumerate","zip","len","list","min","max","sum","abs","isinstance","int","bool","tuple","str","divmod","sorted","any","all"]
structure CtxB (X:Cx) (Θ:Th):Prop where
 N:X.N=Θ.N
 nd:Θ.N.Nodup
 lc:∀x,look x Θ.sc=some .local ->X.env.scope.names.lookup x=some .local
 ce:∀x,look x Θ.sc=some .cell->X.env.scope.names.lookup x=some .cell/\X.fn x=true
 fe:∀x,look x Θ.sc=some .free->X.env.scope.names.lookup x=some .cell∨X.env.scope.names.lookup x=some .free
 gl:∀x,look x Θ.sc=some .globalImplicit->X.env.scope.names.lookup x=some .globalImplicit
 units:X.A.units+64<cLine
 mg:∀x∈QmP,X.mg x=none
 cs:∀x i,look x Θ.cs=some i->∃t,X.mg x=some (.int i t)
structure Q0 (X:Cx) (Θ:Th):Prop extends CtxB X Θ where
 calm:X.calm=true
 pass:PassesOwn (model X.prog X.w) X.A X.env X.xe
 fns:∀x r,look x Θ.Γ=some r->QuX X x r
 tr:∀st f,Θ.tr st=some f->S1 X st f
section
variable {X:Cx}{Θ:Th}
theorem QoB{x:Str}(h:odd x=false):(x == ("__debug__" :Str))=false/\(x == ("__classdict__" :Str))=false/\x≠ "__name__" :=by
 unfold odd at h
 simp only[Bool.or_eq_false_iff,decide_eq_false_iff_not]at h
 exact⟨by simpa using h.1.1,by simpa using h.1.2,h.2⟩
theorem Qab(ok:CtxB X Θ){x:Str}{i:Nat}{pos:Pos}(h:Θ.slot x=some i):PE X (.Name x pos) (Qf6 i):=by
 unfold Th.slot at h
 split at h
 ·rename_i hc
  simp only[Zi,Zaw]at hc
  obtain⟨h1,h2,_⟩:=QoB hc.2
  refine QwZ (by rw[ok.N];exact QfQ h) ?_ h1 h2
  cases q:look x Θ.sc with
  | none=>rw[q]at hc;cases hc.1
  | some k=>
   rw[q]at hc
   cases k with
   | «local» =>exact .inl (ok.lc x q)
   | cell=>exact .inr (.inl (ok.ce x q).1)
   | free=>exact .inr (ok.fe x q)
   | _=>cases hc.1
 ·cases h
theorem Qcm(ok:CtxB X Θ){x:Str}{i:Nat}(h:Θ.QbT x=some i):X.N[i]? =some x/\Loc X.env.scope x/\(X.fn x=true∨X.env.scope.names.lookup x=some .local):=by
 unfold Th.QbT at h
 split at h
 ·rename_i hc
  simp only[Zi,Zaw]at hc
  refine⟨by rw[ok.N];exact QfQ h,?_⟩
  cases q:look x Θ.sc with
  | none=>rw[q]at hc;cases hc.1
  | some k=>
   rw[q]at hc
   cases k with
   | «local» =>exact⟨.inl (ok.lc x q),.inr (ok.lc x q)⟩
   | cell=>exact⟨.inr (ok.ce x q).1,.inl (ok.ce x q).2⟩
   | _=>cases hc.1
 ·cases h
theorem QbW(ok:CtxB X Θ){x:Str}(h:Θ.gl x=true):Gl X x/\(x == ("__debug__" :Str))=false/\x≠ "__name__" :=by
 unfold Th.gl at h
 simp only[Zi,Zaw]at h
 obtain⟨h1,h2,h3⟩:=QoB h.2
 refine⟨?_,h1,h3⟩
 cases q:look x Θ.sc with
 | none=>rw[q]at h;cases h.1
 | some k=>
  rw[q]at h
  cases k with
  | globalImplicit=>exact ok.gl x q
  | _=>cases h.1
end
noncomputable def isTup:Expr->Bool
 | .Tuple .. =>true
 | _=>false
noncomputable def Qfw:Expr->Option Str
 | .Name x _=>some x
 | _=>none
noncomputable def Qfn(Θ:Th):Expr->Option Tg
 | .Name x _=>(Θ.QbT x).map .nm
 | .Tuple es _ _=>((es.mapM Qfw).bind λxs=>xs.mapM Θ.QbT).map .tp
 | _=>none
noncomputable def Qo6:CmpOp->Option (D->D->Option D)
 | .Eq=>some gEq | .NotEq=>some gNe | .Lt=>some gLt | .LtE=>some gLe | .Gt=>some gGt | .GtE=>some gGe
 | .Is=>none | .IsNot=>none
 | .In=>some (gIn false) | .NotIn=>some (gIn true)
noncomputable def Qta(x:Str):Option String:=
 if x= "int" then some "int" else if x= "bool" then some "bool" else if x= "list" then some "list" else if x= "tuple" then some "tuple" else if x= "str" then some "str" else none
noncomputable def inner(Θ:Th)(scope:Scope):Th:={N:=(scope.names.filter λy=>QtK y.2).map (·.1),sc:=scope.names,Γ:=Θ.Γ,cs:=Θ.cs}
noncomputable def Qio(Θ:Th)(scope:Scope):List (Option Nat):=(inner Θ scope).N.map λx=>if((look x scope.names).map isFree).getD false then posOf x Θ.N else none
noncomputable def QjE(Θ:Th)(scope:Scope)(t:Tg):Bool:=(scope.kind == .function) && decide (inner Θ scope).N.Nodup &&
 (scope.names.all λy=>match y.2 with
  | .cell=>decide (look y.1 scope.names=some .cell)
  | .local =>decide (look y.1 scope.names=some .local)
  | .free=>match look y.1 Θ.sc with
   | some .cell=>true
   | some .free=>true
   | _=>false
  | _=>true) &&
 t.slots.all λj=>match (Qio Θ scope)[j]? with
  | some (some _)=>false
  | _=>true
noncomputable def Qjn(Θ:Th)(x:Str)(a:Expr):Option Expr:=match a with
 | .Call (.Name y _) [b] [] _=>if x= "list" /\y= "range" /\Θ.gl y=true/\(look y Θ.Γ).isNone=true then some b else none
 | _=>none
noncomputable def Qx7:List Expr->Bool
 | []=>true | [_]=>true | _=>false
noncomputable def bf1(x:Str)(fa:DE):Option DE:=
 if x= "len" then some (dBf Q8 (Qc fa Qe))else
 if x= "list" then some (dList (Qc fa Qe))else
 if x= "abs" then some (dBf Qjj (Qc fa Qe))else
 if x= "sum" then some (dBf QiC (Qc fa Qe))else
 if x= "tuple" then some (QpI (Qc fa Qe))else
 none
noncomputable def bf2(x:Str)(fa fb:DE):Option DE:=
 none
mutual
noncomputable def Qn(n:Nat)(Θ:Th)(e:Expr):Option DE:=match n with
 | 0=>none
 | n+1=>match e with
  | .Name x _=>match Θ.slot x with
   | some i=>some (Qa i)
   | none=>if Θ.gl x then(look x Θ.cs).map λi=>dC (.int i)else none
  | .Constant (.int i) _ _=>some (dC (.int i))
  | .Constant (.bool b) _ _=>some (dC (.bl b))
  | .Constant .none _ _=>some (dC .non)
  | .Constant (.str x) _ _=>some (dC (.str x))
  | .BinOp a op b _=>(Qn n Θ a).bind λfa=>(Qn n Θ b).bind λfb=>match op with
   | .Add=>some (QX fa fb)
   | .Mult=>some (QaM fa fb)
   | .Sub=>some (dOp Qa9 fa fb)
   | .FloorDiv=>some (dOp Qcn fa fb)
   | .Mod=>some (dOp Qco fa fb)
   | .Pow=>some (dOp QhY fa fb)
   | _=>none
  | .UnaryOp .USub a _=>(Qn n Θ a).map Qo2
  | .UnaryOp .Not a _=>(Qn n Θ a).map Qg5
  | .BoolOp .And [a] _=>Qn n Θ a
  | .BoolOp .And (a::b::r) p=>(Qn n Θ a).bind λfa=>(Qn n Θ (.BoolOp .And (b::r) p)).map λfb=>Qep fa fb
  | .BoolOp .Or [a] _=>Qn n Θ a
  | .BoolOp .Or (a::b::r) p=>(Qn n Θ a).bind λfa=>(Qn n Θ (.BoolOp .Or (b::r) p)).map λfb=>dOr fa fb
  | .Compare a [op] [b] _=>(Qn n Θ a).bind λfa=>(Qn n Θ b).bind λfb=>(Qo6 op).map λg=>dOp g fa fb
  | .IfExp c a b _=>(QaN n Θ c).bind λg=>(Qn n Θ a).bind λfa=>(Qn n Θ b).map λfb=>dIf g fa fb
  | .Tuple es _ _=>(Qba n Θ es).map Qdk
  | .List es _=>(Qba n Θ es).map Qat
  | .Subscript a (.Slice lo hi none _) _=>(Qn n Θ a).bind λfa=>(Qin n Θ lo).bind λfl=>(Qin n Θ hi).map λfh=>Qby fa fl fh
  | .Subscript a b _=>(Qn n Θ a).bind λfa=>(Qn n Θ b).map λfb=>Qs fa fb
  | .Call (.Name x _) args [] _=>if Θ.gl x then(match look x Θ.Γ with
    | some r=>if r.n<=args.length+r.dfl.length/\args.length<=r.n then(Qba n Θ args).map λfs=>Qh r.n r.den (r.dfl.drop (r.dfl.length-(r.n-args.length))) fs else none
    | none=>QjH n Θ x args)else none
  | .ListComp elt [⟨tg,iter,ifs,0⟩] scope _=>(Qfn (inner Θ scope) tg).bind λt=>if QjE Θ scope t && Qx7 ifs then
    (QeV n Θ tg iter).bind λfi=>(Qfe n (inner Θ scope) ifs).bind λft=>(Qn n (inner Θ scope) elt).map λfe=>QG fi t (Qio Θ scope) ft fe else none
  | _=>none
noncomputable def QjH(n:Nat)(Θ:Th)(x:Str)(args:List Expr):Option DE:=match n with
  | 0=>none
  | n+1=>match args with
    | [a]=>match Qjn Θ x a with
     | some b=>(Qn n Θ b).map Qpu
     | none=>(Qn n Θ a).bind λfa=>bf1 x fa
    | [a,b]=>if x= "isinstance" then(Qn n Θ a).bind λfa=>match b with
        | .Name y _=>if Θ.gl y then(Qta y).map λT=>QhW T fa else none
        | _=>none
      else(Qn n Θ a).bind λfa=>(Qn n Θ b).bind λfb=>bf2 x fa fb
    | _=>none
noncomputable def QaN(n:Nat)(Θ:Th)(e:Expr):Option DT:=match n with
 | 0=>none
 | n+1=>match e with
  | .UnaryOp .Not a _=>(QaN n Θ a).map Qek
  | .BoolOp .And [a] _=>QaN n Θ a
  | .BoolOp .And (a::b::r) p=>(QaN n Θ a).bind λfa=>(QaN n Θ (.BoolOp .And (b::r) p)).map λfb=>Qsi fa fb
  | .BoolOp .Or [a] _=>QaN n Θ a
  | .BoolOp .Or (a::b::r) p=>(QaN n Θ a).bind λfa=>(QaN n Θ (.BoolOp .Or (b::r) p)).map λfb=>bOr fa fb
  | .Compare a [op] [b] _=>(Qn n Θ a).bind λfa=>(Qn n Θ b).bind λfb=>(Qo6 op).map λg=>QO (dOp g fa fb)
  | .BoolOp _ _ _=>none
  | .IfExp _ _ _ _=>none
  | .Compare _ _ _ _=>none
  | e=>(Qn n Θ e).map QO
noncomputable def Qfe(n:Nat)(Θ:Th)(es:List Expr):Option DT:=match n with
 | 0=>none
 | n+1=>match es with
  | []=>some QN
  | [c]=>QaN n Θ c
  | _=>none
noncomputable def Qba(n:Nat)(Θ:Th)(es:List Expr):Option DA:=match n with
 | 0=>none
 | n+1=>match es with
  | []=>some Qe
  | e::es=>(Qn n Θ e).bind λfa=>(Qba n Θ es).map λfs=>Qc fa fs
noncomputable def Qin(n:Nat)(Θ:Th)(e:Option Expr):Option DO:=match n with
 | 0=>none
 | n+1=>match e with
  | none=>some Qa6
  | some e=>(Qn n Θ e).map Qa3
noncomputable def QeV(n:Nat)(Θ:Th)(tg e:Expr):Option DI:=match n with
 | 0=>none
 | n+1=>match e with
  | .Call (.Name x _) args [] _=>if Θ.gl x && (look x Θ.Γ).isNone then(match args with
    | [a]=>if x= "range" then(Qn n Θ a).map QaK else
     if x= "enumerate" then(if isTup tg then(Qn n Θ a).map QfG else none)else
     (Qn n Θ e).map Qag
    | [a,b,c]=>
     if x= "range" then(Qn n Θ a).bind λfa=>(Qn n Θ b).bind λfb=>(Qn n Θ c).map λfc=>QgB fa fb fc else
     (Qn n Θ e).map Qag
    | [a,b]=>
     if x= "range" then(Qn n Θ a).bind λfa=>(Qn n Θ b).map λfb=>Qec fa fb else
     if x= "zip" then(if isTup tg then(Qn n Θ a).bind λfa=>(Qn n Θ b).map λfb=>QbO fa fb else none)else
     (Qn n Θ e).map Qag
    | _=>(Qn n Θ e).map Qag)else(Qn n Θ e).map Qag
  | e=>(Qn n Θ e).map Qag
end
end HS
namespace HS
open PySem PySem.Spec L2
theorem QP{α β γ:Type}{x:Option α}{y:α->Option β}{k:α->β->γ}{r:γ}(e:(x.bind λa=>(y a).map λb=>k a b)=some r):∃a b,x=some a/\y a=some b/\k a b=r:=by
 obtain⟨a,h1,e⟩:=bind1 e
 obtain⟨b,h2,e⟩:=Zb.mp e
 exact⟨a,b,h1,h2,e⟩
theorem QaC{n:Nat}{Θ:Th}{e:Expr}{f:DE}(h:Qn n Θ e=some f)(es:List Expr)(env:Env):starEach (e::es) env=(false,eval e env)::starEach es env:=by
 cases n with
 | zero=>exact nomatch (show(none:Option DE)=some _ from h)
 | succ n=>cases e<;>first | rfl | (exact nomatch (show(none:Option DE)=some _ from h))
theorem QoE:∀{n:Nat}{Θ:Th}{es:List Expr}{f:DA},Qba n Θ es=some f->∀(pos:Pos) (env:Env),(backTo pos (starEach es env)).any (·.1)=false
 | 0,_,_,_,h,_,_=>by simp[Qba]at h
 | n+1,_,[],_,h,_,_=>rfl
 | n+1,_,e::es,_,h,pos,env=>by
  simp only[Qba]at h
  obtain⟨fa,fs,h1,h2,_⟩:=QP h
  rw[QaC h1]
  have:=QoE h2 pos env
  simpa[backTo]using this
theorem QoK{n:Nat}{Θ:Th}{b:Expr}{f:DE}(h:Qn n Θ b=some f):Qiw b:=by
 cases n with
 | zero=>exact nomatch (show(none:Option DE)=some _ from h)
 | succ n=>cases b<;>first | (intro o i;rfl) | (exact nomatch (show(none:Option DE)=some _ from h))
theorem QvO{n:Nat}{Θ:Th}{e:Expr}{f:DE}(h:Qn n Θ e=some f)(env:Env):∀x,foldedSetIterable e env x=pure x:=by
 cases n with
 | zero=>exact nomatch (show(none:Option DE)=some _ from h)
 | succ n=>cases e<;>first | (intro x;rfl) | (exact nomatch (show(none:Option DE)=some _ from h))
theorem Qp4{n:Nat}{Θ:Th}{e:Expr}{f:DE}(h:Qn n Θ e=some f)(op:CmpOp):behindInMarks op e=false:=by
 cases n with
 | zero=>exact nomatch (show(none:Option DE)=some _ from h)
 | succ n=>cases e<;>first | rfl | (exact nomatch (show(none:Option DE)=some _ from h))
theorem Qd8{env:Env}:∀{names:List (Str×NameKind)}{x:Str},names.lookup x=some .cell→
  (names.map λ(n,k)=>if(k == NameKind.free && env.scope.kind == .function && env.kindOf n == some .cell)then(n,NameKind.cell)else(n,k)).lookup x=some .cell
 | [],_,h=>by simp at h
 | (n,k)::r,x,h=>by
  have ih:= @Qd8 env r x
  rw[ZR]
  cases hx:x == n with
  | true=>
   simp only[Zs,hx]at h
   cases h
   dsimp only
   split<;>simp[Zs,hx]
  | false=>
   simp only[Zs,hx]at h
   dsimp only
   split<;>(simp only[Zs,hx];exact ih h)
theorem QmE{X:Cx}{Θ:Th}{scope:Scope}{t:Tg}(ok:Q0 X Θ)(h:QjE Θ scope t=true):QeH X (inner Θ scope).N scope/\Qmf X (inner Θ scope).N scope (Qio Θ scope) t.slots/\∀cl C fp s3 H3,Q0 (cxc X (inner Θ scope).N scope cl C fp s3 H3) (inner Θ scope):=by
 unfold QjE at h
 simp only[Zi,decide_eq_true_eq]at h
 obtain⟨⟨⟨h1,h2⟩,h3⟩,h4⟩:=h
 have hk:scope.kind= .function:=by simpa using h1
 have each:∀y∈scope.names,(y.2= .cell->scope.names.lookup y.1=some .cell)/\(y.2= .local ->scope.names.lookup y.1=some .local)/\(y.2= .free->X.env.kindOf y.1=some .cell∨X.env.kindOf y.1=some .free):=λy hy=>by
  have:=Zam.mp h3 y hy
  obtain⟨y,k⟩:=y
  cases k with
  | cell=>exact⟨λ_=>(by rw[← QbB];simpa using this),λz=>(by cases z),λz=>(by cases z)⟩
  | «local» =>exact⟨λz=>(by cases z),λ_=>by rw[← QbB];simpa using this,λz=>by cases z⟩
  | free=>
   refine⟨λz=>(by cases z),λz=>(by cases z),λ_=>?_⟩
   dsimp only at this
   split at this
   ·rename_i q;exact .inl (ok.ce _ q).1
   ·rename_i q;exact ok.fe _ q
   ·cases this
  | _=>exact⟨λz=>(by cases z),λz=>(by cases z),λz=>(by cases z)⟩
 have S:QeH X (inner Θ scope).N scope:=⟨hk,λy hy=>(each y hy).1,λy hy=>(each y hy).2.1,λy hy=>(each y hy).2.2⟩
 refine⟨S,⟨by unfold Qio;simp,λj i e=>?_,λj i e hj=>?_⟩,λcl C fp s3 H3=>⟨⟨rfl,h2,λx e=>?_,λx e=>?_,λx e=>?_,λx e=>?_,ok.units,ok.mg,ok.cs⟩,ok.calm,PassesOwn.never,ok.fns,λ_ _ e=>nomatch e⟩⟩
 ·unfold Qio at e
  rw[Zn]at e
  cases q:(inner Θ scope).N[j]? with
  | none=>rw[q]at e;cases e
  | some x=>
   rw[q]at e
   simp only[Zak,Option.some.injEq]at e
   split at e
   ·rename_i hf
    cases hl:look x scope.names with
    | none=>rw[hl]at hf;cases hf
    | some k=>
     rw[hl]at hf
     cases k with
     | free=>
      rw[QbB]at hl
      exact⟨x,rfl,hl,by rw[ok.N];exact QfQ e,(each (x,.free) (Zaa hl)).2.2 rfl⟩
     | _=>cases hf
   ·cases e
 ·have:=Zam.mp h4 j hj
  rw[e]at this
  cases this
 ·have e':scope.names.lookup x=some .local :=by rw[← QbB];exact e
  exact lookup_relabel_local e'
 ·have e':scope.names.lookup x=some .cell:=by rw[← QbB];exact e
  exact⟨Qd8 e',decide_eq_true e'⟩
 ·have e':scope.names.lookup x=some .free:=by rw[← QbB];exact e
  exact QcM e'
 ·have e':scope.names.lookup x=some .globalImplicit:=by rw[← QbB];exact e
  show(relabel scope X.env).names.lookup x=some .globalImplicit
  unfold relabel
  have gen:∀{names:List (Str×NameKind)},names.lookup x=some .globalImplicit→
    (names.map λ(n,k)=>if(k == NameKind.free && X.env.scope.kind == .function && X.env.kindOf n == some .cell)then(n,NameKind.cell)else(n,k)).lookup x=some .globalImplicit:=by
   intro names
   induction names with
   | nil=>intro z;simp at z
   | cons y r ih=>
    intro z
    obtain⟨n,k⟩:=y
    rw[ZR]
    cases hx:x == n with
    | true=>
     simp only[Zs,hx]at z
     cases z
     simp[Zs,hx]
    | false=>
     simp only[Zs,hx]at z
     dsimp only
     split<;>(simp only[Zs,hx];exact ih z)
  exact gen e'
theorem Qkg{X:Cx}{Θ:Th}(ok:Q0 X Θ){tg:Expr}{t:Tg}(h:Qfn Θ tg=some t):SG X tg t:=by
 have hN:X.N.Nodup:=by rw[ok.N];exact ok.nd
 cases tg with
 | Name x pos=>
  simp only[Qfn]at h
  obtain⟨i,hi,rfl⟩:=Zb.mp h
  obtain⟨h1,h2,h3⟩:=Qcm ok.toCtxB hi
  exact Qvk (Qon hN h1 h2 h3)
 | Tuple es k pos=>
  simp only[Qfn]at h
  obtain⟨is,hi,rfl⟩:=Zb.mp h
  obtain⟨xs,h1,h2⟩:=bind1 hi
  have key:∀(es:List Expr) (xs:List Str) (is:List Nat),es.mapM Qfw=some xs->xs.mapM Θ.QbT=some is->PGs X es (QjF is)/\(assignEach es X.env).length=is.length/\(assignEach es X.env).findIdx? (·.1)=none:=by
   intro es
   induction es with
   | nil=>
    intro xs is h1 h2
    cases h1
    cases h2
    exact⟨Qvy,rfl,rfl⟩
   | cons e es ih=>
    intro xs is h1 h2
    rw[ZbL]at h1
    obtain⟨x,hx,h1⟩:=bind1 h1
    obtain⟨ys,hy,h1⟩:=bind1 h1
    cases h1
    rw[ZbL]at h2
    obtain⟨i,hi,h2⟩:=bind1 h2
    obtain⟨js,hj,h2⟩:=bind1 h2
    cases h2
    obtain⟨a1,a2,a3⟩:=ih ys js hy hj
    cases e with
    | Name y p=>
     cases hx
     obtain⟨g1,g2,g3⟩:=Qcm ok.toCtxB hi
     refine⟨Qsc (Qon hN g1 g2 g3) a1 rfl,?_,?_⟩
     ·show(assignEach es X.env).length+1=_
      rw[a2];rfl
     ·show List.findIdx? (·.1) ((false,assign (.Name x p) X.env)::assignEach es X.env)=none
      rw[List.findIdx?_cons]
      simp only[a3];rfl
    | _=>cases hx
  obtain⟨a1,a2,a3⟩:=key es xs is h1 h2
  exact QwU ok.calm a1 a2 a3
 | _=>simp only[Qfn]at h;cases h
theorem QpA{f:Int->Int->Bool}:∀a b d,gI (λi j=>some (.bl (f i j))) a b=some d->∃k,d= .bl k:=λa b d h=>by
 obtain⟨i,j,_,_,e⟩:=Qp6 h
 cases e
 exact⟨_,rfl⟩
theorem Qp9{X:Cx}{Θ:Th}(ok:Q0 X Θ){op:CmpOp}{g:D->D->Option D}(h:Qo6 op=some g):∃r,OpR X (compareOp op) r/\Qdl X.K g r/\∀a b d,g a b=some d->∃k,d= .bl k:=by
 cases op<;>cases h
 ·exact⟨_,QqY ok.units,QtC,λa b d h=>by unfold gEq at h;split at h<;>cases h;exact⟨_,rfl⟩⟩
 ·exact⟨_,Qrc ok.units,QtU,λa b d h=>by unfold gNe at h;split at h<;>cases h;exact⟨_,rfl⟩⟩
 ·exact⟨_,Qx8,QxW,QpA⟩
 ·exact⟨_,Qx2,QxY,QpA⟩
 ·exact⟨_,QxM,Qx1,QpA⟩
 ·exact⟨_,Qyb,QxL,QpA⟩
 ·exact⟨_,Qv1 ok.units,QtI,λa b d h=>by unfold gIn at h;split at h<;>first | (split at h<;>cases h;exact⟨_,rfl⟩) | cases h⟩
 ·exact⟨_,Qre ok.units,QtI,λa b d h=>by unfold gIn at h;split at h<;>first | (split at h<;>cases h;exact⟨_,rfl⟩) | cases h⟩
structure QjI (n:Nat):Prop where
 E:∀X Θ e f,Q0 X Θ->Qn n Θ e=some f->SE X e f
 B:∀X Θ x args f p pos,Q0 X Θ->Θ.gl x=true->QjH n Θ x args=some f->SE X (.Call (.Name x p) args [] pos) f
 T:∀X Θ e f,Q0 X Θ->QaN n Θ e=some f->ST X e f
 Ts:∀X Θ e f,Q0 X Θ->Qfe n Θ e=some f->QnJ X e f
 A:∀X Θ e f,Q0 X Θ->Qba n Θ e=some f->SA X e f
 O:∀X Θ e f,Q0 X Θ->Qin n Θ e=some f->SO X e f
 I:∀X Θ tg e f,Q0 X Θ->QeV n Θ tg e=some f->SI X tg e f/\∀x,foldedSetIterable e X.env x=pure x
theorem callArgs{X:Cx}{n:Nat}{Θ:Th}{es:List Expr}{fs:DA}(h:Qba n Θ es=some fs){e:Expr}{es':List Expr}(he:es=e::es')(pos:Pos):starEach (e::es') X.env=(false,eval e X.env)::starEach es' X.env/\(backTo pos (starEach es' X.env)).any (·.1)=false:=by
 subst he
 cases n with
 | zero=>simp[Qba]at h
 | succ n=>
  simp only[Qba]at h
  obtain⟨fa,fs',h1,h2,_⟩:=QP h
  exact⟨QaC h1 es' X.env,QoE h2 pos X.env⟩
theorem QxQ{n:Nat}(ih:QjI n):∀X Θ e f,Q0 X Θ->Qn (n+1) Θ e=some f->SE X e f:=by
  intro X Θ e f ok h
  cases e with
  | Name x pos=>
    (conv at h=>lhs;whnf)
    cases q:Θ.slot x with
    | some i=>rw[q]at h;cases h;exact Qdt (Qab ok.toCtxB q)
    | none=>
      rw[q]at h
      dsimp only at h
      split at h
      · rename_i hg
        obtain⟨i,hi,rfl⟩:=Zb.mp h
        obtain⟨g1,g2,g3⟩:=QbW ok.toCtxB hg
        obtain⟨t,hm⟩:=ok.cs x i hi
        exact QiW (v:= .int i) (Qvh g1 hm ⟨t,rfl⟩ g2) (λ_ _=> .int_mk) rfl
      · cases h
  | Constant c k pos=>
    cases c with
    | int i=>(conv at h=>lhs;whnf);cases h;exact QiW Qwt (λ_ _=> .int_mk) rfl
    | bool b=>(conv at h=>lhs;whnf);cases h;exact QiW QtO (λ_ _=> .QcO) rfl
    | none=>(conv at h=>lhs;whnf);cases h;exact QiW Qxd (λ_ _=> .Qhs) rfl
    | str x=>(conv at h=>lhs;whnf);cases h;exact QiW Qru (λ_ _=> .str_mk) rfl
    | _=>exact nomatch (show(none:Option DE)=some _ from h)
  | BinOp a op b pos=>
    (conv at h=>lhs;whnf)
    obtain⟨fa,h1,h⟩:=bind1 h
    obtain⟨fb,h2,h⟩:=bind1 h
    have ha:=ih.E X Θ a fa ok h1
    have hb:=ih.E X Θ b fb ok h2
    cases op with
    | Add=>cases h;exact Qv4 ha hb
    | Mult=>cases h;exact Qxa ha hb
    | Sub=>cases h;exact Qme Qw3 QvP ha hb
    | FloorDiv=>cases h;exact Qme Qt0 QvZ ha hb
    | Mod=>cases h;exact Qme Qvv Qwd ha hb
    | Pow=>cases h;exact Qme Qvo QvR ha hb
    | _=>cases h
  | UnaryOp op a pos=>
    cases op with
    | USub=>
      (conv at h=>lhs;whnf)
      obtain⟨fa,h1,rfl⟩:=Zb.mp h
      exact Qxe (ih.E X Θ a fa ok h1)
    | Not=>
      (conv at h=>lhs;whnf)
      obtain⟨fa,h1,rfl⟩:=Zb.mp h
      exact Qqm (ih.E X Θ a fa ok h1)
    | _=>exact nomatch (show(none:Option DE)=some _ from h)
  | BoolOp op es pos=>
    cases op with
    | And=>
      match es,h with
      | [],h=>exact nomatch (show(none:Option DE)=some _ from h)
      | [a],h=>(conv at h=>lhs;whnf);exact Qkk (ih.E X Θ a f ok h)
      | a::b::r,h=>
        (conv at h=>lhs;whnf)
        obtain⟨fa,fb,h1,h2,rfl⟩:=QP h
        exact QqT (ih.E X Θ a fa ok h1) (ih.E X Θ _ fb ok h2)
    | Or=>
      match es,h with
      | [],h=>exact nomatch (show(none:Option DE)=some _ from h)
      | [a],h=>(conv at h=>lhs;whnf);exact Qkk (ih.E X Θ a f ok h)
      | a::b::r,h=>
        (conv at h=>lhs;whnf)
        obtain⟨fa,fb,h1,h2,rfl⟩:=QP h
        exact QtX (ih.E X Θ a fa ok h1) (ih.E X Θ _ fb ok h2)
  | Compare a ops bs pos=>
    match ops,bs,h with
    | [op],[b],h=>
      (conv at h=>lhs;whnf)
      obtain⟨fa,h1,h⟩:=bind1 h
      obtain⟨fb,g,h2,h3,rfl⟩:=QP h
      obtain⟨r,o1,o2,_⟩:=Qp9 ok h3
      exact Qnc o1 o2 (ih.E X Θ a fa ok h1) (ih.E X Θ b fb ok h2) (Qp4 h2 op)
    | [],_,h=>exact nomatch (show(none:Option DE)=some _ from h)
    | [_],[],h=>exact nomatch (show(none:Option DE)=some _ from h)
    | [_],_::_::_,h=>exact nomatch (show(none:Option DE)=some _ from h)
    | _::_::_,_,h=>exact nomatch (show(none:Option DE)=some _ from h)
  | IfExp c a b pos=>
    (conv at h=>lhs;whnf)
    obtain⟨g,h1,h⟩:=bind1 h
    obtain⟨fa,fb,h2,h3,rfl⟩:=QP h
    exact Qxn (ih.T X Θ c g ok h1) (ih.E X Θ a fa ok h2) (ih.E X Θ b fb ok h3)
  | Tuple es k pos=>
    (conv at h=>lhs;whnf)
    obtain⟨fs,h1,rfl⟩:=Zb.mp h
    exact Qwv (ih.A X Θ es fs ok h1)
  | List es pos=>
    (conv at h=>lhs;whnf)
    obtain⟨fs,h1,rfl⟩:=Zb.mp h
    exact Qq0 (ih.A X Θ es fs ok h1)
  | Subscript a b pos=>
    by_cases hb:∃lo hi p2,b= .Slice lo hi none p2
    · obtain⟨lo,hi,p2,rfl⟩:=hb
      (conv at h=>lhs;whnf)
      obtain⟨fa,h1,h⟩:=bind1 h
      obtain⟨fl,fh,h2,h3,rfl⟩:=QP h
      exact Qwu (ih.E X Θ a fa ok h1) (ih.O X Θ lo fl ok h2) (ih.O X Θ hi fh ok h3)
    · have h':((Qn n Θ a).bind λfa=>(Qn n Θ b).map λfb=>Qs fa fb)=some f:=by
        cases b<;>first
          | (exact h)
          | (rename_i lo hi st p2;cases lo<;>cases hi<;>cases st<;>first | (exact absurd ⟨_,_,_,rfl⟩ hb) | (exact h))
      obtain⟨fa,fb,h1,h2,rfl⟩:=QP h'
      exact QvK (ih.E X Θ a fa ok h1) (ih.E X Θ b fb ok h2) (QoK h2)
  | Call fn args kws pos=>
    cases fn with
    | Name x p=>
     cases kws with
     | cons k ks=>exact nomatch (show(none:Option DE)=some _ from h)
     | nil=>
      have h:(if Θ.gl x then(match look x Θ.Γ with | some r=>if r.n<=args.length+r.dfl.length/\args.length<=r.n then(Qba n Θ args).map λfs=>Qh r.n r.den (r.dfl.drop (r.dfl.length-(r.n-args.length))) fs else none | none=>QjH n Θ x args)else none)=some f:=h
      split at h
      · rename_i hg
        obtain⟨g1,g2,g3⟩:=QbW ok.toCtxB hg
        split at h
        · rename_i r hr
          split at h
          · rename_i hn
            obtain⟨fs,h1,rfl⟩:=Zb.mp h
            obtain⟨k,fa,fd,ps,F1,F2,F3,F4,F5⟩:=ok.fns x r hr
            obtain⟨ds,dvs,b1,b2,b3⟩:=F5 (r.n-args.length) (by omega)
            cases args with
            | nil=>
              cases n with
              | zero=>simp[Qba]at h1
              | succ n=>
                simp only[Qba]at h1
                cases h1
                exact QsJ F1 F2 g1 F3 F4 b1 b2 b3 g2
            | cons e es=>
              obtain⟨s1,s2⟩:=callArgs (X:=X) h1 rfl pos
              exact QuA F1 F2 g1 F3 F4 b1 b2 b3 (ih.A X Θ _ fs ok h1) g2 s1 s2
          · cases h
        · exact ih.B X Θ x args f p pos ok hg h
      · cases h
    | _=>exact nomatch (show(none:Option DE)=some _ from h)
  | ListComp elt gens scope pos=>
    match gens,h with
    | [⟨tg,iter,ifs,k⟩],h=>
      by_cases hk:k=0
      · subst hk
        (conv at h=>lhs;whnf)
        obtain⟨t,ht,h⟩:=bind1 h
        split at h
        · rename_i hc
          simp only[Zi]at hc
          obtain⟨fi,h1,h⟩:=bind1 h
          obtain⟨ft,fe,h2,h3,rfl⟩:=QP h
          obtain⟨S,cap,inn⟩:=QmE ok hc.1
          obtain⟨i1,i2⟩:=ih.I X Θ tg iter fi ok h1
          exact Quf ok.calm S i1 cap (λcl C fp s3 H3=>⟨Qkg (inn cl C fp s3 H3) ht,ih.Ts _ _ ifs ft (inn cl C fp s3 H3) h2,ih.E _ _ elt fe (inn cl C fp s3 H3) h3⟩) i2
        · cases h
      · exfalso
        cases k with
        | ofNat k=>
          cases k with
          | zero=>exact hk rfl
          | succ k=>exact nomatch (show(none:Option DE)=some _ from h)
        | negSucc k=>exact nomatch (show(none:Option DE)=some _ from h)
    | [],h=>exact nomatch (show(none:Option DE)=some _ from h)
    | ⟨_,_,_,.ofNat 0⟩::_::_,h=>exact nomatch (show(none:Option DE)=some _ from h)
    | ⟨_,_,_,.ofNat (k+1)⟩::_::_,h=>exact nomatch (show(none:Option DE)=some _ from h)
    | ⟨_,_,_,.negSucc k⟩::_::_,h=>exact nomatch (show(none:Option DE)=some _ from h)
  | _=>exact nomatch (show(none:Option DE)=some _ from h)
theorem Qw7{X:Cx}{Θ:Th}{x:Str}{a:Expr}{fa f:DE}{p pos:Pos}(ok:Q0 X Θ)(g1:Gl X x)(sa:SA X [a] (Qc fa Qe))(st:starEach [a] X.env=(false,eval a X.env)::starEach [] X.env)(h:bf1 x fa=some f):SE X (.Call (.Name x p) [a] [] pos) f:=by
 unfold bf1 at h
 by_cases e:x= "len"
 ·rw[if_pos e]at h;cases h;subst e;have hm:=ok.mg "len" (by decide+kernel)
  exact Qpp Qnj QvQ g1 hm PySem.boot_len sa (by decide) (by decide) st rfl
 rw[if_neg e]at h;clear e
 by_cases e:x= "list"
 ·rw[if_pos e]at h;cases h;subst e;have hm:=ok.mg "list" (by decide+kernel)
  exact QuG g1 hm sa st rfl
 rw[if_neg e]at h;clear e
 by_cases e:x= "abs"
 ·rw[if_pos e]at h;cases h;subst e;have hm:=ok.mg "abs" (by decide+kernel)
  exact Qpp QrE QwL g1 hm PyProof.Rows.boot_abs sa (by decide) (by decide) st rfl
 rw[if_neg e]at h;clear e
 by_cases e:x= "sum"
 ·rw[if_pos e]at h;cases h;subst e;have hm:=ok.mg "sum" (by decide+kernel)
  exact Qpp (Qqk ok.calm) Qu3 g1 hm PyProof.Rows.boot_sum sa (by decide) (by decide) st rfl
 rw[if_neg e]at h;clear e
 by_cases e:x= "tuple"
 ·rw[if_pos e]at h;cases h;subst e;have hm:=ok.mg "tuple" (by decide+kernel)
  exact Qvb g1 hm sa st rfl
 rw[if_neg e]at h;clear e
 cases h
theorem Qwg{X:Cx}{Θ:Th}{x:Str}{a b:Expr}{fa fb f:DE}{p pos:Pos}(ok:Q0 X Θ)(g1:Gl X x)(sa:SA X [a,b] (Qc fa (Qc fb Qe)))(st:starEach [a,b] X.env=(false,eval a X.env)::starEach [b] X.env)(pl:(backTo pos (starEach [b] X.env)).any (·.1)=false)(h:bf2 x fa fb=some f):SE X (.Call (.Name x p) [a,b] [] pos) f:=by
 unfold bf2 at h
 cases h
theorem QxN{n:Nat}(ih:QjI n):∀X Θ x args f p pos,Q0 X Θ->Θ.gl x=true->QjH (n+1) Θ x args=some f->SE X (.Call (.Name x p) args [] pos) f:=by
 intro X Θ x args f p pos ok hg h
 obtain⟨g1,g2,g3⟩:=QbW ok.toCtxB hg
 match args,h with
 | [],h=>exact nomatch (show(none:Option DE)=some _ from h)
 | [a],h=>
  change(match Qjn Θ x a with | some b=>(Qn n Θ b).map Qpu | none=>(Qn n Θ a).bind λfa=>bf1 x fa)=some f at h
  split at h
  ·rename_i b hr
   obtain⟨fb,h1,rfl⟩:=Zb.mp h
   unfold Qjn at hr
   split at hr
   ·rename_i y p' b' pos'
    split at hr
    ·rename_i hc
     cases hr
     obtain⟨c1,c2,c3,_⟩:=hc
     subst c1
     subst c2
     obtain⟨y1,y2,y3⟩:=QbW ok.toCtxB c3
     exact Quh g1 (ok.mg _ (by decide+kernel)) y1 (ok.mg _ (by decide+kernel)) ok.calm (ih.E X Θ b fb ok h1) (QaC h1 [] X.env)
    ·cases hr
   ·cases hr
  obtain⟨fa,h1,h⟩:=bind1 h
  have ha:=ih.E X Θ a fa ok h1
  have st:=QaC h1 [] X.env
  exact Qw7 ok g1 (Qfd ha Qhr st) st h
 | [a,b],h=>
  change(if x= "isinstance" then(Qn n Θ a).bind λfa=>(match b with | .Name y _=>if Θ.gl y then(Qta y).map λT=>QhW T fa else none | _=>none)else(Qn n Θ a).bind λfa=>(Qn n Θ b).bind λfb=>bf2 x fa fb)=some f at h
  split at h
  ·rename_i e
   obtain⟨fa,h1,h⟩:=bind1 h
   have ha:=ih.E X Θ a fa ok h1
   split at h
   ·rename_i y p2
    split at h
    ·rename_i hy
     obtain⟨T,hT,rfl⟩:=Zb.mp h
     obtain⟨y1,y2,y3⟩:=QbW ok.toCtxB hy
     clear h
     subst e
     refine Qxi g1 (ok.mg _ (by decide+kernel)) ha ?_ (QaC h1 _ X.env)
     unfold Qta at hT
     split at hT
     ·rename_i e;cases hT;subst e
      exact Qgi y1 (ok.mg _ (by decide+kernel)) PyProof.Rows.boot_int rfl
     ·split at hT
      ·rename_i e;cases hT;subst e
       exact Qgi y1 (ok.mg _ (by decide+kernel)) PyProof.Rows.boot_bool rfl
      ·split at hT
       ·rename_i e;cases hT;subst e
        exact Qgi y1 (ok.mg _ (by decide+kernel)) Zbb rfl
       ·split at hT
        ·rename_i e;cases hT;subst e
         exact Qgi y1 (ok.mg _ (by decide+kernel)) Zby rfl
        ·split at hT
         ·rename_i e;cases hT;subst e
          exact Qgi y1 (ok.mg _ (by decide+kernel)) PyProof.Rows.boot_str rfl
         ·cases hT
    ·cases h
   ·cases h
  ·obtain⟨fa,h1,h⟩:=bind1 h
   obtain⟨fb,h2,h⟩:=bind1 h
   have ha:=ih.E X Θ a fa ok h1
   have hb:=ih.E X Θ b fb ok h2
   have sb:SA X [b] (Qc fb Qe):=Qfd hb Qhr (QaC h2 [] X.env)
   have sa:SA X [a,b] (Qc fa (Qc fb Qe)):=Qfd ha sb (QaC h1 [b] X.env)
   have pl:(backTo pos (starEach [b] X.env)).any (·.1)=false:=by rw[QaC h2 [] X.env];rfl
   exact Qwg ok g1 sa (QaC h1 [b] X.env) pl h
 | _::_::_::_,h=>exact nomatch (show(none:Option DE)=some _ from h)
theorem QxI{n:Nat}(ih:QjI n):∀X Θ e f,Q0 X Θ->QaN (n+1) Θ e=some f->ST X e f:=by
 intro X Θ e f ok h
 have dflt:(Qn n Θ e).map QO=some f->(∀whole,isTrue e X.env whole=(do let v ← whole;standAt e.pos;holding [v] (truthy v)))->ST X e f:=λh he=>by
  obtain⟨fa,h1,rfl⟩:=Zb.mp h
  exact QwM (ih.E X Θ e fa ok h1) he
 cases e with
 | UnaryOp op a pos=>
  cases op with
  | Not=>
   change(QaN n Θ a).map Qek=some f at h
   obtain⟨fa,h1,rfl⟩:=Zb.mp h
   exact QvI (ih.T X Θ a fa ok h1)
  | _=>exact dflt h λ_=>rfl
 | BoolOp op es pos=>
  cases op with
  | And=>
   match es,h with
   | [],h=>exact nomatch (show(none:Option DT)=some _ from h)
   | [a],h=>exact(QuS (ih.T X Θ a f ok h)).st
   | a::b::r,h=>
    change((QaN n Θ a).bind λfa=>(QaN n Θ (.BoolOp .And (b::r) pos)).map λfb=>Qsi fa fb)=some f at h
    obtain⟨fa,fb,h1,h2,rfl⟩:=QP h
    have hb:=ih.T X Θ _ fb ok h2
    exact(Qwz (ih.T X Θ a fa ok h1) (λH0 A0 wh pins s σ H Q I q=>by have:=hb H0 A0 pins s σ H Q I q;exact this)).st
  | Or=>
   match es,h with
   | [],h=>exact nomatch (show(none:Option DT)=some _ from h)
   | [a],h=>exact(QvU (ih.T X Θ a f ok h)).st
   | a::b::r,h=>
    change((QaN n Θ a).bind λfa=>(QaN n Θ (.BoolOp .Or (b::r) pos)).map λfb=>bOr fa fb)=some f at h
    obtain⟨fa,fb,h1,h2,rfl⟩:=QP h
    have hb:=ih.T X Θ _ fb ok h2
    exact(Qxy (ih.T X Θ a fa ok h1) (λH0 A0 wh pins s σ H Q I q=>by have:=hb H0 A0 pins s σ H Q I q;exact this)).st
 | Compare a ops bs pos=>
  match ops,bs,h with
  | [op],[b],h=>
   change((Qn n Θ a).bind λfa=>(Qn n Θ b).bind λfb=>(Qo6 op).map λg=>QO (dOp g fa fb))=some f at h
   obtain⟨fa,h1,h⟩:=bind1 h
   obtain⟨fb,g,h2,h3,rfl⟩:=QP h
   obtain⟨r,o1,o2,o3⟩:=Qp9 ok h3
   exact Qw2 o1 o2 o3 (ih.E X Θ a fa ok h1) (ih.E X Θ b fb ok h2) (Qp4 h2 op)
  | [],_,h=>exact nomatch (show(none:Option DT)=some _ from h)
  | [_],[],h=>exact nomatch (show(none:Option DT)=some _ from h)
  | [_],_::_::_,h=>exact nomatch (show(none:Option DT)=some _ from h)
  | _::_::_,_,h=>exact nomatch (show(none:Option DT)=some _ from h)
 | IfExp c a b pos=>exact nomatch (show(none:Option DT)=some _ from h)
 | _=>exact dflt h λ_=>rfl
theorem Qx3{n:Nat}(ih:QjI n):∀X Θ tg e f,Q0 X Θ->QeV (n+1) Θ tg e=some f->SI X tg e f/\∀x,foldedSetIterable e X.env x=pure x:=by
 intro X Θ tg e f ok h
 have dflt:(Qn n Θ e).map Qag=some f->SI X tg e f/\∀x,foldedSetIterable e X.env x=pure x:=λh=>by
  obtain⟨fa,h1,rfl⟩:=Zb.mp h
  exact⟨Qxb (ih.E X Θ e fa ok h1),QvO h1 X.env⟩
 cases e with
 | Call fn args kws pos=>
  cases fn with
  | Name x p=>
   cases kws with
   | cons k ks=>exact dflt h
   | nil=>
    simp only[QeV]at h
    split at h
    ·rename_i hg
     simp only[Zi]at hg
     obtain⟨g1,g2,g3⟩:=QbW ok.toCtxB hg.1
     match args,h with
     | [],h=>exact dflt h
     | [a],h=>
      dsimp only at h
      by_cases er:x= "range"
      ·rw[if_pos er]at h
       obtain⟨fa,h1,rfl⟩:=Zb.mp h
       subst er
       exact⟨Qql g1 (ok.mg _ (by decide+kernel)) (ih.E X Θ a fa ok h1) (QaC h1 [] X.env),λ_=>rfl⟩
      rw[if_neg er]at h
      by_cases ez:x= "enumerate"
      ·rw[if_pos ez]at h
       split at h
       ·rename_i ht
        obtain⟨fa,h1,rfl⟩:=Zb.mp h
        subst ez
        cases tg with
        | Tuple es k tp=>exact⟨Quq g1 (ok.mg _ (by decide+kernel)) (ih.E X Θ a fa ok h1) (QaC h1 [] X.env),λ_=>rfl⟩
        | _=>exact nomatch (show false=true from ht)
       ·cases h
      rw[if_neg ez]at h
      exact dflt h
     | [a,b],h=>
      dsimp only at h
      by_cases er:x= "range"
      ·rw[if_pos er]at h
       obtain⟨fa,fb,h1,h2,rfl⟩:=QP h
       subst er
       exact⟨Qrd g1 (ok.mg _ (by decide+kernel)) (ih.E X Θ a fa ok h1) (ih.E X Θ b fb ok h2) (by rw[QaC h1 [b] X.env,QaC h2 [] X.env];rfl) (QaC h2 [] X.env),λ_=>rfl⟩
      rw[if_neg er]at h
      by_cases ez:x= "zip"
      ·rw[if_pos ez]at h
       split at h
       ·rename_i ht
        obtain⟨fa,fb,h1,h2,rfl⟩:=QP h
        subst ez
        cases tg with
        | Tuple es k tp=>exact⟨QwT g1 (ok.mg _ (by decide+kernel)) (ih.E X Θ a fa ok h1) (ih.E X Θ b fb ok h2) (by rw[QaC h1 [b] X.env,QaC h2 [] X.env];rfl) (QaC h2 [] X.env),λ_=>rfl⟩
        | _=>exact nomatch (show false=true from ht)
       ·cases h
      rw[if_neg ez]at h
      exact dflt h
     | [a,b,c],h=>
      dsimp only at h
      by_cases er:x= "range"
      ·rw[if_pos er]at h
       obtain⟨fa,h1,h⟩:=bind1 h
       obtain⟨fb,fc,h2,h3,rfl⟩:=QP h
       subst er
       exact⟨QqE g1 (ok.mg _ (by decide+kernel)) (ih.E X Θ a fa ok h1) (ih.E X Θ b fb ok h2) (ih.E X Θ c fc ok h3) (QaC h1 [b,c] X.env) (QaC h2 [c] X.env) (QaC h3 [] X.env),λ_=>rfl⟩
      rw[if_neg er]at h
      exact dflt h
     | _::_::_::_::_,h=>exact dflt h
    ·exact dflt h
  | _=>exact dflt h
 | _=>exact dflt h
theorem Qbu:∀n,QjI n
 | 0=>⟨λ_ _ _ _ _ h=>(nomatch (show(none:Option DE)=some _ from h)),λ_ _ _ _ _ _ _ _ _ h=>by simp[QjH]at h,λ_ _ _ _ _ h=>by simp[QaN]at h,λ_ _ _ _ _ h=>by simp[Qfe]at h,λ_ _ _ _ _ h=>by simp[Qba]at h,λ_ _ _ _ _ h=>by simp[Qin]at h,λ_ _ _ _ _ _ h=>by simp[QeV]at h⟩
 | n+1=>by
  have ih:=Qbu n
  refine⟨QxQ ih,QxN ih,QxI ih,λX Θ e f ok h=>?_,λX Θ e f ok h=>?_,λX Θ e f ok h=>?_,Qx3 ih⟩
  ·match e,h with
   | [],h=>simp only[Qfe]at h;cases h;exact Qtl
   | [c],h=>simp only[Qfe]at h;exact Qsb (ih.T X Θ c f ok h)
   | _::_::_,h=>simp only[Qfe]at h;cases h
  ·match e,h with
   | [],h=>simp only[Qba]at h;cases h;exact Qhr
   | e::es,h=>
    simp only[Qba]at h
    obtain⟨fa,fs,h1,h2,rfl⟩:=QP h
    exact Qfd (ih.E X Θ e fa ok h1) (ih.A X Θ es fs ok h2) (QaC h1 es X.env)
  ·match e,h with
   | none,h=>simp only[Qin]at h;cases h;exact QuZ
   | some e,h=>
    simp only[Qin]at h
    obtain⟨fa,h1,rfl⟩:=Zb.mp h
    exact Qur (ih.E X Θ e fa ok h1)
section
variable {X:Cx}{st:Stmt}{sts:List Stmt}{e:Expr}{fa:DE}{f g:DS}{gc:DT}{pos:Pos}
noncomputable def QA:DS:=λ_=>none
theorem Qts:S1 X st QA:=λH0 A0=>Qtv.mono λE σ H ⟨ρ,hs,F,o,rel,e,q⟩=>by cases e
theorem QgQ{g:DT}{fb:DS}:∀{n:Nat}{ρ:En}{o:Out},QaX g fb n ρ=some o->QaX g fb (n+1) ρ=some o
 | 0,_,_,h=>by cases h
 | n+1,ρ,o,h=>by
  unfold QaX at h ⊢
  obtain⟨b,hb,h⟩:=bind1 h
  rw[hb]
  cases b with
  | false=>exact h
  | true=>
   rw[if_pos rfl]at h
   obtain⟨o1,ho,h⟩:=bind1 h
   rw[Za,if_pos rfl,ho]
   cases o1 with
   | nx ρ2=>exact QgQ h
   | ct ρ2=>exact QgQ h
   | bk ρ2=>exact h
   | rt d fr=>exact h
theorem Qnh{g:DT}{fb:DS}{ρ:En}{o:Out}{n m:Nat}(h:QaX g fb n ρ=some o)(hm:n<=m):QaX g fb m ρ=some o:=by
 induction hm with
 | refl=>exact h
 | step _ ih=>exact QgQ ih
open Classical in
noncomputable def Qcy(g:DT)(fb:DS):DS:=λρ=>if h:∃n,(QaX g fb n ρ).isSome=true then QaX g fb h.choose ρ else none
theorem Qc9{g:DT}{fb:DS}{ρ:En}{o:Out}:Qcy g fb ρ=some o↔∃n,QaX g fb n ρ=some o:=by
 unfold Qcy
 constructor
 ·intro h
  split at h
  ·exact⟨_,h⟩
  ·cases h
 ·rintro⟨n,h⟩
  have hx:∃n,(QaX g fb n ρ).isSome=true:=⟨n,by rw[h];rfl⟩
  rw[dif_pos hx]
  obtain⟨o',ho'⟩:=Zbr.mp hx.choose_spec
  have h1:=Qnh h (Nat.le_max_left n hx.choose)
  have h2:=Qnh ho' (Nat.le_max_right n hx.choose)
  rw[h1]at h2
  rw[ho',← h2]
theorem Qrv{c:Expr}{body:List Stmt}(hp:PassesOwn (model X.prog X.w) X.A X.env X.xe)(hc:ST X c gc)(hb:SS X body f):S1 X (.While c body [] pos) (Qcy gc f):=λH0 A0 pins s σ H D I h=>by
 obtain⟨ρ,hs,F,o,rel,e,q⟩:=h
 obtain⟨n,hn⟩:=Qc9.mp e
 exact Qr1 (n:=n) hp hc hb H0 A0 pins s σ H D I ⟨ρ,hs,F,o,rel,hn,q⟩
theorem Qqg(g:DT)(fb:DS)(ρ:En):Qcy g fb ρ=(g ρ).bind λb=>if b=true then(fb ρ).bind λo=>match o with
  | .nx ρ2=>Qcy g fb ρ2
  | .ct ρ2=>Qcy g fb ρ2
  | .bk ρ2=>some (.nx ρ2)
  | .rt d fr=>some (.rt d fr)
  else some (.nx ρ):=by
 apply Option.ext
 intro o
 rw[Qc9]
 constructor
 ·rintro⟨n,h⟩
  cases n with
  | zero=>cases h
  | succ n=>
   unfold QaX at h
   obtain⟨b,hb,h⟩:=bind1 h
   rw[hb]
   cases b with
   | false=>exact h
   | true=>
    rw[if_pos rfl]at h
    obtain⟨o1,ho,h⟩:=bind1 h
    rw[Za,if_pos rfl,ho]
    cases o1 with
    | nx ρ2=>exact Qc9.mpr ⟨n,h⟩
    | ct ρ2=>exact Qc9.mpr ⟨n,h⟩
    | bk ρ2=>exact h
    | rt d fr=>exact h
 ·intro h
  obtain⟨b,hb,h⟩:=bind1 h
  cases b with
  | false=>exact⟨1,by unfold QaX;rw[hb];exact h⟩
  | true=>
   rw[if_pos rfl]at h
   obtain⟨o1,ho,h⟩:=bind1 h
   cases o1 with
   | nx ρ2=>
    obtain⟨n,hn⟩:=Qc9.mp h
    exact⟨n+1,by unfold QaX;rw[hb];rw[Za,if_pos rfl,ho];exact hn⟩
   | ct ρ2=>
    obtain⟨n,hn⟩:=Qc9.mp h
    exact⟨n+1,by unfold QaX;rw[hb];rw[Za,if_pos rfl,ho];exact hn⟩
   | bk ρ2=>exact⟨1,by unfold QaX;rw[hb];rw[Za,if_pos rfl,ho];exact h⟩
   | rt d fr=>exact⟨1,by unfold QaX;rw[hb];rw[Za,if_pos rfl,ho];exact h⟩
noncomputable def Qpd(t:Tg)(fa:DE):DS:=λρ=>(fa ρ).bind λr=>(QbL t r.d (Qaz r.norm.M ρ)).map .nx
theorem Quy{tg:Expr}{t:Tg}(he:SE X e fa)(hg:SG X tg t)(hs:swapsWithSole [tg] e pos.line X.env=pure false)(hw:swappedStores [tg] e X.env=pure none)(h1:(assignEach [tg] X.env).map (·.2)=[assign tg X.env]):
  S1 X (.Assign [tg] e pos) (Qpd t fa):=λH0 A0=>(QeM (he H0 A0) (hg H0 A0) hs hw h1).mono λE σ H ⟨ρ,hs,F,o,rel,e,q⟩=>by
 obtain⟨r,e1,e⟩:=bind1 e
 obtain⟨ρ',e2,rfl⟩:=Zb.mp e
 refine⟨ρ,hs,F,r,rel,e1,λv H' G p=>?_⟩
 have p':=p.norm
 have rp:=p'.rp
 rw[r.Qcw]at rp
 exact⟨Qaz r.norm.M ρ,hs,F,r.d,G,ρ',(rel.ext p'.same).weak (QaF _ _),rp,Shr.of rel p'.src,e2,λσ' F' rel' _ _=>q _ _ F' rel'⟩
theorem Qva{tg iter elt:Expr}{ifs:List Expr}{scope:Scope}{N':List Str}{fi:DI}{t:Tg}{cap:List (Option Nat)}{ft:DT}{fe:DE}{i:Nat}{x:Str}{pos' spos:Pos}(hN:X.N.Nodup)(hx1:X.N[i]? =some x)(hx:Loc X.env.scope x)(hf:X.fn x=true∨X.env.scope.names.lookup x=some .local)
  (hcalm:X.calm=true) (S:QeH X N' scope) (hi:SI X tg iter fi) (hcap:Qmf X N' scope cap t.slots)
  (hin:∀cl C fp s3 H3,SG (cxc X N' scope cl C fp s3 H3) tg t/\QnJ (cxc X N' scope cl C fp s3 H3) ifs ft/\SE (cxc X N' scope cl C fp s3 H3) elt fe) (hs:∀x,foldedSetIterable iter X.env x=pure x):
  S1 X (.Assign [.Name x pos'] (.ListComp elt [⟨tg,iter,ifs,0⟩] scope pos) spos) (Qp i (QG fi t cap ft fe)):=
 Qj9 λH0 A0=>(QuM hN hx1 hx hf hcalm S (hi H0 A0) (λcl C fp s3 H3=>⟨(hin cl C fp s3 H3).1 _ _,(hin cl C fp s3 H3).2.1 _ _,(hin cl C fp s3 H3).2.2 _ _⟩) hs).mono λE σ H h=>QlB hcap h
end
end HS
namespace HS
open PySem PySem.Spec L2 PyProof.Rows
section
variable {X:Cx}{a b e:Expr}{fa fb:DE}{pf:DP}{x:Nat}{pos apos:Pos}
theorem Qvp{X:Cx}{H:Hp}{ds:List D}{w:V}{Gm:List Addr}(h:Rp X.K H (.lst ds) w Gm):tyV X.K "list" w H:=by
 obtain⟨l,ws,L,rfl,hl,_⟩:=h.lst_inv
 exact .inl ⟨rfl,ws,Q6 hl⟩
theorem Q2.unit{K:PySem.W.Frag}{ρ:En}{F:Nat->List Addr}{H:Hp}:Q2 K ρ F H H ⟨.non,true,[]⟩ .non []:= .flat (QH.refl _) .Qhs
noncomputable def QrG(x:Nat)(pf:DP):DS:=λρ=>match ρ[x]? with
 | some (some (d,true))=>(pf ρ).bind λis=>match QbX d is with
  | some (.lst _)=>some (.nx (ρ.set x (some (Qbz is d (.lst []),true))))
  | _=>none
 | _=>none
theorem QsN{H0:Hp}{A0:List Addr}{E:Ends}{σ:L2.St}{H:Hp}:tS X.K H0 A0 (QrG x pf) E σ H->Qmd (Qv6 X.K "list" QqP (tP X.K H0 A0 x pf)) E σ H:=λ⟨ρ,hs,F,o,rel,e,q⟩=>by
 unfold QrG at e
 split at e
 ·rename_i d hx
  obtain⟨is,e2,e⟩:=bind1 e
  split at e
  ·rename_i ds hp
   cases e
   refine⟨ρ,hs,F,d,true,is,.lst ds,rel,hx,e2,hp,λv0 w H2 Gm s2 hv0 fo=>⟨Qvp fo.rp,?_⟩⟩
   obtain⟨l,vsm,Gp,rfl,g1,g2,g3,g4,g5,g6,g7⟩:=(rel.ext s2).write .unit rfl Zay hx (by simp) hv0 fo
   refine⟨l,vsm,rfl,rfl,g1,?_⟩
   obtain⟨F',rel'⟩:=g7 [] [] [] (by simp[Rps]) (ZT _) rfl (λa=>by simp)
   exact q _ _ F' rel'
  ·cases e
 ·cases e
end
noncomputable def Qfc:Expr->Bool
 | .ListComp .. =>false
 | .SetComp .. =>false
 | .DictComp .. =>false
 | _=>true
theorem Qc4{e:Expr}{t:Option Expr}{l:Nat}{env:Env}(h:Qfc e=true):swapsWith e t l env=pure false:=by
 cases e<;>first | rfl | cases h
noncomputable def Qq1:Expr->Bool
 | .Tuple .. =>true
 | _=>false
noncomputable def Qdw(n:Nat)(Θ:Th)(e:Expr):Option (Nat×DP):=match n with
 | 0=>none
 | n+1=>match e with
  | .Name x _=>(Θ.slot x).map λi=>(i,Qbs)
  | .Subscript a b _=>(Qdw n Θ a).bind λq=>(Qn n Θ b).map λfb=>(q.1,Qd0 q.2 fb)
  | _=>none
theorem QiY:∀(n:Nat) (X:Cx) (Θ:Th) (e:Expr) (q:Nat×DP),Q0 X Θ->Qdw n Θ e=some q->SPa X e q.1 q.2/\attributeBase e=λ_ env w=>w
 | 0,_,_,_,_,_,h=>by simp[Qdw]at h
 | n+1,X,Θ,e,q,ok,h=>by
  cases e with
  | Name x pos=>
   simp only[Qdw]at h
   obtain⟨i,hi,rfl⟩:=Zb.mp h
   exact⟨Qfj (Qab ok.toCtxB hi),by funext a b c;rfl⟩
  | Subscript a b pos=>
   simp only[Qdw]at h
   obtain⟨q',fb,h1,h2,rfl⟩:=QP h
   exact⟨Qge (QiY n X Θ a q' ok h1).1 ((Qbu n).E X Θ b fb ok h2) (QoK h2),by funext a b c;rfl⟩
  | _=>simp[Qdw]at h
noncomputable def Qiu:Expr->Bool
 | .Name .. =>true
 | .Subscript _ (.Slice ..) _=>false
 | .Subscript (.Call ..) _ _=>false
 | .Subscript .. =>true
 | _=>false
noncomputable def Qu2:Expr->Bool
 | .Slice .. =>true
 | _=>false
noncomputable def Qkj(n:Nat)(Θ:Th)(o:Expr)(m:Str)(args:List Expr):Option DS:=match args with
  | []=>(Qdw n Θ o).bind λq=>if m= "clear" then some (QrG q.1 q.2)else
    none
  | [e]=>if m= "append" then
     ((Qdw n Θ o).bind λq=>(Qn n Θ e).map λfa=>Qi0 q.1 q.2 fa)
    else
    none
  | _=>none
theorem Qsd{n:Nat}{X:Cx}{Θ:Th}{o:Expr}{m:Str}{args:List Expr}{f:DS}{apos cpos pos:Pos}(ok:Q0 X Θ)(h:Qkj n Θ o m args=some f)(hl:(apos.endLine == cpos.line)=true):
  S1 X (.Expr (.Call (.Attribute o m apos) args [] cpos) pos) f:=by
 have base:∀{q:Nat×DP},Qdw n Θ o=some q->SPa X o q.1 q.2/\attributeBase o m X.env (eval o X.env)=eval o X.env:=λ{q} h1=>by
  obtain⟨sp,ab⟩:=QiY n X Θ o _ ok h1
  exact⟨sp,by rw[ab]⟩
 have app:∀{e:Expr}{f:DS},m= "append" ->((Qdw n Θ o).bind λq=>(Qn n Θ e).map λfa=>Qi0 q.1 q.2 fa)=some f->S1 X (.Expr (.Call (.Attribute o m apos) [e] [] cpos) pos) f:=λ{e f} em h=>by
  obtain⟨q,fa,h1,h2,rfl⟩:=QP h
  obtain⟨sp,hb⟩:=base h1
  subst em
  have he:=(Qbu n).E X Θ e fa ok h2
  have st:=QaC h2 [] X.env
  have sa:∀H0 A0,PA X [e] (QgN (tV X.K H0 A0 fa) Qnz):=λH0 A0=>Q5 (he H0 A0) Qb4 st
  exact λH0 A0=>(Qix (Qxu Zbz PySem.F.slot_list_append PySem.F.type_list_append QlO (sp H0 A0) (sa H0 A0) hb (by rw[st];rfl) hl st rfl) rfl).mono λE σ H q=>QsD q
 match args,h with
 | [],h=>
  unfold Qkj at h
  dsimp only at h
  obtain⟨⟨x,pf⟩,h1,h⟩:=bind1 h
  obtain⟨sp,hb⟩:=base h1
  by_cases e:m= "clear"
  ·rw[if_pos e]at h;cases h;subst e
   exact λH0 A0=>(Qix (Qv9 Zbz PySem.F.slot_list_clear PySem.F.type_list_clear QsT (sp H0 A0) hb hl) rfl).mono λE σ H q=>QsN q
  rw[if_neg e]at h
  cases h
 | [e],h=>
  unfold Qkj at h
  dsimp only at h
  by_cases em:m= "append"
  ·rw[if_pos em]at h
   exact app em h
  rw[if_neg em]at h
  clear em
  clear app
  cases h
 | _::_::_,h=>exact nomatch (show(none:Option DS)=some _ from h)
end HS
namespace HS
open PySem PySem.Spec L2 PyProof.Rows
noncomputable def QpU(x:Nat)(fy f1 g1 f2 g2:DE)(ρ:En):Option Out:=if x<ρ.length then(fy ρ).bind λry=>match ry.d with
 | .lst ds=>(g1 ρ).bind λr1=>(f1 ρ).bind λk1=>(g2 ρ).bind λr2=>(f2 ρ).bind λk2=>match k1.d,k2.d with
  | .int i1,.int i2=>(ixN ds.length i1).bind λj1=>(ixN ds.length i2).bind λj2=>some (.nx ((Qaz (ry.M++(r1.M++r2.M)) ρ).set x (some (.lst ((ds.set j1 r1.d).set j2 r2.d),false))))
  | _,_=>none
 | _=>none else none
noncomputable def Qjk(x:Nat)(fy f1 g1 f2 g2:DE):DS:=λρ=>QpU x fy f1 g1 f2 g2 (ρ.set x none)
section
variable {K:PySem.W.Frag}{H0 H H':Hp}{A0:List Addr}{hs:List (V×D×List Addr)}{ρ:En}{F:Nat->List Addr}{σ:L2.St}
theorem Rel.QiB(rel:Rel K H0 A0 hs ρ F σ H){a:Addr}{zs ys:List V}(ha:H a=some (.lst zs))(h0:H0 a=none)(hn:∀(i:Nat) d b,ρ[i]? =some (some (d,b))->a∉F i)(hh:∀t∈hs,a∉t.2.2):Rel K H0 A0 hs ρ F σ (upd H a (.lst ys)) where
 len:=rel.len
 val:=λi d b e=>by
  obtain⟨v,h1,h2⟩:=rel.val i d b e
  exact⟨v,h1,h2.upd ha (hn i d b e)⟩
 own:=rel.own
 src:=rel.src
 held:=λt ht=>⟨(rel.held t ht).1.upd ha (hh t ht),(rel.held t ht).2⟩
 same:=λb o hb=>by
  have:b≠a:=λz=>by rw[z,h0]at hb;cases hb
  rw[QF this]
  exact rel.same b o hb
theorem Rel.put(rel:Rel K H0 A0 hs ρ F σ H){i:Nat}{v:V}(hi:∀d b,ρ[i]? ≠some (some (d,b))):Rel K H0 A0 hs ρ F (σ.set i (some v)) H:=
 ⟨by simpa using rel.len,λj d b e=>by
  obtain⟨w,h1,h2⟩:=rel.val j d b e
  have hj:i≠j:=λz=>hi d b (z▸e)
  exact⟨w,by rw[Zc hj];exact h1,h2⟩,rel.own,rel.src,rel.held,rel.same⟩
theorem Src.more{M M':List Nat}{G:List Addr}(s:Src ρ F H M G)(h:∀i∈M,i∈M'):Src ρ F H M' G:=λa ha=>by
 rcases s a ha with z | ⟨i,d,b,e,m,w⟩
 ·exact .inl z
 ·exact .inr ⟨i,d,b,e,m,λhb=>h i (w hb)⟩
end
section
variable {X:Cx}{st1 st2 st3:Stmt}{sts:List Stmt}{x:Nat}{fy f1 g1 f2 g2:DE}{g:DS}
theorem QvT(p1:∀H0 A0,PS X st1 (Qem (λσ H Q=>tVA X.K H0 A0 (Qc fy Qe) σ H λxs H1=>∃p ys,xs=[.ref p]/\(SqL X.K H1 p ys∨SqT X.K H1 p ys)/\∀l,H1 l=none->Q (.ref l) (upd H1 l (.lst ys))) (QfP x)))
  (p2:∀H0 A0,PS X st2 (Qem (tV X.K H0 A0 g1) (L2.Qa9 (Qf6 x) (tV X.K H0 A0 f1) QfX))) (p3:∀H0 A0,PS X st3 (Qem (tV X.K H0 A0 g2) (L2.Qa9 (Qf6 x) (tV X.K H0 A0 f2) QfX))) (h:SS X sts g):
  SS X (st1::st2::st3::sts) (Qf (Qjk x fy f1 g1 f2 g2) g):=λH0 A0=>
 (QbQ (p1 H0 A0) (QbQ (p2 H0 A0) (QbQ (p3 H0 A0) (h H0 A0)))).mono λE σ H ⟨ρ,hs,F,o,rel,e,q⟩=>by
 obtain⟨o1,e1,e⟩:=bind1 e
 unfold Qjk QpU at e1
 split at e1
 case isFalse=>cases e1
 rename_i hx
 have hr0:∀d b,(ρ.set x none)[x]? ≠some (some (d,b)):=λd b z=>by
  rw[Zg (by simpa using hx)]at z
  cases z
 have rel0:=rel.weak (Qc1 (ρ:=ρ) x)
 generalize ρ.set x none=ρ0 at *
 obtain⟨ry,ey,e1⟩:=bind1 e1
 split at e1
 case h_2=>cases e1
 rename_i ds hds
 obtain⟨r1,eg1,e1⟩:=bind1 e1
 obtain⟨k1,ef1,e1⟩:=bind1 e1
 obtain⟨r2,eg2,e1⟩:=bind1 e1
 obtain⟨k2,ef2,e1⟩:=bind1 e1
 split at e1
 case h_2=>cases e1
 rename_i i1 i2 hk1 hk2
 obtain⟨j1,ej1,e1⟩:=bind1 e1
 obtain⟨j2,ej2,e1⟩:=bind1 e1
 cases e1
 refine⟨ρ0,hs,F,⟨[ry.d],ry.fr && true,ry.M++[]⟩,rel0,by simp[Qc,Qe,ey],λvs H1 G q1=>?_⟩
 have rp:=q1.rp
 dsimp only at rp
 rw[hds]at rp
 obtain⟨v,rfl,rq⟩:=rp.one
 obtain⟨l,ws,L,rfl,hl,rl,zl,el⟩:=rq.lst_inv
 have memL:∀a∈L,a∈G:=λa ha=>by
  rcases el with rfl | rfl
  ·exact Ze _ ha
  ·exact ha
 refine⟨l,ws,rfl,.inl (Q6 hl),λc hc=>?_⟩
 have relx:=rel0.ext q1.same
 have nfr:∀(i:Nat) d b,ρ0[i]? =some (some (d,b))->c∉F i:=λi d b ei hci=>by
  obtain⟨zs,z⟩:=relx.mem ei hci
  rw[hc]at z;cases z
 have nhs:∀t∈hs,c∉t.2.2:=λt ht hct=>by
  obtain⟨zs,z⟩:=(relx.held t ht).1.mem c hct
  rw[hc]at z;cases z
 have h0c:H0 c=none:=relx.same.free hc
 have nL:c∉L:=λz=>by
  obtain⟨zs,y⟩:=rl.mem c z
  rw[hc]at y;cases y
 have sU:QH H1 (upd H1 c (.lst ws)):=λb o eb=>by
  have:b≠c:=λz=>by rw[z,hc]at eb;cases eb
  rw[QF this];exact eb
 have relA:=(relx.ext sU).put (i:=x) (v:= .ref c) hr0
 have hσ:(σ.set x (some (.ref c)))[x]? =some (some (.ref c)):=Zg (by rw[← rel0.len];exact hx)
 generalize hσ':σ.set x (some (V.ref c))=σ1 at relA hσ
 show QrV _ _ E (σ.set x (some (.ref c))) _
 rw[hσ']
 have hc2:upd H1 c (.lst ws) c=some (.lst ws):=Q1
 have rl2:=rl.same sU
 generalize upd H1 c (.lst ws)=H2 at relA hc2 rl2
 refine⟨ρ0,hs,F,r1,relA,eg1,λv1 H3 G1 q2=>⟨.ref c,hσ,ρ0,hs,F,k1,relA.ext q2.same,ef1,λu1 H4 Gi q3=>?_⟩⟩
 have hc4:=q3.same _ _ (q2.same _ _ hc2)
 have ru:=q3.rp
 rw[hk1]at ru
 refine⟨c,ws,i1,j1,rfl,ru.int_inv,hc4,by rw[← rl.length];exact ej1,?_⟩
 have nG1:c∉G1:=λz=>by
  rcases q2.src c z with y | ⟨i,d,b,ei,m,_⟩
  ·rw[hc2]at y;cases y
  ·exact nfr i d b ei m
 have hj1:=(QcF ej1).2.1
 obtain⟨G',m1,m2⟩:=Qlr hc4 ((rl2.same q2.same).same q3.same) nL nG1 (q2.rp.same q3.same) hj1
 have relB:=((relA.ext q2.same).ext q3.same).QiB (ys:=ws.set j1 v1) hc4 h0c nfr nhs
 have hc5:upd H4 c (.lst (ws.set j1 v1)) c=some (.lst (ws.set j1 v1)):=Q1
 generalize upd H4 c (.lst (ws.set j1 v1))=H5 at relB hc5 m1
 refine⟨ρ0,hs,F,r2,relB,eg2,λv2 H6 G2 q4=>⟨.ref c,hσ,ρ0,hs,F,k2,relB.ext q4.same,ef2,λu2 H7 Gj q5=>?_⟩⟩
 have hc7:=q5.same _ _ (q4.same _ _ hc5)
 have rw2:=q5.rp
 rw[hk2]at rw2
 refine⟨c,ws.set j1 v1,i2,j2,rfl,rw2.int_inv,hc7,by rw[ZN,← rl.length];exact ej2,?_⟩
 have nG2:c∉G2:=λz=>by
  rcases q4.src c z with y | ⟨i,d,b,ei,m,_⟩
  ·rw[hc5]at y;cases y
  ·exact nfr i d b ei m
 have nG':c∉G':=λz=>(m2 c z).elim nL nG1
 have hj2:=(QcF ej2).2.1
 obtain⟨G'',n1,n2⟩:=Qlr hc7 ((m1.same q4.same).same q5.same) nG' nG2 (q4.rp.same q5.same) (by rw[ZN];exact hj2)
 have relC:=((relB.ext q4.same).ext q5.same).QiB (ys:=(ws.set j1 v1).set j2 v2) hc7 h0c nfr nhs
 have hc8:upd H7 c (.lst ((ws.set j1 v1).set j2 v2)) c=some (.lst ((ws.set j1 v1).set j2 v2)):=Q1
 generalize upd H7 c (.lst ((ws.set j1 v1).set j2 v2))=H8 at relC hc8 n1
 have sh0:=Shr.of rel0 (q1.src.more (M':=ry.M++(r1.M++r2.M)) λi hi=>by
  have hi:i∈ry.M++[]:=hi
  rw[Zaq]at hi
  exact Zh _ hi)
 have sh1:=Shr.of relA (q2.src.more (M':=ry.M++(r1.M++r2.M)) λi hi=>Zd _ (Zh _ hi))
 have sh2:=Shr.of relB (q4.src.more (M':=ry.M++(r1.M++r2.M)) λi hi=>Zd _ (Zd _ hi))
 have sh:Shr H0 A0 (Qaz (ry.M++(r1.M++r2.M)) ρ0) F (c::G''):=λa ha=>by
  rcases Zl.mp ha with rfl | ha
  ·refine⟨.inl h0c,λi d ei hm=>?_⟩
   obtain⟨b',e',_⟩:=(QaF _ ρ0).2 i d true ei
   exact nfr i d b' e' hm
  ·rcases n2 a ha with z | z
   ·rcases m2 a z with y | y
    ·exact sh0 a (memL a y)
    ·exact sh1 a y
   ·exact sh2 a z
 have relD:=(relC.weak (QaF (ry.M++(r1.M++r2.M)) ρ0)).QkW (i:=x) (d:= .lst ((ds.set j1 r1.d).set j2 r2.d)) (v:= .ref c) (Rp.Qd1 hc8 n1 (by rw[ZN,ZN];exact zl)) sh
 have hs1:σ1.set x (some (.ref c))=σ1:=by rw[← hσ',List.set_set]
 rw[hs1]at relD
 exact⟨_,hs,_,o,relD,e,q⟩
end
structure Swp where
 x:Str
 y:Expr
 i1:Expr
 e1:Expr
 i2:Expr
 e2:Expr
 r:List Stmt
noncomputable def aName:Stmt->Option (Str×Expr)
 | .Assign [.Name x _] e _=>some (x,e)
 | _=>none
noncomputable def Qpo:Stmt->Option (Str×Expr×Expr)
 | .Assign [.Subscript (.Name x _) i _] e _=>some (x,i,e)
 | _=>none
noncomputable def QpT:Expr->Option (Str×Expr)
 | .Call (.Name f _) [y] [] _=>some (f,y)
 | _=>none
theorem Qqu{st:Stmt}{x:Str}{e:Expr}(h:aName st=some (x,e)):∃p q,st= .Assign [.Name x p] e q:=by
 unfold aName at h
 split at h
 ·cases h;exact⟨_,_,rfl⟩
 ·cases h
theorem QnE{st:Stmt}{x:Str}{i e:Expr}(h:Qpo st=some (x,i,e)):∃a b c,st= .Assign [.Subscript (.Name x a) i b] e c:=by
 unfold Qpo at h
 split at h
 ·cases h;exact⟨_,_,_,rfl⟩
 ·cases h
theorem QqD{e:Expr}{f:Str}{y:Expr}(h:QpT e=some (f,y)):∃p q,e= .Call (.Name f p) [y] [] q:=by
 unfold QpT at h
 split at h
 ·cases h;exact⟨_,_,rfl⟩
 ·cases h
noncomputable def QpE:List Stmt->Option Swp
 | a::b::c::r=>(aName a).bind λz=>(QpT z.2).bind λy=>(Qpo b).bind λu=>(Qpo c).bind λv=>if y.1= "list" /\u.1=z.1/\v.1=z.1 then some ⟨z.1,y.2,u.2.1,u.2.2,v.2.1,v.2.2,r⟩else none
 | _=>none
theorem Qs9{sts:List Stmt}{q:Swp}(h:QpE sts=some q):∃p1 p2 p3 p4 a1 a2 a3 b1 b2 b3,sts= .Assign [.Name q.x p1] (.Call (.Name "list" p2) [q.y] [] p3) p4:: .Assign [.Subscript (.Name q.x a1) q.i1 a2] q.e1 a3:: .Assign [.Subscript (.Name q.x b1) q.i2 b2] q.e2 b3::q.r:=by
 unfold QpE at h
 split at h
 ·rename_i a b c r
  obtain⟨⟨x,e⟩,h1,h⟩:=bind1 h
  obtain⟨⟨f,y⟩,h2,h⟩:=bind1 h
  obtain⟨⟨x1,i1,e1⟩,h3,h⟩:=bind1 h
  obtain⟨⟨x2,i2,e2⟩,h4,h⟩:=bind1 h
  have hh:(if f= "list" /\x1=x/\x2=x then some (⟨x,y,i1,e1,i2,e2,r⟩:Swp)else none)=some q:=h
  by_cases hc:f= "list" /\x1=x/\x2=x
  ·rw[if_pos hc]at hh
   clear h
   have hh:=Option.some.inj hh
   subst hh
   obtain⟨p1,p4,rfl⟩:=Qqu h1
   obtain⟨p2,p3,rfl⟩:=QqD h2
   obtain⟨a1,a2,a3,rfl⟩:=QnE h3
   obtain⟨b1,b2,b3,rfl⟩:=QnE h4
   obtain⟨rfl,rfl,rfl⟩:=hc
   exact⟨_,_,_,_,_,_,_,_,_,_,rfl⟩
  ·rw[if_neg hc]at hh;cases hh
 ·cases h
end HS
namespace HS
open PySem PySem.Spec L2 PyProof.Rows
noncomputable def QhQ(r:R):Bool:=r.norm.fr && r.norm.M.isEmpty
noncomputable def Qmt(t b ln:Nat)(ts bs:List D)(i k:Int)(j1 j2 l1 l2:Nat)(fi fk g1 g2 g3 g4:DE)(ρ ρ1:En):Option Out:=
 (fi ρ1).bind λri=>(fk ρ1).bind λrk=>(g1 ρ1).bind λr1=>(g2 ρ1).bind λr2=>(g3 ρ1).bind λr3=>(g4 ρ1).bind λr4=>match ri.d,rk.d with
  | .int i',.int k'=>if i'=i/\k'=k/\QhQ r1=true/\QhQ r2=true/\QhQ r3=true/\QhQ r4=true then
    some (.nx ((((ρ.set t none).set b none).set ln none).set t (some (.lst ((ts.set j1 r1.d).set j2 r2.d),true)) |>.set b (some (.lst ((bs.set l1 r3.d).set l2 r4.d),true))))else none
  | _,_=>none
noncomputable def Qi3(t b ln:Nat)(fi fk g1 g2 g3 g4:DE):DS:=λρ=>match ρ[t]?,ρ[b]? with
 | some (some (.lst ts,true)),some (some (.lst bs,true))=>if t≠b/\ln≠t/\ln≠b/\ln<ρ.length then
   (fi ρ).bind λri=>(fk ρ).bind λrk=>match ri.d,rk.d with
    | .int i,.int k=>(ixN ts.length i).bind λj1=>(ixN ts.length k).bind λj2=>(ixN bs.length i).bind λl1=>(ixN bs.length k).bind λl2=>
      (ts[j1]?).bind λt1=>(ts[j2]?).bind λt2=>(bs[l1]?).bind λb1=>(bs[l2]?).bind λb2=>
       Qmt t b ln ts bs i k j1 j2 l1 l2 fi fk g1 g2 g3 g4 ρ ((((ρ.set t none).set b none).set ln none).set ln (some (.tup [t1,t2,b1,b2],(D.tup [t1,t2,b1,b2]).flat)))
    | _,_=>none
   else none
 | _,_=>none
theorem QsG{r:R}(h:QhQ r=true):r.norm.fr=true/\r.norm.M=[]:=by
 unfold QhQ at h
 simp only[Zi,List.isEmpty_iff]at h
 exact h
structure Spn (K:PySem.W.Frag) (H0 H:Hp) (hs:List (V×D×List Addr)) (ρ:En) (F:Nat->List Addr) (a:Addr) (ds:List D) (ws:List V) (G:List Addr):Prop where
 at':H a=some (.lst ws)
 rp:Rps K H ds ws G
 len:G.length=nls ds
 na:a∉G
 nd:G.Nodup
 h0:∀c,c=a∨c∈G->H0 c=none
 out:∀(i:Nat) d b,ρ[i]? =some (some (d,b))->∀c,c=a∨c∈G->c∉F i
 hld:∀t∈hs,∀c,c=a∨c∈G->c∉t.2.2
 sz:ds.length<=sizeLine
section
variable {K:PySem.W.Frag}{H0 H H':Hp}{A0:List Addr}{hs:List (V×D×List Addr)}{ρ:En}{F:Nat->List Addr}{σ:L2.St}{a:Addr}{ds:List D}{ws:List V}{G:List Addr}
theorem Spn.mem(s:Spn K H0 H hs ρ F a ds ws G){c:Addr}(h:c=a∨c∈G):∃vs,H c=some (.lst vs):=by
 rcases h with rfl | h
 ·exact⟨ws,s.at'⟩
 ·exact s.rp.mem c h
theorem Spn.same(s:Spn K H0 H hs ρ F a ds ws G)(e:QH H H'):Spn K H0 H' hs ρ F a ds ws G:=⟨e _ _ s.at',s.rp.same e,s.len,s.na,s.nd,s.h0,s.out,s.hld,s.sz⟩
theorem Spn.QpZ(s:Spn K H0 H hs ρ F a ds ws G){p:Addr}{zs ys:List V}(hp:H p=some (.lst zs))(hn:¬(p=a∨p∈G)):Spn K H0 (upd H p (.lst ys)) hs ρ F a ds ws G:=
 ⟨by rw[QF λz=>hn (.inl z.symm)];exact s.at',s.rp.upd hp λz=>hn (.inr z),s.len,s.na,s.nd,s.h0,s.out,s.hld,s.sz⟩
theorem Spn.put(s:Spn K H0 H hs ρ F a ds ws G){ρ1:En}{F1:Nat->List Addr}(rel0:Rel K H0 A0 hs ρ F σ H)(rel:Rel K H0 A0 hs ρ1 F1 σ H){r:R}{v:V}{Gn:List Addr}(p:Q2 K ρ1 F1 H H' r v Gn)(ho:QhQ r=true){j:Nat}(hj:j<ds.length)(h1:∀(i:Nat) d b,ρ1[i]? =some (some (d,b))->a∉F1 i):
  ∃G',Spn K H0 (upd H' a (.lst (ws.set j v))) hs ρ F a (ds.set j r.d) (ws.set j v) G'/\Rel K H0 A0 hs ρ1 F1 σ (upd H' a (.lst (ws.set j v)))/\Rel K H0 A0 hs ρ F σ (upd H' a (.lst (ws.set j v)))/\∀c∈G',c∈G∨H c=none:=by
 have p':=p.norm
 obtain⟨f1,f2⟩:=QsG ho
 have cn:=p'.cnt f1
 rw[f2]at cn
 have hnl:=cn.2
 rw[r.Qcw]at hnl
 have hrp:=p'.rp
 rw[r.Qcw]at hrp
 have hcn:∀c,Gn.count c<=nw H c:=λc=>by have:=cn.1 c;simpa using this
 have gN:∀c∈Gn,H c=none:=λc hc=>by
  have h2:=hcn c
  have h3:0<Gn.count c:=ZZ.mpr hc
  cases q:H c with
  | none=>rfl
  | some o=>rw[Qdg q]at h2;omega
 have aN:a∉Gn:=λz=>by have:=gN a z;rw[s.at']at this;cases this
 obtain⟨G',m1,m2,m3⟩:=set_mk (p'.same _ _ s.at') (s.rp.same p'.same) s.len s.na aN hrp hnl hj
 have mem:∀c∈G',c∈G∨c∈Gn:=λc hc=>by
  have h2:=m3 c
  have h3:0<G'.count c:=ZZ.mpr hc
  by_cases z:c∈G
  ·exact .inl z
  ·rw[ZH.mpr z]at h2
   exact .inr (ZZ.mp (by omega))
 have relE:=rel.ext p'.same
 have relE0:=rel0.ext p'.same
 have a0:=s.h0 a (.inl rfl)
 have nfr:∀(i:Nat) d b,ρ[i]? =some (some (d,b))->a∉F i:=λi d b e=>s.out i d b e a (.inl rfl)
 refine⟨G',⟨Q1,m1,m2,λz=>(mem a z).elim s.na aN,Zad.mpr λc=>?_,λc hc=>?_,λi d b e c hc=>?_,λt ht c hc=>?_,by rw[ZN];exact s.sz⟩,?_,?_,λc hc=>(mem c hc).imp_right (gN c)⟩
 ·have h2:=m3 c
  have h3:=Zad.mp s.nd c
  have h4:=hcn c
  by_cases z:c∈G
  ·obtain⟨vs,q⟩:=s.mem (.inr z)
   rw[Qdg q]at h4;omega
  ·rw[ZH.mpr z]at h2
   have:nw H c<=1:=by unfold nw;split<;>decide
   omega
 ·rcases hc with rfl | hc
  ·exact a0
  ·rcases mem c hc with z | z
   ·exact s.h0 c (.inr z)
   ·exact rel.same.free (gN c z)
 ·rcases hc with rfl | hc
  ·exact nfr i d b e
  ·rcases mem c hc with z | z
   ·exact s.out i d b e c (.inr z)
   ·intro hm
    obtain⟨vs,q⟩:=rel0.mem e hm
    rw[gN c z]at q;cases q
 ·rcases hc with rfl | hc
  ·exact s.hld t ht _ (.inl rfl)
  ·rcases mem c hc with z | z
   ·exact s.hld t ht c (.inr z)
   ·intro hm
    obtain⟨vs,q⟩:=(rel.held t ht).1.mem c hm
    rw[gN c z]at q;cases q
 ·exact relE.QiB (p'.same _ _ s.at') a0 h1 λt ht=>s.hld t ht a (.inl rfl)
 ·exact relE0.QiB (p'.same _ _ s.at') a0 nfr λt ht=>s.hld t ht a (.inl rfl)
theorem Spn.back(s:Spn K H0 H hs ρ F a ds ws G)(rel:Rel K H0 A0 hs ρ F σ H){x:Nat}(hx:σ[x]? =some (some (.ref a)))(hn:∀d b,ρ[x]? ≠some (some (d,b))):Rel K H0 A0 hs (ρ.set x (some (.lst ds,true))) (λj=>if j=x then a::G else F j) σ H:=by
 have lt:∀{z:Option (D×Bool)}{y:D×Bool},(ρ.set x z)[x]? =some (some y)->x<ρ.length:=λ{z y} e=>by
  by_cases hl:x<ρ.length
  ·exact hl
  ·rw[Zk (by simp;omega)]at e;cases e
 refine⟨by simp[rel.len],λj d b e=>?_,λj d e=>?_,λj d b e c hc=>?_,rel.held,rel.same⟩
 ·by_cases hj:j=x
  ·subst hj
   rw[Zg (lt e)]at e
   cases e
   exact⟨_,hx,by rw[if_pos rfl];exact Rp.Qd1 s.at' s.rp s.sz⟩
  ·rw[Zc (Ne.symm hj)]at e
   obtain⟨w,h1,h2⟩:=rel.val j d b e
   exact⟨w,h1,by rw[if_neg hj];exact h2⟩
 ·by_cases hj:j=x
  ·subst hj
   rw[Zg (lt e)]at e
   cases e
   rw[if_pos rfl]
   refine⟨by simp only[ZS,D.nl,s.len],Zar.mpr ⟨s.na,s.nd⟩,λc hc=>s.h0 c (Zl.mp hc),λk d' b hk ek c hc=>?_,λt ht c hc=>s.hld t ht c (Zl.mp hc)⟩
   rw[Zc (Ne.symm hk)]at ek
   rw[if_neg hk]
   exact s.out k d' b ek c (Zl.mp hc)
  ·rw[Zc (Ne.symm hj)]at e
   obtain⟨h1,h2,h3,h4,h5⟩:=rel.own j d e
   rw[if_neg hj]
   refine⟨h1,h2,h3,λk d' b hk ek c hc=>?_,h5⟩
   by_cases hkx:k=x
   ·subst hkx
    rw[if_pos rfl]
    exact λhm=>s.out j d true e c (Zl.mp hm) hc
   ·rw[Zc (Ne.symm hkx)]at ek
    rw[if_neg hkx]
    exact h4 k d' b hk ek c hc
 ·by_cases hj:j=x
  ·subst hj
   rw[if_pos rfl]at hc
   exact .inl (s.h0 c (Zl.mp hc))
  ·rw[Zc (Ne.symm hj)]at e
   rw[if_neg hj]at hc
   exact rel.src j d b e c hc
theorem Spn.weak(s:Spn K H0 H hs ρ F a ds ws G){ρ':En}{F':Nat->List Addr}(h:∀(i:Nat) d b,ρ'[i]? =some (some (d,b))->∀c,c=a∨c∈G->c∉F' i):Spn K H0 H hs ρ' F' a ds ws G:=⟨s.at',s.rp,s.len,s.na,s.nd,s.h0,h,s.hld,s.sz⟩
theorem Spn.of(rel:Rel K H0 A0 hs ρ F σ H){x:Nat}(hx:ρ[x]? =some (some (.lst ds,true))):∃a ws G,σ[x]? =some (some (.ref a))/\F x=a::G/\Spn K H0 H hs (ρ.set x none) F a ds ws G:=by
 obtain⟨v,h1,h2⟩:=rel.val x _ _ hx
 obtain⟨ol,on,o0,oap,oh⟩:=rel.own x _ hx
 simp only[Rp]at h2
 obtain⟨hz,a,vs,rfl,⟨G,eF,q,r⟩ | ⟨q,r⟩⟩:=h2
 ·rw[eF]at ol on o0 oap oh
  obtain⟨n1,n2⟩:=Zar.mp on
  refine⟨a,vs,G,h1,eF,q,r,by simp only[ZS,D.nl]at ol;omega,n1,n2,λc hc=>o0 c (Zl.mpr hc),λi d b e c hc=>?_,λt ht c hc=>oh t ht c (Zl.mpr hc),hz⟩
  obtain⟨b',e',_⟩:=(Qc1 (ρ:=ρ) x).2 i d b e
  have hi:i≠x:=λz=>by
   subst z
   by_cases hl:i<ρ.length
   ·rw[Zg hl]at e;cases e
   ·rw[Zk (by simp;omega)]at e;cases e
  exact oap i d b' hi e' c (Zl.mpr hc)
 ·have:=r.Qao
  simp only[D.nl]at ol
  omega
theorem QeX{i:Int}{d':D}{v':V}{Gm:List Addr}(f:Focus K H [i] (.lst ds) (.ref a) (a::G) d' v' Gm)(hl:G.length=nls ds):(∀c∈Gm,c∈G)/\Rp K H d' v' Gm:=by
 obtain⟨es,a',vs,j',F1,G',F2,d2,v2,e1,h2,h3,h4,h5,h6,h7,h8,h9⟩:=f
 cases e1
 obtain⟨rfl,rfl,rfl,h9⟩:=h9
 refine⟨λc hc=>?_,h9⟩
 rcases h3 with⟨e,z,⟨eF,q⟩ | ⟨eF,q⟩⟩ | ⟨e,_⟩
 ·obtain⟨_,rfl⟩:=List.cons.inj eF
  exact Zd _ (Zh _ hc)
 ·exfalso
  have l1:=h4.Qao
  have l2:=h9.Qao
  have l3:=h5.Qao
  have ex:=congrArg List.length eF
  have e2:=congrArg nls (ZaR j' es)
  have hj:j'<es.length:=(Zf.mp h6).1
  have hd:es[j']=d':=(Zf.mp h6).2
  rw[QdY,ZY hj,hd]at e2
  simp only[nls]at e2
  cases e
  simp only[ZS,Zx]at ex
  omega
 ·cases e
end
section
variable {X:Cx}{st0 st1 st2 st3 st4:Stmt}{sts:List Stmt}{t b ln:Nat}{fi fk g1 g2 g3 g4:DE}{g:DS}
theorem Qwp(p0:∀H0 A0,PS X st0 (Qem (QvW (QgN (tP X.K H0 A0 t (Qd0 Qbs fi)) (QgN (tP X.K H0 A0 t (Qd0 Qbs fk)) (QgN (tP X.K H0 A0 b (Qd0 Qbs fi)) (QgN (tP X.K H0 A0 b (Qd0 Qbs fk)) Qnz))))) (QfP ln)))
  (p1:∀H0 A0,PS X st1 (Qem (tV X.K H0 A0 g1) (L2.Qa9 (Qf6 t) (tV X.K H0 A0 fi) QfX))) (p2:∀H0 A0,PS X st2 (Qem (tV X.K H0 A0 g2) (L2.Qa9 (Qf6 t) (tV X.K H0 A0 fk) QfX)))
  (p3:∀H0 A0,PS X st3 (Qem (tV X.K H0 A0 g3) (L2.Qa9 (Qf6 b) (tV X.K H0 A0 fi) QfX))) (p4:∀H0 A0,PS X st4 (Qem (tV X.K H0 A0 g4) (L2.Qa9 (Qf6 b) (tV X.K H0 A0 fk) QfX))) (h:SS X sts g):
  SS X (st0::st1::st2::st3::st4::sts) (Qf (Qi3 t b ln fi fk g1 g2 g3 g4) g):=λH0 A0=>
 (QbQ (p0 H0 A0) (QbQ (p1 H0 A0) (QbQ (p2 H0 A0) (QbQ (p3 H0 A0) (QbQ (p4 H0 A0) (h H0 A0)))))).mono λE σ H ⟨ρ,hs,F,o,rel,e,q⟩=>by
 obtain⟨o1,e1,e⟩:=bind1 e
 unfold Qi3 at e1
 split at e1
 case h_2=>cases e1
 rename_i ts bs ht hb
 split at e1
 case isFalse=>cases e1
 rename_i hc
 obtain⟨htb,hlt,hlb,hll⟩:=hc
 obtain⟨ri,ei,e1⟩:=bind1 e1
 obtain⟨rk,ek,e1⟩:=bind1 e1
 split at e1
 case h_2=>cases e1
 rename_i i k hi hk
 obtain⟨j1,x1,e1⟩:=bind1 e1
 obtain⟨j2,x2,e1⟩:=bind1 e1
 obtain⟨l1,x3,e1⟩:=bind1 e1
 obtain⟨l2,x4,e1⟩:=bind1 e1
 obtain⟨t1,y1,e1⟩:=bind1 e1
 obtain⟨t2,y2,e1⟩:=bind1 e1
 obtain⟨b1,y3,e1⟩:=bind1 e1
 obtain⟨b2,y4,e1⟩:=bind1 e1
 obtain⟨a,ws,Gt,st,Ft,sp⟩:=Spn.of rel ht
 obtain⟨a',ws',Gb,sb,Fb,sp'⟩:=Spn.of rel hb
 have pf:∀{f:DE}{r:HS.R}{z:Int},f ρ=some r->r.d= .int z->Qd0 Qbs f ρ=some [z]:=λ{f r z} h1 h2=>by
  unfold Qd0 Qbs
  rw[Za,h1,Za,h2];rfl
 have dp:∀{zs:List D}{z:Int}{j:Nat}{d:D},ixN zs.length z=some j->zs[j]? =some d->QbX (.lst zs) [z]=some d:=λ{zs z j d} h1 h2=>by
  unfold QbX
  simp only[D.items,Za]
  unfold atI
  rw[h1,Za,h2];rfl
 refine⟨ρ,hs,F,.lst ts,true,[i],t1,rel,ht,pf ei hi,dp x1 y1,λv0 v1 H1 M1 s1 hv0 f1=>?_⟩
 rw[st]at hv0;cases hv0
 refine⟨ρ,hs,F,.lst ts,true,[k],t2,rel.ext s1,ht,pf ek hk,dp x2 y2,λv0 v2 H2 M2 s2 hv0 f2=>?_⟩
 rw[st]at hv0;cases hv0
 refine⟨ρ,hs,F,.lst bs,true,[i],b1,(rel.ext s1).ext s2,hb,pf ei hi,dp x3 y3,λv0 v3 H3 M3 s3 hv0 f3=>?_⟩
 rw[sb]at hv0;cases hv0
 refine⟨ρ,hs,F,.lst bs,true,[k],b2,((rel.ext s1).ext s2).ext s3,hb,pf ek hk,dp x4 y4,λv0 v4 H4 M4 s4 hv0 f4=>?_⟩
 rw[sb]at hv0;cases hv0
 refine⟨Qe1 (by simp),λc hcn=>?_⟩
 have sU:QH H4 (upd H4 c (.tup [v1,v2,v3,v4])):=Qbr hcn
 have hct:upd H4 c (.tup [v1,v2,v3,v4]) c=some (.tup [v1,v2,v3,v4]):=Q1
 have s14:QH H H4:=((s1.trans s2).trans s3).trans s4
 have f1':=f1.same (((s2.trans s3).trans s4).trans sU)
 have f2':=f2.same ((s3.trans s4).trans sU)
 have f3':=f3.same (s4.trans sU)
 have f4':=f4.same sU
 have relx:=rel.ext (s14.trans sU)
 have sp:=sp.same (s14.trans sU)
 have sp':=sp'.same (s14.trans sU)
 generalize upd H4 c (.tup [v1,v2,v3,v4])=H5 at f1' f2' f3' f4' relx sp sp' hct
 rw[Ft]at f1' f2'
 rw[Fb]at f3' f4'
 obtain⟨m1,r1⟩:=QeX f1' sp.len
 obtain⟨m2,r2⟩:=QeX f2' sp.len
 obtain⟨m3,r3⟩:=QeX f3' sp'.len
 obtain⟨m4,r4⟩:=QeX f4' sp'.len
 have rT:Rp X.K H5 (.tup [t1,t2,b1,b2]) (.ref c) (M1++(M2++(M3++(M4++[])))):=by
  refine Rp.Qho hct ?_
  simp only[Rps]
  exact⟨v1,_,M1,_,rfl,rfl,r1,v2,_,M2,_,rfl,rfl,r2,v3,_,M3,_,rfl,rfl,r3,v4,_,M4,_,rfl,rfl,r4,rfl,rfl⟩
 have hM:∀z∈M1++(M2++(M3++(M4++[]))),z∈Gt∨z∈Gb:=λz hz=>by
  simp only[ZM,List.not_mem_nil,or_false]at hz
  rcases hz with h | h | h | h
  ·exact .inl (m1 z h)
  ·exact .inl (m2 z h)
  ·exact .inr (m3 z h)
  ·exact .inr (m4 z h)
 generalize M1++(M2++(M3++(M4++[])))=M at rT hM
 have w1:=Qc1 (ρ:=ρ) t
 have w2:=Qc1 (ρ:=ρ.set t none) b
 have w3:=Qc1 (ρ:=(ρ.set t none).set b none) ln
 have wA:=(w1.trans w2).trans w3
 have rel0:=relx.weak wA
 have apart:∀z,z=a∨z∈Gt->¬(z=a'∨z∈Gb):=λz hz hz'=>by
  have h1:=(rel.own t _ ht).2.2.2.1 b _ _ (λe=>htb e.symm) hb
  rw[Ft,Fb]at h1
  exact h1 z (Zl.mpr hz) (Zl.mpr hz')
 have not_in:∀{x:Nat}{d:D}{bb:Bool},(((ρ.set t none).set b none).set ln none)[x]? =some (some (d,bb))->x≠t/\x≠b/\x≠ln:=λ{x d bb} ex=>by
  refine⟨λz=>?_,λz=>?_,λz=>?_⟩
  ·subst z
   obtain⟨_,h1,_⟩:=(w2.trans w3).2 x d bb ex
   by_cases hl:x<ρ.length
   ·rw[Zg hl]at h1;cases h1
   ·rw[Zk (by simp;omega)]at h1;cases h1
  ·subst z
   obtain⟨_,h1,_⟩:=w3.2 x d bb ex
   by_cases hl:x<(ρ.set t none).length
   ·rw[Zg hl]at h1;cases h1
   ·rw[Zk (by rw[ZN];omega)]at h1;cases h1
  ·subst z
   by_cases hl:x<((ρ.set t none).set b none).length
   ·rw[Zg hl]at ex;cases ex
   ·rw[Zk (by rw[ZN];omega)]at ex;cases ex
 have sh:Shr H0 A0 (((ρ.set t none).set b none).set ln none) F M:=λz hz=>by
  rcases hM z hz with h | h
  ·refine⟨.inl (sp.h0 z (.inr h)),λx d ex=>?_⟩
   obtain⟨bb,h1,_⟩:=(w2.trans w3).2 x d true ex
   exact sp.out x d bb h1 z (.inr h)
  ·refine⟨.inl (sp'.h0 z (.inr h)),λx d ex=>?_⟩
   obtain⟨bb,h1,_⟩:=wA.2 x d true ex
   refine sp'.out x d bb ?_ z (.inr h)
   rw[Zc (Ne.symm (not_in ex).2.1)];exact h1
 have relL:=rel0.QkW (i:=ln) rT sh
 have sp0:Spn X.K H0 H5 hs (((ρ.set t none).set b none).set ln none) F a ts ws Gt:=sp.weak λx d bb ex=>by
  obtain⟨b',h1,_⟩:=(w2.trans w3).2 x d bb ex
  exact sp.out x d b' h1
 have sp0':Spn X.K H0 H5 hs (((ρ.set t none).set b none).set ln none) F a' bs ws' Gb:=sp'.weak λx d bb ex=>by
  obtain⟨b',h1,_⟩:=wA.2 x d bb ex
  exact sp'.out x d b' (by rw[Zc (Ne.symm (not_in ex).2.1)];exact h1)
 have rel0:=rel0.put (i:=ln) (v:= .ref c) λd bb ex=>(not_in ex).2.2 rfl
 have st1':(σ.set ln (some (.ref c)))[t]? =some (some (.ref a)):=by rw[Zc hlt];exact st
 have sb1':(σ.set ln (some (.ref c)))[b]? =some (some (.ref a')):=by rw[Zc hlb];exact sb
 show QrV _ _ E (σ.set ln (some (.ref c))) _
 generalize hσ:σ.set ln (some (V.ref c))=σ1 at relL rel0 st1' sb1'
 generalize hρ0:((ρ.set t none).set b none).set ln none=ρ0 at *
 generalize hρ1:ρ0.set ln (some (D.tup [t1,t2,b1,b2],(D.tup [t1,t2,b1,b2]).flat))=ρ1 at relL e1
 generalize hF1:(λj=>if j=ln then M else F j)=F1 at relL
 have out1:∀z,(z=a∨z=a')->∀(x:Nat) d bb,ρ1[x]? =some (some (d,bb))->z∉F1 x:=λz hz x d bb ex=>by
  subst hF1
  dsimp only
  by_cases hx:x=ln
  ·rw[if_pos hx]
   intro hm
   rcases hz with rfl | rfl
   ·rcases hM z hm with h | h
    ·exact sp.na h
    ·exact apart z (.inl rfl) (.inr h)
   ·rcases hM z hm with h | h
    ·exact apart z (.inr h) (.inl rfl)
    ·exact sp'.na h
  ·rw[if_neg hx]
   subst hρ1
   rw[Zc (Ne.symm hx)]at ex
   rcases hz with rfl | rfl
   ·exact sp0.out x d bb ex z (.inl rfl)
   ·exact sp0'.out x d bb ex z (.inl rfl)
 unfold Qmt at e1
 obtain⟨ri',ei',e1⟩:=bind1 e1
 obtain⟨rk',ek',e1⟩:=bind1 e1
 obtain⟨q1,c1,e1⟩:=bind1 e1
 obtain⟨q2,c2,e1⟩:=bind1 e1
 obtain⟨q3,c3,e1⟩:=bind1 e1
 obtain⟨q4,c4,eE⟩:=bind1 e1
 clear e1
 split at eE
 case h_2=>cases eE
 rename_i i' k' hi' hk'
 split at eE
 case isFalse=>cases eE
 rename_i hcc
 obtain⟨rfl,rfl,w1',w2',w3',w4'⟩:=hcc
 have eE:=Option.some.inj eE
 subst eE
 have jl1:=(QcF x1).2.1
 have jl2:=(QcF x2).2.1
 have ll1:=(QcF x3).2.1
 have ll2:=(QcF x4).2.1
 refine⟨ρ1,hs,F1,q1,relL,c1,λu1 H6 N1 z1=>⟨.ref a,st1',ρ1,hs,F1,ri',relL.ext z1.same,ei',λy1' H7 N1' z1'=>?_⟩⟩
 have ru:=z1'.rp
 rw[hi']at ru
 refine⟨a,ws,i',j1,rfl,ru.int_inv,z1'.same _ _ (z1.same _ _ sp0.at'),by rw[← sp0.rp.length];exact x1,?_⟩
 obtain⟨G1,spA,relA,rel0A,mA⟩:=sp0.put rel0 relL (z1.QfY z1'.same) w1' jl1 λx d bb ex=>out1 a (.inl rfl) x d bb ex
 have apA:¬(a=a'∨a∈Gb):=apart a (.inl rfl)
 have spA':Spn X.K H0 (upd H7 a (.lst (ws.set j1 u1))) hs ρ0 F a' bs ws' Gb:=(sp0'.same (z1.same.trans z1'.same)).QpZ (z1'.same _ _ (z1.same _ _ sp0.at')) apA
 generalize upd H7 a (.lst (ws.set j1 u1))=H8 at spA relA rel0A spA'
 have apartA:∀z,z∈G1->¬(z=a'∨z∈Gb):=λz hz hz'=>by
  rcases mA z hz with h | h
  ·exact apart z (.inr h) hz'
  ·obtain⟨vs,w⟩:=sp0'.mem hz'
   rw[h]at w;cases w
 refine⟨ρ1,hs,F1,q2,relA,c2,λu2 H9 N2 z2=>⟨.ref a,st1',ρ1,hs,F1,rk',relA.ext z2.same,ek',λy2' H10 N2' z2'=>?_⟩⟩
 have ru2:=z2'.rp
 rw[hk']at ru2
 refine⟨a,ws.set j1 u1,k',j2,rfl,ru2.int_inv,z2'.same _ _ (z2.same _ _ spA.at'),by rw[← spA.rp.length,ZN];exact x2,?_⟩
 obtain⟨G2,spB,relB,rel0B,mB⟩:=spA.put rel0A relA (z2.QfY z2'.same) w2' (by rw[ZN];exact jl2) λx d bb ex=>out1 a (.inl rfl) x d bb ex
 have spB':Spn X.K H0 (upd H10 a (.lst ((ws.set j1 u1).set j2 u2))) hs ρ0 F a' bs ws' Gb:=(spA'.same (z2.same.trans z2'.same)).QpZ (z2'.same _ _ (z2.same _ _ spA.at')) apA
 generalize upd H10 a (.lst ((ws.set j1 u1).set j2 u2))=H11 at spB relB rel0B spB'
 have apartB:∀z,z=a∨z∈G2->¬(z=a'∨z∈Gb):=λz hz hz'=>by
  rcases hz with rfl | hz
  ·exact apA hz'
  ·rcases mB z hz with h | h
   ·exact apartA z h hz'
   ·obtain⟨vs,w⟩:=spA'.mem hz'
    rw[h]at w;cases w
 refine⟨ρ1,hs,F1,q3,relB,c3,λu3 H12 N3 z3=>⟨.ref a',sb1',ρ1,hs,F1,ri',relB.ext z3.same,ei',λy3' H13 N3' z3'=>?_⟩⟩
 have ru3:=z3'.rp
 rw[hi']at ru3
 refine⟨a',ws',i',l1,rfl,ru3.int_inv,z3'.same _ _ (z3.same _ _ spB'.at'),by rw[← spB'.rp.length];exact x3,?_⟩
 obtain⟨G3,spC',relC,rel0C,mC⟩:=spB'.put rel0B relB (z3.QfY z3'.same) w3' ll1 λx d bb ex=>out1 a' (.inr rfl) x d bb ex
 have apB:¬(a'=a∨a'∈G2):=λh=>apartB a' h (.inl rfl)
 have spC:Spn X.K H0 (upd H13 a' (.lst (ws'.set l1 u3))) hs ρ0 F a _ _ G2:=(spB.same (z3.same.trans z3'.same)).QpZ (z3'.same _ _ (z3.same _ _ spB'.at')) apB
 generalize upd H13 a' (.lst (ws'.set l1 u3))=H14 at spC relC rel0C spC'
 have apartC:∀z,z∈G3->¬(z=a∨z∈G2):=λz hz hz'=>by
  rcases mC z hz with h | h
  ·exact apartB z hz' (.inr h)
  ·obtain⟨vs,w⟩:=spB.mem hz'
   rw[h]at w;cases w
 refine⟨ρ1,hs,F1,q4,relC,c4,λu4 H15 N4 z4=>⟨.ref a',sb1',ρ1,hs,F1,rk',relC.ext z4.same,ek',λy4' H16 N4' z4'=>?_⟩⟩
 have ru4:=z4'.rp
 rw[hk']at ru4
 refine⟨a',ws'.set l1 u3,k',l2,rfl,ru4.int_inv,z4'.same _ _ (z4.same _ _ spC'.at'),by rw[← spC'.rp.length,ZN];exact x4,?_⟩
 obtain⟨G4,spD',relD,rel0D,mD⟩:=spC'.put rel0C relC (z4.QfY z4'.same) w4' (by rw[ZN];exact ll2) λx d bb ex=>out1 a' (.inr rfl) x d bb ex
 have spD:Spn X.K H0 (upd H16 a' (.lst ((ws'.set l1 u3).set l2 u4))) hs ρ0 F a _ _ G2:=(spC.same (z4.same.trans z4'.same)).QpZ (z4'.same _ _ (z4.same _ _ spC'.at')) apB
 generalize upd H16 a' (.lst ((ws'.set l1 u3).set l2 u4))=H17 at spD relD rel0D spD'
 have apartD:∀z,z=a'∨z∈G4->¬(z=a∨z∈G2):=λz hz hz'=>by
  rcases hz with rfl | hz
  ·exact apB hz'
  ·rcases mD z hz with h | h
   ·exact apartC z h hz'
   ·obtain⟨vs,w⟩:=spC.mem hz'
    rw[h]at w;cases w
 have nt:∀d bb,ρ0[t]? ≠some (some (d,bb)):=λd bb ex=>(not_in ex).1 rfl
 have nb:∀d bb,ρ0[b]? ≠some (some (d,bb)):=λd bb ex=>(not_in ex).2.1 rfl
 have relE:=spD.back rel0D st1' nt
 have spE:=spD'.weak (ρ':=ρ0.set t (some (.lst ((ts.set j1 q1.d).set j2 q2.d),true))) (F':=λj=>if j=t then a::G2 else F j) λx d bb ex z hz=>by
  by_cases hx:x=t
  ·rw[if_pos hx]
   exact λhm=>apartD z hz (Zl.mp hm)
  ·rw[if_neg hx]
   rw[Zc (Ne.symm hx)]at ex
   exact spD'.out x d bb ex z hz
 have relF:=spE.back relE sb1' (by rw[Zc htb];exact nb)
 subst hρ0
 exact⟨_,hs,_,o,relF,e,q⟩
end
noncomputable def Qb2:Expr->Option (Str×Str)
 | .Subscript (.Name x _) (.Name y _) _=>some (x,y)
 | _=>none
theorem Qc6{e:Expr}{x y:Str}(h:Qb2 e=some (x,y)):∃p1 p2 p3,e= .Subscript (.Name x p1) (.Name y p2) p3:=by
 unfold Qb2 at h
 split at h
 ·cases h;exact⟨_,_,_,rfl⟩
 ·cases h
noncomputable def Qpc:Stmt->Option (Str×(Str×Str)×(Str×Str)×(Str×Str)×(Str×Str))
 | .Assign [.Name x _] (.Tuple [a,b,c,d] _ _) _=>(Qb2 a).bind λa=>(Qb2 b).bind λb=>(Qb2 c).bind λc=>(Qb2 d).map λd=>(x,a,b,c,d)
 | _=>none
theorem Qqw{st:Stmt}{x:Str}{a b c d:Str×Str}(h:Qpc st=some (x,a,b,c,d)):∃p ea eb ec ed k p1 p2,st= .Assign [.Name x p] (.Tuple [ea,eb,ec,ed] k p1) p2/\Qb2 ea=some a/\Qb2 eb=some b/\Qb2 ec=some c/\Qb2 ed=some d:=by
 unfold Qpc at h
 split at h
 ·obtain⟨a',h1,h⟩:=bind1 h
  obtain⟨b',h2,h⟩:=bind1 h
  obtain⟨c',d',h3,h4,h5⟩:=QP h
  cases h5
  exact⟨_,_,_,_,_,_,_,_,rfl,h1,h2,h3,h4⟩
 ·cases h
noncomputable def Qgq:Stmt->Option ((Str×Str)×Expr)
 | .Assign [t] e _=>(Qb2 t).map λs=>(s,e)
 | _=>none
theorem Qe2{st:Stmt}{s:Str×Str}{e:Expr}(h:Qgq st=some (s,e)):∃t p,st= .Assign [t] e p/\Qb2 t=some s:=by
 unfold Qgq at h
 split at h
 ·obtain⟨s',h1,h2⟩:=Zb.mp h
  cases h2
  exact⟨_,_,rfl,h1⟩
 ·cases h
structure Col where
 ln:Str
 t:Str
 b:Str
 i:Str
 k:Str
 e1:Expr
 e2:Expr
 e3:Expr
 e4:Expr
 r:List Stmt
noncomputable def Qo8:List Stmt->Option Col
 | s0::s1::s2::s3::s4::r=>(Qpc s0).bind λz=>(Qgq s1).bind λz1=>(Qgq s2).bind λz2=>(Qgq s3).bind λz3=>(Qgq s4).bind λz4=>
  if z.2.2.1=(z.2.1.1,z.2.2.1.2)/\z.2.2.2.1=(z.2.2.2.1.1,z.2.1.2)/\z.2.2.2.2=(z.2.2.2.1.1,z.2.2.1.2)/\z1.1=z.2.1/\z2.1=z.2.2.1/\z3.1=z.2.2.2.1/\z4.1=z.2.2.2.2 then some ⟨z.1,z.2.1.1,z.2.2.2.1.1,z.2.1.2,z.2.2.1.2,z1.2,z2.2,z3.2,z4.2,r⟩else none
 | _=>none
theorem QsF{sts:List Stmt}{q:Col}(h:Qo8 sts=some q):∃p ea eb ec ed k p1 p2 t1 t2 t3 t4 p3 p4 p5 p6,sts= .Assign [.Name q.ln p] (.Tuple [ea,eb,ec,ed] k p1) p2:: .Assign [t1] q.e1 p3:: .Assign [t2] q.e2 p4:: .Assign [t3] q.e3 p5:: .Assign [t4] q.e4 p6::q.r∧
  Qb2 ea=some (q.t,q.i)/\Qb2 eb=some (q.t,q.k)/\Qb2 ec=some (q.b,q.i)/\Qb2 ed=some (q.b,q.k)/\Qb2 t1=some (q.t,q.i)/\Qb2 t2=some (q.t,q.k)/\Qb2 t3=some (q.b,q.i)/\Qb2 t4=some (q.b,q.k):=by
 unfold Qo8 at h
 split at h
 ·rename_i s0 s1 s2 s3 s4 r
  obtain⟨⟨x,⟨a1,a2⟩,⟨b1,b2⟩,⟨c1,c2⟩,⟨d1,d2⟩⟩,h0,h⟩:=bind1 h
  obtain⟨⟨z1,f1⟩,h1,h⟩:=bind1 h
  obtain⟨⟨z2,f2⟩,h2,h⟩:=bind1 h
  obtain⟨⟨z3,f3⟩,h3,h⟩:=bind1 h
  obtain⟨⟨z4,f4⟩,h4,h⟩:=bind1 h
  split at h
  ·rename_i hc
   dsimp only at hc
   obtain⟨g1,g2,g3,rfl,rfl,rfl,rfl⟩:=hc
   cases h
   cases g1
   cases g2
   cases g3
   obtain⟨p,ea,eb,ec,ed,k,p1,p2,rfl,n1,n2,n3,n4⟩:=Qqw h0
   obtain⟨t1,p3,rfl,m1⟩:=Qe2 h1
   obtain⟨t2,p4,rfl,m2⟩:=Qe2 h2
   obtain⟨t3,p5,rfl,m3⟩:=Qe2 h3
   obtain⟨t4,p6,rfl,m4⟩:=Qe2 h4
   exact⟨p,ea,eb,ec,ed,k,p1,p2,t1,t2,t3,t4,p3,p4,p5,p6,rfl,n1,n2,n3,n4,m1,m2,m3,m4⟩
  ·cases h
 ·cases h
end HS
namespace HS
open PySem PySem.Spec L2 PyProof.Rows
mutual
noncomputable def Qkd(n:Nat)(Θ:Th)(st:Stmt):Option DS:=match n with
 | 0=>none
 | n+1=>match st with
  | .Pass _=>some Qo
  | .Break _=>some QpK
  | .Continue _=>some Qpt
  | .Raise _ _ _=>some QA
  | .Return none _=>some Qpy
  | .Return (some e) _=>(Qn n Θ e).map QL
  | .Expr (.Constant (.str _) _ _) _=>some Qo
  | .Expr (.Call (.Attribute o m apos) args [] cpos) _=>if(apos.endLine == cpos.line)=true then Qkj n Θ o m args else none
  | .Expr (.Call (.Name x p) args [] cpos) _=>(Qn n Θ (.Call (.Name x p) args [] cpos)).map QcU
  | .Assign [.Name x _] e _=>(Θ.QbT x).bind λi=>(Qn n Θ e).map λfa=>Qp i (if Qiu e=true then Q7 fa else fa)
  | .Assign [.Tuple es k p] e _=>if Qfc e=true/\Qq1 e=false then(Qfn Θ (.Tuple es k p)).bind λt=>(Qn n Θ e).map λfa=>Qpd t fa else none
  | .Assign [.Subscript a i _] e _=>(Qdw n Θ a).bind λq=>(Qn n Θ i).bind λfi=>(Qn n Θ e).map λfa=>QdH q.1 q.2 fi fa
  | .If c a b _=>(QaN n Θ c).bind λg=>(Qai n Θ a).bind λf1=>(Qai n Θ b).map λf2=>sIf g f1 f2
  | .For tg iter body [] _=>(Qfn Θ tg).bind λt=>(QeV n Θ tg iter).bind λfi=>(Qai n Θ body).map λfb=>Qdn fi t fb
  | .While c body [] _=>(QaN n Θ c).bind λg=>(Qai n Θ body).map λfb=>Qcy g fb
  | .Try a b c d p=>Θ.tr (.Try a b c d p)
  | _=>none
noncomputable def Qai(n:Nat)(Θ:Th)(sts:List Stmt):Option DS:=match n with
  | 0=>none
  | n+1=>match sts with
    | []=>some Qo
    | st::r=>
     match Qo8 (st::r)with
     | some q=>(Θ.QbT q.ln).bind λln=>(Θ.slot q.t).bind λt=>(Θ.slot q.b).bind λb=>(Θ.slot q.i).bind λi=>(Θ.slot q.k).bind λk=>(Qn n Θ q.e1).bind λg1=>(Qn n Θ q.e2).bind λg2=>(Qn n Θ q.e3).bind λg3=>(Qn n Θ q.e4).bind λg4=>(Qai n Θ q.r).map λg=>Qf (Qi3 t b ln (Qa i) (Qa k) g1 g2 g3 g4) g
     | none=>
      match QpE (st::r)with
      | some q=>if Θ.gl "list" =true then(Θ.QbT q.x).bind λx=>(Θ.slot q.x).bind λx'=>if x'=x then(Qn n Θ q.y).bind λfy=>(Qn n Θ q.i1).bind λf1=>(Qn n Θ q.e1).bind λg1=>(Qn n Θ q.i2).bind λf2=>(Qn n Θ q.e2).bind λg2=>(Qai n Θ q.r).map λg=>Qf (Qjk x fy f1 g1 f2 g2) g else none else none
      | none=>(Qkd n Θ st).bind λf=>(Qai n Θ r).map λg=>Qf f g
end
theorem QkO{n:Nat}{Θ:Th}{e:Expr}{f:DE}(h:Qn n Θ e=some f):Qu2 e=false:=by
 cases n with
 | zero=>exact nomatch (show(none:Option DE)=some _ from h)
 | succ n=>cases e<;>first | rfl | (exact nomatch (show(none:Option DE)=some _ from h))
theorem QuV{n:Nat}{Θ:Th}{elt:Expr}{gens:List Comprehension}{scope:Scope}{pos:Pos}{f:DE}(h:Qn n Θ (.ListComp elt gens scope pos)=some f):∃m tg iter ifs t fi ft fe,n=m+1/\gens=[⟨tg,iter,ifs,0⟩]/\Qfn (inner Θ scope) tg=some t/\QjE Θ scope t=true∧
  QeV m Θ tg iter=some fi/\Qfe m (inner Θ scope) ifs=some ft/\Qn m (inner Θ scope) elt=some fe/\f=QG fi t (Qio Θ scope) ft fe:=by
 cases n with
 | zero=>exact nomatch (show(none:Option DE)=some _ from h)
 | succ n=>
  match gens,h with
  | [⟨tg,iter,ifs,k⟩],h=>
   by_cases hk:k=0
   ·subst hk
    (conv at h=>lhs;whnf)
    obtain⟨t,ht,h⟩:=bind1 h
    split at h
    ·rename_i hc
     simp only[Zi]at hc
     obtain⟨fi,h1,h⟩:=bind1 h
     obtain⟨ft,fe,h2,h3,rfl⟩:=QP h
     exact⟨n,tg,iter,ifs,t,fi,ft,fe,rfl,rfl,ht,hc.1,h1,h2,h3,rfl⟩
    ·cases h
   ·exfalso
    cases k with
    | ofNat k=>
     cases k with
     | zero=>exact hk rfl
     | succ k=>exact nomatch (show(none:Option DE)=some _ from h)
    | negSucc k=>exact nomatch (show(none:Option DE)=some _ from h)
  | [],h=>exact nomatch (show(none:Option DE)=some _ from h)
  | ⟨_,_,_,.ofNat 0⟩::_::_,h=>exact nomatch (show(none:Option DE)=some _ from h)
  | ⟨_,_,_,.ofNat (k+1)⟩::_::_,h=>exact nomatch (show(none:Option DE)=some _ from h)
  | ⟨_,_,_,.negSucc k⟩::_::_,h=>exact nomatch (show(none:Option DE)=some _ from h)
theorem QuE{n:Nat}{X:Cx}{Θ:Th}{x:Str}{p pos:Pos}{e:Expr}{fa:DE}{i:Nat}(ok:Q0 X Θ)(hx:Θ.QbT x=some i)(h:Qn n Θ e=some fa):S1 X (.Assign [.Name x p] e pos) (Qp i fa):=by
 have hN:X.N.Nodup:=by rw[ok.N];exact ok.nd
 obtain⟨h1,h2,h3⟩:=Qcm ok.toCtxB hx
 by_cases hc:Qfc e=true
 ·have he:=(Qbu n).E X Θ e fa ok h
  exact Qj9 λH0 A0=>Qfi hN h1 h2 (he H0 A0) (Qc4 hc) h3
 ·cases e with
  | ListComp elt gens scope cpos=>
   obtain⟨m,tg,iter,ifs,t,fi,ft,fe,rfl,rfl,ht,hco,g1,g2,g3,rfl⟩:=QuV h
   obtain⟨S,cap,inn⟩:=QmE ok hco
   obtain⟨i1,i2⟩:=(Qbu m).I X Θ tg iter fi ok g1
   exact Qva hN h1 h2 h3 ok.calm S i1 cap (λcl C fp s3 H3=>⟨Qkg (inn cl C fp s3 H3) ht,(Qbu m).Ts _ _ ifs ft (inn cl C fp s3 H3) g2,(Qbu m).E _ _ elt fe (inn cl C fp s3 H3) g3⟩) i2
  | SetComp _ _ _ _=>cases n<;>exact nomatch (show(none:Option DE)=some _ from h)
  | DictComp _ _ _ _ _=>cases n<;>exact nomatch (show(none:Option DE)=some _ from h)
  | _=>exact absurd rfl hc
theorem Qr2{X:Cx}{x:Str}{p pos:Pos}{e:Expr}{fa:DE}{i:Nat}{n:Nat}{Θ:Th}(ok:Q0 X Θ)(hx:Θ.QbT x=some i)(h:Qn n Θ e=some fa)(ha:Qiu e=true):S1 X (.Assign [.Name x p] e pos) (Qp i (Q7 fa)):=by
 have hN:X.N.Nodup:=by rw[ok.N];exact ok.nd
 obtain⟨h1,h2,h3⟩:=Qcm ok.toCtxB hx
 have hc:Qfc e=true:=by cases e<;>first | rfl | cases ha
 have he:=QrH ((Qbu n).E X Θ e fa ok h)
 exact Qj9 λH0 A0=>Qfi hN h1 h2 (he H0 A0) (Qc4 hc) h3
theorem QcY{a i e:Expr}{p:Pos}{l:Nat}{env:Env}:swapsWithSole [.Subscript a i p] e l env=pure false:=by
 cases e<;>rfl
structure Qwy (n:Nat):Prop where
 S:∀X Θ st f,Q0 X Θ->Qkd n Θ st=some f->S1 X st f
 Ss:∀X Θ sts f,Q0 X Θ->Qai n Θ sts=some f->SS X sts f
theorem Qw9{n:Nat}(ih:Qwy n):∀X Θ st f,Q0 X Θ->Qkd (n+1) Θ st=some f->S1 X st f:=by
 intro X Θ st f ok h
 have hN:X.N.Nodup:=by rw[ok.N];exact ok.nd
 have E:=Qbu n
 cases st with
 | Pass pos=>change some Qo=some f at h;cases h;exact QuI
 | Break pos=>change some QpK=some f at h;cases h;exact Qr7
 | Continue pos=>change some Qpt=some f at h;cases h;exact Quv
 | Raise a b pos=>change some QA=some f at h;cases h;exact Qts
 | Return e pos=>
  cases e with
  | none=>change some Qpy=some f at h;cases h;exact Qu8
  | some e=>
   change(Qn n Θ e).map QL=some f at h
   obtain⟨fa,h1,rfl⟩:=Zb.mp h
   exact Qrg (E.E X Θ e fa ok h1)
 | Expr e pos=>
  cases e with
  | Constant c k p=>
   cases c with
   | str x=>
    change some Qo=some f at h
    cases h
    exact λH0 A0=>Qxc.mono λE σ H ⟨ρ,hs,F,o,rel,e,q⟩=>by cases e;exact q σ H F rel
   | _=>exact nomatch (show(none:Option DS)=some _ from h)
  | Call fn args kws cpos=>
   cases fn with
   | Attribute o m apos=>
    cases kws with
    | nil=>
     change(if(apos.endLine == cpos.line)=true then Qkj n Θ o m args else none)=some f at h
     split at h
     ·rename_i hl
      exact Qsd ok h hl
     ·cases h
    | cons _ _=>exact nomatch (show(none:Option DS)=some _ from h)
   | Name x p=>
    cases kws with
    | nil=>
     change(Qn n Θ (.Call (.Name x p) args [] cpos)).map QcU=some f at h
     obtain⟨fa,h1,rfl⟩:=Zb.mp h
     exact λH0 A0=>Qt3 (Qix (E.E X Θ _ fa ok h1 H0 A0) rfl)
    | cons _ _=>exact nomatch (show(none:Option DS)=some _ from h)
   | _=>exact nomatch (show(none:Option DS)=some _ from h)
  | _=>exact nomatch (show(none:Option DS)=some _ from h)
 | Assign ts e pos=>
  match ts,h with
  | [t],h=>
   cases t with
   | Name x p=>
    change((Θ.QbT x).bind λi=>(Qn n Θ e).map λfa=>Qp i (if Qiu e=true then Q7 fa else fa))=some f at h
    obtain⟨i,fa,h1,h2,rfl⟩:=QP h
    split
    ·rename_i ha;exact Qr2 ok h1 h2 ha
    ·exact QuE ok h1 h2
   | Tuple es k p=>
    change(if Qfc e=true/\Qq1 e=false then(Qfn Θ (.Tuple es k p)).bind λt=>(Qn n Θ e).map λfa=>Qpd t fa else none)=some f at h
    split at h
    ·rename_i hc
     obtain⟨t,fa,h1,h2,rfl⟩:=QP h
     refine Quy (E.E X Θ e fa ok h2) (Qkg ok h1) (by show swapsWith e (some (.Tuple es k p)) pos.line X.env=pure false;exact Qc4 hc.1) ?_ rfl
     cases e<;>first | rfl | (cases hc.2)
    ·cases h
   | Subscript a i p=>
    change((Qdw n Θ a).bind λq=>(Qn n Θ i).bind λfi=>(Qn n Θ e).map λfa=>QdH q.1 q.2 fi fa)=some f at h
    obtain⟨q,h1,h⟩:=bind1 h
    obtain⟨fi,fa,h2,h3,rfl⟩:=QP h
    obtain⟨sp,_⟩:=QiY n X Θ a q ok h1
    have ns:=QkO h2
    refine Qwr (E.E X Θ e fa ok h3) sp (E.E X Θ i fi ok h2) λte to ti he ho hi=>QeM he (Qfm ho hi set_list ?_) QcY ?_ rfl
    ·intro v;cases i<;>first | rfl | (cases ns)
    ·cases e<;>rfl
   | _=>exact nomatch (show(none:Option DS)=some _ from h)
  | [],h=>exact nomatch (show(none:Option DS)=some _ from h)
  | t::_::_,h=>cases t<;>exact nomatch (show(none:Option DS)=some _ from h)
 | AugAssign t op e pos=>
  cases t with
  | _=>exact nomatch (show(none:Option DS)=some _ from h)
 | If c a b pos=>
  change((QaN n Θ c).bind λg=>(Qai n Θ a).bind λf1=>(Qai n Θ b).map λf2=>sIf g f1 f2)=some f at h
  obtain⟨g,h1,h⟩:=bind1 h
  obtain⟨f1,f2,h2,h3,rfl⟩:=QP h
  exact QxH (E.T X Θ c g ok h1) (ih.Ss X Θ a f1 ok h2) (ih.Ss X Θ b f2 ok h3)
 | For tg iter body els pos=>
  cases els with
  | nil=>
   change((Qfn Θ tg).bind λt=>(QeV n Θ tg iter).bind λfi=>(Qai n Θ body).map λfb=>Qdn fi t fb)=some f at h
   obtain⟨t,h1,h⟩:=bind1 h
   obtain⟨fi,fb,h2,h3,rfl⟩:=QP h
   obtain⟨i1,i2⟩:=E.I X Θ tg iter fi ok h2
   exact Qwa ok.pass ok.calm i1 (Qkg ok h1) (ih.Ss X Θ body fb ok h3) i2
  | cons _ _=>exact nomatch (show(none:Option DS)=some _ from h)
 | While c body els pos=>
  cases els with
  | nil=>
   change((QaN n Θ c).bind λg=>(Qai n Θ body).map λfb=>Qcy g fb)=some f at h
   obtain⟨g,fb,h1,h2,rfl⟩:=QP h
   exact Qrv ok.pass (E.T X Θ c g ok h1) (ih.Ss X Θ body fb ok h2)
  | cons _ _=>exact nomatch (show(none:Option DS)=some _ from h)
 | Try a b c d pos=>exact ok.tr _ _ h
 | _=>exact nomatch (show(none:Option DS)=some _ from h)
theorem Qih:∀n,Qwy n
 | 0=>⟨λ_ _ _ _ _ h=>(nomatch (show(none:Option DS)=some _ from h)),λ_ _ _ _ _ h=>(nomatch (show(none:Option DS)=some _ from h))⟩
 | n+1=>by
  have ih:=Qih n
  refine⟨Qw9 ih,λX Θ sts f ok h=>?_⟩
  match sts,h with
  | [],h=>change some Qo=some f at h;cases h;exact Qq2
  | st::r,h=>
   change(match Qo8 (st::r)with
    | some q=>(Θ.QbT q.ln).bind λln=>(Θ.slot q.t).bind λt=>(Θ.slot q.b).bind λb=>(Θ.slot q.i).bind λi=>(Θ.slot q.k).bind λk=>(Qn n Θ q.e1).bind λg1=>(Qn n Θ q.e2).bind λg2=>(Qn n Θ q.e3).bind λg3=>(Qn n Θ q.e4).bind λg4=>(Qai n Θ q.r).map λg=>Qf (Qi3 t b ln (Qa i) (Qa k) g1 g2 g3 g4) g
    | none=>_)=some f at h
   split at h
   ·rename_i q hq
    obtain⟨ln,hln,h⟩:=bind1 h
    obtain⟨t,ht,h⟩:=bind1 h
    obtain⟨b,hb,h⟩:=bind1 h
    obtain⟨i,hi,h⟩:=bind1 h
    obtain⟨k,hk,h⟩:=bind1 h
    obtain⟨g1,h1,h⟩:=bind1 h
    obtain⟨g2,h2,h⟩:=bind1 h
    obtain⟨g3,h3,h⟩:=bind1 h
    obtain⟨g4,g,h4,h5,rfl⟩:=QP h
    obtain⟨p,ea,eb,ec,ed,kk,p1,p2,t1,t2,t3,t4,p3,p4,p5,p6,hs,n1,n2,n3,n4,m1,m2,m3,m4⟩:=QsF hq
    rw[hs]
    obtain⟨_,_,_,rfl⟩:=Qc6 n1
    obtain⟨_,_,_,rfl⟩:=Qc6 n2
    obtain⟨_,_,_,rfl⟩:=Qc6 n3
    obtain⟨_,_,_,rfl⟩:=Qc6 n4
    obtain⟨_,_,_,rfl⟩:=Qc6 m1
    obtain⟨_,_,_,rfl⟩:=Qc6 m2
    obtain⟨_,_,_,rfl⟩:=Qc6 m3
    obtain⟨_,_,_,rfl⟩:=Qc6 m4
    have E:=Qbu n
    have hN:X.N.Nodup:=by rw[ok.N];exact ok.nd
    obtain⟨l1,l2,l3⟩:=Qcm ok.toCtxB hln
    have B:=ok.toCtxB
    refine Qwp (λH0 A0=>Qfi hN l1 l2 (Qno (Q5 (Qge (Qfj (Qab B ht)) (Qdt (Qab B hi)) (λ_ _=>rfl) H0 A0) (Q5 (Qge (Qfj (Qab B ht)) (Qdt (Qab B hk)) (λ_ _=>rfl) H0 A0) (Q5 (Qge (Qfj (Qab B hb)) (Qdt (Qab B hi)) (λ_ _=>rfl) H0 A0) (Q5 (Qge (Qfj (Qab B hb)) (Qdt (Qab B hk)) (λ_ _=>rfl) H0 A0) Qb4))))) (Qc4 rfl) l3) (λH0 A0=>QeM (E.E X Θ q.e1 g1 ok h1 H0 A0) (Qfm (Qab B ht) (Qdt (Qab B hi) H0 A0) set_list λv=>rfl) QcY ?_ rfl) (λH0 A0=>QeM (E.E X Θ q.e2 g2 ok h2 H0 A0) (Qfm (Qab B ht) (Qdt (Qab B hk) H0 A0) set_list λv=>rfl) QcY ?_ rfl) (λH0 A0=>QeM (E.E X Θ q.e3 g3 ok h3 H0 A0) (Qfm (Qab B hb) (Qdt (Qab B hi) H0 A0) set_list λv=>rfl) QcY ?_ rfl) (λH0 A0=>QeM (E.E X Θ q.e4 g4 ok h4 H0 A0) (Qfm (Qab B hb) (Qdt (Qab B hk) H0 A0) set_list λv=>rfl) QcY ?_ rfl) (ih.Ss X Θ q.r g ok h5)
    ·cases q.e1<;>rfl
    ·cases q.e2<;>rfl
    ·cases q.e3<;>rfl
    ·cases q.e4<;>rfl
   change(match QpE (st::r)with
    | some q=>if Θ.gl "list" =true then(Θ.QbT q.x).bind λx=>(Θ.slot q.x).bind λx'=>if x'=x then(Qn n Θ q.y).bind λfy=>(Qn n Θ q.i1).bind λf1=>(Qn n Θ q.e1).bind λg1=>(Qn n Θ q.i2).bind λf2=>(Qn n Θ q.e2).bind λg2=>(Qai n Θ q.r).map λg=>Qf (Qjk x fy f1 g1 f2 g2) g else none else none
    | none=>(Qkd n Θ st).bind λf=>(Qai n Θ r).map λg=>Qf f g)=some f at h
   split at h
   ·rename_i q hq
    split at h
    case isFalse=>cases h
    rename_i hg
    obtain⟨x,hx,h⟩:=bind1 h
    obtain⟨x',hx',h⟩:=bind1 h
    split at h
    case isFalse=>cases h
    rename_i hxx
    subst hxx
    obtain⟨fy,h1,h⟩:=bind1 h
    obtain⟨f1,h2,h⟩:=bind1 h
    obtain⟨g1,h3,h⟩:=bind1 h
    obtain⟨f2,h4,h⟩:=bind1 h
    obtain⟨g2,g,h5,h6,rfl⟩:=QP h
    obtain⟨p1,p2,p3,p4,a1,a2,a3,b1,b2,b3,hs⟩:=Qs9 hq
    rw[hs]
    have E:=Qbu n
    have hN:X.N.Nodup:=by rw[ok.N];exact ok.nd
    obtain⟨g1',g2',g3'⟩:=QbW ok.toCtxB hg
    obtain⟨l1,l2,l3⟩:=Qcm ok.toCtxB hx
    have n1:=QkO h2
    have n2:=QkO h4
    refine QvT (λH0 A0=>Qfi hN l1 l2 (QhM QhL g1' (ok.mg _ (by decide+kernel)) Zbb (Qfd (E.E X Θ q.y fy ok h1) Qhr (QaC h1 _ _) H0 A0) (by decide) (by decide) (QaC h1 _ _) rfl) (Qc4 rfl) l3) (λH0 A0=>QeM (E.E X Θ q.e1 g1 ok h3 H0 A0) (Qfm (Qab ok.toCtxB hx') (E.E X Θ q.i1 f1 ok h2 H0 A0) set_list ?_) QcY ?_ rfl) (λH0 A0=>QeM (E.E X Θ q.e2 g2 ok h5 H0 A0) (Qfm (Qab ok.toCtxB hx') (E.E X Θ q.i2 f2 ok h4 H0 A0) set_list ?_) QcY ?_ rfl) (ih.Ss X Θ q.r g ok h6)
    ·intro v;cases hi:q.i1<;>first | rfl | (rw[hi]at n1;cases n1)
    ·cases q.e1<;>rfl
    ·intro v;cases hi:q.i2<;>first | rfl | (rw[hi]at n2;cases n2)
    ·cases q.e2<;>rfl
   ·obtain⟨fs,fr,h1,h2,rfl⟩:=QP h
    exact Qkv (ih.S X Θ st fs ok h1) (ih.Ss X Θ r fr ok h2)
noncomputable def Qc8(k:Nat)(ds:List D):En:=ds.map (λd=>some (d,d.flat))++List.replicate (k-ds.length) none
noncomputable def outD:Out->Option (D×Bool)
 | .rt d fr=>some (d,fr)
 | .nx _=>some (.non,true)
 | _=>none
noncomputable def Ql(k:Nat)(f:DS):Den:=λds=>(f (Qc8 k ds)).bind outD
theorem Rps.parts{K:PySem.W.Frag}{H:Hp}:∀{ds:List D}{vs:List V}{F:List Addr},Rps K H ds vs F→
  ∃Fs:List (List Addr),(∀L∈Fs,∀a∈L,a∈F)/\∀(i:Nat) (d:D),ds[i]? =some d->∃v,vs[i]? =some v/\Rp K H d v (Fs.getD i [])
 | [],_,_,h=>⟨[],λL hL=>by simp at hL,λi d e=>by simp at e⟩
 | d::ds,_,_,h=>by
  simp only[Rps]at h
  obtain⟨v,ws,F1,F2,rfl,rfl,r,q⟩:=h
  obtain⟨Fs,h1,h2⟩:=Rps.parts q
  refine⟨F1::Fs,λL hL a ha=>?_,λi d' e=>?_⟩
  ·rcases Zl.mp hL with rfl | hL
   ·exact Zh _ ha
   ·exact Zd _ (h1 L hL a ha)
  ·cases i with
   | zero=>simp at e;subst e;exact⟨v,by simp,by simpa using r⟩
   | succ i=>obtain⟨w,hw,hr⟩:=h2 i d' (by simpa using e);exact⟨w,by simpa using hw,by simpa using hr⟩
theorem QiQ{k:Nat}{ds:List D}{i:Nat}{d:D}{b:Bool}(h:(Qc8 k ds)[i]? =some (some (d,b))):ds[i]? =some d/\b=d.flat:=by
 unfold Qc8 at h
 by_cases hi:i<ds.length
 ·rw[ZaU (by simpa using hi),Zn]at h
  cases e:ds[i]? with
  | none=>rw[e]at h;cases h
  | some a=>rw[e]at h;cases h;exact⟨rfl,rfl⟩
 ·rw[Zbn (by simpa using hi),Zbt]at h
  split at h<;>cases h
theorem QhT{K:PySem.W.Frag}{H:Hp}{ds:List D}{vs:List V}{F:List Addr}{N:List Str}(r:Rps K H ds vs F):∃F0,Rel K H F [] (Qc8 N.length ds) F0 (start N vs) H:=by
 obtain⟨Fs,h1,h2⟩:=r.parts
 have hl:=r.length
 have src:∀i a,a∈Fs.getD i []->a∈F:=λi a ha=>by
  by_cases hi:i<Fs.length
  ·have:Fs.getD i []∈Fs:=by rw[Zap,Zat hi];exact List.getElem_mem hi
   exact h1 _ this a ha
  ·rw[Zap,Zk (by omega)]at ha;simp at ha
 refine⟨λi=>Fs.getD i [],?_,λi d b e=>?_,λi d e=>?_,λi d b e a ha=> .inr (src i a ha),λt ht=>absurd ht (by simp),QH.refl _⟩
 ·unfold Qc8 L2.start;simp[hl]
 ·obtain⟨e1,_⟩:=QiQ e
  obtain⟨v,hv,hr⟩:=h2 i d e1
  refine⟨v,?_,hr⟩
  have hi:i<vs.length:=(Zf.mp hv).1
  unfold L2.start
  rw[ZaU (by simpa using hi),Zn,hv];rfl
 ·obtain⟨e1,e2⟩:=QiQ e
  obtain⟨v,hv,hr⟩:=h2 i d e1
  have z:Fs.getD i []=[]:=hr.Qcr e2.symm
  simp only[z]
  exact⟨(Qfa d e2.symm).symm,Zay,λa ha=>by simp at ha,λ_ _ _ _ _ a ha=>by simp at ha,λ_ _ a ha=>by simp at ha⟩
section
variable (P:Program) (w:World) (K:PySem.W.Frag) (mg:Str->Option Value) (base:Heap)
def Known(k:Nat)(x:Str)(r:FnR):Prop:=∃f fd ps,Qck P w K mg base CX0 k f fd ps (spV K r.n r.den)/\mg x=some (.ref f)/\PySem.W.keepIn K (.ref f)=true∧
 ∀m,m<=r.dfl.length->∃ds dvs,Binds K fd ps ds/\Qz dvs ds/\∀H,Rps K H (r.dfl.drop (r.dfl.length-m)) dvs []
def QcT(k:Nat)(Γ:List (Str×FnR)):Prop:=∀x r,look x Γ=some r->Known P w K mg base k x r
structure Qe0 (cs:List (Str×Int)):Prop where
 bn:∀x∈QmP,mg x=none
 cs:∀x i,look x cs=some i->∃t,mg x=some (.int i t)
end
section
variable {P:Program}{w:World}{K:PySem.W.Frag}{mg:Str->Option Value}{base:Heap}
theorem QcT.nil{k:Nat}:QcT P w K mg base k []:=λx r h=>by cases h
theorem Known.mono{j k:Nat}{x:Str}{r:FnR}(h:Known P w K mg base j x r)(hk:j<=k):Known P w K mg base k x r:=by
 obtain⟨f,fd,ps,h1,h2⟩:=h
 exact⟨f,fd,ps,h1.mono hk,h2⟩
theorem QcT.cons{k:Nat}{Γ:List (Str×FnR)}{x:Str}{r:FnR}(t:QcT P w K mg base k Γ)(h:Known P w K mg base (k+1) x r):QcT P w K mg base (k+1) ((x,r)::Γ):=λy q e=>by
 unfold look at e
 split at e
 ·rename_i z;cases e;subst z;exact h
 ·exact(t y q e).mono (Zw _)
noncomputable def namesOf(sc:Scope):List Str:=(sc.names.filter λy=>QtG y.2).map (·.1)
noncomputable def Qfk(st:Stmt)(Γ:List (Str×FnR))(cs:List (Str×Int)):Th:=⟨namesOf (Qj st),(Qj st).names,Γ,cs,λ_=>none⟩
theorem Qoq{CX:CXT}{xe:Value->Shared->Prop}{st:Stmt}{ps:List Str}{qual:Str}{f:Addr}{cdv:Value}{A:Around}{outer:List Env}{s:Shared}{H:Hp}{E:XK}{k:Nat}{Γ:List (Str×FnR)}{cs:List (Str×Int)}(S:Qb9 (namesOf (Qj st)) ps (Qj st))(M:Qe0 mg cs)(tab:QcT P w K mg base k Γ)
  (hr:Qa1 k (A.deeper (envOfC qual (Qj st) s.heap.objs.size f cdv))) (hp:PassesOwn (model P w) (A.deeper (envOfC qual (Qj st) s.heap.objs.size f cdv)) (envOfC qual (Qj st) s.heap.objs.size f cdv) xe):
  Q0 ((QeS CX P w K mg base (namesOf (Qj st)) qual (Qj st) f cdv A outer s H E).Qfy xe) (Qfk st Γ cs) where
 N:=rfl
 nd:=S.nd
 lc:=λx h=>by rw[QbB]at h;exact h
 ce:=λx h=>by rw[QbB]at h;exact⟨h,rfl⟩
 fe:=λx h=>by rw[QbB]at h;exact absurd rfl (S.nofree _ (Zaa h))
 gl:=λx h=>by rw[QbB]at h;exact h
 calm:=decide_eq_true hr.hd
 pass:=hp
 tr:=λ_ _ h=>by cases h
 units:=hr.units
 mg:=M.bn
 fns:=λx r h=>by
  obtain⟨f',fd,ps',h1,h2,h3,h4⟩:=tab x r h
  exact⟨k,f',fd,ps',h1,hr,h2,h3,h4⟩
 cs:=M.cs
theorem Qqc{st:Stmt}{ps:List Str}{qual:Str}{f:Addr}{cdv:Value}{A:Around}{outer:List Env}{s:Shared}{H:Hp}{E:XK}{k:Nat}{Γ:List (Str×FnR)}{cs:List (Str×Int)}(S:Qb9 (namesOf (Qj st)) ps (Qj st))(M:Qe0 mg cs)(tab:QcT P w K mg base k Γ)
  (hr:Qa1 k (A.deeper (envOfC qual (Qj st) s.heap.objs.size f cdv))):Q0 (QeS CX0 P w K mg base (namesOf (Qj st)) qual (Qj st) f cdv A outer s H E).nox (Qfk st Γ cs):=Qoq S M tab hr PassesOwn.never
theorem Qqd{x qual:Str}{st:Stmt}{f:Addr}{fd:FuncData}{ps:List Str}{k n:Nat}{Γ:List (Str×FnR)}{cs:List (Str×Int)}{g:DS}(F:Fun K x qual st f fd)(S:Qb9 (namesOf (Qj st)) ps (Qj st))(M:Qe0 mg cs)(tab:QcT P w K mg base k Γ)
  (hc:Qai n (Qfk st Γ cs) (QaT st)=some g):Qck P w K mg base CX0 (k+1) f fd ps (spV K ps.length (Ql (namesOf (Qj st)).length g)):=by
 refine F.ok S (QoL rfl) λcdv A outer s H vs Q E hr h=>?_
 obtain⟨ds,L,d,fr,rps,hl,hd,q⟩:=h
 refine⟨_,(Qih n).Ss _ _ _ g (Qqc S M tab hr) hc H L,?_⟩
 obtain⟨F0,rel⟩:=QhT (N:=namesOf (Qj st)) rps
 unfold Ql at hd
 obtain⟨o,ho,hd⟩:=bind1 hd
 refine⟨_,[],F0,o,rel,ho,?_⟩
 cases o with
 | nx ρ=>
  cases hd
  exact λσ H' F' rel'=>q .non H' [] ⟨rel'.same,.Qhs,λa ha=>by simp at ha,λ_=>⟨Zay,rfl,λa ha=>by simp at ha⟩⟩
 | bk ρ=>cases hd
 | ct ρ=>cases hd
 | rt d' fr'=>
  cases hd
  exact λv H' G r=>q v H' G r
structure Fact (K:PySem.W.Frag) (x:Str) (st:Stmt):Prop where
 ex:∃f fd,Fun K x x st f fd/\PySem.W.nsIn K mainGlobals x=some (some (.ref f))
theorem fact_mk{x:Str}{st:Stmt}{f:Addr}{oc:Value}{od an:Option Addr}{osl:Array (Option Value)}{kV doc pm cdv ct:Value}(a:PySem.W.nsIn K mainGlobals x=some (some (.ref f)))(l:K.lookup f=some ⟨oc,od,.func (PySem.W.fnOf x x (Qfb st) (QaT st) (Qj st) .none kV doc pm an cdv ct),osl⟩)
  (c:PySem.W.codeIn K cdv x=true) (k:PySem.W.keepIn K (.ref f)=true):Fact K x st:=⟨f,_,QwS l c k,a⟩
def Qw(x:Str)(st:Stmt)(ps:List Str):Prop:=∀(kV doc pm:Value) (an:Option Addr) (cdv ct:Value) (us:List Value),us.length=ps.length->bindArgs (PySem.W.fnOf x x (Qfb st) (QaT st) (Qj st) .none kV doc pm an cdv ct) ⟨us,[]⟩=pure (ps.zip us)
theorem QB{h:Heap}{x:Str}{st:Stmt}{ps:List Str}{k n:Nat}{Γ:List (Str×FnR)}{cs:List (Str×Int)}{g:DS}(X:K.In h)(G:h.Ns mainGlobals mg)(F:Fact K x st)(S:Qb9 (namesOf (Qj st)) ps (Qj st))(B:Qw x st ps)(M:Qe0 mg cs)(tab:QcT P w K mg base k Γ)
  (hc:Qai n (Qfk st Γ cs) (QaT st)=some g):Known P w K mg base (k+1) x ⟨ps.length,[],Ql (namesOf (Qj st)).length g⟩:=by
 obtain⟨f,fd,Fn,a⟩:=F.ex
 refine⟨f,fd,ps,Qqd Fn S M tab hc,ZaQ X G a,Fn.kp,λm hm=>⟨[],[],Fn.binds (B ·),.nil,λH=>by simp[Rps]⟩⟩
end
end HS
namespace HS
open PySem PySem.Spec L2 PyProof.Rows
theorem QjD:∀(ns:List Int) (n:Int),n∈ns->Builtin.Int.intBits n<=PySem.W.WData.weightAll (ns.map PySem.W.WData.int)
 | a::r,n,h=>by
  have e:PySem.W.WData.weight (.int a)=Builtin.Int.intBits a:=by simp only[PySem.W.WData.weight,Builtin.Int.intBits]
  simp only[ZR,PySem.W.WData.weightAll,e]
  rcases Zl.mp h with rfl | h
  ·omega
  ·have:=QjD r n h
   omega
theorem Qp1{ns:List Int}(h:PySem.W.WData.layableAll [.list (ns.map .int)]=true)(k:Nat):Builtin.Int.intBits (ns.getD k 0)<=2^20:=by
 have h1:=(PySem.W.layW_cons h).1
 simp only[PySem.W.WData.layable,Zi,decide_eq_true_eq,PySem.W.WData.weight]at h1
 rw[Zap]
 cases e:ns[k]? with
 | none=>show Builtin.Int.intBits 0<=2^20;decide
 | some n=>exact Zq (QjD ns n (ZaE e)) (of_decide_eq_true h1.2)
open PySem.W Att PySem.Calls in
theorem QnL{l:OpenLaw}{n:Nat}{q:Program}{loose:List Str}{XP:(Str->Option Value)->Heap->Prop}{YP:World->Heap->Prop}{d:DefRec}
  (hn:l.most=some n) (hdf:d.params.defaults=[])
  (call:∀(w:World) (s₀ s₁:Shared) (mg mb:Str->Option Value) (fa:Addr) (o:Obj) (pm cd doc:Value) (a:Addr) (vs:List Value) (ns:List Int),
   Ground q loose [] XP w s₀ mg mb s₁.heap->YP w s₁.heap→
   s₁.heap.get? fa=some o->o.data= .func (docDef d.name d.params d.body d.scope pm cd doc)->s₁.heap.CodeRec cd d.name->mg d.name=some (.ref fa)→
   s₁.heap.get? a=some {cls:= .type "list",data:= .seq vs.toArray}->IntsAre vs ns->ns.length<=n->WData.layableAll [.list (ns.map .int)]=true->s₁.gens= #[]→
   codeAny (model l.prog w) callerA (.call (.ref fa) ⟨[.ref a],[]⟩) (λr s'=>r= .ok (.ret (.bool true))/\OldK s₁.heap s'.heap/\s'.os=s₁.os/\AllBare s'.gens) s₁):
  WalkO q loose XP YP l.row.toRowW d [] (λf vs=>PySem.call f vs):=by
 intro w s₀ s₁ mg mb G Y fa o pm cd doc dV kV ho hd hcd hD hmg hg args vals as hpre hlay hrd hwl hlo
 obtain rfl:dV= .none:=Dflts.none hD hdf
 obtain rfl:kV= .none:=Dflts.noKw hD
 obtain⟨a,vs,ns,rfl,rfl,hobj,hints,hlen⟩:=Qp5 hn hpre hwl
 refine enter_call (codeAny_mono (call w s₀ s₁ mg mb fa o pm cd doc a vs ns G Y ho (fd_plain hd) hcd hmg hobj hints hlen hlay hg) λr s' hq=>?_)
 obtain⟨rfl,h2,h3,h4⟩:=hq
 exact⟨.inl ⟨.bool true,.bool true,[],rfl,λ_=>rfl,.bool true,Qp0 l _,λ_=>⟨List.Pairwise.nil,λ_ hm=>(nomatch hm)⟩⟩,h2,h3,h4⟩
theorem Qq8{l:PySem.W.OpenLaw}{k:Nat}{q:Program}{loose:List Str}{XP:(Str->Option Value)->Heap->Prop}{YP:World->Heap->Prop}{d:DefRec}{K:Params->PySem.W.Frag}{den:Den}{x:Str}
  (hn:l.most=some 63) (hdf:d.params.defaults=[]) (hr:Qa1 k callerA) (hY:∀(w:World) (h:Heap),YP w h->(K w.params).In h)
  (hden:∀ns:List Int,ns.length<=63->(∀k:Nat,Builtin.Int.intBits (ns.getD k 0)<=2^20)->∃fr,den [.lst (ns.map .int)]=some (.bl true,fr))
  (F:∀(w:World) (mg:Str->Option Value) (fa:Addr) (h:Heap),(K w.params).In h->h.Ns mainGlobals mg->mg d.name=some (.ref fa)→
   ∃fd:FuncData,(∀(s:Shared) (u:Value),BindsTo s fd ⟨[u],[]⟩ [(x,u)])∧
    ∀base:Heap,(K w.params).In base->base.Ns mainGlobals mg->Qck l.prog w (K w.params) mg base CX0 k fa fd [x] (spV (K w.params) 1 den)):
  PySem.W.WalkO q loose XP YP l.row.toRowW d [] (λf vs=>PySem.call f vs):=by
 refine QnL hn hdf λw s₀ s₁ mg mb fa o pm cd doc a vs ns G Y ho hd hcd hmg hobj hints hlen hlay hg=>?_
 have KX:=hY w _ Y
 obtain⟨fd,hb,hF⟩:=F w mg fa _ KX G.T.g hmg
 have h63:(63:Nat)<=sizeLine:=by decide
 refine Qs8 KX G.T.g G.T.b G.T.builtins G.T.nolimit hg hobj hints (Zq hlen h63) hr hF hb (λH hO hS=>?_) λH e s' z=>z
 have fx:Fix (K w.params) H a (ns.map V.int):=by
  rcases hS with(h | ⟨o,h⟩) | ⟨o,its,n,hk,hc,hdn,hda,hz,rv⟩
  ·rcases hO a with z | ⟨o,xs,z⟩<;>rw[h]at z<;>cases z
  ·exact .inl ⟨o,h⟩
  ·have e:=KX a o hk
   rw[hobj]at e
   cases e
   cases hda
   exact .inr ⟨vs,_,hk,by rw[Zy];exact Zq hlen h63,by simpa using rv⟩
 obtain⟨fr,hfr⟩:=hden ns hlen (Qp1 hlay)
 have rp:Rp (K w.params) H (.lst (ns.map .int)) (.ref a) []:=by
  simp only[Rp]
  refine⟨by rw[Zy];exact Zq hlen h63,a,_,rfl,.inr ⟨fx,?_⟩⟩
  have gen:∀ns:List Int,Rps (K w.params) H (ns.map .int) (ns.map .int) []:=by
   intro ns
   induction ns with
   | nil=>simp[Rps]
   | cons n ns ih=>simp only[ZR,Rps];exact⟨_,_,[],[],rfl,rfl,.int_mk,ih⟩
  exact gen ns
 refine⟨[.lst (ns.map .int)],[],.bl true,fr,?_,rfl,hfr,λv H' G r=>r.rp.Qib⟩
 simp only[Rps]
 exact⟨_,_,[],[],rfl,rfl,rp,rfl,rfl⟩
theorem QxO{P:Program}{w:World}{K:PySem.W.Frag}{mg:Str->Option Value}{h:Heap}{x y:Str}{st:Stmt}{fa:Addr}{k n:Nat}{Γ:List (Str×FnR)}{cs:List (Str×Int)}{g:DS}(X:K.In h)(G:h.Ns mainGlobals mg)(hmg:mg x=some (.ref fa))
  (F:Fact K x st) (S:Qb9 (namesOf (Qj st)) [y] (Qj st)) (B:Qw x st [y]) (M:Qe0 mg cs) (tab:∀base:Heap,QcT P w K mg base k Γ) (hc:Qai n (Qfk st Γ cs) (QaT st)=some g):
  ∃fd:FuncData,(∀(s:Shared) (u:Value),BindsTo s fd ⟨[u],[]⟩ [(y,u)])∧
    ∀base:Heap,K.In base->base.Ns mainGlobals mg->Qck P w K mg base CX0 (k+1) fa fd [y] (spV K 1 (Ql (namesOf (Qj st)).length g)):=by
 obtain⟨f,fd,Fn,a⟩:=F.ex
 have e:=hmg.symm.trans (ZaQ X G a)
 cases e
 refine⟨fd,λs u=>?_,λbase _ _=>Qqd Fn S M (tab base) hc⟩
 obtain⟨oc,od,kV,doc,pm,an,cdv,ct,osl,rfl,lk,hcd⟩:=Fn.ex
 exact .of_eq (B kV doc pm an cdv ct [u] rfl)
end HS
namespace HS
open PySem PySem.Spec PyProof.Rows L2
section
variable {P:Program}{w:World}{K:PySem.W.Frag}{mg:Str->Option Value}{base:Heap}
theorem QpM{h:Heap}{x:Str}{st:Stmt}{ps:List Str}{k:Nat}(X:K.In h)(G:h.Ns mainGlobals mg)(F:Fact K x st)(B:Qw x st ps):Known P w K mg base k x ⟨ps.length,[],λ_=>none⟩:=by
 obtain⟨f,fd,Fn,a⟩:=F.ex
 refine⟨f,fd,ps,⟨λvs H Q E h=>?_,λA outer s H args us vs Q E _ _ _ _ h=>?_⟩,ZaQ X G a,Fn.kp,λm hm=>⟨[],[],Fn.binds (B ·),.nil,λH=>by simp[Rps]⟩⟩
 ·obtain⟨ds,L,d,fr,rps,hl,hd,q⟩:=h
  cases hd
 ·obtain⟨ds,L,d,fr,rps,hl,hd,q⟩:=h
  cases hd
end
end HS
namespace HS
open PySem PySem.Spec L2 PyProof.Rows
theorem QsB{P:Program}{w:World}{H:Hp}{h:Heap}{a:Addr}{o:HO}(x:Qbx P w H h a o):∃u,h.get? a=some u:=by
 cases o with
 | lst xs=>obtain⟨_,_,_,_,e⟩:=x;exact⟨_,e⟩
 | tup xs=>obtain⟨_,_,_,ob,e,_⟩:=x;exact⟨_,e⟩
 | dK kvs=>obtain⟨_,_,_,_,o,_,_,e,_⟩:=x;exact⟨_,e⟩
 | dT kvs=>obtain⟨_,_,_,_,o,_,_,e,_⟩:=x;exact⟨_,e⟩
 | set S n=>obtain⟨o,_,_,_,e,_⟩:=x;exact⟨_,e⟩
 | ins C dx fs=>obtain⟨_,_,_,e,_⟩:=x;exact⟨_,e⟩
 | own y=>exact x
 | xd fs=>obtain⟨_,⟨_,_,_,e,_⟩,_⟩:=x;exact⟨_,e⟩
 | rng lo hi=>obtain⟨_,_,_,e⟩:=x;exact⟨_,e⟩
 | frz ob u=>obtain⟨e,_⟩:=x;exact⟨_,e⟩
 | tbl ps=>exact⟨_,show h.get? a=some _ from x⟩
 | met f y=>exact⟨_,show h.get? a=some _ from x⟩
 | ext φ=>obtain⟨_,e,_⟩:=x;exact e
section
variable {P:Program}{w:World}{H H':Hp}{h0 h h' B:Heap}{fs:List Addr}
def Cov(H:Hp)(B:Heap):Prop:=∀b u,H b=some u->∃o,B.get? b=some o
theorem Qlg(hok:HOk P w H h)(hB:B.StaysIn h)(hB':B.StaysIn h')(cov:Cov H B):HOk P w H h':=λa o e=>
 (hok a o e).Qf1 (λc v hc q=>by
  have:∃u,H c=some u:=by
   rcases hc with rfl | hc
   ·exact⟨_,e⟩
   ·exact⟨_,hc⟩
  obtain⟨u,hu⟩:=this
  obtain⟨o',ho'⟩:=cov c u hu
  have:=hB _ _ ho'
  rw[q]at this
  cases this
  exact hB' _ _ ho') (λ_ q=>q) λ_ _ q=>q
theorem Qng(u:Un fs [] H H' h0 h)(hB:B.StaysIn h)(hB':B.StaysIn h')(up:h.UpToSlots h')(old:∀b o,h0.get? b=some o->b∉fs->∃o',B.get? b=some o')
  (dat:∀b o,h0.get? b=some o->b∈fs->∀vs,o.data≠ .fields vs) (frf:∀b∈fs,H b=none):Un fs [] H H' h0 h' where
 keep:=λb o e n hb hx=>by
  obtain⟨o',e1⟩:=old b o e hb
  have:=hB _ _ e1
  rw[u.keep b o e n hb hx]at this
  cases this
  exact hB' _ _ e1
 slot:=λb o e n hb hx=>by
  obtain⟨sl,e1⟩:=u.slot b o e n hb hx
  obtain⟨sl',e2⟩:=up b _ e1 (dat b o e hb)
  exact⟨sl',e2⟩
 free:=u.free
 there:=λb o e hx=>by
  by_cases hb:b∈fs
  ·obtain⟨sl,e1⟩:=u.slot b o e (frf b hb) hb hx
   obtain⟨sl',e2⟩:=up b _ e1 (dat b o e hb)
   exact⟨_,e2⟩
  ·obtain⟨o',e1⟩:=old b o e hb
   exact⟨_,hB' _ _ e1⟩
 tups:=u.tups
 frzs:=u.frzs
 tbls:=u.tbls
end
noncomputable def CXR(P:Program)(w:World):CXT:=λouter H s E e s'=>∃ea C H' B a0,e=Value.ref ea/\s'.os=s.os/\AllBare s'.gens/\Un (frs outer) [] H H' s.heap s'.heap/\HOk P w H' s'.heap/\Heap.FlyingW B outer ea C a0 s'.heap∧
 Cov H' B/\(∀b o,s.heap.get? b=some o->b∉frs outer->∃o',B.get? b=some o')/\E C none H'
def Qgg(X:Cx)(H0:Hp)(A0:List Addr)(hs:List (V×D×List Addr))(ρ:En)(C:Value)(ea:Addr)(s':Shared):Prop:=∃pins σ H F,Rel X.K H0 A0 hs ρ F σ H∧
 ((∃sg args,Inv X pins σ H sg/\Heap.MadeExcOf sg.heap s'.heap ea C args/\s'.os=sg.os/\s'.gens=sg.gens)∨
  ∃B a0,Inv X pins σ H s'/\Heap.FlyingW B X.stack ea C a0 s'.heap/\Cov H B/\(∀b o,X.s₀.heap.get? b=some o->b∉X.fs->∃o',B.get? b=some o')/\∀p∈X.pn++pins,∃o,B.get? p.1=some o)
theorem Qqs{X:Cx}{pins:List (Addr×Obj)}{σ:L2.St}{H:Hp}{s:Shared}(I:Inv X pins σ H s)(hx:X.ex=[]){b:Addr}{o:Obj}(e:X.s₀.heap.get? b=some o)(hb:b∉X.fs):(∃o',s.heap.get? b=some o')/\b∉frs X.stack:=by
 refine⟨I.base.there b o e (by rw[hx];simp),λz=>?_⟩
 rcases Zl.mp (I.QfL b z)with q | q
 ·have h1:=Zr e
  have h2:=I.ok.above
  rw[q]at h1
  exact absurd (Zm h1 h2) (ZV _)
 ·exact hb q
theorem Qkc{X:Cx}(ok:X.Ok){b:Addr}{o:Obj}(e:X.s₀.heap.get? b=some o)(hb:b∈X.fs):∀vs,o.data≠ .fields vs:=by
 obtain⟨_,o',e',h⟩:=ok.Qd3.mem hb
 rw[e]at e'
 cases e'
 exact h
theorem QnW{X:Cx}{pins:List (Addr×Obj)}{σ:L2.St}{H:Hp}{s:Shared}(I:Inv X pins σ H s)(hx:X.ex=[]):∃B:Heap,B.StaysIn s.heap/\s.heap.FunFrames B X.stack/\Cov H B/\(∀b o,X.s₀.heap.get? b=some o->b∉X.fs->∃o',B.get? b=some o')/\∀p∈X.pn++pins,∃o,B.get? p.1=some o:=by
 refine⟨PySem.W.hideAll s.heap (frs X.stack),λb o e=>PySem.W.of_hideAll _ e,PySem.W.funFrames_hide I.stack λenv he a ha=>ZaK.mpr ⟨env,he,ha⟩,λb u e=>?_,λb o e hb=>?_,λp hp=>?_⟩
 ·obtain⟨o,ho⟩:=QsB (I.hok b u e)
  exact⟨o,ZaV _ ho λz=>by rw[I.QkH b z]at e;cases e⟩
 ·obtain⟨⟨o',h1⟩,h2⟩:=Qqs I hx e hb
  exact⟨o',ZaV _ h1 h2⟩
 ·obtain⟨e,_,ne,nf,_⟩:=I.pin p hp
  exact⟨_,ZaV _ e λz=>(Zl.mp (I.QfL _ z)).elim ne nf⟩
theorem QnQ{X:Cx}{P:Program}{w:World}{E:XK}{H0:Hp}{A0:List Addr}{hs:List (V×D×List Addr)}{ρ:En}{C:Value}{ea:Addr}{s':Shared}{env:Env}{outer:List Env}{Er:Value->Shared->Prop}
  (hp:X.prog=P) (hw:X.w=w) (hx:X.ex=[]) (hst:X.stack=env::outer) (hfs:X.outer=outer) (hen:X.env=env) (hf:env.frame=some X.env.locals) (T:Qgg X H0 A0 hs ρ C ea s')
  (hE:∀H,QH H0 H->E C none H):wpAny (model P w) X.A (leaving env (.ref ea)) (λ_ s''=>CXR P w outer X.H₀ X.s₀ E (.ref ea) s'') Er s':=by
 subst hp hw hfs
 obtain⟨pins,σ,H,F,rel,⟨sg,args,I,hm,ho,hg⟩ | ⟨B,a0,I,fl,cov,old,_⟩⟩:=T
 ·obtain⟨B,b1,b2,cov,old,_⟩:=QnW I hx
  rw[hst]at b2
  have hfr:=I.ok.frames
  rw[hst]at hfr
  refine wpAny_leaves_madeW hfr hf b1 b2 hm λh' t fl _ _ up=>?_
  have up':sg.heap.UpToSlots h':=(Heap.UpToSlots.of_keeps hm.keeps).trans up
  have hb:=I.base
  rw[hx]at hb
  exact⟨ea,C,H,B,_,rfl,ho.trans I.os,hg▸I.bare,Qng hb b1 fl.1 up' old (λb o e hb=>Qkc I.ok e hb) I.ok.frf,Qlg I.hok b1 fl.1 cov,fl,cov,old,hE H rel.same⟩
 ·have hfr:=I.ok.frames
  rw[hst]at hfr fl
  refine wpAny_leaves_onW hfr hf fl λh' fl' up=>?_
  have hb:=I.base
  rw[hx]at hb
  exact⟨ea,C,H,B,_,rfl,I.os,I.bare,Qng hb fl.1 fl'.1 up old (λb o e hb=>Qkc I.ok e hb) I.ok.frf,Qlg I.hok fl.1 fl'.1 cov,fl',cov,old,hE H rel.same⟩
end HS
namespace HS
open PySem PySem.Spec L2 PyProof.Rows
noncomputable abbrev DX:=En->Option (Str×En)
def ClsAt(K:PySem.W.Frag)(x:Str)(C:Addr):Prop:=PySem.W.nsIn K mainGlobals x=some (some (.ref C))
def cRz(X:Cx)(H0:Hp)(A0:List Addr)(fx:DX)(σ:L2.St)(H:Hp):Prop:=∃ρ hs F x ρ',Rel X.K H0 A0 hs ρ F σ H/\fx ρ=some (x,ρ')/\∀C ea s',ClsAt X.K x C->Qgg X H0 A0 hs ρ' (.ref C) ea s'->X.xe (.ref ea) s'
noncomputable def tRz(X:Cx)(H0:Hp)(A0:List Addr)(fx:DX):TS:=λ_ σ H=>cRz X H0 A0 fx σ H
noncomputable def eRz(X:Cx)(H0:Hp)(A0:List Addr)(fx:DX):TE:=λσ H _=>cRz X H0 A0 fx σ H
def Rz(X:Cx)(st:Stmt)(fx:DX):Prop:=∀H0 A0,PS X st (tRz X H0 A0 fx)
def RzS(X:Cx)(sts:List Stmt)(fx:DX):Prop:=∀H0 A0,PSs X sts (tRz X H0 A0 fx)
def RzE(X:Cx)(e:Expr)(fx:DX):Prop:=∀H0 A0,PE X e (eRz X H0 A0 fx)
noncomputable def xNo:DX:=λ_=>none
noncomputable def QfC(x:Str)(fs:DA):DX:=λρ=>(fs ρ).bind λr=>if r.ds.length<=1 then some (x,ρ)else none
noncomputable def QbK(n:Nat)(xd:List D->Option Str)(fs:DA):DX:=λρ=>(fs ρ).bind λr=>if r.ds.length=n then(xd r.ds).map λc=>(c,ρ)else none
noncomputable def xIf(g:DT)(fa fb:DX):DX:=λρ=>(g ρ).bind λb=>if b=true then fa ρ else fb ρ
noncomputable def Qaa(f:DS)(fx fr:DX):DX:=λρ=>match f ρ with
 | some (.nx ρ')=>fr ρ'
 | some _=>none
 | none=>fx ρ
noncomputable def Qiq(t:Tg)(fb:DS)(fx:DX):List D->DX
 | [],_=>none
 | d::ds,ρ=>(QbL t d ρ).bind λρ1=>match fb ρ1 with
  | some (.nx ρ2)=>Qiq t fb fx ds ρ2
  | some (.ct ρ2)=>Qiq t fb fx ds ρ2
  | some _=>none
  | none=>fx ρ1
noncomputable def Qv5(fi:DI)(t:Tg)(fb:DS)(fx:DX):DX:=λρ=>(fi ρ).bind λir=>Qiq t fb fx ir.items (Qaz ir.M ρ)
noncomputable def spX(K:PySem.W.Frag)(n:Nat)(xd:List D->Option Str):Sp:=λvs H _ E=>∃ds L x,Rps K H ds vs L/\ds.length=n/\xd ds=some x/\∀C H',ClsAt K x C->QH H H'->E (.ref C) none H'
theorem Qvq{K:PySem.W.Frag}{n:Nat}{xd:List D->Option Str}{ps:List Str}(hn:ps.length=n):∀vs H Q E,spX K n xd vs H Q E->vs.length=ps.length:=λvs H Q E ⟨ds,L,x,r,hl,_⟩=>by rw[hn,← hl,r.length]
section
variable {X:Cx}{st:Stmt}{sts:List Stmt}{e:Expr}{es:List Expr}{fs:DA}{f:DS}{fx fr fy:DX}{g:DT}{pos p np cpos:Pos}{x:Str}{k n:Nat}{fa:Addr}{fd:FuncData}{ps:List Str}{xd:List D->Option Str}
theorem QpS:Rz X st xNo:=λH0 A0 pins s σ H Dd I ⟨ρ,hs,F,x,ρ',rel,e,q⟩=>by cases e
theorem Qvf:RzS X [] xNo:=λH0 A0 pins s σ H Dd I ⟨ρ,hs,F,x,ρ',rel,e,q⟩=>by cases e
theorem Qgg.hold{H0:Hp}{A0:List Addr}{hs ts:List (V×D×List Addr)}{ρ:En}{C:Value}{ea:Addr}{s':Shared}(h:Qgg X H0 A0 (ts++hs) ρ C ea s'):Qgg X H0 A0 hs ρ C ea s':=by
 obtain⟨pins,σ,H,F,rel,q⟩:=h
 exact⟨pins,σ,H,F,rel.Qnd,q⟩
theorem Qt6(Fk:Qck X.prog X.w X.K X.mg X.base (CXR X.prog X.w) k fa fd ps (spX X.K n xd))(hr:Qa1 k X.A)(hg:Gl X x)(hm:X.mg x=some (.ref fa))(hk:PySem.W.keepIn X.K (.ref fa)=true)(hb:Binds X.K fd ps [])(hx:X.ex=[])(hn:ps.length=n)
  (ha:SA X (e::es) fs) (hdb:(x == ("__debug__" :Str))=false) (he:starEach (e::es) X.env=(false,eval e X.env)::starEach es X.env) (hpl:(backTo pos (starEach es X.env)).any (·.1)=false):
  RzE X (.Call (.Name x p) (e::es) [] pos) (QbK n xd fs):=λH0 A0 pins s σ H Q I ⟨ρ,hs,F,c,ρ',rel,ex,q⟩=>by
 obtain⟨ra,e1,ex⟩:=bind1 ex
 split at ex
 ·rename_i hl
  obtain⟨c',e2,e3⟩:=Zb.mp ex
  cases e3
  refine wpAny_Call_Name_kw (Qex I hg hm ?_ hdb)
  refine Zbm (h₀:=X.base) I.ok.mod.kin hk (thn (ha H0 A0 pos pins s σ H (λvs H1=>∃G,Qpj X.K ρ F H H1 ra vs G) I ⟨ρ,hs,F,ra,rel,e1,λvs H1 G p1=>⟨G,p1⟩⟩) λus s1 ⟨vs,H1,I1,rv,G,p1⟩=>⟨I1.kIn,?_⟩) he hpl
  have hlen:(us++[]).length=ps.length:=by rw[Zaq,← rv.length,← p1.rp.length,hl,hn]
  have hbb:=hb s1 us I1.kIn hlen
  rw[Zaq]at hbb
  refine wpAny_call (codeAny_mono (Fk.run X.A X.stack s1 H1 ⟨us,[]⟩ us vs (λ_ _=>False) (λc' _ H'=>∃C,c'= .ref C/\ClsAt X.K c C/\QH H1 H') hr I1.Qsn hbb rv ⟨ra.ds,G,c,p1.rp,hl,e2,λC H' hC sm=>⟨C,rfl,hC,sm⟩⟩) λr s' hq=>?_)
  cases r with
  | error ev=>
   obtain⟨ea,C',H',B,a0,rfl,os,bare,un,hok,fl,cov,old,C,rfl,hC,sm⟩:=hq
   exact q C ea s' hC ⟨pins,σ,H',F,(rel.ext p1.same).ext sm,.inr ⟨B,a0,I1.QtN os un hok bare (λb z=>absurd z (by simp)),fl,cov,λb o eb hbf=>by
    obtain⟨⟨o',h1⟩,h2⟩:=Qqs I1 hx eb hbf
    exact old b o' h1 h2,λp hp=>by
    obtain⟨e,_,ne,nf,_⟩:=I1.pin p hp
    exact old _ _ e λz=>(Zl.mp (I1.QfL _ z)).elim ne nf⟩⟩
  | ok fl=>
   cases fl with
   | ret u=>obtain⟨v,H',_,_,_,_,_,z⟩:=hq;exact z.elim
   | next=>exact False.elim hq
   | brk=>exact False.elim hq
   | cont=>exact False.elim hq
 ·cases ex
theorem Qum(h:RzE X e fx)(hs:swapsWith e none pos.line X.env=pure false):Rz X (.Expr e pos) fx:=λH0 A0=>Qix (h H0 A0) hs
theorem Qwf(h:RzE X e fx):Rz X (.Return (some e) pos) fx:=λH0 A0=>Qrf (h H0 A0)
theorem QwQ{i:Nat}(hN:X.N.Nodup)(h1:X.N[i]? =some x)(h2:Loc X.env.scope x)(h3:X.fn x=true∨X.env.scope.names.lookup x=some .local)(h:RzE X e fx)(hs:swapsWith e (some (.Name x p)) pos.line X.env=pure false):Rz X (.Assign [.Name x p] e pos) fx:=λH0 A0=>Qfi hN h1 h2 (h H0 A0) hs h3
theorem QxV{c:Expr}{a b:List Stmt}(hc:ST X c g)(ha:RzS X a fx)(hb:RzS X b fy):Rz X (.If c a b pos) (xIf g fx fy):=λH0 A0=>(QtQ (hc H0 A0) (ha H0 A0) (hb H0 A0)).mono λDd σ H ⟨ρ,hs,F,x,ρ',rel,e,q⟩=>by
 obtain⟨c,e1,e⟩:=bind1 e
 refine⟨ρ,hs,F,c,rel,e1,λH1 s1=>?_⟩
 cases c with
 | true=>exact QpG ⟨ρ,hs,F,x,ρ',rel.ext s1,e,q⟩
 | false=>exact QoW ⟨ρ,hs,F,x,ρ',rel.ext s1,e,q⟩
theorem Qx5{t u:TS}(h1:PS X st t)(h2:PS X st u):PS X st (λDd σ H=>t Dd σ H∨u Dd σ H):=λpins s σ H Dd I q=>q.elim (h1 pins s σ H Dd I) (h2 pins s σ H Dd I)
theorem Qv3{t u:TS}(h1:PSs X sts t)(h2:PSs X sts u):PSs X sts (λDd σ H=>t Dd σ H∨u Dd σ H):=λpins s σ H Dd I q=>q.elim (h1 pins s σ H Dd I) (h2 pins s σ H Dd I)
theorem Qsh(h1:S1 X st f)(h2:Rz X st fx)(h3:RzS X sts fr):RzS X (st::sts) (Qaa f fx fr):=λH0 A0=>(QbQ (Qx5 (h1 H0 A0) (h2 H0 A0)) (h3 H0 A0)).mono λDd σ H ⟨ρ,hs,F,x,ρ',rel,e,q⟩=>by
 unfold Qaa at e
 split at e
 ·rename_i ρ1 e1
  exact .inl ⟨ρ,hs,F,_,rel,e1,λσ' H' F' rel'=>⟨ρ1,hs,F',x,ρ',rel',e,q⟩⟩
 ·cases e
 ·exact .inr ⟨ρ,hs,F,x,ρ',rel,e,q⟩
theorem QwG{tg iter:Expr}{body:List Stmt}{fi:DI}{t:Tg}(hp:PassesOwn (model X.prog X.w) X.A X.env X.xe)(hc:X.calm=true)(hi:SI X tg iter fi)(hg:SG X tg t)(hb:SS X body f)(hbx:RzS X body fx)(hs:∀x,foldedSetIterable iter X.env x=pure x):
  Rz X (.For tg iter body [] pos) (Qv5 fi t f fx):=λH0 A0=>(Qq6 hp hc (hi H0 A0) (hg H0 A0) (Qv3 (hb H0 A0) (hbx H0 A0)) hs).mono λDd σ H ⟨ρ,hs,F,c,ρ',rel,e,q⟩=>by
 obtain⟨ir,e1,e⟩:=bind1 e
 refine⟨ρ,hs,F,ir,rel,e1,λJ H1 ts s1 wk hts ow hz=>?_⟩
 have rel1:Rel X.K H0 A0 (ts++hs) (Qaz ir.M ρ) F σ H1:=((rel.ext s1).weak (QaF ir.M ρ)).hold λt ht=>⟨(hts t ht).1,Shr.of rel (hts t ht).2⟩
 refine⟨λi m σ' H'=>m=ir.items.length-i/\i<=ir.items.length/\∃ρi Fi,Rel X.K H0 A0 (ts++hs) ρi Fi σ' H'/\Qiq t f fx (ir.items.drop i) ρi=some (c,ρ'),⟨_,rfl,ZT _,_,F,rel1,by simpa using e⟩,?_⟩
 rintro i m σ' H' ⟨rfl,hi',ρi,Fi,reli,ei⟩
 have held:Qlb X.K H' ts:=λt ht=>(reli.held t (Zh _ ht)).1
 by_cases hlt:i<ir.items.length
 ·rw[ZY hlt]at ei
  unfold Qiq at ei
  obtain⟨ρ1,eb,ei⟩:=bind1 ei
  refine .inr ⟨wk.go i H' hlt held,λσ2 H2=>∃ρ2 F2,Rel X.K H0 A0 (ts++hs) ρ2 F2 σ2 H2/\Qiq t f fx (ir.items.drop (i+1)) ρ2=some (c,ρ'),λσ2 H2 ⟨ρ2,F2,rel2,e2⟩=>⟨_,by omega,rfl,hlt,ρ2,F2,rel2,e2⟩,λx H2 hy=>?_⟩
  obtain⟨s2,G0,rp0,hG0⟩:=wk.yld i ir.items[i] H' x H2 (by simp[hlt]) held hy
  have shr:Shr H0 A0 ρi Fi G0:=λa ha=>by
   obtain⟨t,ht,hat⟩:=hG0 a ha
   exact⟨(reli.held t (Zh _ ht)).2 a hat,λj d ej hj=>(reli.own j d ej).2.2.2.2 t (Zh _ ht) a hj hat⟩
  refine⟨ρi,ts++hs,Fi,ir.items[i],G0,ρ1,reli.ext s2,rp0,shr,eb,λσ3 F3 rel3 _ _=>?_⟩
  split at ei
  ·rename_i ρ2 eo
   exact .inl ⟨ρ1,ts++hs,F3,_,rel3,eo,λσ4 H4 F4 rel4=>⟨ρ2,F4,rel4,ei⟩⟩
  ·rename_i ρ2 eo
   exact .inl ⟨ρ1,ts++hs,F3,_,rel3,eo,λσ4 H4 F4 rel4=>⟨ρ2,F4,rel4,ei⟩⟩
  ·cases ei
  ·exact .inr ⟨ρ1,ts++hs,F3,c,ρ',rel3,ei,λC ea s' hC T=>q C ea s' hC T.hold⟩
 ·have hn:i=ir.items.length:=by omega
  subst hn
  rw[Zbx]at ei
  cases ei
end
noncomputable abbrev QyV:List Value:=[.type "ValueError",.type "Exception",.type "BaseException",.type "object"]
structure Qh9 (K:PySem.W.Frag) (x:Str):Prop where
 ex:∃C,ClsAt K x C/\PySem.W.excIn K C QyV "ValueError.__new__" =true
theorem QsA{K:PySem.W.Frag}{C:Addr}{bmB:List Value}{newId:String}(q:PySem.W.excIn K C bmB newId=true){h:Heap}(X:K.In h):∃bm N nm qn bs hdct sn sub ab col dd k0 k1 k2 k3 k5 mN,
  h.get? C=some (excClassObj nm qn C N bs bm hdct sn sub ab col dd k0 k1 k2 k3 k5 newId)/\h.Ns N mN/\mN "__init__" =none/\OwnTail h bmB bm:=by
 rw[PySem.W.excIn.eq_def]at q
 split at q
 case h_2=>cases q
 rename_i dd cd sl ho
 split at q
 case h_2=>cases q
 rename_i C1 bm k0 k1 k2 k3 nid k5 em es
 simp only[Zi,beq_iff_eq,Zaw]at q
 obtain⟨⟨⟨⟨⟨z1,z2⟩,nodel⟩,tl⟩,okN⟩,noInit⟩:=q
 subst z1 z2
 have hget:=X _ _ ho
 have hsl:sl= #[k0,k1,k2,k3,some (.builtin nid),k5]:=Array.ext' es
 rw[hsl]at hget
 refine⟨bm,cd.ns,cd.name,cd.qualname,cd.bases,cd.hasDict,cd.slotNames,cd.subclasses,cd.abstract,cd.collection,dd,k0,k1,k2,k3,k5,_,?_,.of_isNs (PySem.W.isNs_of_in X okN),PySem.W.nsMap_none_of_in X okN noInit,PySem.W.tail_of_in X tl⟩
 rw[hget]
 cases cd with
 | mk c1 c2 c3 c4 c5 c6 c7 c8 c9 c10 c11=>
  dsimp only at em nodel
  rw[em,nodel]
section
variable {X:Cx}{e:Expr}{fs:DA}{x:Str}{np cpos pos:Pos}
theorem Qtf(hc:X.calm=true)(hg:Gl X x)(hk:Qh9 X.K x)(hdb:(x == ("__debug__" :Str))=false)(ha:SA X [e] fs)(he:starEach [e] X.env=(false,eval e X.env)::starEach [] X.env):
  Rz X (.Raise (some (.Call (.Name x np) [e] [] cpos)) none pos) (QfC x fs):=λH0 A0 pins s σ H Dd I ⟨ρ,hs,F,c,ρ',rel,ex,q⟩=>by
 obtain⟨ra,e1,e2⟩:=bind1 ex
 split at e2
 case isFalse=>cases e2
 rename_i hl
 cases e2
 obtain⟨C,hC,hq⟩:=hk.ex
 obtain⟨bm,N,nm,qn,bs,hdct,sn,sub,ab,col,dd,k0,k1,k2,k3,k5,mN,o1,o2,o3,o4⟩:=QsA hq I.ok.mod.kin
 have hm:X.mg x=some (.ref C):=ZaQ I.ok.mod.kin I.ok.mod.glob hC
 refine wpAny_Raise_call_subT (C:=C) (nm:=nm) (q:=qn) (N:=N) (bs:=bs) (bm:=bm) (hdct:=hdct) (sn:=sn) (sub:=sub) (ab:=ab) (col:=col) (dd:=dd) (k0:=k0) (k1:=k1) (k2:=k2) (k3:=k3) (k5:=k5)
  PySem.F.excBase_ValueError (mN:=mN) (o4.hasType PySem.F.excBase_ValueError.hasBase) (I.ok.hd hc) (by rw[he];rfl) o3 (Qex I hg hm ⟨rfl,?_⟩ hdb)
 have hargs:=ha H0 A0 cpos pins s σ H (λvs H1=>∃G,Qpj X.K ρ F H H1 ra vs G) I ⟨ρ,hs,F,ra,rel,e1,λvs H1 G p1=>⟨G,p1⟩⟩
 rw[he]at hargs ⊢
 refine Calls.evalArgs_plain (thn hargs λus s2 ⟨vs,H1,I1,rv,G,p1⟩=>⟨rfl,?_,I1.bk _ _ o1,o2.keeps I1.bk,o4.keeps I1.bk,λh' ea hm=>?_⟩)
 ·show us.length<=sizeLine
  rw[← rv.length,← p1.rp.length]
  exact Zq hl (by decide)
 ·exact q C ea _ hC ⟨pins,σ,H1,F,rel.ext p1.same,.inl ⟨s2,us,I1,hm,rfl,rfl⟩⟩
end
end HS
namespace HS
open PySem PySem.Spec L2 PyProof.Rows
structure ThX where
 Γx:List (Str×(Nat×(List D->Option Str)))
 cls:List Str
structure XOk (X:Cx) (ΘX:ThX):Prop where
 ex:X.ex=[]
 stk:X.stack=X.env::X.outer
 fr:X.env.frame=some X.env.locals
 fx:∀x r,look x ΘX.Γx=some r->∃k f fd ps,Qck X.prog X.w X.K X.mg X.base (CXR X.prog X.w) k f fd ps (spX X.K r.1 r.2)/\Qa1 k X.A/\X.mg x=some (.ref f)/\PySem.W.keepIn X.K (.ref f)=true/\Binds X.K fd ps []/\ps.length=r.1
 cl:∀x∈ΘX.cls,Qh9 X.K x
noncomputable def xcE(n:Nat)(Θ:Th)(ΘX:ThX)(e:Expr):DX:=match e with
 | .Call (.Name x _) (a::as) [] _=>if Θ.gl x then(match look x ΘX.Γx with
  | some r=>(match Qba n Θ (a::as)with | some fs=>QbK r.1 r.2 fs | none=>xNo)
  | none=>xNo)else xNo
 | _=>xNo
mutual
noncomputable def QjU(n:Nat)(Θ:Th)(ΘX:ThX)(st:Stmt):Option DX:=match n with
 | 0=>none
 | n+1=>match st with
  | .Raise (some (.Call (.Name x _) [a] [] _)) none _=>if Θ.gl x && ΘX.cls.contains x then(Qba n Θ [a]).map λfs=>QfC x fs else none
  | .Expr e _=>some (xcE n Θ ΘX e)
  | .Return (some e) _=>some (xcE n Θ ΘX e)
  | .Assign [.Name x _] e _=>(Θ.QbT x).map λ_=>xcE n Θ ΘX e
  | .If c a b _=>(QaN n Θ c).bind λg=>(Qds n Θ ΘX a).bind λfa=>(Qds n Θ ΘX b).map λfb=>xIf g fa fb
  | .For tg iter body [] _=>(Qfn Θ tg).bind λt=>(QeV n Θ tg iter).bind λfi=>(Qai n Θ body).bind λfb=>(Qds n Θ ΘX body).map λfx=>Qv5 fi t fb fx
  | _=>some xNo
noncomputable def Qds(n:Nat)(Θ:Th)(ΘX:ThX)(sts:List Stmt):Option DX:=match n with
 | 0=>none
 | n+1=>match sts with
  | []=>some xNo
  | st::r=>(Qkd n Θ st).bind λf=>(QjU n Θ ΘX st).bind λfx=>(Qds n Θ ΘX r).map λfr=>Qaa f fx fr
end
section
variable {X:Cx}{Θ:Th}{ΘX:ThX}
theorem Qj8{e:Expr}:RzE X e xNo:=λH0 A0 pins s σ H Q I ⟨ρ,hs,F,x,ρ',rel,e,q⟩=>by cases e
theorem Qnm{n:Nat}(ok:Q0 X Θ)(xk:XOk X ΘX)(e:Expr):RzE X e (xcE n Θ ΘX e)/\(xcE n Θ ΘX e≠xNo->∃x p a as pos,e= .Call (.Name x p) (a::as) [] pos):=by
 unfold xcE
 split
 ·rename_i x p a as pos
  refine⟨?_,λ_=>⟨x,p,a,as,pos,rfl⟩⟩
  split
  ·rename_i hg
   obtain⟨g1,g2,g3⟩:=QbW ok.toCtxB hg
   split
   ·rename_i r hr
    split
    ·rename_i fs hfs
     obtain⟨k,f,fd,ps,F1,F2,F3,F4,F5,F6⟩:=xk.fx x r hr
     obtain⟨s1,s2⟩:=callArgs (X:=X) hfs rfl pos
     exact Qt6 F1 F2 g1 F3 F4 F5 xk.ex F6 ((Qbu n).A X Θ _ fs ok hfs) g2 s1 s2
    ·exact Qj8
   ·exact Qj8
  ·exact Qj8
 ·exact⟨Qj8,λh=>absurd rfl h⟩
structure QwC (n:Nat):Prop where
 X:∀X Θ ΘX st f,Q0 X Θ->XOk X ΘX->QjU n Θ ΘX st=some f->Rz X st f
 Xs:∀X Θ ΘX sts f,Q0 X Θ->XOk X ΘX->Qds n Θ ΘX sts=some f->RzS X sts f
theorem Qwb{n:Nat}(ih:QwC n):∀X Θ ΘX st f,Q0 X Θ->XOk X ΘX->QjU (n+1) Θ ΘX st=some f->Rz X st f:=by
 intro X Θ ΘX st f ok xk h
 have hN:X.N.Nodup:=by rw[ok.N];exact ok.nd
 rw[QjU.eq_def]at h
 dsimp only at h
 split at h
 ·rename_i x np a cpos pos
  split at h
  ·rename_i hc
   simp only[Zi]at hc
   obtain⟨fs,h1,rfl⟩:=Zb.mp h
   obtain⟨g1,g2,g3⟩:=QbW ok.toCtxB hc.1
   obtain⟨s1,s2⟩:=callArgs (X:=X) h1 rfl pos
   exact Qtf ok.calm g1 (xk.cl x (by simpa using hc.2)) g2 ((Qbu n).A X Θ _ fs ok h1) s1
  ·cases h
 ·rename_i e pos
  cases h
  obtain⟨h1,h2⟩:=Qnm (n:=n) ok xk e
  by_cases hz:xcE n Θ ΘX e=xNo
  ·rw[hz];exact QpS
  ·obtain⟨x,p,a,as,pos',rfl⟩:=h2 hz
   exact Qum h1 rfl
 ·rename_i e pos
  cases h
  exact Qwf (Qnm (n:=n) ok xk e).1
 ·rename_i x p e pos
  obtain⟨i,hi,rfl⟩:=Zb.mp h
  obtain⟨g1,g2,g3⟩:=Qcm ok.toCtxB hi
  obtain⟨h1,h2⟩:=Qnm (n:=n) ok xk e
  by_cases hz:xcE n Θ ΘX e=xNo
  ·rw[hz];exact QpS
  ·obtain⟨x,p,a,as,pos',rfl⟩:=h2 hz
   exact QwQ hN g1 g2 g3 h1 (Qc4 rfl)
 ·rename_i c a b pos
  obtain⟨g,h1,h⟩:=bind1 h
  obtain⟨fa,fb,h2,h3,rfl⟩:=QP h
  exact QxV ((Qbu n).T X Θ c g ok h1) (ih.Xs X Θ ΘX a fa ok xk h2) (ih.Xs X Θ ΘX b fb ok xk h3)
 ·rename_i tg iter body pos
  obtain⟨t,h1,h⟩:=bind1 h
  obtain⟨fi,h2,h⟩:=bind1 h
  obtain⟨fb,fx,h3,h4,rfl⟩:=QP h
  obtain⟨i1,i2⟩:=(Qbu n).I X Θ tg iter fi ok h2
  exact QwG ok.pass ok.calm i1 (Qkg ok h1) ((Qih n).Ss X Θ body fb ok h3) (ih.Xs X Θ ΘX body fx ok xk h4) i2
 ·cases h
  exact QpS
theorem QpW:∀n,QwC n
 | 0=>⟨λ_ _ _ _ _ _ _ h=>(by rw[QjU.eq_def]at h;cases h),λ_ _ _ _ _ _ _ h=>(by rw[Qds.eq_def]at h;cases h)⟩
 | n+1=>by
  have ih:=QpW n
  refine⟨Qwb ih,λX Θ ΘX sts f ok xk h=>?_⟩
  rw[Qds.eq_def]at h
  dsimp only at h
  split at h
  ·cases h;exact Qvf
  ·rename_i st r
   obtain⟨fs,h1,h⟩:=bind1 h
   obtain⟨fx,fr,h2,h3,rfl⟩:=QP h
   exact Qsh ((Qih n).S X Θ st fs ok h1) (ih.X X Θ ΘX st fx ok xk h2) (ih.Xs X Θ ΘX r fr ok xk h3)
end
noncomputable def QbS(k:Nat)(f:DX):List D->Option Str:=λds=>(f (Qc8 k ds)).map (·.1)
section
variable (P:Program) (w:World) (K:PySem.W.Frag) (mg:Str->Option Value) (base:Heap)
def Qgu(k:Nat)(x:Str)(r:Nat×(List D->Option Str)):Prop:=∃f fd ps,Qck P w K mg base (CXR P w) k f fd ps (spX K r.1 r.2)/\mg x=some (.ref f)/\PySem.W.keepIn K (.ref f)=true/\Binds K fd ps []/\ps.length=r.1
def QeR(k:Nat)(Γx:List (Str×(Nat×(List D->Option Str)))):Prop:=∀x r,look x Γx=some r->Qgu P w K mg base k x r
end
section
variable {P:Program}{w:World}{K:PySem.W.Frag}{mg:Str->Option Value}{base:Heap}
theorem QeR.nil{k:Nat}:QeR P w K mg base k []:=λx r h=>by cases h
theorem Qgu.mono{j k:Nat}{x:Str}{r:Nat×(List D->Option Str)}(h:Qgu P w K mg base j x r)(hk:j<=k):Qgu P w K mg base k x r:=by
 obtain⟨f,fd,ps,h1,h2⟩:=h
 exact⟨f,fd,ps,h1.mono hk,h2⟩
theorem QeR.mono{j k:Nat}{Γ:List (Str×(Nat×(List D->Option Str)))}(t:QeR P w K mg base j Γ)(hk:j<=k):QeR P w K mg base k Γ:=λx r e=>(t x r e).mono hk
theorem QeR.cons{k:Nat}{Γ:List (Str×(Nat×(List D->Option Str)))}{x:Str}{r:Nat×(List D->Option Str)}(t:QeR P w K mg base k Γ)(h:Qgu P w K mg base (k+1) x r):QeR P w K mg base (k+1) ((x,r)::Γ):=λy q e=>by
 unfold look at e
 split at e
 ·rename_i z;cases e;subst z;exact h
 ·exact(t y q e).mono (Zw _)
theorem Qil{h:Heap}{x:Str}{st:Stmt}{ps:List Str}{k n:Nat}{Γ:List (Str×FnR)}{Γx:List (Str×(Nat×(List D->Option Str)))}{cls:List Str}{cs:List (Str×Int)}{g:DX}(X:K.In h)(G:h.Ns mainGlobals mg)(F:Fact K x st)(S:Qb9 (namesOf (Qj st)) ps (Qj st))(B:Qw x st ps)(M:Qe0 mg cs)(tab:QcT P w K mg base k Γ)(tabx:QeR P w K mg base k Γx)
  (hcl:∀x∈cls,Qh9 K x) (hc:Qds n (Qfk st Γ cs) ⟨Γx,cls⟩ (QaT st)=some g):Qgu P w K mg base (k+1) x (ps.length,QbS (namesOf (Qj st)).length g):=by
 obtain⟨f,fd,Fn,a⟩:=F.ex
 refine⟨f,fd,ps,?_,ZaQ X G a,Fn.kp,Fn.binds (B ·),rfl⟩
 obtain⟨oc,od,kV,doc,pm,an,cdv,ct,osl,rfl,lk,hcd⟩:=Fn.ex
 refine QtE lk hcd S (Qvq rfl) λA outer s H vs Q E hr hsp=>?_
 obtain⟨ds,L,y,rps,hl,hd,hE⟩:=hsp
 have ok:Q0 (QeS (CXR P w) P w K mg base (namesOf (Qj st)) x (Qj st) f cdv A outer s H E) (Qfk st Γ cs):=Qoq (CX:=CXR P w) (E:=E) S M tab hr PassesOwn.leaving
 have xk:XOk (QeS (CXR P w) P w K mg base (namesOf (Qj st)) x (Qj st) f cdv A outer s H E) ⟨Γx,cls⟩:=⟨rfl,rfl,rfl,λz r e=>by
  obtain⟨f',fd',ps',h1,h2,h3,h4,h5⟩:=tabx z r e
  exact⟨k,f',fd',ps',h1,hr,h2,h3,h4,h5⟩,hcl⟩
 refine⟨_,(QpW n).Xs _ _ _ _ g ok xk hc H L,?_⟩
 obtain⟨F0,rel⟩:=QhT (N:=namesOf (Qj st)) rps
 obtain⟨⟨y',ρ'⟩,e1,e2⟩:=Zb.mp hd
 cases e2
 exact⟨_,[],F0,y',ρ',rel,e1,λC ea s' hC T=>QnQ rfl rfl rfl rfl rfl rfl rfl T λH' sm=>hE C H' hC sm⟩
end
end HS
namespace HS
open PySem PySem.Spec L2 PyProof.Rows
section
variable {X:Cx}{pins:List (Addr×Obj)}{σ:L2.St}{H:Hp}{s s':Shared}{B:Heap}
theorem QlL{h h':Heap}{c:Addr}{v:Option Value}(up:h.UpToSlots h')(z:h.IsCell c v):h'.IsCell c v:=by
 obtain⟨o,e,d⟩:=z
 obtain⟨sl,e'⟩:=up c o e λvs q=>by rw[d]at q;cases q
 exact⟨_,e',d⟩
theorem Qko(I:Inv X pins σ H s)(ho:s'.os=s.os)(hg:AllBare s'.gens)(hx:X.ex=[])(b1:B.StaysIn s.heap)(b2:B.StaysIn s'.heap)(up:s.heap.UpToSlots s'.heap)(cov:Cov H B)
  (old:∀b o,X.s₀.heap.get? b=some o->b∉X.fs->∃o',B.get? b=some o') (pb:∀p∈X.pn++pins,∃o,B.get? p.1=some o):Inv X pins σ H s' where
 ok:=I.ok
 os:=ho.trans I.os
 bare:=hg
 base:=by
  have hb:=I.base
  rw[hx]at hb ⊢
  exact Qng hb b1 b2 up old (λb o e hb=>Qkc I.ok e hb) I.ok.frf
 loc:=by
  obtain⟨m,hn,hl⟩:=I.loc
  refine⟨m,up.ns hn,λi x v e1 e2 e3=>?_⟩
  obtain⟨u,r,q⟩:=hl i x v e1 e2 e3
  refine⟨u,r,?_⟩
  rcases q with q | ⟨k,c,e,z⟩
  ·exact .inl q
  ·exact .inr ⟨k,c,e,QlL up z⟩
 cell:=λx c e=>by
  obtain⟨v,z⟩:=I.cell x c e
  exact⟨v,QlL up z⟩
 free:=I.free
 freeC:=I.freeC
 pin:=λp hp=>by
  obtain⟨e,n,ne,nf,d⟩:=I.pin p hp
  obtain⟨o,eo⟩:=pb p hp
  have:=b1 _ _ eo
  rw[e]at this
  cases this
  exact⟨b2 _ _ eo,n,ne,nf,d⟩
 hok:=Qlg I.hok b1 b2 cov
 len:=I.len
theorem Qvg{ea C:Addr}{a0:Value}(I:Inv X pins σ H s)(hx:X.ex=[])(fl:Heap.FlyingW B X.stack ea (.ref C) a0 s.heap)(cov:Cov H B)(old:∀b o,X.s₀.heap.get? b=some o->b∉X.fs->∃o',B.get? b=some o')
  (pb:∀p∈X.pn++pins,∃o,B.get? p.1=some o):H ea=none/\Inv X pins σ (upd H ea (.ext (QdI ea C))) s:=by
 obtain⟨oe,vs,he,hc,hd,_⟩:=fl.first
 have ne:∀{b o},B.get? b=some o->b≠ea:=λ{b o} e z=>by rw[z,fl.2.1]at e;cases e
 have hn:H ea=none:=by
  cases q:H ea with
  | none=>rfl
  | some u=>obtain⟨o,e⟩:=cov ea u q;exact absurd rfl (ne e)
 have nd:∀{b o},s.heap.get? b=some o->(∀vs,o.data≠ .fields vs)->b≠ea:=λ{b o} e h z=>by
  rw[z,he]at e
  cases e
  exact h vs hd
 have tr:∀b u,H b=some u->upd H ea (.ext (QdI ea C)) b=some u:=λb u e=>by
  obtain⟨o,eo⟩:=cov b u e
  rw[QF (ne eo)];exact e
 refine⟨hn,I.ok,I.os,I.bare,⟨I.base.keep,I.base.slot,λb o e n hxx=>?_,I.base.there,λb xs q=>tr _ _ (I.base.tups b xs q),λb o u q=>tr _ _ (I.base.frzs b o u q),λb ps q=>?_⟩,I.loc,I.cell,?_,λx c e=>?_,λp hp=>?_,λb u e=>?_,I.len⟩
 ·rw[QF]
  ·exact I.base.free b o e n hxx
  ·by_cases hb:b∈X.fs
   ·obtain⟨sl,e1⟩:=I.base.slot b o e n hb hxx
    exact nd e1 λvs q=>Qkc I.ok e hb vs q
   ·obtain⟨o',e1⟩:=old b o e hb
    exact ne e1
 ·obtain⟨more,q⟩:=I.base.tbls b ps q
  exact⟨more,tr _ _ q⟩
 ·rw[QF]
  ·exact I.free
  ·obtain⟨m,⟨o,es,ep,e,d,_⟩,_⟩:=I.loc
   exact nd e λvs q=>by rw[d]at q;cases q
 ·rw[QF]
  ·exact I.freeC x c e
  ·obtain⟨v,o,eo,d⟩:=I.cell x c e
   exact nd eo λvs q=>by rw[d]at q;cases q
 ·obtain⟨e,n,ne',nf,d⟩:=I.pin p hp
  obtain⟨o,eo⟩:=pb p hp
  exact⟨e,by rw[QF (ne eo)];exact n,ne',nf,d⟩
 ·by_cases hb:b=ea
  ·subst hb
   rw[Q1]at e
   cases e
   refine⟨⟨oe,vs,he,hc,hd⟩,⟨oe,he⟩,λh1 h2 ⟨o,w,e1,e2,e3⟩ k=>⟨o,w,k _ e1,e2,e3⟩⟩
  ·rw[QF hb]at e
   exact(I.hok b u e).Qf1 (λc v _ q=>q) (λc q=>tr _ _ q) λc xs q=>tr _ _ q
theorem QjR{M:Model}{A:Around}{E:Value->Shared->Prop}{i:Nat}{x:Str}{pos:Pos}{Q:Unit->Shared->Prop}(I:Inv X pins σ H s)(hN:X.N.Nodup)(hi:X.N[i]? =some x)(hx:X.env.scope.names.lookup x=some .local)
  (h:∀s',Inv X pins (σ.set i none) H s'->Q () s'):wpAny M A (do bindName X.env x .none;unbindBehindTheSuite X.env x pos) Q E s:=by
 refine wpAny_bind (wpAny_bindName (QgF (v:= .non) I hN hi (.inl hx) rfl (λs1 I1=>?_) (.inr hx)))
 have hcls:(X.env.scope.kind == .class || (X.env.scope.kind == .module && X.env.locals != X.env.globals))=false:=by rw[I.ok.kind];rfl
 have hiσ:i<σ.length:=by rw[I.len];exact(Zf.mp hi).1
 obtain⟨m,hn,hl⟩:=id I1.loc
 obtain⟨u,_,q⟩:=hl i x .non hi (Zg hiσ) (.inl hx)
 have hm:m x=some u:=by
  rcases q with⟨_,e⟩ | ⟨k,_⟩
  ·exact e
  ·have hx':X.env.kindOf x=some .local :=hx
   rcases k with k | k<;>rw[hx']at k<;>cases k
 unfold unbindBehindTheSuite
 refine wpAny_onRaise (wpAny_unbindName_local hx hn hm hcls λh' u' hn' hs=>h _ ?_)
 have cne:=I1.cne
 obtain⟨oL,_,_,hoL,_⟩:=id hn
 refine⟨I1.ok,I1.os,I1.bare,⟨λb o e n hb hx=>?_,λb o e n hb hx=>?_,I1.base.free,λb o e hx=>?_,I1.base.tups,I1.base.frzs,I1.base.tbls⟩,⟨_,hn',λj y v' e1 e2 e3=>?_⟩,λy c e=>?_,I1.free,I1.freeC,λp hp=>?_,λb ob e=>?_,by simpa using I1.len⟩
 ·exact(hs.2 b (ZI (Zm (Zr e) I.ok.above))).trans (I1.base.keep b o e n hb hx)
 ·obtain⟨sl,e1⟩:=I1.base.slot b o e n hb hx
  exact⟨sl,(hs.2 b (ZI (Zm (Zr e) I.ok.above))).trans e1⟩
 ·obtain⟨o',e1⟩:=I1.base.there b o e hx
  exact⟨o',(hs.2 b (ZI (Zm (Zr e) I.ok.above))).trans e1⟩
 ·by_cases hj:j=i
  ·subst hj
   rw[Zg hiσ]at e2
   cases e2
  ·rw[Zc (Ne.symm hj)]at e2
   have e2':(σ.set i (some V.non))[j]? =some (some v'):=by rw[Zc (Ne.symm hj)];exact e2
   obtain⟨u1,r1,q1⟩:=hl j y v' e1 e2' e3
   refine⟨u1,r1,?_⟩
   rcases q1 with⟨k,e⟩ | ⟨k,c,e,z⟩
   ·refine .inl ⟨k,?_⟩
    have:y≠x:=λe=>hj (Qjs hN e1 (e▸hi))
    simp[this,e]
   ·exact .inr ⟨k,c,e,z.sameBut hs (cne y c e)⟩
 ·obtain⟨w',z⟩:=I1.cell y c e
  exact⟨w',z.sameBut hs (cne y c e)⟩
 ·obtain⟨e,n,ne,nf,d⟩:=I1.pin p hp
  exact⟨(hs.2 p.1 ne).trans e,n,ne,nf,d⟩
 ·refine(I1.hok b ob e).Qf1 (λc w' hc q=>(hs.2 c ?_).trans q) (λ_ q=>q) λ_ _ q=>q
  rintro rfl
  have hfree:=I1.free
  rcases hc with rfl | hc
  ·rw[hfree]at e;cases e
  ·rw[hfree]at hc;cases hc
end
end HS
namespace HS
open PySem PySem.Spec L2 PyProof.Rows
noncomputable abbrev inH(X:Cx)(ea:Addr):Cx:={X with A:=X.A.mark (some (.ref ea)),calm:=false,xe:=λ_ _=>False}
def Fly(X:Cx)(pins:List (Addr×Obj))(H:Hp)(ea C:Addr)(s:Shared):Prop:=∃B a0,Heap.FlyingW B X.stack ea (.ref C) a0 s.heap/\Cov H B/\(∀b o,X.s₀.heap.get? b=some o->b∉X.fs->∃o',B.get? b=some o')/\∀p∈X.pn++pins,∃o,B.get? p.1=some o
section
variable {X:Cx}{pins:List (Addr×Obj)}{σ:L2.St}{H:Hp}{s s':Shared}{B:Heap}{ea C:Addr}
theorem _root_.L2.Inv.inH(I:Inv X pins σ H s):Inv (HS.inH X ea) pins σ H s:=
 ⟨⟨I.ok.mod,I.ok.kind,I.ok.glob,I.ok.blt,I.ok.above,I.ok.inj,I.ok.has,I.ok.cab,λz=>(by cases z),I.ok.frames,I.ok.stk,I.ok.exf,I.ok.bs,I.ok.bsz,I.ok.noex,I.ok.exfs,I.ok.Qd3,I.ok.frf⟩,I.os,I.bare,I.base,I.loc,I.cell,I.free,I.freeC,I.pin,I.hok,I.len⟩
theorem _root_.L2.Inv.Qf2(ok:X.Ok)(I:Inv (HS.inH X ea) pins σ H s):Inv X pins σ H s:=⟨ok,I.os,I.bare,I.base,I.loc,I.cell,I.free,I.freeC,I.pin,I.hok,I.len⟩
theorem Qn9{E:Value->Shared->Prop}{Qk:Shared->Prop}{H0:Hp}{A0:List Addr}{hs:List (V×D×List Addr)}{ρ:En}(T:Qgg X H0 A0 hs ρ (.ref C) ea s')(hx:X.ex=[])(hst:X.stack=X.env::X.outer)(hf:X.env.frame=some X.env.locals)
  (k:∀pins σ H F s'',Rel X.K H0 A0 hs ρ F σ H->Inv X pins σ H s''->Fly X pins H ea C s''->Qk s''):
  wpAny (model X.prog X.w) X.A (noteFrame (.ref ea) X.env) (λ_ s₂=>wpAny (model X.prog X.w) X.A (setFlight (.ref ea) none) (λ_ s₃=>Qk s₃) E s₂) E s':=by
 obtain⟨pins,σ,H,F,rel,⟨sg,args,I,hm,ho,hg⟩ | ⟨B,a0,I,fl,cov,old,pb⟩⟩:=T
 ·obtain⟨B,b1,b2,cov,old,pb⟩:=QnW I hx
  have hfr:=I.ok.frames
  rw[hst]at hfr b2
  obtain⟨t,he,htn,ht⟩:=hm.there
  have fresh:B.get? ea=none:=by
   cases q:B.get? ea with
   | none=>rfl
   | some o=>have:=b1 _ _ q;rw[hm.new]at this;cases this
  have note:∀Q:Unit->Shared->Prop,(∀h',Heap.NotedW B (X.env::X.outer) ea (.ref C) (.ref t) (rawInt X.env.locals) s'.heap h'->Q () {s' with heap:=h'})->wpAny (model X.prog X.w) X.A (noteFrame (.ref ea) X.env) Q E s':=λQ hq=>by
   unfold noteFrame
   simp only[hf]
   refine wpAny_bind (wpAny_field (x:= .none) he rfl rfl ?_)
   rw[if_neg (by decide)]
   exact wpAny_entryW (a0:= .ref t) hfr (b2.of_keeps λb o hb _=>⟨o,hm.keeps b o hb,rfl⟩) hf he (λb o hb=>hm.keeps b o (b1 b o hb)) fresh rfl (by show 1<6;decide) rfl hq
  refine note _ λh1 ⟨n1,n2,n3,n4⟩=>?_
  refine wpAny_landsW (s:={s' with heap:=h1}) (L:=X.env.locals) ⟨n1,fresh,n2,n3⟩ λh2 fl up=>?_
  have up':sg.heap.UpToSlots h2:=((Heap.UpToSlots.of_keeps hm.keeps).trans n4).trans up
  refine k pins σ H F _ rel (Qko I ho (by show AllBare s'.gens;rw[hg];exact I.bare) hx b1 fl.1 up' cov old pb) ⟨B,_,by rw[hst];exact fl,cov,old,pb⟩
 ·have hfr:=I.ok.frames
  rw[hst]at hfr fl
  refine wpAny_looks_onW hfr hf fl λh1 hd up1=>?_
  refine wpAny_landsW (s:={s' with heap:=h1}) hd λh2 fl2 up2=>?_
  exact k pins σ H F _ rel (Qko I rfl I.bare hx fl.1 fl2.1 (up1.trans up2) cov old pb) ⟨B,a0,by rw[hst];exact fl2,cov,old,pb⟩
def Qo0(K:PySem.W.Frag)(sub:Str->Str->Option Bool):Prop:=∀x y b,sub x y=some b->∃C c,ClsAt K x C/\PySem.W.KtsName K y c/\PySem.W.exmOne K (.ref C) c=some b
theorem QrB{E:Value->Shared->Prop}{y:Str}{c:Value}{np:Pos}{Q:Value->Shared->Prop}(I:Inv X pins σ H s)(hg:Gl X y)(hdb:(y == ("__debug__" :Str))=false)(k:PySem.W.KtsName X.K y c)(h:Q c s):wpAny (model X.prog X.w) X.A (eval (.Name y np) X.env) Q E s:=by
 rcases k with k | ⟨k1,k2,k3⟩
 ·exact Qex I hg (ZaQ I.ok.mod.kin I.ok.mod.glob k) h hdb
 ·exact Qc5 I hg (PySem.W.mg_none_of I.ok.mod.kin I.ok.mod.glob k1) k2 h k3 hdb
theorem QdS{K:PySem.W.Frag}{x:Str}{C C':Addr}(a:ClsAt K x C)(b:ClsAt K x C'):C=C':=by
 unfold ClsAt at a b
 rw[a]at b
 exact Value.ref.inj (Option.some.inj (Option.some.inj b))
theorem Rel.Qk7{K:PySem.W.Frag}{H0:Hp}{A0:List Addr}{hs:List (V×D×List Addr)}{ρ:En}{F:Nat->List Addr}{i:Nat}(r:Rel K H0 A0 hs ρ F σ H):Rel K H0 A0 hs (ρ.set i none) F (σ.set i none) H:=by
 have w:=r.weak (Qc1 (ρ:=ρ) i)
 refine⟨by simpa using r.len,λj d b e=>?_,w.own,w.src,w.held,w.same⟩
 obtain⟨v,h1,h2⟩:=w.val j d b e
 refine⟨v,?_,h2⟩
 by_cases hj:i=j
 ·subst hj
  exfalso
  by_cases hl:i<ρ.length
  ·rw[Zg hl]at e;cases e
  ·rw[Zk (by simp;omega)]at e;cases e
 ·rw[Zc hj];exact h1
noncomputable def Qwh(i:Nat):Out->Out
 | .nx ρ=> .nx (ρ.set i none)
 | .bk ρ=> .bk (ρ.set i none)
 | .ct ρ=> .ct (ρ.set i none)
 | .rt d fr=> .rt d fr
noncomputable abbrev Hd:=Str×Option Nat×DS
noncomputable def Qjr(sub:Str->Str->Option Bool)(x:Str)(ρ:En):List Hd->Option Out
 | []=>none
 | h::r=>(sub x h.1).bind λb=>if b=true then(match h.2.1 with
  | none=>h.2.2 ρ
  | some i=>(h.2.2 (ρ.set i (some (.exc x,true)))).map (Qwh i))else Qjr sub x ρ r
noncomputable def QdX(f:DS)(fx:DX)(sub:Str->Str->Option Bool)(hl:List Hd):DS:=λρ=>match f ρ with
 | some o=>some o
 | none=>(fx ρ).bind λq=>Qjr sub q.1 q.2 hl
inductive QhR (X:Cx):List ExceptHandler->List Hd->Prop
 | nil:QhR X [] []
 | bare {y:Str}{np pos:Pos}{b₀:Stmt}{suite:List Stmt}{r:List ExceptHandler}{hr:List Hd}{f:DS}(hg:Gl X y) (hdb:(y == ("__debug__" :Str))=false) (hS:∀ea,SS (inH X ea) (b₀::suite) f) (t:QhR X r hr):
   QhR X (.ExceptHandler (some (.Name y np)) none (b₀::suite) pos::r) ((y,none,f)::hr)
 | as {y n:Str}{np pos:Pos}{b₀:Stmt}{suite:List Stmt}{r:List ExceptHandler}{hr:List Hd}{f:DS}{i:Nat}(hg:Gl X y) (hdb:(y == ("__debug__" :Str))=false) (hi:X.N[i]? =some n) (hl:X.env.scope.names.lookup n=some .local) (hS:∀ea,SS (inH X ea) (b₀::suite) f) (t:QhR X r hr):
   QhR X (.ExceptHandler (some (.Name y np)) (some n) (b₀::suite) pos::r) ((y,some i,f)::hr)
theorem _root_.L2.SP.Qf2{Dd:Ends}{f:Flow}(ok:X.Ok)(h:SP (HS.inH X ea) pins Dd f s):SP X pins Dd f s:=by
 cases f with
 | next=>obtain⟨σ',H',I,q⟩:=h;exact⟨σ',H',I.Qf2 ok,q⟩
 | brk=>obtain⟨σ',H',I,q⟩:=h;exact⟨σ',H',I.Qf2 ok,q⟩
 | cont=>obtain⟨σ',H',I,q⟩:=h;exact⟨σ',H',I.Qf2 ok,q⟩
 | ret u=>obtain⟨v,σ',H',I,r,q⟩:=h;exact⟨v,σ',H',I.Qf2 ok,r,q⟩
theorem Qrx{sub:Str->Str->Option Bool}{x:Str}{H0:Hp}{A0:List Addr}{hs:List (V×D×List Addr)}{ρ:En}{Dd:Ends}{o:Out}(hN:X.N.Nodup)(hx:X.ex=[])(hsub:Qo0 X.K sub)(hC:ClsAt X.K x C):
  ∀{hds:List ExceptHandler}{hl:List Hd},QhR X hds hl->∀{F:Nat->List Addr}{σ:L2.St}{H:Hp}{s:Shared},Inv X pins σ H s->Rel X.K H0 A0 hs ρ F σ H->Fly X pins H ea C s->Qjr sub x ρ hl=some o->Fits X.K H0 A0 hs Dd o→
   wpAny (model X.prog X.w) X.A (handleBy (.ref ea) X.env hds) (SP X pins Dd) X.xe s:=by
 intro hds hl h
 have test:∀{y:Str}{np pos:Pos}{nm:Option Str}{b₀:Stmt}{suite:List Stmt}{r:List ExceptHandler}{b:Bool}{σ:L2.St}{H:Hp}{s:Shared},Gl X y->(y == ("__debug__" :Str))=false->sub x y=some b->Inv X pins σ H s->Fly X pins H ea C s→
   (b=true->codeAny (model X.prog X.w) (X.A.mark (some (.ref ea))) (.handlers (.ref ea) [.ExceptHandler none nm (b₀::suite) pos] X.env) (λr s₂=>match r with
     | .ok f=>(match nm with
      | none=>SP X pins Dd f s₂
      | some n=>wpAny (model X.prog X.w) X.A (do bindName X.env n .none;unbindBehindTheSuite X.env n pos) (λ_ s₃=>SP X pins Dd f s₃) X.xe s₂)
     | .error x=>cameBackBy (model X.prog X.w) X.A X.env X.xe x s₂) s)→
   (b=false->wpAny (model X.prog X.w) X.A (handleBy (.ref ea) X.env r) (SP X pins Dd) X.xe s)->wpAny (model X.prog X.w) X.A (handleBy (.ref ea) X.env (.ExceptHandler (some (.Name y np)) nm (b₀::suite) pos::r)) (SP X pins Dd) X.xe s:=by
  intro y np pos nm b₀ suite r b σ H s hg hdb e1 I fly ht hf
  obtain⟨C',c,k1,k2,k3⟩:=hsub x y b e1
  cases QdS hC k1
  obtain⟨B,a0,fl,_⟩:=fly
  obtain⟨ob,hob,hc⟩:=fl.there
  have LT:PySem.W.Looks (model X.prog X.w) s.heap (typeOf (.ref ea)) (.ref C):=hc▸(PySem.W.Looks.ld hob).andThen .now
  refine wpAny_handleBy_cons (codeAny_handlers_test (QrB (X:=HS.inH X ea) (I.inH (ea:=ea)) hg hdb k2 ((PySem.W.exm_one I.kIn LT k3).here ?_))) (by intro q;cases q)
  cases b with
  | true=>exact ht rfl
  | false=>exact hf rfl
 induction h with
 | nil=>intro F σ H s I rel fly e q;cases e
 | @bare y np pos b₀ suite r hr f hg hdb hS t ih=>
  intro F σ H s I rel fly e q
  obtain⟨b,e1,e⟩:=bind1 e
  refine test hg hdb e1 I fly (λhb=>?_) λhb=>?_
  ·subst hb
   rw[if_pos rfl]at e
   obtain⟨B,a0,fl,cov,old,pb⟩:=fly
   refine codeAny_handlers_suite (lands_againW fl λh' fl' up=>?_)
   have I1:=Qko (s':={s with heap:=h'}) I rfl I.bare hx fl.1 fl'.1 up cov old pb
   exact wpAny_mono (hS ea H0 A0 pins _ σ H Dd (I1.inH (ea:=ea)) ⟨ρ,hs,F,o,rel,e,q⟩) (λf s2 hq=>SP.Qf2 I.ok hq) λ_ _ z=>z.elim
  ·subst hb
   rw[if_neg ZO]at e
   exact ih I rel fly e q
 | @as y n np pos b₀ suite r hr f i hg hdb hi hl hS t ih=>
  intro F σ H s I rel fly e q
  obtain⟨b,e1,e⟩:=bind1 e
  refine test hg hdb e1 I fly (λhb=>?_) λhb=>?_
  ·subst hb
   rw[if_pos rfl]at e
   obtain⟨o1,e2,e3⟩:=Zb.mp e
   subst e3
   obtain⟨B,a0,fl,cov,old,pb⟩:=fly
   refine codeAny_handlers_suite_as (lands_againW fl λh' fl' up=>?_)
   have I1:=Qko (s':={s with heap:=h'}) I rfl I.bare hx fl.1 fl'.1 up cov old pb
   obtain⟨hn,I2⟩:=Qvg I1 hx fl' cov old pb
   have sm:QH H (upd H ea (.ext (QdI ea C))):=λb u eb=>by rw[QF (λz=>by rw[z,hn]at eb;cases eb)];exact eb
   refine QgF (X:=HS.inH X ea) (v:= .ref ea) (I2.inH (ea:=ea)) hN hi (.inl hl) rfl (λs3 I3=>?_) (.inr hl)
   obtain⟨F',rel'⟩:=(rel.ext sm).Qyu (i:=i) (d:= .exc x) (v:= .ref ea) (by rw[Rp];exact⟨⟨ea,rfl,C,hC,Q1⟩,rfl⟩) rfl
   refine wpAny_mono (hS ea H0 A0 pins _ _ _ ⟨λσ' H'=>Dd.nx (σ'.set i none) H',Dd.rt,λσ' H'=>Dd.bk (σ'.set i none) H',λσ' H'=>Dd.ct (σ'.set i none) H'⟩ I3 ⟨_,hs,F',o1,rel',e2,?_⟩) (λf s4 hq=>?_) λ_ _ z=>z.elim
   ·cases o1 with
    | nx ρ1=>exact λσ' H' F' rel'=>q _ _ _ rel'.Qk7
    | bk ρ1=>exact λσ' H' F' rel'=>q _ _ _ rel'.Qk7
    | ct ρ1=>exact λσ' H' F' rel'=>q _ _ _ rel'.Qk7
    | rt d fr=>exact q
   ·cases f with
    | next=>obtain⟨σ',H',I4,q4⟩:=hq;exact QjR (I4.Qf2 I.ok) hN hi hl λs5 I5=>⟨_,H',I5,q4⟩
    | brk=>obtain⟨σ',H',I4,q4⟩:=hq;exact QjR (I4.Qf2 I.ok) hN hi hl λs5 I5=>⟨_,H',I5,q4⟩
    | cont=>obtain⟨σ',H',I4,q4⟩:=hq;exact QjR (I4.Qf2 I.ok) hN hi hl λs5 I5=>⟨_,H',I5,q4⟩
    | ret u=>obtain⟨v,σ',H',I4,r4,q4⟩:=hq;exact QjR (I4.Qf2 I.ok) hN hi hl λs5 I5=>⟨v,_,H',I5,r4,q4⟩
  ·subst hb
   rw[if_neg ZO]at e
   exact ih I rel fly e q
noncomputable abbrev Cx.chg(X:Cx)(xe:Value->Shared->Prop)(pn:List (Addr×Obj)):Cx:={X with xe:=xe,pn:=pn}
theorem _root_.L2.Inv.chg{xe:Value->Shared->Prop}(I:Inv X pins σ H s):Inv (Cx.chg X xe (X.pn++pins)) [] σ H s:=
 ⟨⟨I.ok.mod,I.ok.kind,I.ok.glob,I.ok.blt,I.ok.above,I.ok.inj,I.ok.has,I.ok.cab,I.ok.hd,I.ok.frames,I.ok.stk,I.ok.exf,I.ok.bs,I.ok.bsz,I.ok.noex,I.ok.exfs,I.ok.Qd3,I.ok.frf⟩,I.os,I.bare,I.base,I.loc,I.cell,I.free,I.freeC,λp hp=>I.pin p (by simpa using hp),I.hok,I.len⟩
theorem _root_.L2.Inv.QjS{xe:Value->Shared->Prop}{pins':List (Addr×Obj)}(ok:X.Ok)(I:Inv (Cx.chg X xe (X.pn++pins)) pins' σ H s):Inv X pins σ H s:=
 ⟨ok,I.os,I.bare,I.base,I.loc,I.cell,I.free,I.freeC,λp hp=>I.pin p (Zh _ hp),I.hok,I.len⟩
theorem Qxk{sub:Str->Str->Option Bool}{body:List Stmt}{h₀:ExceptHandler}{hds:List ExceptHandler}{hl:List Hd}{f:DS}{fx:DX}{pos:Pos}(hN:X.N.Nodup)(hx:X.ex=[])(hst:X.stack=X.env::X.outer)(hf:X.env.frame=some X.env.locals)(hsub:Qo0 X.K sub)
  (hb:∀xe pn,PassesOwn (model X.prog X.w) X.A X.env xe->SS (Cx.chg X xe pn) body f/\RzS (Cx.chg X xe pn) body fx) (hh:QhR X (h₀::hds) hl):S1 X (.Try body (h₀::hds) [] [] pos) (QdX f fx sub hl):=λH0 A0 pins s σ H Dd I ⟨ρ,hs,F,o,rel,e,q⟩=>by
 refine wpAny_Try_except ?_
 have pass:PassesOwn (model X.prog X.w) X.A X.env (λe s₁=>wpAny (model X.prog X.w) X.A (noteFrame e X.env) (λ_ s₂=>wpAny (model X.prog X.w) X.A (setFlight e none) (λ_ s₃=>wpAny (model X.prog X.w) X.A (handleBy e X.env (h₀::hds)) (SP X pins Dd) X.xe s₃) X.xe s₂) X.xe s₁):=PassesOwn.looking
 obtain⟨b1,b2⟩:=hb _ (X.pn++pins) pass
 unfold QdX at e
 split at e
 ·rename_i o' eo
  cases e
  refine thn (b1 H0 A0 [] s σ H Dd I.chg ⟨ρ,hs,F,o,rel,eo,q⟩) λfl s1 hq=>?_
  cases fl with
  | next=>obtain⟨σ',H',I1,q1⟩:=hq;exact wpAny_execs_nil ⟨σ',H',I1.QjS I.ok,q1⟩
  | brk=>obtain⟨σ',H',I1,q1⟩:=hq;exact⟨σ',H',I1.QjS I.ok,q1⟩
  | cont=>obtain⟨σ',H',I1,q1⟩:=hq;exact⟨σ',H',I1.QjS I.ok,q1⟩
  | ret u=>obtain⟨v,σ',H',I1,r1,q1⟩:=hq;exact⟨v,σ',H',I1.QjS I.ok,r1,q1⟩
 ·obtain⟨⟨x,ρ'⟩,e1,e⟩:=bind1 e
  refine thn (b2 H0 A0 [] s σ H ⟨λ_ _=>False,λ_ _=>False,λ_ _=>False,λ_ _=>False⟩ I.chg ⟨ρ,hs,F,x,ρ',rel,e1,λC ea s' hC T=>?_⟩) λfl s1 hq=>?_
  ·refine Qn9 (X:=Cx.chg X _ (X.pn++pins)) (E:=X.xe) (Qk:=λs₃=>wpAny (model X.prog X.w) X.A (handleBy (.ref ea) X.env (h₀::hds)) (SP X pins Dd) X.xe s₃) T hx hst hf λpins' σ' H' F' s'' rel' I' fly=>?_
   obtain⟨B,a0,fl,cov,old,pb⟩:=fly
   exact Qrx hN hx hsub hC hh (I'.QjS I.ok) rel' ⟨B,a0,fl,cov,old,λp hp=>pb p (Zh _ hp)⟩ e q
  ·cases fl with
   | next=>obtain⟨σ',H',I1,q1⟩:=hq;exact q1.elim
   | brk=>obtain⟨σ',H',I1,q1⟩:=hq;exact q1.elim
   | cont=>obtain⟨σ',H',I1,q1⟩:=hq;exact q1.elim
   | ret u=>obtain⟨v,σ',H',I1,r1,q1⟩:=hq;exact q1.elim
end
end HS
namespace HS
open PySem PySem.Spec L2 PyProof.Rows PySem.W
structure Qf7 (K:Frag) (C:Addr):Prop where
 cl:(clsIn K C).isSome=true
 ga:findIn K (.ref C) "__getattribute__" =some (some (.builtin "BaseException.__getattribute__"))
 hk:findIn K (.ref C) "__getattr__" =some none
 ca:findIn K (.ref C) "__class__" =some (some (.builtin "object.__class__"))
 mo:mroIn K C (.type "object")=some true
 be:subIn K (.ref C) (.type "BaseException")=some true
section
variable {prog:Program}{w:World}{A:Around}{E:Value->Shared->Prop}{s:Shared}{K:Frag}{a C:Addr}
theorem Qh6{M:Model}{h:Heap}(x:QdI a C h):Looks M h (typeOf (.ref a)) (.ref C):=by
 obtain⟨o,vs,e,c,_⟩:=x
 exact c▸(Looks.ld e).andThen .now
theorem Qt5{R:Result->Shared->Prop}{tp:Value}(z:Qf7 K C)(X:K.In s.heap)(x:QdI a C s.heap)(h:R (.ok (.ret (.ref C))) s):
  codeAny (model prog w) A (.call (.builtin "getset_descriptor.__get__") ⟨[.builtin "object.__class__",.ref a,tp],[]⟩) R s:=by
 obtain⟨hh,g,dr,t,os⟩:=s
 have T0:=Qh6 (M:=model prog w) x
 have T1:=looks_mroIn (M:=model prog w) X z.mo
 refine codeAny_call_builtin KF.slot_gs.plain KF.entry_gs
  (KF.slot_gs.check _ _ _ _ _ _ _ _ KF.type_class (KF.args_gs _ _ _) ?_)
 unfold Builtin.«getset_descriptor.__get__» Builtin.Getset_descriptor.descrGet
 rw[dga_obj];refine wpAny_bind (wpAny_pure ?_)
 unfold Builtin.Getset_descriptor.descrGetter Builtin.Getset_descriptor.descrCheckInstance
  Builtin.Getset_descriptor.descrNameAndClass isInstance
 simp only[KF.owner_class]
 repeat lk
 refine⟨Code.quiet_builtin _ (by decide+kernel),
  codeAny_builtin KF.entry_class ?_⟩
 unfold Builtin.«object.__class__» shownTypeOf;repeat lk
 exact h
theorem QqC{tk:Tok}{Q:Fin->Shared->Prop}(z:Qf7 K C)(X:K.In s.heap)(x:QdI a C s.heap)(h:Q (.done (.ret (.ref C))) s):
  wpAny (model prog w) A (Builtin.«object.__getattribute__» ⟨[.ref a,.str "__class__" tk],[]⟩) Q E s:=by
 obtain⟨hh,g,dr,t,os⟩:=s
 have T0:=Qh6 (M:=model prog w) x
 have T1:=looks_findIn (M:=model prog w) X z.ca
 have f5:=F.typeOf_object_class
 have f6:=F.slot_gs_get.lookup
 have f7:=F.slot_gs_set.lookup
 obtain⟨o,vs,hx,hc,hd⟩:=id x
 have hT5:(⟨hh,g,dr,t,os⟩:Shared).TypeIs (.builtin "object.__class__") "getset_descriptor" :=f5
 repeat (any_goals (first | assumption | (with_reducible refine wpAny_loadPart_at hx ?_;rw[hc]) | with_reducible refine T1.at ?_ | wp_step))
 refine Qt5 z X x ?_
 repeat (any_goals (first | assumption | wp_step))
theorem QqH{M:Model}{nameV:Value}{Q:Unit->Shared->Prop}(z:Qf7 K C)(X:K.In s.heap)(x:QdI a C s.heap)(h:Q () s):wpAny M A (checkBuiltinCall "BaseException.__getattribute__" ⟨[.ref a,nameV],[]⟩) Q E s:=by
 obtain⟨hh,g,dr,t,os⟩:=s
 have k1:builtinKind "BaseException.__getattribute__" =some .slot:=by decide+kernel
 have k2:splitId "BaseException.__getattribute__" =some ("BaseException","__getattribute__"):=by decide+kernel
 have T0:=Qh6 (M:=M) x
 have T1:=looks_subIn (M:=M) X z.be
 have T2:Looks M hh (isInstance (.ref a) (.type "BaseException")) true:=T0.andThen T1
 have k3:=F.args_bexc_ga (.ref a) nameV
 simp only[checkBuiltinCall,k1,k2]
 refine wpAny_bind (T2.at ?_)
 rw[if_neg (by decide)]
 have k4:Q () ⟨hh,g,dr,t,os⟩:=h
 repeat (any_goals (first | assumption | wp_step))
theorem QvB{tk:Tok}{Q:Value->Shared->Prop}(z:Qf7 K C)(X:K.In s.heap)(x:QdI a C s.heap)(h:Q (.ref C) s):wpAny (model prog w) A (getAttrBy (.ref a) (.str "__class__" tk) false) Q E s:=by
 obtain⟨hh,g,dr,t,os⟩:=s
 have T0:=Qh6 (M:=model prog w) x
 have T1:=looks_findIn (M:=model prog w) X z.ga
 have T2:=looks_findIn (M:=model prog w) X z.hk
 have f3:=PySem.F.attr_ValueError.ga.bind (.ref a)
 have n2:(Value.builtin "BaseException.__getattribute__" == Value.builtin "object.__getattribute__")=false:=by decide+kernel
 have n1:(onTheHeap (Value.ref C) && Value.builtin "BaseException.__getattribute__" == Value.builtin "object.__getattribute__")=false:=by rw[n2];rfl
 obtain⟨o,vs,hx,hc,hd⟩:=id x
 repeat (any_goals (first | assumption | (with_reducible refine wpAny_loadPart_at hx ?_;rw[hc]) | with_reducible refine T1.at ?_ | with_reducible refine T2.at ?_ | wp_step))
 refine codeAny_call_builtin PySem.F.attr_ValueError.ga.plain F.entry_bexc_ga (QqH z X x (QqC z X x ?_))
 have k4:Q (.ref C) ⟨hh,g,dr,t,os⟩:=h
 repeat (any_goals (first | assumption | wp_step))
theorem Qsv{Q:Option Value->Shared->Prop}(z:Qf7 K C)(X:K.In s.heap)(x:QdI a C s.heap)(h:Q (some (.ref C)) {s with toks:=s.toks+1}):wpAny (model prog w) A (getAttr? (.ref a) "__class__") Q E s:=by
 obtain⟨hh,g,dr,t,os⟩:=s
 have k4:Q (some (.ref C)) ⟨hh,g,dr,t+1,os⟩:=h
 have X':K.In (⟨hh,g,dr,t+1,os⟩:Shared).heap:=X
 have x':QdI a C (⟨hh,g,dr,t+1,os⟩:Shared).heap:=x
 unfold getAttr? getAttrBy?
 repeat (any_goals (first | assumption | with_reducible apply QvB z X' x' | wp_step))
theorem QmY(z:Qf7 K C):KitX K (.ref a) (.ref C) (QdI a C) where
 ty:=λ_ _ _ x=>Qh6 x
 it:=λ_ _ X _=>by
  have h0:=z.cl
  unfold clsIn at h0
  split at h0
  ·rename_i ho
   intro A' Q' E' s' k q
   unfold isType loadHead
   refine wpAny_bind ?_
   exact wpAny_loadPart (k _ _ (X _ _ ho)) (wpAny_pure q)
  ·cases h0
 ne:=λh tp dd its n sl X htp=>by
  have h0:=z.cl
  refine Bool.eq_false_iff.mpr λq=>?_
  obtain rfl:C=tp:=Value.ref.inj (beq_iff_eq.mp q)
  unfold clsIn at h0
  split at h0
  ·rename_i ho
   have e:=X _ _ ho
   rw[htp]at e
   cases e
  ·cases h0
 ca:=λX x k=>Qsv z X x k
end
end HS
namespace HS
open PySem PySem.Spec L2 PyProof.Rows
def Qvm(K:PySem.W.Frag)(x y:Str)(b:Bool):Prop:=∃C c,ClsAt K x C/\PySem.W.KtsName K y c/\PySem.W.exmOne K (.ref C) c=some b/\PySem.W.kitOne K (.ref C) c=some b/\Qf7 K C
def QbZ(K:PySem.W.Frag)(sub:Str->Str->Option Bool):Prop:=∀x y b,sub x y=some b->Qvm K x y b
theorem QbZ.ok{K:PySem.W.Frag}{sub:Str->Str->Option Bool}(h:QbZ K sub):Qo0 K sub:=λx y b e=>by
 obtain⟨C,c,h1,h2,h3,_⟩:=h x y b e
 exact⟨C,c,h1,h2,h3⟩
noncomputable def vC:Value->V
 | .ref a=> .ref a
 | .type n=> .ty n
 | _=> .non
theorem QmQ{K:PySem.W.Frag}{C:Addr}{c:Value}{b:Bool}(h:PySem.W.kitOne K (.ref C) c=some b):RelV (vC c) c:=by
 cases c with
 | ref a=>exact rfl
 | type n=>exact rfl
 | _=>
  unfold PySem.W.kitOne at h
  split at h
  ·rename_i q;have:=beq_iff_eq.mp q;cases this
  ·cases h
noncomputable def anyS(sub:Str->Str->Option Bool)(x:Str):List Str->Option Bool
 | []=>some false
 | y::r=>(sub x y).bind λb=>(anyS sub x r).map λd=>b || d
noncomputable def QfF(sub:Str->Str->Option Bool)(ys:List Str)(fa:DE):DE:=λρ=>(fa ρ).bind λr=>match r.d with
 | .exc x=>(anyS sub x ys).map λb=>⟨.bl b,true,[]⟩
 | _=>none
section
variable {X:Cx}{a:Expr}{fa:DE}{p p2 pos:Pos}{sub:Str->Str->Option Bool}
noncomputable def QyU(K:PySem.W.Frag):List V->Hp->VK->Prop:=λxs H Q=>∃C a y,xs=[.ref a,y]/\H a=some (.ext (QdI a C))/\Qf7 K C∧
 ((∃c b,y=vC c/\PySem.W.kitOne K (.ref C) c=some b/\Q (.bl b) H)∨∃tp cs b,y= .ref tp/\H tp=some (.tup (cs.map vC))/\(∀c∈cs,RelV (vC c) c)/\PySem.W.kitAny K (.ref C) cs=some b/\Q (.bl b) H)
theorem QmJ{v:V}{c c':Value}(hv:v=vC c)(h:RelV (vC c) c)(h':RelV v c'):c'=c:=by
 subst hv
 cases c with
 | ref a=>exact h'
 | type n=>exact h'
 | none=>cases h';rfl
 | _=>cases h
theorem QmC:∀{cs:List Value}{us:List Value},(∀c∈cs,RelV (vC c) c)->Qz (cs.map vC) us->us=cs
 | [],_,_,.nil=>rfl
 | c::cs,_,h,.cons r t=>by
  rw[QmJ rfl (h c Zo) r,QmC (λc hc=>h c (Ze _ hc)) t]
theorem QmS:QeF X (.builtin "isinstance") (QyU X.K):=by
 intro pins s σ H xs us Q I r h
 obtain⟨C,a,y,rfl,hH,z,h⟩:=h
 obtain⟨u,w,rfl,ru,rw'⟩:=vals2 r
 cases(show u=Value.ref a from ru)
 have xo:QdI a C s.heap:=(show Qbx X.prog X.w H s.heap a (.ext (QdI a C))from I.hok a _ hH).1
 rcases h with⟨c,b,rfl,k,q⟩ | ⟨tp,cs,b,rfl,ht,hr,k,q⟩
 ·cases QmJ rfl (QmQ k) rw'
  exact ZaD (QmY z) I.kIn xo k (λz=>nomatch z) λtk=>⟨.bl b,H,I.tok _,rfl,q⟩
 ·cases(show w=Value.ref tp from rw')
  obtain⟨_,its,rv,o,e1,e2,n,e3⟩:=(show Qbx X.prog X.w H s.heap tp (.tup (cs.map vC))from I.hok tp _ ht)
  have hits:=QmC hr rv
  subst hits
  obtain⟨oc,od,odat,osl⟩:=o
  dsimp only at e2 e3
  subst e2 e3
  exact PySem.W.kia_tup (QmY z) I.kIn xo e1 k (λz=>nomatch z) λtk=>⟨.bl b,H,I.tok _,rfl,q⟩
theorem QqV{y:Str}{c:Value}{np:Pos}(hg:Gl X y)(hdb:(y == ("__debug__" :Str))=false)(k:PySem.W.KtsName X.K y c)(hr:RelV (vC c) c):PE X (.Name y np) (tC (vC c)):=λpins s σ H Q I h=>QrB I hg hdb k ⟨vC c,H,I,hr,h⟩
theorem Qvx{y:Str}(hsub:QbZ X.K sub)(hg:Gl X "isinstance")(hm:X.mg "isinstance" =none)(hy:Gl X y)(hdb:(y == ("__debug__" :Str))=false)(ha:SE X a fa)(he:starEach [a,.Name y p2] X.env=(false,eval a X.env)::starEach [.Name y p2] X.env):
  SE X (.Call (.Name "isinstance" p) [a,.Name y p2] [] pos) (QfF sub [y] fa):=λH0 A0 pins s σ H Q I ⟨ρ,hs,F,r',rel,e,q⟩=>by
 obtain⟨r,e1,e⟩:=bind1 e
 split at e
 ·rename_i x hd
  obtain⟨b,eb,rfl⟩:=Zb.mp e
  have eb':sub x y=some b:=by
   unfold anyS at eb
   obtain⟨b',h1,h2⟩:=bind1 eb
   cases b' with
   | true=>cases h2;exact h1
   | false=>cases h2;exact h1
  obtain⟨C,c,k1,k2,k3,k4,k5⟩:=hsub x y b eb'
  refine Qg1 QmS hg hm ZaP (Q5 (ha H0 A0) (Q5 (QqV hy hdb k2 (QmQ k4)) Qb4) he) (by decide) (by decide) he (by rfl) pins s σ H Q I ?_
  refine⟨ρ,hs,F,r,rel,e1,λv H1 G p=>?_⟩
  have rp:=p.rp
  rw[hd,Rp]at rp
  obtain⟨⟨ea,rfl,C',hC',hH⟩,rfl⟩:=rp
  cases QdS k1 hC'
  exact⟨C,ea,_,rfl,hH,k5,.inl ⟨c,b,rfl,k4,q _ H1 [] (.flat p.same .QcO)⟩⟩
 ·cases e
theorem Qri{K:PySem.W.Frag}(hK:X.K=K):∀{ys:List Str}{es:List Expr}{cs:List Value},es.map Qfw=ys.map some->(∀y∈ys,Gl X y/\(y == ("__debug__" :Str))=false)->Paired (λy c=>PySem.W.KtsName K y c/\RelV (vC c) c) ys cs→
  PA X es (λσ H Q=>Q (cs.map vC) H)
 | [],es,_,he,_,.nil=>by
  have:es=[]:=by simpa using he
  subst this
  exact Qb4
 | y::ys,[],_,he,_,_=>by simp at he
 | y::ys,e::es,_,he,hg,.cons r t=>by
  simp only[ZR,List.cons.injEq]at he
  cases e with
  | Name z p=>
   cases he.1
   obtain⟨g1,g2⟩:=hg y Zo
   subst hK
   exact(Q5 (QqV g1 g2 r.1 r.2) (Qri rfl he.2 (λy hy=>hg y (Ze _ hy)) t) rfl)
  | _=>cases he.1
theorem QqX{K:PySem.W.Frag}{x:Str}{C:Addr}(hsub:QbZ K sub)(hC:ClsAt K x C):∀(ys:List Str) (b:Bool),anyS sub x ys=some b->∃cs,Paired (λy c=>PySem.W.KtsName K y c/\RelV (vC c) c) ys cs/\PySem.W.kitAny K (.ref C) cs=some b
 | [],b,e=>by cases e;exact⟨[],.nil,rfl⟩
 | y::ys,b,e=>by
  unfold anyS at e
  obtain⟨b1,h1,e⟩:=bind1 e
  obtain⟨b2,h2,rfl⟩:=Zb.mp e
  obtain⟨C',c,k1,k2,k3,k4,k5⟩:=hsub x y b1 h1
  cases QdS hC k1
  obtain⟨cs,t,k6⟩:=QqX hsub hC ys b2 h2
  refine⟨c::cs,.cons ⟨k2,QmQ k4⟩ t,?_⟩
  unfold PySem.W.kitAny
  rw[k4]
  cases b1 with
  | true=>rfl
  | false=>exact k6
theorem Qh2{α β:Type}{F:α->β->Prop}:∀{l:List α}{m:List β},Paired F l m->∀c∈m,∃y,F y c
 | _,_,.nil,c,h=>by simp at h
 | _,_,.cons r t,c,h=>by
  rcases Zl.mp h with rfl | h
  ·exact⟨_,r⟩
  ·exact Qh2 t c h
theorem Qve{ys:List Str}{es:List Expr}{kk:Nat}{tp:Pos}(hsub:QbZ X.K sub)(hg:Gl X "isinstance")(hm:X.mg "isinstance" =none)(hl:ys.length<=60)(h0:ys≠[])(hes:es.map Qfw=ys.map some)(hy:∀y∈ys,Gl X y/\(y == ("__debug__" :Str))=false)(ha:SE X a fa)
  (he:starEach [a,.Tuple es kk tp] X.env=(false,eval a X.env)::starEach [.Tuple es kk tp] X.env):SE X (.Call (.Name "isinstance" p) [a,.Tuple es kk tp] [] pos) (QfF sub ys fa):=λH0 A0 pins s σ H Q I ⟨ρ,hs,F,r',rel,e,q⟩=>by
 obtain⟨r,e1,e⟩:=bind1 e
 split at e
 ·rename_i x hd
  obtain⟨b,eb,rfl⟩:=Zb.mp e
  by_cases hx:∃C,ClsAt X.K x C
  ·obtain⟨C,hC⟩:=hx
   by_cases hk:Qf7 X.K C
   ·obtain⟨cs,t,k⟩:=QqX hsub hC ys b eb
    refine Qg1 QmS hg hm ZaP (Q5 (ha H0 A0) (Q5 (Qno (Qri rfl hes hy t)) Qb4) he) (by decide) (by decide) he (by rfl) pins s σ H Q I ?_
    refine⟨ρ,hs,F,r,rel,e1,λv H1 G p=>?_⟩
    have hlen:(cs.map vC).length<=sizeLine:=by
     rw[Zy,← Paired.length t]
     exact Zq hl (by decide)
    refine⟨hlen,λpp hp=>?_⟩
    have rp:=p.rp
    rw[hd,Rp]at rp
    obtain⟨⟨ea,rfl,C',hC',hH⟩,rfl⟩:=rp
    cases QdS hC hC'
    have sm:QH H1 (upd H1 pp (.tup (cs.map vC))):=λb u eb=>by rw[QF (λz=>by rw[z,hp]at eb;cases eb)];exact eb
    exact⟨C,ea,_,rfl,sm _ _ hH,hk,.inr ⟨pp,cs,b,rfl,Q1,λc hc=>(Qh2 t c hc).choose_spec.2,k,q _ _ [] (.flat (p.same.trans sm) .QcO)⟩⟩
   ·exfalso
    cases ys with
    | nil=>exact h0 rfl
    | cons y ys=>
     unfold anyS at eb
     obtain⟨b1,h1,_⟩:=bind1 eb
     obtain⟨C',c,k1,k2,k3,k4,k5⟩:=hsub x y b1 h1
     cases QdS hC k1
     exact hk k5
  ·exfalso
   cases ys with
   | nil=>exact h0 rfl
   | cons y ys=>
    unfold anyS at eb
    obtain⟨b1,h1,_⟩:=bind1 eb
    obtain⟨C',c,k1,_⟩:=hsub x y b1 h1
    exact hx ⟨C',k1⟩
 ·cases e
end
end HS
namespace HS
open PySem PySem.Spec L2 PyProof.Rows
structure QgR (k:Nat) (A:Around):Prop where
 dp:A.depth+3*k+5<recursionLimit
 un:A.units+16*k+200<cLine
theorem QxR{k:Nat}{A:Around}(r:Qa1 k A):QgR k A:=⟨r.dp,r.un⟩
theorem QgR.mark{k:Nat}{A:Around}{v:Option Value}(r:QgR k A):QgR k (A.mark v):=⟨r.dp,r.un⟩
structure FnH (P:Program) (w:World) (K:PySem.W.Frag) (mg:Str->Option Value) (base:Heap) (k:Nat) (f:Addr) (fd:FuncData) (ps:List Str) (sp:Sp):Prop where
 len:∀vs H Q E,sp vs H Q E->vs.length=ps.length
 run:∀(A:Around) (outer:List Env) (s:Shared) (H:Hp) (args:Args) (us:List Value) (vs:List V) (Q:VK) (E:XK),QgR k A->Qm8 P w K mg base A outer s H->BindsTo s fd args (ps.zip us)->Qz vs us->sp vs H Q E→
  codeAny (model P w) A (.call (.ref f) args) (CR CX0 outer P w H s Q E) s
section
variable {P:Program}{w:World}{K:PySem.W.Frag}{mg:Str->Option Value}{base:Heap}
end
section
variable {X:Cx}{e:Expr}{es:List Expr}{fs:DA}{pos p:Pos}{x:Str}{n k:Nat}{f:Addr}{fd:FuncData}{ps:List Str}{den:Den}
theorem Qsz(Fk:FnH X.prog X.w X.K X.mg X.base k f fd ps (spV X.K n den))(hr:QgR k X.A)(hg:Gl X x)(hm:X.mg x=some (.ref f))(hk:PySem.W.keepIn X.K (.ref f)=true)(hb:Binds X.K fd ps [])
  (ha:SA X (e::es) fs) (hdb:(x == ("__debug__" :Str))=false) (he:starEach (e::es) X.env=(false,eval e X.env)::starEach es X.env) (hpl:(backTo pos (starEach es X.env)).any (·.1)=false):
  SE X (.Call (.Name x p) (e::es) [] pos) (Qh n den [] fs):=λH0 A0=>by
 intro pins s σ H Q I h
 have h:=Qh1 (X:=X) (dvs:=[]) (λH=>by simp[Rps]) h
 refine wpAny_Call_Name_kw (Qex I hg hm ?_ hdb)
 refine Zbm (h₀:=X.base) I.ok.mod.kin hk (thn (ha H0 A0 pos pins s σ H _ I h) λus s1 ⟨vs,H1,I1,r,q⟩=>⟨I1.kIn,?_⟩) he hpl
 have r2:Qz (vs++[]) (us++[]):=by rw[Zaq,Zaq];exact r
 have hl:(us++[]).length=ps.length:=by rw[← r2.length];exact Fk.len _ _ _ _ q
 refine wpAny_call (codeAny_mono (Fk.run X.A X.stack s1 H1 ⟨us,[]⟩ (us++[]) (vs++[]) Q E0 hr I1.Qsn (hb s1 us I1.kIn hl) r2 q) λr s' hq=>?_)
 cases r with
 | error ev=>exact QoY pins σ H1 s1 ev s' I1 hq
 | ok fl=>
  cases fl with
  | ret u=>exact I1.after hq
  | next=>exact False.elim hq
  | brk=>exact False.elim hq
  | cont=>exact False.elim hq
end
def Qhw(X:Cx)(hΓ:List (Str×FnR)):Prop:=∀x r,look x hΓ=some r->∃k f fd ps,FnH X.prog X.w X.K X.mg X.base k f fd ps (spV X.K r.n r.den)/\QgR k X.A/\X.mg x=some (.ref f)/\PySem.W.keepIn X.K (.ref f)=true/\Binds X.K fd ps []
theorem Qhw.inH{X:Cx}{hΓ:List (Str×FnR)}{ea:Addr}(h:Qhw X hΓ):Qhw (HS.inH X ea) hΓ:=λx r e=>by
 obtain⟨k,f,fd,ps,h1,h2,h3⟩:=h x r e
 exact⟨k,f,fd,ps,h1,h2.mark,h3⟩
section
variable (P:Program) (w:World) (K:PySem.W.Frag) (mg:Str->Option Value) (base:Heap)
def QvX(k:Nat)(x:Str)(r:FnR):Prop:=∃f fd ps,FnH P w K mg base k f fd ps (spV K r.n r.den)/\mg x=some (.ref f)/\PySem.W.keepIn K (.ref f)=true/\Binds K fd ps []
def QkR(k:Nat)(Γ:List (Str×FnR)):Prop:=∀x r,look x Γ=some r->QvX P w K mg base k x r
end
section
variable {P:Program}{w:World}{K:PySem.W.Frag}{mg:Str->Option Value}{base:Heap}
theorem QkR.nil{k:Nat}:QkR P w K mg base k []:=λx r h=>by cases h
end
end HS
namespace HS
open PySem PySem.Spec L2 PyProof.Rows
mutual
noncomputable def Qaw(n:Nat)(Θ:Th)(sub:Str->Str->Option Bool)(hΓ:List (Str×FnR))(e:Expr):Option DE:=match n with
 | 0=>none
 | n+1=>match e with
  | .Name x _=>(Θ.slot x).map Qa
  | .Constant (.bool b) _ _=>some (dC (.bl b))
  | .Constant (.str x) _ _=>some (dC (.str x))
  | .UnaryOp .Not a _=>(Qaw n Θ sub hΓ a).map Qg5
  | .BoolOp .And [a] _=>Qaw n Θ sub hΓ a
  | .BoolOp .And (a::b::r) p=>(Qaw n Θ sub hΓ a).bind λfa=>(Qaw n Θ sub hΓ (.BoolOp .And (b::r) p)).map λfb=>Qep fa fb
  | .BoolOp .Or [a] _=>Qaw n Θ sub hΓ a
  | .BoolOp .Or (a::b::r) p=>(Qaw n Θ sub hΓ a).bind λfa=>(Qaw n Θ sub hΓ (.BoolOp .Or (b::r) p)).map λfb=>dOr fa fb
  | .Compare a [.Eq] [b] _=>(Qaw n Θ sub hΓ a).bind λfa=>(Qaw n Θ sub hΓ b).map λfb=>dOp gEq fa fb
  | .Compare a [.NotEq] [b] _=>(Qaw n Θ sub hΓ a).bind λfa=>(Qaw n Θ sub hΓ b).map λfb=>dOp gNe fa fb
  | .Call (.Name f _) [a,.Name y _] [] _=>if f= "isinstance" /\Θ.gl "isinstance" =true/\Θ.gl y=true then(Qaw n Θ sub hΓ a).map λfa=>QfF sub [y] fa else none
  | .Call (.Name f _) [a,.Tuple es _ _] [] _=>if f= "isinstance" /\Θ.gl "isinstance" =true then(es.mapM Qfw).bind λys=>if ys.all Θ.gl=true/\ys≠[]/\ys.length<=60 then(Qaw n Θ sub hΓ a).map λfa=>QfF sub ys fa else none else none
  | .Call (.Name x _) (a::as) [] _=>if Θ.gl x=true then(look x hΓ).bind λr=>(QcA n Θ sub hΓ (a::as)).map λfs=>Qh r.n r.den [] fs else none
  | .List es _=>(QcA n Θ sub hΓ es).map Qat
  | _=>none
noncomputable def QcA(n:Nat)(Θ:Th)(sub:Str->Str->Option Bool)(hΓ:List (Str×FnR))(es:List Expr):Option DA:=match n with
 | 0=>none
 | n+1=>match es with
  | []=>some Qe
  | e::es=>(Qaw n Θ sub hΓ e).bind λfa=>(QcA n Θ sub hΓ es).map λfs=>Qc fa fs
end
theorem QjZ{n:Nat}{Θ:Th}{sub:Str->Str->Option Bool}{hΓ:List (Str×FnR)}{e:Expr}{f:DE}(h:Qaw n Θ sub hΓ e=some f)(es:List Expr)(env:Env):starEach (e::es) env=(false,eval e env)::starEach es env:=by
 cases n with
 | zero=>rw[Qaw.eq_def]at h;cases h
 | succ n=>cases e<;>first | rfl | (rw[Qaw.eq_def]at h;cases h)
theorem Qmu:∀{n:Nat}{Θ:Th}{sub:Str->Str->Option Bool}{hΓ:List (Str×FnR)}{es:List Expr}{fs:DA},QcA n Θ sub hΓ es=some fs->∀(pos:Pos) (env:Env),(backTo pos (starEach es env)).any (·.1)=false
 | 0,_,_,_,_,_,h,_,_=>by rw[QcA.eq_def]at h;cases h
 | n+1,_,_,_,[],_,h,_,_=>rfl
 | n+1,_,_,_,e::es,_,h,pos,env=>by
  rw[QcA.eq_def]at h
  dsimp only at h
  obtain⟨fa,fs',h1,h2,_⟩:=QP h
  rw[QjZ h1]
  have:=Qmu h2 pos env
  simpa[backTo]using this
theorem Qxo{X:Cx}{n:Nat}{Θ:Th}{sub:Str->Str->Option Bool}{hΓ:List (Str×FnR)}{a:Expr}{as:List Expr}{fs:DA}(h:QcA n Θ sub hΓ (a::as)=some fs)(pos:Pos):
  starEach (a::as) X.env=(false,eval a X.env)::starEach as X.env/\(backTo pos (starEach as X.env)).any (·.1)=false:=by
 cases n with
 | zero=>rw[QcA.eq_def]at h;cases h
 | succ n=>
  rw[QcA.eq_def]at h
  dsimp only at h
  obtain⟨fa,fs',h1,h2,_⟩:=QP h
  exact⟨QjZ h1 _ _,Qmu h2 pos X.env⟩
theorem QtR{n:Nat}{Θ:Th}{sub:Str->Str->Option Bool}{hΓ:List (Str×FnR)}{e:Expr}{f:DE}(h:Qaw n Θ sub hΓ e=some f)(op:CmpOp):behindInMarks op e=false:=by
 cases n with
 | zero=>rw[Qaw.eq_def]at h;cases h
 | succ n=>cases e<;>first | (cases op<;>rfl) | (rw[Qaw.eq_def]at h;cases h)
theorem QmB:∀{es:List Expr}{ys:List Str},es.mapM Qfw=some ys->es.map Qfw=ys.map some
 | [],ys,h=>by cases h;rfl
 | e::es,ys,h=>by
  rw[ZbL]at h
  obtain⟨y,h1,h⟩:=bind1 h
  obtain⟨zs,h2,h⟩:=bind1 h
  cases h
  rw[ZR,ZR,h1,QmB h2]
structure QyS (n:Nat):Prop where
 E:∀X Θ sub hΓ e f,CtxB X Θ->QbZ X.K sub->Qhw X hΓ->Qaw n Θ sub hΓ e=some f->SE X e f
 A:∀X Θ sub hΓ es f,CtxB X Θ->QbZ X.K sub->Qhw X hΓ->QcA n Θ sub hΓ es=some f->SA X es f
theorem QpH:∀n,QyS n
 | 0=>⟨λ_ _ _ _ _ _ _ _ _ h=>(by rw[Qaw.eq_def]at h;cases h),λ_ _ _ _ _ _ _ _ _ h=>(by rw[QcA.eq_def]at h;cases h)⟩
 | n+1=>by
  have ih:=QpH n
  refine⟨λX Θ sub hΓ e f ok hs hu h=>?_,λX Θ sub hΓ es f ok hs hu h=>?_⟩
  ·rw[Qaw.eq_def]at h
   dsimp only at h
   split at h
   ·obtain⟨i,h1,rfl⟩:=Zb.mp h
    exact Qdt (Qab ok h1)
   ·cases h;exact QiW QtO (λ_ _=> .QcO) rfl
   ·cases h;exact QiW Qru (λ_ _=> .str_mk) rfl
   ·obtain⟨fa,h1,rfl⟩:=Zb.mp h
    exact Qqm (ih.E X Θ sub hΓ _ fa ok hs hu h1)
   ·exact Qkk (ih.E X Θ sub hΓ _ f ok hs hu h)
   ·obtain⟨fa,fb,h1,h2,rfl⟩:=QP h
    exact QqT (ih.E X Θ sub hΓ _ fa ok hs hu h1) (ih.E X Θ sub hΓ _ fb ok hs hu h2)
   ·exact Qkk (ih.E X Θ sub hΓ _ f ok hs hu h)
   ·obtain⟨fa,fb,h1,h2,rfl⟩:=QP h
    exact QtX (ih.E X Θ sub hΓ _ fa ok hs hu h1) (ih.E X Θ sub hΓ _ fb ok hs hu h2)
   ·obtain⟨fa,fb,h1,h2,rfl⟩:=QP h
    exact Qnc (QqY ok.units) QtC (ih.E X Θ sub hΓ _ fa ok hs hu h1) (ih.E X Θ sub hΓ _ fb ok hs hu h2) (QtR h2 _)
   ·obtain⟨fa,fb,h1,h2,rfl⟩:=QP h
    exact Qnc (Qrc ok.units) QtU (ih.E X Θ sub hΓ _ fa ok hs hu h1) (ih.E X Θ sub hΓ _ fb ok hs hu h2) (QtR h2 _)
   ·split at h
    ·rename_i hc
     obtain⟨rfl,g1,g2⟩:=hc
     obtain⟨fa,h1,rfl⟩:=Zb.mp h
     obtain⟨a1,a2,a3⟩:=QbW ok g1
     obtain⟨b1,b2,b3⟩:=QbW ok g2
     exact Qvx hs a1 (ok.mg _ (by decide+kernel)) b1 b2 (ih.E X Θ sub hΓ _ fa ok hs hu h1) (QjZ h1 _ _)
    ·cases h
   ·split at h
    ·rename_i hc
     obtain⟨rfl,g1⟩:=hc
     obtain⟨ys,hy,h⟩:=bind1 h
     split at h
     ·rename_i hd
      obtain⟨d1,d2,d3⟩:=hd
      obtain⟨fa,h1,rfl⟩:=Zb.mp h
      obtain⟨a1,a2,a3⟩:=QbW ok g1
      exact Qve hs a1 (ok.mg _ (by decide+kernel)) d3 d2 (QmB hy) (λy hy=>by
       obtain⟨b1,b2,b3⟩:=QbW ok (Zam.mp d1 y hy)
       exact⟨b1,b2⟩) (ih.E X Θ sub hΓ _ fa ok hs hu h1) (QjZ h1 _ _)
     ·cases h
    ·cases h
   ·split at h
    ·rename_i hg
     obtain⟨r,hr,h⟩:=bind1 h
     obtain⟨fs,h1,rfl⟩:=Zb.mp h
     obtain⟨a1,a2,a3⟩:=QbW ok hg
     obtain⟨k,f,fd,ps,F1,F2,F3,F4,F5⟩:=hu _ r hr
     obtain⟨s1,s2⟩:=Qxo (X:=X) h1 _
     exact Qsz F1 F2 a1 F3 F4 F5 (ih.A X Θ sub hΓ _ fs ok hs hu h1) a2 s1 s2
    ·cases h
   ·obtain⟨fs,h1,rfl⟩:=Zb.mp h
    exact Qq0 (ih.A X Θ sub hΓ _ fs ok hs hu h1)
   ·cases h
  ·rw[QcA.eq_def]at h
   dsimp only at h
   split at h
   ·cases h;exact Qhr
   ·obtain⟨fa,fs,h1,h2,rfl⟩:=QP h
    exact Qfd (ih.E X Θ sub hΓ _ fa ok hs hu h1) (ih.A X Θ sub hΓ _ fs ok hs hu h2) (QjZ h1 _ _)
noncomputable def QfJ(Θ:Th)(sub:Str->Str->Option Bool)(hΓ:List (Str×FnR)):List Stmt->Option DS
 | []=>some Qo
 | .Assign [.Name x _] e _::r=>(Θ.QbT x).bind λi=>if Qiu e=false/\Qfc e=true then(Qaw 20 Θ sub hΓ e).bind λfa=>(QfJ Θ sub hΓ r).map λg=>Qf (Qp i fa) g else none
 | .Return (some e) _::r=>(Qaw 20 Θ sub hΓ e).bind λfa=>(QfJ Θ sub hΓ r).map λg=>Qf (QL fa) g
 | _=>none
theorem QfU{X:Cx}{Θ:Th}{sub:Str->Str->Option Bool}{hΓ:List (Str×FnR)}(ok:CtxB X Θ)(hs:QbZ X.K sub)(hu:Qhw X hΓ):∀(sts:List Stmt) (f:DS),QfJ Θ sub hΓ sts=some f->SS X sts f
 | [],f,h=>by rw[QfJ]at h;cases h;exact Qq2
 | st::r,f,h=>by
  have hN:X.N.Nodup:=by rw[ok.N];exact ok.nd
  rw[QfJ.eq_def]at h
  split at h
  ·rename_i q;cases q
  ·rename_i x p e pos r' q
   cases q
   obtain⟨i,hi,h⟩:=bind1 h
   split at h
   ·rename_i hc
    obtain⟨fa,g,h1,h2,rfl⟩:=QP h
    obtain⟨a1,a2,a3⟩:=Qcm ok hi
    have he:=(QpH 20).E X Θ sub hΓ _ fa ok hs hu h1
    exact Qkv (Qj9 λH0 A0=>Qfi hN a1 a2 (he H0 A0) (Qc4 hc.2) a3) (QfU ok hs hu r g h2)
   ·cases h
  ·rename_i e pos r' q
   cases q
   obtain⟨fa,g,h1,h2,rfl⟩:=QP h
   exact Qkv (Qrg ((QpH 20).E X Θ sub hΓ _ fa ok hs hu h1)) (QfU ok hs hu r g h2)
  ·cases h
noncomputable def Qgd(Θ:Th)(sub:Str->Str->Option Bool)(hΓ:List (Str×FnR)):List ExceptHandler->Option (List Hd)
 | []=>some []
 | .ExceptHandler (some (.Name y _)) none (b::bs) _::r=>if Θ.gl y=true then(QfJ Θ sub hΓ (b::bs)).bind λf=>(Qgd Θ sub hΓ r).map λl=>(y,none,f)::l else none
 | .ExceptHandler (some (.Name y _)) (some nm) (b::bs) _::r=>if Θ.gl y=true/\look nm Θ.sc=some .local then(Θ.QbT nm).bind λi=>(QfJ Θ sub hΓ (b::bs)).bind λf=>(Qgd Θ sub hΓ r).map λl=>(y,some i,f)::l else none
 | _=>none
theorem Qne{X:Cx}{Θ:Th}{ea:Addr}(ok:CtxB X Θ):CtxB (inH X ea) Θ:=⟨ok.N,ok.nd,ok.lc,ok.ce,ok.fe,ok.gl,ok.units,ok.mg,ok.cs⟩
theorem QhH{X:Cx}{Θ:Th}{sub:Str->Str->Option Bool}{hΓ:List (Str×FnR)}(ok:CtxB X Θ)(hs:QbZ X.K sub)(hu:Qhw X hΓ):∀(hds:List ExceptHandler) (hl:List Hd),Qgd Θ sub hΓ hds=some hl->QhR X hds hl
 | [],f,h=>by rw[Qgd]at h;cases h;exact .nil
 | hd::r,f,h=>by
  rw[Qgd.eq_def]at h
  split at h
  ·rename_i q;cases q
  ·rename_i y np b bs pos r' q
   cases q
   split at h
   ·rename_i hc
    obtain⟨g1,g2,_⟩:=QbW ok hc
    obtain⟨f,l,h1,h2,rfl⟩:=QP h
    exact .bare g1 g2 (λea=>QfU (Qne ok) hs hu.inH _ f h1) (QhH ok hs hu r l h2)
   ·cases h
  ·rename_i y np nm b bs pos r' q
   cases q
   split at h
   ·rename_i hc
    obtain⟨g1,g2,_⟩:=QbW ok hc.1
    obtain⟨i,hi,h⟩:=bind1 h
    obtain⟨f,l,h1,h2,rfl⟩:=QP h
    obtain⟨a1,a2,a3⟩:=Qcm ok hi
    exact .as g1 g2 a1 (ok.lc nm hc.2) (λea=>QfU (Qne ok) hs hu.inH _ f h1) (QhH ok hs hu r l h2)
   ·cases h
  ·cases h
noncomputable def Qsm(n:Nat)(Θ:Th)(ΘX:ThX)(sub:Str->Str->Option Bool)(hΓ:List (Str×FnR))(st:Stmt):Option DS:=match st with
 | .Try body (h::hs) [] [] _=>(Qai n Θ body).bind λf=>(Qds n Θ ΘX body).bind λfx=>(Qgd Θ sub hΓ (h::hs)).map λhl=>QdX f fx sub hl
 | _=>none
theorem Quo{X:Cx}{Θ:Th}{xe:Value->Shared->Prop}{pn:List (Addr×Obj)}(ok:Q0 X Θ)(ht:∀st,Θ.tr st=none)(hp:PassesOwn (model X.prog X.w) X.A X.env xe):Q0 (Cx.chg X xe pn) Θ:=
 ⟨⟨ok.N,ok.nd,ok.lc,ok.ce,ok.fe,ok.gl,ok.units,ok.mg,ok.cs⟩,ok.calm,hp,ok.fns,λst f h=>by rw[ht st]at h;cases h⟩
theorem Que{X:Cx}{Θ:Th}{ΘX:ThX}{sub:Str->Str->Option Bool}{hΓ:List (Str×FnR)}{n:Nat}{st:Stmt}{f:DS}(ok:Q0 X Θ)(ht:∀st,Θ.tr st=none)(xk:XOk X ΘX)(hs:QbZ X.K sub)(hu:Qhw X hΓ)(h:Qsm n Θ ΘX sub hΓ st=some f):S1 X st f:=by
 unfold Qsm at h
 split at h
 ·rename_i body h0 hds pos
  obtain⟨fb,h1,h⟩:=bind1 h
  obtain⟨fx,hl,h2,h3,rfl⟩:=QP h
  have hN:X.N.Nodup:=by rw[ok.N];exact ok.nd
  refine Qxk hN xk.ex xk.stk xk.fr hs.ok (λxe pn hp=>?_) (QhH ok.toCtxB hs hu _ hl h3)
  have ok':=Quo (pn:=pn) ok ht hp
  have xk':XOk (Cx.chg X xe pn) ΘX:=⟨xk.ex,xk.stk,xk.fr,xk.fx,xk.cl⟩
  exact⟨(Qih n).Ss _ _ _ fb ok' h1,(QpW n).Xs _ _ _ _ fx ok' xk' h2⟩
 ·cases h
noncomputable def thT(n:Nat)(st:Stmt)(Γ:List (Str×FnR))(cs:List (Str×Int))(ΘX:ThX)(sub:Str->Str->Option Bool)(hΓ:List (Str×FnR)):Th:={Qfk st Γ cs with tr:=Qsm n (Qfk st Γ cs) ΘX sub hΓ}
section
variable {P:Program}{w:World}{K:PySem.W.Frag}{mg:Str->Option Value}{base:Heap}
theorem QkN{h:Heap}{x:Str}{st:Stmt}{ps:List Str}{k n m:Nat}{Γ:List (Str×FnR)}{Γx:List (Str×(Nat×(List D->Option Str)))}{cls:List Str}{cs:List (Str×Int)}{sub:Str->Str->Option Bool}{hΓ:List (Str×FnR)}{g:DS}(X:K.In h)(G:h.Ns mainGlobals mg)(F:Fact K x st)(S:Qb9 (namesOf (Qj st)) ps (Qj st))(B:Qw x st ps)(M:Qe0 mg cs)(tab:QcT P w K mg base k Γ)(tabx:QeR P w K mg base k Γx)
  (hcl:∀x∈cls,Qh9 K x) (hs:QbZ K sub) (tabh:QkR P w K mg base k hΓ) (hc:Qai n (thT m st Γ cs ⟨Γx,cls⟩ sub hΓ) (QaT st)=some g):Known P w K mg base (k+1) x ⟨ps.length,[],Ql (namesOf (Qj st)).length g⟩:=by
 obtain⟨f,fd,Fn,a⟩:=F.ex
 refine⟨f,fd,ps,?_,ZaQ X G a,Fn.kp,λm hm=>⟨[],[],Fn.binds (B ·),.nil,λH=>by simp[Rps]⟩⟩
 refine Fn.ok S (QoL rfl) λcdv A outer s H vs Q E hr h=>?_
 obtain⟨ds,L,d,fr,rps,hl,hd,q⟩:=h
 have ok:=Qqc (P:=P) (w:=w) (K:=K) (base:=base) (qual:=x) (f:=f) (outer:=outer) (H:=H) (E:=E) S M tab hr
 have xk:XOk (QeS CX0 P w K mg base (namesOf (Qj st)) x (Qj st) f cdv A outer s H E).nox ⟨Γx,cls⟩:=⟨rfl,rfl,rfl,λz r e=>by
  obtain⟨f',fd',ps',h1,h2,h3,h4,h5⟩:=tabx z r e
  exact⟨k,f',fd',ps',h1,hr,h2,h3,h4,h5⟩,hcl⟩
 have ok2:Q0 (QeS CX0 P w K mg base (namesOf (Qj st)) x (Qj st) f cdv A outer s H E).nox (thT m st Γ cs ⟨Γx,cls⟩ sub hΓ):=
  ⟨⟨ok.N,ok.nd,ok.lc,ok.ce,ok.fe,ok.gl,ok.units,ok.mg,ok.cs⟩,ok.calm,ok.pass,ok.fns,λst' f' h'=>Que ok (λ_=>rfl) xk hs (λz r e=>by
   obtain⟨f',fd',ps',h1,h2⟩:=tabh z r e
   exact⟨k,f',fd',ps',h1,QxR hr,h2⟩) h'⟩
 refine⟨_,(Qih n).Ss _ _ _ g ok2 hc H L,?_⟩
 obtain⟨F0,rel⟩:=QhT (N:=namesOf (Qj st)) rps
 unfold Ql at hd
 obtain⟨o,ho,hd⟩:=bind1 hd
 refine⟨_,[],F0,o,rel,ho,?_⟩
 cases o with
 | nx ρ=>
  cases hd
  exact λσ H' F' rel'=>q .non H' [] ⟨rel'.same,.Qhs,λa ha=>by simp at ha,λ_=>⟨Zay,rfl,λa ha=>by simp at ha⟩⟩
 | bk ρ=>cases hd
 | ct ρ=>cases hd
 | rt d' fr'=>
  cases hd
  exact λv H' G r=>q v H' G r
end
end HS
namespace HS
open PySem PySem.Spec L2 PyProof.Rows
section
variable {K:PySem.W.Frag}{x y:Str}{C C':Addr}{v:Bool}
theorem Qt8(a:PySem.W.nsIn K mainGlobals x=some (some (.ref C)))(b:PySem.W.excIn K C [.type "ValueError",.type "Exception",.type "BaseException",.type "object"] "ValueError.__new__" =true):Qh9 K x:=⟨⟨C,a,b⟩⟩
def XK1(K:PySem.W.Frag)(x:Str):Prop:=∃C,ClsAt K x C/\Qf7 K C
theorem QtM(a:PySem.W.nsIn K mainGlobals x=some (some (.ref C)))(h1:PySem.W.isClsIn K C=true)(h2:PySem.W.findIn K (.ref C) "__getattribute__" =some (some (.builtin "BaseException.__getattribute__")))(h3:PySem.W.findIn K (.ref C) "__getattr__" =some none)
  (h4:PySem.W.findIn K (.ref C) "__class__" =some (some (.builtin "object.__class__"))) (h5:PySem.W.mroIn K C (.type "object")=some true) (h6:PySem.W.subIn K (.ref C) (.type "BaseException")=some true):XK1 K x:=⟨C,a,h1,h2,h3,h4,h5,h6⟩
def Qmh(K:PySem.W.Frag)(x y:Str)(b:Bool):Prop:=∃C c,ClsAt K x C/\PySem.W.KtsName K y c/\PySem.W.exmOne K (.ref C) c=some b/\PySem.W.kitOne K (.ref C) c=some b
theorem QbR(a:PySem.W.nsIn K mainGlobals x=some (some (.ref C)))(b:PySem.W.nsIn K mainGlobals y=some (some (.ref C')))(c:PySem.W.exmOne K (.ref C) (.ref C')=some v)(d:PySem.W.kitOne K (.ref C) (.ref C')=some v):Qmh K x y v:=⟨C,_,a,.inl b,c,d⟩
theorem QoR(a:PySem.W.nsIn K mainGlobals x=some (some (.ref C)))(b:PySem.W.nsIn K mainGlobals "ValueError" =some none)(c:PySem.W.exmOne K (.ref C) (.type "ValueError")=some v)(d:PySem.W.kitOne K (.ref C) (.type "ValueError")=some v):Qmh K x "ValueError" v:=
 ⟨C,_,a,.inr ⟨b,PyProof.Rows.Boot.«ValueError»,by decide⟩,c,d⟩
noncomputable def Qla(K:PySem.W.Frag)(x:Str):List (Str×Bool)->Prop
 | []=>True
 | q::r=>Qmh K x q.1 q.2/\Qla K x r
noncomputable def SubL(K:PySem.W.Frag):List (Str×List (Str×Bool))->Prop
 | []=>True
 | q::r=>(XK1 K q.1/\Qla K q.1 q.2)/\SubL K r
noncomputable def QtA(tab:List (Str×List (Str×Bool))):Str->Str->Option Bool:=λx y=>(look x tab).bind λr=>look y r
theorem Qi9{α:Type}:∀{x:Str}{l:List (Str×α)}{a:α},look x l=some a->(x,a)∈l
 | x,[],a,h=>by cases h
 | x,(y,b)::r,a,h=>by
  unfold look at h
  split at h
  ·rename_i e;cases h;subst e;exact Zo
  ·exact Ze _ (Qi9 h)
theorem Qla.mem:∀{r:List (Str×Bool)},Qla K x r->∀q∈r,Qmh K x q.1 q.2
 | [],_,q,h=>by simp at h
 | p::r,h,q,hq=>by
  rcases Zl.mp hq with rfl | hq
  ·exact h.1
  ·exact Qla.mem h.2 q hq
theorem SubL.mem:∀{t:List (Str×List (Str×Bool))},SubL K t->∀q∈t,XK1 K q.1/\Qla K q.1 q.2
 | [],_,q,h=>by simp at h
 | p::r,h,q,hq=>by
  rcases Zl.mp hq with rfl | hq
  ·exact h.1
  ·exact SubL.mem h.2 q hq
theorem QuF{tab:List (Str×List (Str×Bool))}(h:SubL K tab):QbZ K (QtA tab):=λx y b e=>by
 obtain⟨r,h1,h2⟩:=bind1 e
 obtain⟨⟨C,k1,k2⟩,k3⟩:=h.mem _ (Qi9 h1)
 obtain⟨C',c,m1,m2,m3,m4⟩:=k3.mem _ (Qi9 h2)
 cases QdS k1 m1
 exact⟨C,c,k1,m2,m3,m4,k2⟩
noncomputable def QwB(K:PySem.W.Frag):List Str->Prop
 | []=>True
 | x::r=>Qh9 K x/\QwB K r
theorem QoD:∀{l:List Str},QwB K l->∀x∈l,Qh9 K x
 | [],_,x,h=>by simp at h
 | y::l,h,x,hx=>by
  rcases Zl.mp hx with rfl | hx
  ·exact h.1
  ·exact QoD h.2 x hx
end
end HS
namespace HS
open PySem L2
noncomputable def Qtr(p:Int×Int×Bool):D:= .tup [.int p.1,.int p.2.1,.bl p.2.2]
noncomputable def Qd7(ns:List Int):D:= .lst (ns.map .int)
theorem Qci{α:Type}{f:α->D}(h:∀a,(f a).flat=true):∀l:List α,QZ (l.map f)=true
 | []=>rfl
 | a::l=>by simp[QZ,h a,Qci h l]
@[simp] theorem Qyn(i:Int):(D.int i).flat=true:=rfl
@[simp] theorem Qy1(i:Bool):(D.bl i).flat=true:=rfl
@[simp] theorem QyF:D.non.flat=true:=rfl
@[simp] theorem QyT(x:Str):(D.str x).flat=true:=rfl
@[simp] theorem QyH(xs:List D):(D.lst xs).flat=false:=rfl
@[simp] theorem Qyp(xs:List D):(D.tup xs).flat=QZ xs:=rfl
@[simp] theorem Qyh:QZ []=true:=rfl
@[simp] theorem QxA(d:D)(ds:List D):QZ (d::ds)=(d.flat && QZ ds):=rfl
@[simp] theorem Qyr(p:Int×Int×Bool):(Qtr p).flat=true:=rfl
@[simp] theorem Qyg(ns:List Int):(Qd7 ns).flat=false:=rfl
@[simp] theorem QxS(ps:List (Int×Int×Bool)):QZ (ps.map Qtr)=true:=Qci (λ_=>rfl) _
@[simp] theorem QpC(ns:List Int):QZ (ns.map .int)=true:=Qci (λ_=>rfl) _
@[simp] theorem Qyd(xs ys:List D):QZ (xs++ys)=(QZ xs && QZ ys):=QbY xs ys
def Run(f:DS)(ρ:En)(Q:Out->Prop):Prop:=∃o,f ρ=some o/\Q o
noncomputable def Nx(Q:En->Prop):Out->Prop
 | .nx ρ=>Q ρ
 | _=>False
noncomputable def Rt(Q:D->Bool->Prop):Out->Prop
 | .rt d fr=>Q d fr
 | _=>False
theorem Run.mono{f:DS}{ρ:En}{Q Q':Out->Prop}(h:Run f ρ Q)(m:∀o,Q o->Q' o):Run f ρ Q':=let ⟨o,h1,h2⟩:=h;⟨o,h1,m o h2⟩
theorem Qy{ρ:En}{Q:Out->Prop}(h:Q (.nx ρ)):Run Qo ρ Q:=⟨_,rfl,h⟩
theorem run_seq{f g:DS}{ρ:En}{Q:Out->Prop}(h:Run f ρ (Nx λρ'=>Run g ρ' Q)):Run (Qf f g) ρ Q:=by
 obtain⟨o,h1,h2⟩:=h
 cases o with
 | nx ρ'=>
  obtain⟨o',h3,h4⟩:=h2
  exact⟨o',by simp[Qf,h1,h3],h4⟩
 | _=>exact False.elim h2
theorem QD{f g:DS}{ρ:En}{Q:Out->Prop}(h:Run f ρ λo=>match o with | .nx ρ'=>Run g ρ' Q | o=>Q o):Run (Qf f g) ρ Q:=by
 obtain⟨o,h1,h2⟩:=h
 cases o with
 | nx ρ'=>
  obtain⟨o',h3,h4⟩:=h2
  exact⟨o',by simp[Qf,h1,h3],h4⟩
 | bk ρ'=>exact⟨_,by simp[Qf,h1],h2⟩
 | ct ρ'=>exact⟨_,by simp[Qf,h1],h2⟩
 | rt d fr=>exact⟨_,by simp[Qf,h1],h2⟩
theorem Qg{i:Nat}{fa:DE}{r:R}{ρ:En}{Q:Out->Prop}(h:fa ρ=some r)(q:Q (.nx (asg i r ρ))):Run (Qp i fa) ρ Q:=⟨_,by simp[Qp,h],q⟩
theorem Qbq{fa:DE}{r:R}{ρ:En}{Q:Out->Prop}(h:fa ρ=some r)(q:Q (.rt r.d (r.norm.fr && decide r.norm.M.Nodup))):Run (QL fa) ρ Q:=⟨_,by simp[QL,h],q⟩
theorem Qad{g:DT}{f1 f2:DS}{b:Bool}{ρ:En}{Q:Out->Prop}(h:g ρ=some b)(q1:b=true->Run f1 ρ Q)(q2:b=false->Run f2 ρ Q):Run (sIf g f1 f2) ρ Q:=by
 cases b with
 | true=>obtain⟨o,h1,h2⟩:=q1 rfl;exact⟨o,by simp[sIf,h,h1],h2⟩
 | false=>obtain⟨o,h1,h2⟩:=q2 rfl;exact⟨o,by simp[sIf,h,h1],h2⟩
theorem QU{k:Nat}{f:DS}{ds:List D}{d:D}{fr:Bool}(h:Run f (Qc8 k ds) (Rt λd' fr'=>d'=d/\fr'=fr)):Ql k f ds=some (d,fr):=by
 obtain⟨o,h1,h2⟩:=h
 unfold Ql
 cases o with
 | rt d' fr'=>obtain⟨rfl,rfl⟩:=h2;rw[h1];rfl
 | _=>exact False.elim h2
theorem Qnb{α:Type}{t:Tg}{fb:DS}{toD:α->D}{Q:Out->Prop}(I:Nat->En->Prop):∀(xs ys:List α) (ρ:En),I ys.length ρ→
  (∀i x ρ,(ys++xs)[i]? =some x->ys.length<=i->I i ρ->∃ρ1,QbL t (toD x) ρ=some ρ1/\Run fb ρ1 λo=>match o with | .nx ρ2=>I (i+1) ρ2 | .ct ρ2=>I (i+1) ρ2 | .bk ρ2=>Q (.nx ρ2) | .rt d fr=>Q (.rt d fr))→
  (∀ρ,I (ys++xs).length ρ->Q (.nx ρ))->Run (Qdx t fb (xs.map toD)) ρ Q
 | [],ys,ρ,h0,_,fin=>⟨_,rfl,fin ρ (by simpa using h0)⟩
 | x::xs,ys,ρ,h0,turn,fin=>by
  obtain⟨ρ1,h1,o,h2,h3⟩:=turn ys.length x ρ (by simp) (Zj _) h0
  have next:∀ρ2,I (ys.length+1) ρ2->Run (Qdx t fb (xs.map toD)) ρ2 Q:=λρ2 hi=>
   Qnb I xs (ys++[x]) ρ2 (by simpa using hi) (λi y ρ' e hl=>turn i y ρ' (by simpa using e) (by simp at hl;omega)) (λρ' h=>fin ρ' (by simpa using h))
  cases o with
  | nx ρ2=>obtain⟨o',e1,e2⟩:=next ρ2 h3;exact⟨o',by simp[Qdx,h1,h2,e1],e2⟩
  | ct ρ2=>obtain⟨o',e1,e2⟩:=next ρ2 h3;exact⟨o',by simp[Qdx,h1,h2,e1],e2⟩
  | bk ρ2=>exact⟨_,by simp[Qdx,h1,h2],h3⟩
  | rt d fr=>exact⟨_,by simp[Qdx,h1,h2],h3⟩
theorem Qb0{α:Type}{fi:DI}{t:Tg}{fb:DS}{toD:α->D}{ρ:En}{ir:IR}{Q:Out->Prop}(xs:List α)(I:Nat->En->Prop)(h:fi ρ=some ir)(hx:ir.items=xs.map toD)(h0:I 0 (Qaz ir.M ρ))
  (turn:∀i x ρ,xs[i]? =some x->I i ρ->∃ρ1,QbL t (toD x) ρ=some ρ1/\Run fb ρ1 λo=>match o with | .nx ρ2=>I (i+1) ρ2 | .ct ρ2=>I (i+1) ρ2 | .bk ρ2=>Q (.nx ρ2) | .rt d fr=>Q (.rt d fr))
  (fin:∀ρ,I xs.length ρ->Q (.nx ρ)):Run (Qdn fi t fb) ρ Q:=by
 obtain⟨o,h1,h2⟩:=Qnb (t:=t) (fb:=fb) (toD:=toD) (Q:=Q) I xs [] (Qaz ir.M ρ) h0 (λi x ρ e _=>turn i x ρ (by simpa using e)) (λρ h=>fin ρ (by simpa using h))
 exact⟨o,by simp[Qdn,h,hx,h1],h2⟩
theorem QlC{α:Type}{t:Tg}{ft:DT}{fe:DE}{ρc:En}{toD:α->D}{keep:α->Bool}{out:α->D}:∀(xs:List α) (acc:List D),
  (∀x∈xs,∃ρ1,QbL t (toD x) ρc=some ρ1/\ft ρ1=some (keep x)/\(keep x=true->∃r,fe ρ1=some r/\r.d=out x/\r.norm.fr=true))→
  (xs.map toD).foldlM (QfN t ft fe ρc) (acc,true)=some (acc++(xs.filter keep).map out,true)
 | [],acc,_=>by simp
 | x::xs,acc,h=>by
  obtain⟨ρ1,h1,h2,h3⟩:=h x Zo
  have ih:=λacc=>QlC xs acc (λy hy=>h y (Ze _ hy))
  cases hk:keep x with
  | false=>
   have e:QfN t ft fe ρc (acc,true) (toD x)=some (acc,true):=by simp[QfN,h1,h2,hk]
   simp[Zbw,e,ih,hk]
  | true=>
   obtain⟨r,h4,h5,h6⟩:=h3 hk
   have e:QfN t ft fe ρc (acc,true) (toD x)=some (acc++[out x],true):=by simp[QfN,h1,h2,hk,h4,h5,h6]
   simp[Zbw,e,ih,hk]
theorem Qkt{α:Type}{fi:DI}{t:Tg}{cap:List (Option Nat)}{ft:DT}{fe:DE}{ρ:En}{ir:IR}{toD:α->D}{keep:α->Bool}{out:α->D}(xs:List α)(h:fi ρ=some ir)(hx:ir.items=xs.map toD)
  (turn:∀x∈xs,∃ρ1,QbL t (toD x) (QeY cap ρ)=some ρ1/\ft ρ1=some (keep x)/\(keep x=true->∃r,fe ρ1=some r/\r.d=out x/\r.norm.fr=true)):
  QG fi t cap ft fe ρ=some ⟨.lst ((xs.filter keep).map out),true,[]⟩:=by
 unfold QG
 rw[h,Za,hx,QlC xs [] turn]
 simp
theorem QI{α:Type}{fi:DI}{t:Tg}{cap:List (Option Nat)}{fe:DE}{ρ:En}{ir:IR}{toD:α->D}{out:α->D}(xs:List α)(h:fi ρ=some ir)(hx:ir.items=xs.map toD)
  (turn:∀x∈xs,∃ρ1,QbL t (toD x) (QeY cap ρ)=some ρ1/\∃r,fe ρ1=some r/\r.d=out x/\r.norm.fr=true):
  QG fi t cap QN fe ρ=some ⟨.lst (xs.map out),true,[]⟩:=by
 have:=Qkt (keep:=λ_=>true) (ft:=QN) xs h hx (cap:=cap) (t:=t) (fe:=fe) (out:=out) λx hx=>by
  obtain⟨ρ1,h1,h2⟩:=turn x hx
  exact⟨ρ1,h1,rfl,λ_=>h2⟩
 rw[this,List.filter_eq_self.mpr λ_ _=>rfl]
@[simp] theorem QyI(d:D):R.norm ⟨d,true,[]⟩=⟨d,true,[]⟩:=by unfold R.norm;split<;>rfl
@[simp] theorem Qi(i:Nat)(d:D)(ρ:En):asg i ⟨d,true,[]⟩ ρ=ρ.set i (some (d,true)):=by unfold asg;simp[kill]
theorem QcX{i:Nat}{d:D}{fr:Bool}{M:List Nat}{ρ:En}(h:d.flat=true):asg i ⟨d,fr,M⟩ ρ=ρ.set i (some (d,true)):=by
 unfold asg R.norm;simp[h,kill]
theorem QhN{i:Nat}{ρ:En}{d:D}{b:Bool}(h:ρ[i]? =some (some (d,b))):Qa i ρ=some (if d.flat then⟨d,true,[]⟩else if b then⟨d,true,[i]⟩else⟨d,false,[]⟩):=by
 unfold Qa
 rw[h]
 dsimp only
 split
 ·simp_all
 ·split<;>simp_all
@[simp] theorem QaY(d:D)(ρ:En):dC d ρ=some ⟨d,true,[]⟩:=rfl
theorem QbU{g:D->D->Option D}{fa fb:DE}{ρ:En}{ra rb:R}{d:D}(ha:fa ρ=some ra)(hb:fb ρ=some rb)(h:g ra.d rb.d=some d):dOp g fa fb ρ=some ⟨d,true,[]⟩:=by simp[dOp,ha,hb,h]
theorem Qq{fa:DE}{fs:DA}{ρ:En}{r:R}{rs:RA}(ha:fa ρ=some r)(hs:fs ρ=some rs):Qc fa fs ρ=some ⟨r.d::rs.ds,r.fr && rs.fr,r.M++rs.M⟩:=by simp[Qc,ha,hs]
@[simp] theorem QK(ρ:En):Qe ρ=some ⟨[],true,[]⟩:=rfl
noncomputable def vf(d:D)(b:Bool)(i:Nat):R:=if d.flat then⟨d,true,[]⟩else if b then⟨d,true,[i]⟩else⟨d,false,[]⟩
@[simp] theorem Qy4(d:D)(b:Bool)(i:Nat):(vf d b i).d=d:=by unfold vf;split;rfl;split<;>rfl
@[simp] theorem QsC(i j:Int)(h:0<=j):QcW i j=i % j:=by unfold QcW;rw[if_pos h]
@[simp] theorem QmT(i j:Int)(h:0<=j):Qeo i j=i / j:=by unfold Qeo;rw[if_pos h]
theorem Qet{i j:Int}(h:i.natAbs<2^64):Qd5 i j=true:=by unfold Qd5;simp[h]
theorem Qoz{i j:Int}(h:j.natAbs<2^64):Qd5 i j=true:=by unfold Qd5;simp[h]
theorem Qdi{i j:Int}(h1:Builtin.Int.intBits i<=2^20)(h2:Builtin.Int.intBits j<=2^20):Qd5 i j=true:=by
 unfold Qd5
 rw[decide_eq_true h1,decide_eq_true h2,Bool.and_self,Bool.or_true]
theorem Qmp:(sizeLine:Nat)=16777216:=sizeLine_eq
noncomputable def Qd(m:Nat)(f:Nat->Int):D:= .lst ((List.range m).map λi=> .int (f i))
noncomputable def Qb(m n:Nat)(f:Nat->Nat->Int):D:= .lst ((List.range m).map λi=>Qd n (f i))
@[simp] theorem Qyt(m:Nat)(f:Nat->Int):(Qd m f).flat=false:=rfl
@[simp] theorem Qyi(m n:Nat)(f:Nat->Nat->Int):(Qb m n f).flat=false:=rfl
@[simp] theorem Qyf(m:Nat)(f:Nat->Int):QZ ((List.range m).map λi=>D.int (f i))=true:=Qci (f:=λi=>D.int (f i)) (λ_=>rfl) _
noncomputable def up(f:Nat->Int)(i:Nat)(v:Int):Nat->Int:=λj=>if j=i then v else f j
noncomputable def up2(f:Nat->Nat->Int)(i j:Nat)(v:Int):Nat->Nat->Int:=λk=>if k=i then up (f k) j v else f k
theorem QcL{n:Nat}{i:Int}(h0:0<=i)(h:i<n):ixN n i=some i.toNat:=by
 unfold ixN;rw[if_pos (by omega),if_pos (by omega)]
theorem Qij{α:Type}{xs:List α}{i:Int}(h0:0<=i)(h:i<xs.length):atI xs i=xs[i.toNat]? :=by
 unfold atI;rw[QcL h0 h];rfl
theorem Qhj{α:Type}{m:Nat}{f:Nat->α}{i:Nat}{v:α}:((List.range m).map f).set i v=(List.range m).map λj=>if j=i then v else f j:=by
 apply ZaG
 intro k
 rw[Zbq]
 simp only[Zy,Zt,Zn]
 by_cases hk:k<m
 ·rw[Zz hk]
  by_cases e:i=k
  ·subst e;simp[hk]
  ·simp[e,Ne.symm e]
 ·rw[Zk (by simp;omega)]
  by_cases e:i=k
  ·subst e;simp[hk]
  ·simp[e]
theorem QoO{m:Nat}{f:Nat->Int}{i:Nat}{v:Int}:((List.range m).map λj=>D.int (f j)).set i (.int v)=(List.range m).map λj=>D.int (up f i v j):=by
 rw[Qhj]
 congr 1;funext j;unfold up;split<;>rfl
theorem QuQ{m:Nat}{f:Nat->Int}{i:Int}(h0:0<=i)(h:i<m):atI ((List.range m).map λj=>D.int (f j)) i=some (.int (f i.toNat)):=by
 rw[Qij h0 (by simpa using h),Zn,Zz (by omega)];rfl
theorem QoP{m n:Nat}{f:Nat->Nat->Int}{i:Int}(h0:0<=i)(h:i<m):atI ((List.range m).map λj=>Qd n (f j)) i=some (Qd n (f i.toNat)):=by
 rw[Qij h0 (by simpa using h),Zn,Zz (by omega)];rfl
theorem Qto{x m:Nat}{f:Nat->Int}{fi fa:DE}{ρ:En}{i:Int}{v:Int}{ri ra:R}{Q:Out->Prop}(hx:ρ[x]? =some (some (Qd m f,true)))(hi:fi ρ=some ri)(ei:ri.d= .int i)(ha:fa ρ=some ra)(ea:ra.d= .int v)(h0:0<=i)(h:i<m)
  (q:Q (.nx (ρ.set x (some (Qd m (up f i.toNat v),true))))):Run (QdH x Qbs fi fa) ρ Q:=by
 refine⟨_,?_,q⟩
 have hn:ra.norm=⟨.int v,true,[]⟩:=by unfold R.norm;rw[ea];rfl
 unfold QdH
 rw[ha,Za,hx]
 simp only[Qbs,Za,hi,ei,QbX,Qd,Zy,Zt,QcL h0 h,hn,ea,Qbz,QoO]
 simp[kill]
theorem Qa7{fa:DE}{ρ:En}{r:R}{n:Nat}(h:fa ρ=some r)(e:r.d= .int n)(hn:n<=16777216):QaK fa ρ=some ⟨(List.range n).map λ(k:Nat)=> .int (k:Int),[]⟩:=by
 unfold QaK
 rw[h,Za,e]
 dsimp only
 rw[if_pos ⟨by omega,by omega⟩]
 simp[QhE]
theorem QoH{α:Type}(x:α):∀n:Nat,(List.replicate n [x]).flatten=(List.range n).map λ_=>x
 | 0=>rfl
 | n+1=>by
  rw[Zab,Zai,QoH x n,ZbD,ZR,ZaM];rfl
theorem Qms{fb:DE}{ρ:En}{r:R}{n:Nat}{z:Int}(h:fb ρ=some r)(e:r.d= .int n)(hn:n<=16777216):QaM (Qat (Qc (dC (.int z)) Qe)) fb ρ=some ⟨Qd n (λ_=>z),true,[]⟩:=by
 have h1:Qat (Qc (dC (.int z)) Qe) ρ=some ⟨.lst [.int z],true,[]⟩:=rfl
 unfold QaM
 rw[h1,Za,h,Za,e]
 dsimp only
 rw[if_pos ⟨by simp[Qmp];omega,by omega,by omega,rfl⟩]
 simp only[ZJ,QoH]
 rfl
theorem QC{fa:DE}{r:R}{g:DS}{ρ:En}{Q:D->Bool->Prop}(h:fa ρ=some r)(q:Q r.d (r.norm.fr && decide r.norm.M.Nodup)):Run (Qf (QL fa) g) ρ (Rt Q):=QD (Qbq h q)
theorem Qm{n:Nat}{den:Den}{dfl:List D}{fs:DA}{ρ:En}{r:RA}{d:D}(h:fs ρ=some r)(hd:den (r.ds++dfl)=some (d,true))(hl:r.ds.length+dfl.length=n):Qh n den dfl fs ρ=some ⟨d,true,[]⟩:=by
 unfold Qh
 rw[h,Za,if_pos hl,hd]
 simp
theorem Qal{fa:DE}{ρ:En}{r:R}{xs:List D}(h:fa ρ=some r)(e:r.d= .lst xs):Qag fa ρ=some ⟨xs,r.M⟩:=by
 unfold Qag
 rw[h,Za,e]
theorem QoI(a b:Int):deq (.int a) (.int b)=decide (a=b):=by
 show PyData.eqv (.int a) (.int b)=_
 unfold PyData.eqv
 exact Bool.beq_eq_decide_eq a b
theorem Qb1{fa fb:DE}{ρ:En}{ra rb:R}{a b:Int}(ha:fa ρ=some ra)(ea:ra.d= .int a)(hb:fb ρ=some rb)(eb:rb.d= .int b):dOp gEq fa fb ρ=some ⟨.bl (decide (a=b)),true,[]⟩:=by
 refine QbU ha hb ?_
 rw[ea,eb]
 show some (D.bl (deq (.int a) (.int b)))=_
 rw[QoI]
theorem Qc2{fa fb:DE}{ρ:En}{ra rb:R}{a b:Int}(ha:fa ρ=some ra)(ea:ra.d= .int a)(hb:fb ρ=some rb)(eb:rb.d= .int b):dOp gNe fa fb ρ=some ⟨.bl (!decide (a=b)),true,[]⟩:=by
 refine QbU ha hb ?_
 rw[ea,eb]
 show some (D.bl (!deq (.int a) (.int b)))=_
 rw[QoI]
theorem QwO{fa fb:DE}{ρ:En}{a b:Bool}(ha:fa ρ=some ⟨.bl a,true,[]⟩)(hb:fb ρ=some ⟨.bl b,true,[]⟩):Qep fa fb ρ=some ⟨.bl (a && b),true,[]⟩:=by
 unfold Qep
 rw[ha]
 cases a<;>simp[D.tru,hb]
theorem QM{fa:DE}{ρ:En}{r:R}{b:Bool}(ha:fa ρ=some r)(e:r.d= .bl b):QO fa ρ=some b:=by
 unfold QO
 rw[ha,Za,e];rfl
theorem Qdp{g:DT}{ρ:En}{b:Bool}(h:g ρ=some b):Qek g ρ=some (!b):=by unfold Qek;rw[h];rfl
theorem Qc3{g1 g2:DT}{ρ:En}{a b:Bool}(ha:g1 ρ=some a)(hb:g2 ρ=some b):bOr g1 g2 ρ=some (a || b):=by
 unfold bOr;rw[ha];cases a<;>simp[hb]
theorem QaO{fa fb:DE}{ρ:En}{ra rb:R}{a b:Int}(ha:fa ρ=some ra)(ea:ra.d= .int a)(hb:fb ρ=some rb)(eb:rb.d= .int b)(h:Qd5 a b=true):QaM fa fb ρ=some ⟨.int (a*b),true,[]⟩:=by
 unfold QaM
 rw[ha,Za,hb,Za,ea,eb]
 simp[h]
theorem Qce{fa fb:DE}{ρ:En}{ra rb:R}{a b:Int}(ha:fa ρ=some ra)(ea:ra.d= .int a)(hb:fb ρ=some rb)(eb:rb.d= .int b):QX fa fb ρ=some ⟨.int (a+b),true,[]⟩:=by
 unfold QX
 rw[ha,Za,hb,Za,ea,eb]
theorem Qb6{fa fb:DE}{ρ:En}{ra rb:R}{a b:Int}(ha:fa ρ=some ra)(ea:ra.d= .int a)(hb:fb ρ=some rb)(eb:rb.d= .int b)(h:0<b):dOp Qco fa fb ρ=some ⟨.int (a % b),true,[]⟩:=by
 refine QbU ha hb ?_
 rw[ea,eb]
 show(if b≠0 then some (D.int (QcW a b))else none)=_
 rw[if_pos (by omega),QsC _ _ (by omega)]
theorem Qkb{fa fb:DE}{ρ:En}{ra rb:R}{a b:Int}(ha:fa ρ=some ra)(ea:ra.d= .int a)(hb:fb ρ=some rb)(eb:rb.d= .int b)(h:0<b)(h2:b<2^64):dOp Qcn fa fb ρ=some ⟨.int (a / b),true,[]⟩:=by
 refine QbU ha hb ?_
 rw[ea,eb]
 have:Qdc b=true:=by
  unfold Qdc
  have h3:b.natAbs<2^8000:=Zm (by omega:b.natAbs<2^64) (ZU (by decide) (by decide))
  simp only[Zi,decide_eq_true_eq]
  exact⟨by omega,h3⟩
 show(if Qdc b=true then some (D.int (Qeo a b))else none)=_
 rw[if_pos this,QmT _ _ (by omega)]
theorem Qay{fa:DE}{ρ:En}{r:R}(h:fa ρ=some r):Q7 fa ρ=some ⟨r.d,false,r.M⟩:=by unfold Q7;rw[h];rfl
theorem Qub{fa fb:DE}{ρ:En}{ra rb:R}{m:Nat}{f:Nat->Int}{i:Int}(ha:fa ρ=some ra)(ea:ra.d=Qd m f)(hb:fb ρ=some rb)(eb:rb.d= .int i)(h0:0<=i)(h:i<m):Qs fa fb ρ=some ⟨.int (f i.toNat),true,[]⟩:=by
 unfold Qs
 rw[ha,Za,hb,Za,ea,eb]
 simp only[Qd,D.items,Za,QuQ h0 h,Zak]
 rfl
theorem Qiv{fa fb:DE}{ρ:En}{ra rb:R}{ns:List Int}{i:Int}{v:Int}(ha:fa ρ=some ra)(ea:ra.d= .lst (ns.map .int))(hb:fb ρ=some rb)(eb:rb.d= .int i)(h0:0<=i)(h:ns[i.toNat]? =some v):Qs fa fb ρ=some ⟨.int v,true,[]⟩:=by
 have hl:i<ns.length:=by have:=(Zf.mp h).1;omega
 unfold Qs
 rw[ha,Za,hb,Za,ea,eb]
 simp only[D.items,Za]
 rw[Qij h0 (by simpa using hl),Zn,h]
 rfl
theorem Qni{n:Nat}{den:Den}{dfl:List D}{fs:DA}{ρ:En}{r:RA}{d:D}{fr:Bool}(h:fs ρ=some r)(hd:den (r.ds++dfl)=some (d,fr))(hl:r.ds.length+dfl.length=n):Qh n den dfl fs ρ=some (if fr=true then⟨d,true,[]⟩else HS.R.norm ⟨d,false,r.M⟩):=by
 unfold Qh
 rw[h,Za,if_pos hl,hd]
 rfl
noncomputable def Qhn:DS:=(Qf (QL (Qep (QhW "int" (Qa 0)) (Qg5 (QhW "bool" (Qa 0))))) Qo)
def Qlv(d:Den):Prop:=∀i:Int,d [.int i]=some (.bl true,true)
theorem Qsf:Qlv (Ql 1 Qhn):=λi=>rfl
noncomputable def QxT(W:List (Int×Int×Bool)):D:= .lst (W.map Qtr)
@[simp] theorem Qxt(W:List (Int×Int×Bool)):(QxT W).flat=false:=rfl
theorem Run.nx{f:DS}{ρ:En}{Q Q':En->Prop}(h:Run f ρ (Nx Q))(m:∀ρ,Q ρ->Q' ρ):Run f ρ (Nx Q'):=h.mono λo ho=>by
 cases o with
 | nx ρ=>exact m ρ ho
 | _=>exact ho.elim
theorem QaP{f g:DS}{ρ:En}{P:En->Prop}{Q:Out->Prop}(h:Run f ρ (Nx P))(k:∀ρ',P ρ'->Run g ρ' Q):Run (Qf f g) ρ Q:=run_seq (h.nx k)
theorem Qcz{f:Nat->Int}{i k:Nat}{v:Int}:up f i v k=if k=i then v else f k:=rfl
theorem Qfg{fa:DE}{ρ:En}{r:R}{xs:List D}(h:fa ρ=some r)(e:r.d= .lst xs):dBf Q8 (Qc fa Qe) ρ=some ⟨.int xs.length,true,[]⟩:=by
 unfold dBf
 rw[Qq h (QK _),Za]
 simp[e,Q8]
theorem QjM{fa fb:DE}{ρ:En}{ra rb:R}{d:D}(ha:fa ρ=some ra)(ea:ra.d=d)(hb:fb ρ=some rb)(eb:rb.d=d)(hs:d.sim 8=true):dOp gNe fa fb ρ=some ⟨.bl false,true,[]⟩:=by
 refine QbU ha hb ?_
 rw[ea,eb]
 unfold gNe
 rw[hs,QmZ hs];rfl
noncomputable def Qt(m:Nat)(g:Nat->Int):Int:=((List.range m).map g).sum
theorem QT(m:Nat)(g:Nat->Int):Qt (m+1) g=Qt m g+g m:=by
 unfold Qt;rw[ZbI,ZaX,List.sum_append_int];simp
theorem Qr{m:Nat}{f g:Nat->Int}(h:∀i,i<m->f i=g i):Qt m f=Qt m g:=by
 unfold Qt;rw[ZG λi hi=>h i (Zp.mp hi)]
theorem Qcp(m:Nat)(f g:Nat->Int):Qt m (λi=>f i+g i)=Qt m f+Qt m g:=by
 induction m with
 | zero=>rfl
 | succ m ih=>rw[QT,QT,QT,ih];omega
theorem QhA(m:Nat):Qt m (λ_=>0)=0:=by
 induction m with
 | zero=>rfl
 | succ m ih=>rw[QT,ih];rfl
theorem Qac(m:Nat)(c:Int)(f:Nat->Int):Qt m (λi=>c*f i)=c*Qt m f:=by
 induction m with
 | zero=>simp[Qt]
 | succ m ih=>rw[QT,QT,ih,Zau]
theorem QhX(m n:Nat)(f:Nat->Nat->Int):Qt m (λi=>Qt n λj=>f i j)=Qt n λj=>Qt m λi=>f i j:=by
 induction m with
 | zero=>show 0=Qt n λj=>0;rw[QhA]
 | succ m ih=>
  rw[QT,ih,← Qcp]
  exact Qr λj _=>by rw[QT]
theorem QcE{m:Nat}{p:Nat}(hp:p<m)(v:Int)(f:Nat->Int):Qt m (λi=>(if i=p then v else 0)*f i)=v*f p:=by
 induction m with
 | zero=>omega
 | succ m ih=>
  rw[QT]
  by_cases h:p=m
  ·subst h
   rw[if_pos rfl,Qr (g:=λ_=>0) λi hi=>by rw[if_neg (by omega)];simp,QhA];simp
  ·rw[ih (by omega),if_neg (λz=>h z.symm)];simp
theorem Qe9{m:Nat}{f g:Nat->Int}(h:∀i,i<m->f i=g i):Qd m f=Qd m g:=by
 unfold Qd
 congr 1
 refine ZG λi hi=>?_
 rw[h i (Zp.mp hi)]
theorem QsR{fa:DE}{r:R}{ρ:En}{Q:Out->Prop}(h:fa ρ=some r)(q:Q (.nx ρ)):Run (QcU fa) ρ Q:=⟨_,by simp[QcU,h],q⟩
theorem Qpf{m:Nat}(f g:Nat->D):QhV ((List.range m).map f) ((List.range m).map g)=(List.range m).map λi=> .tup [f i,g i]:=by
 generalize List.range m=l
 induction l with
 | nil=>rfl
 | cons n ns ih=>unfold QhV at ih ⊢;simp only[ZR,List.zip_cons_cons,ih]
theorem QrL{ρ:En}{m:Nat}{f:Nat->Int}{fs:DA}{rs:RA}(h:fs ρ=some rs)(e:rs.ds=[Qd m f]):dList fs ρ=some ⟨Qd m f,true,[]⟩:=by
 unfold dList
 rw[h,Za,e]
 simp[Qd,Qa2]
theorem QdT{fa fb:DE}{ρ:En}{ra rb:R}{m:Nat}{f g:Nat->D}(ha:fa ρ=some ra)(ea:ra.d= .lst ((List.range m).map f))(hb:fb ρ=some rb)(eb:rb.d= .lst ((List.range m).map g)):QbO fa fb ρ=some ⟨(List.range m).map λi=> .tup [f i,g i],ra.M++rb.M⟩:=by
 unfold QbO
 rw[ha,Za,hb,Za,ea,eb]
 simp only[Qpf]
theorem QuN{fa:DE}{ρ:En}{r:R}{m:Nat}{f:Nat->Int}(h:fa ρ=some r)(e:r.d=Qd m f):dBf QiC (Qc fa Qe) ρ=some ⟨.int (Qt m f),true,[]⟩:=by
 unfold dBf
 rw[Qq h (QK _),Za]
 have:Qd m f= .lst (((List.range m).map f).map .int):=by unfold Qd;rw[ZaM];rfl
 simp only[e,this,QiC,Qnl,Zak]
 rfl
theorem QhP{g:DT}{fb:DS}{Q:Out->Prop}(I:Nat->En->Prop)(step:∀n ρ,I n ρ->∃b,g ρ=some b/\(b=false->Q (.nx ρ))/\(b=true->Run fb ρ λo=>match o with | .nx ρ2=>∃n',n'<n/\I n' ρ2 | .ct ρ2=>∃n',n'<n/\I n' ρ2 | .bk ρ2=>Q (.nx ρ2) | .rt d fr=>Q (.rt d fr))):
  ∀(n:Nat) (ρ:En),I n ρ->Run (Qcy g fb) ρ Q:=by
 intro n
 induction n using Nat.strongRecOn with
 | _ n ih=>
  intro ρ h
  obtain⟨b,hb,hf,ht⟩:=step n ρ h
  unfold Run
  rw[Qqg,hb,Za]
  cases b with
  | false=>exact⟨_,by simp,hf rfl⟩
  | true=>
   obtain⟨o,ho,hq⟩:=ht rfl
   rw[if_pos rfl,ho,Za]
   cases o with
   | nx ρ2=>obtain⟨n',hn,hI⟩:=hq;exact ih n' hn ρ2 hI
   | ct ρ2=>obtain⟨n',hn,hI⟩:=hq;exact ih n' hn ρ2 hI
   | bk ρ2=>exact⟨_,rfl,hq⟩
   | rt d fr=>exact⟨_,rfl,hq⟩
theorem Qar{fa fb:DE}{ρ:En}{ra rb:R}{m:Nat}{f:Nat->Int}{i:Nat}(ha:fa ρ=some ra)(ea:ra.d=Qd m f)(hb:fb ρ=some rb)(eb:rb.d= .int i)(h:i<m):Qs fa fb ρ=some ⟨.int (f i),true,[]⟩:=by
 have:=Qub ha ea hb eb (by omega) (by omega)
 rw[ZJ]at this
 exact this
theorem QqL{fa fb fc:DE}{ρ:En}{ra rb rc:R}{n:Nat}(ha:fa ρ=some ra)(ea:ra.d= .int ((n:Int)-1))(hb:fb ρ=some rb)(eb:rb.d= .int (-1))(hc:fc ρ=some rc)(ec:rc.d= .int (-1))(hn:n<=16777216):QgB fa fb fc ρ=some ⟨(List.range n).map λ(k:Nat)=> .int ((n:Int)-1-k),[]⟩:=by
 unfold QgB
 rw[ha,Za,hb,Za,hc,Za,ea,eb,ec]
 show(if(n:Int)-1- -1<=16777216/\_ then _ else _)=_
 rw[if_pos ⟨by omega,by omega,by omega,by omega,by omega⟩]
 rw[show((n:Int)-1- -1).toNat=n by omega]
 rfl
theorem Qip{a:Int}{k:Nat}{ρ:En}(h1:a.natAbs<2^200)(h2:k<=1000):dOp QhY (dC (.int a)) (dC (.int k)) ρ=some ⟨.int (a^k),true,[]⟩:=by
 refine QbU (ra:=⟨.int a,true,[]⟩) (rb:=⟨.int k,true,[]⟩) rfl rfl ?_
 show(if 0<=(k:Int)/\(k:Int)<=1000/\a.natAbs<2^200 then some (D.int (a^(k:Int).toNat))else none)=_
 rw[if_pos ⟨by omega,by omega,h1⟩,ZJ]
theorem Qoy{fa:DE}{ρ:En}{r:R}{m:Nat}{f:Nat->Int}(h:fa ρ=some r)(e:r.d=Qd m f):dBf Q8 (Qc fa Qe) ρ=some ⟨.int m,true,[]⟩:=by
 rw[Qfg h e];simp
theorem Qhp{fs:DA}{ρ:En}{rs:RA}(h:fs ρ=some rs)(hl:rs.ds.length<=64):Qat fs ρ=some ⟨.lst rs.ds,rs.fr,rs.M⟩:=by
 unfold Qat
 rw[h,Za,if_pos hl]
theorem Qvi(n m:Nat)(f:Nat->Int):(Qd m f).sim (n+1)=true:=by
 unfold Qd
 simp only[D.sim,List.all_map,Zam]
 intro p _
 cases n<;>rfl
theorem Qda{fa fb:DE}{ρ:En}{ra rb:R}{m n:Nat}{f:Nat->Nat->Int}{i:Int}(ha:fa ρ=some ra)(ea:ra.d=Qb m n f)(hb:fb ρ=some rb)(eb:rb.d= .int i)(h0:0<=i)(h:i<m):Qs fa fb ρ=some ⟨Qd n (f i.toNat),ra.fr,ra.M⟩:=by
 unfold Qs
 rw[ha,Za,hb,Za,ea,eb]
 simp only[Qb,D.items,Za,QoP h0 h,Zak]
 rfl
theorem QrW{x m n:Nat}{f:Nat->Nat->Int}{fp fi fa:DE}{ρ:En}{i j v:Int}{rp ri ra:R}{Q:Out->Prop}(hx:ρ[x]? =some (some (Qb m n f,true)))(hp:fp ρ=some rp)(ep:rp.d= .int i)(hi:fi ρ=some ri)(ei:ri.d= .int j)(ha:fa ρ=some ra)(ea:ra.d= .int v)
  (h0:0<=i) (h:i<m) (k0:0<=j) (k:j<n) (q:Q (.nx (ρ.set x (some (Qb m n (up2 f i.toNat j.toNat v),true))))):Run (QdH x (Qd0 Qbs fp) fi fa) ρ Q:=by
 refine⟨_,?_,q⟩
 have hn:ra.norm=⟨.int v,true,[]⟩:=by unfold HS.R.norm;rw[ea];rfl
 have hd:QbX (Qb m n f) [i]=some (Qd n (f i.toNat)):=by
  simp only[QbX,Qb,D.items,Za,QoP h0 h]
 have hu:Qbz [i] (Qb m n f) (.lst (((List.range n).map λk=>D.int (f i.toNat k)).set j.toNat (.int v)))=Qb m n (up2 f i.toNat j.toNat v):=by
  simp only[Qbz,Qb,Zy,Zt,QcL h0 h,QoO]
  rw[Qhj]
  congr 2;funext k
  unfold up2
  split
  ·rename_i e;subst e;rfl
  ·rfl
 unfold QdH
 rw[ha,Za,hx]
 simp only[Qd0,Qbs,Za,hp,ep,List.nil_append,hi,ei,hd,Qd,Zy,Zt,QcL k0 k,hn,ea]
 simp only[kill,List.contains_nil,Bool.not_false,Bool.and_true,decide_true,Zay,if_true]
 rw[hu]
noncomputable def QpV:Option Int->D
 | none=> .non
 | some i=> .int i
@[simp] theorem Qr4(o:Option Int):(QpV o).flat=true:=by cases o<;>rfl
noncomputable def Qyz(m:Nat)(F:Nat->Option Int):D:= .lst ((List.range m).map λi=>QpV (F i))
@[simp] theorem QyK(m:Nat)(F:Nat->Option Int):(Qyz m F).flat=false:=rfl
@[simp] theorem Qye(m:Nat)(F:Nat->Option Int):QZ ((List.range m).map λi=>QpV (F i))=true:=Qci (f:=λi=>QpV (F i)) (λ_=>Qr4 _) _
theorem QlS{fa fb:DE}{ρ:En}{ra rb:R}{i j:Int}{n:Nat}(ha:fa ρ=some ra)(ea:ra.d= .int i)(hb:fb ρ=some rb)(eb:rb.d= .int j)(hn:(n:Int)=j-i)(hl:n<=16777216)(h1: -(2^62)<=i)(h2:i<2^61):Qec fa fb ρ=some ⟨(List.range n).map λ(k:Nat)=> .int (i+k),[]⟩:=by
 unfold Qec
 rw[ha,Za,hb,Za,ea,eb]
 show(if j-i<=16777216/\_ then _ else _)=_
 rw[if_pos ⟨by omega,by omega,by omega,by omega,by omega⟩]
 rw[show(j-i).toNat=n by omega]
 rfl
abbrev Qas(i:Int):Prop:=Builtin.Int.intBits i<=2^20
theorem Qph{i:Int}(h:i.natAbs<2^300):Qas i:=Zq (ZaY h) (by decide)
noncomputable def Qm1:DS:=(Qf (QL (QG (Qag (Qa 0)) (.nm 1) [none,none,some 1] QN (Qs (Qa 1) (Qa 2)))) Qo)
def QfH(d:Den):Prop:=∀(n m:Nat) (f:Nat->Nat->Int) (j:Nat),j<m->d [Qb n m f,.int j]=some (Qd n (λi=>f i j),true)
theorem Qqz:QfH (Ql 2 Qm1):=λn m f j hj=>
 QU (QC (QI (toD:=λ(i:Nat)=>Qd m (f i)) (out:=λ(i:Nat)=> .int (f i j)) (List.range n) (Qal (r:=⟨Qb n m f,false,[]⟩) rfl rfl) rfl λi _=>⟨_,rfl,⟨.int (f i j),true,[]⟩,Qar (m:=m) (f:=f i) (i:=j) (ra:=⟨Qd m (f i),false,[]⟩) (rb:=⟨.int j,true,[]⟩) rfl rfl rfl rfl hj,rfl,rfl⟩) ⟨rfl,rfl⟩)
noncomputable def Qnf(Qaq:Den):DS:=(Qf (QL (QG (QaK (dBf Q8 (Qc (Qa 0) Qe))) (.nm 1) [none,none,some 0] QN (Qh 2 Qaq [] (Qc (Qa 2) (Qc (Qa 1) Qe))))) Qo)
theorem QaL{fa:DE}{ρ:En}{r:R}{n m:Nat}{f:Nat->Nat->Int}(h:fa ρ=some r)(e:r.d=Qb n m f):dBf Q8 (Qc fa Qe) ρ=some ⟨.int n,true,[]⟩:=by
 rw[Qfg h e];simp
def QdF(d:Den):Prop:=∀(n:Nat) (f:Nat->Nat->Int),n<=1000->d [Qb n n f]=some (Qb n n (λj i=>f i j),true)
theorem Qqy{dc:Den}(hc:QfH dc):QdF (Ql 1 (Qnf dc)):=λn f hn=>
 QU (QC (QI (toD:=λ(k:Nat)=> .int (k:Int)) (out:=λ(j:Nat)=>Qd n (λi=>f i j)) (List.range n) (Qa7 (n:=n) (QaL (n:=n) (m:=n) (f:=f) (r:=⟨Qb n n f,false,[]⟩) rfl rfl) rfl (by omega)) rfl λj hj=>⟨[none,some (.int j,true),some (Qb n n f,false)],rfl,⟨Qd n (λi=>f i j),true,[]⟩,Qm (r:=⟨[Qb n n f,.int j],false,[]⟩) rfl (hc n n f j (Zp.mp hj)) rfl,rfl,rfl⟩) ⟨rfl,rfl⟩)
noncomputable def Qmw:DS:=(Qf (QL (dBf QiC (Qc (QG (QbO (Qa 0) (Qa 1)) (.tp [1,2]) [none,none,none] QN (QaM (Qa 1) (Qa 2))) Qe))) Qo)
def Qjc(d:Den):Prop:=∀(n:Nat) (a b:Nat->Int),(∀i,i<n->Qas (a i)/\Qas (b i))->d [Qd n a,Qd n b]=some (.int (Qt n λi=>a i*b i),true)
theorem Qqe:Qjc (Ql 2 Qmw):=λn a b hb=>
 QU (QC (QuN (m:=n) (f:=λi=>a i*b i) (QI (toD:=λ(i:Nat)=> .tup [.int (a i),.int (b i)]) (out:=λ(i:Nat)=> .int (a i*b i)) (List.range n) (QdT (ra:=⟨Qd n a,false,[]⟩) (rb:=⟨Qd n b,false,[]⟩) rfl rfl rfl rfl) rfl λi hi=>⟨[none,some (.int (a i),true),some (.int (b i),true)],rfl,⟨.int (a i*b i),true,[]⟩,QaO (a:=a i) (b:=b i) rfl rfl rfl rfl (Qdi (hb i (Zp.mp hi)).1 (hb i (Zp.mp hi)).2),rfl,rfl⟩) rfl) ⟨rfl,rfl⟩)
noncomputable def Qlz(QeB:Den):DS:=(Qf (QL (QG (Qag (Qa 1)) (.nm 1) [none,none,some 0] QN (Qh 2 QeB [] (Qc (Qa 2) (Qc (Qa 1) Qe))))) Qo)
def Qjq(d:Den):Prop:=∀(n k:Nat) (a:Nat->Int) (f:Nat->Nat->Int),(∀i,i<n->Qas (a i))->(∀j i,j<k->i<n->Qas (f j i))->d [Qd n a,Qb k n f]=some (Qd k (λj=>Qt n λi=>a i*f j i),true)
theorem Qrb{ds:Den}(hs:Qjc ds):Qjq (Ql 2 (Qlz ds)):=λn k a f ha hf=>
 QU (QC (QI (toD:=λ(j:Nat)=>Qd n (f j)) (out:=λ(j:Nat)=> .int (Qt n λi=>a i*f j i)) (List.range k) (Qal (r:=⟨Qb k n f,false,[]⟩) rfl rfl) rfl λj hj=>⟨_,rfl,⟨.int (Qt n λi=>a i*f j i),true,[]⟩,Qm (r:=⟨[Qd n a,Qd n (f j)],false,[]⟩) rfl (hs n a (f j) λi hi=>⟨ha i hi,hf j i (Zp.mp hj) hi⟩) rfl,rfl,rfl⟩) ⟨rfl,rfl⟩)
noncomputable def QlI(QW:Den)(QdP:Den):DS:=(Qf (Qp 2 (Qh 1 QW [] (Qc (Qa 1) Qe))) (Qf (QL (QG (Qag (Qa 0)) (.nm 1) [none,none,some 2] QN (Qh 2 QdP [] (Qc (Qa 1) (Qc (Qa 2) Qe))))) Qo))
noncomputable def prodF(n:Nat)(f g:Nat->Nat->Int):Nat->Nat->Int:=λi j=>Qt n λk=>f i k*g k j
def Qpg(n:Nat)(f:Nat->Nat->Int):Prop:=∀i j,i<n->j<n->Qas (f i j)
def QfO(d:Den):Prop:=∀(n:Nat) (f g:Nat->Nat->Int),n<=1000->Qpg n f->Qpg n g->d [Qb n n f,Qb n n g]=some (Qb n n (prodF n f g),true)
theorem QpL{dt dl:Den}(ht:QdF dt)(hl:Qjq dl):QfO (Ql 3 (QlI dt dl)):=λn f g hn hf hg=>by
 refine QU ?_
 refine run_seq (Qg (Qm (r:=⟨[Qb n n g],false,[]⟩) rfl (ht n g hn) rfl) ?_)
 rw[Qi]
 refine QC (r:=⟨Qb n n (prodF n f g),true,[]⟩) (QI (toD:=λ(i:Nat)=>Qd n (f i)) (out:=λ(i:Nat)=>Qd n (prodF n f g i)) (List.range n) (Qal (r:=⟨Qb n n f,false,[]⟩) rfl rfl) rfl λi hi=>⟨_,rfl,⟨Qd n (prodF n f g i),true,[]⟩,Qm (r:=⟨[Qd n (f i),Qb n n (λj i=>g i j)],false,[]⟩) rfl (hl n n (f i) (λj i=>g i j) (λk hk=>hf i k (Zp.mp hi) hk) (λj k hj hk=>hg k j hk hj)) rfl,rfl,rfl⟩) ⟨rfl,rfl⟩
theorem Qs5{x:Nat}{fa:DE}{ρ:En}{d:D}{xs:List D}{Q:Out->Prop}(hx:ρ[x]? =some (some (.lst xs,true)))(ha:fa ρ=some ⟨d,true,[]⟩)(hl:xs.length<16777216)(q:Q (.nx (ρ.set x (some (.lst (xs++[d]),true))))):Run (Qi0 x Qbs fa) ρ Q:=by
 refine⟨_,?_,q⟩
 have hn:(HS.R.mk d true []).norm=⟨d,true,[]⟩:=by unfold R.norm;split<;>rfl
 unfold Qi0
 rw[hx]
 simp only[Qbs,Za,ha,QbX,Qmo,hn,Qmp]
 simp[hl,kill,Qbz]
theorem Qs6{i n:Nat}{f:Nat->Nat->Int}:((List.range i).map λk=>Qd n (f k))++[Qd n (f i)]=(List.range (i+1)).map λk=>Qd n (f k):=by
 rw[ZbI,ZaX];rfl
noncomputable def QiL:DS:=(Qf (QL (QG (Qag (Qa 0)) (.nm 1) [none,none] QN (dList (Qc (Qa 1) Qe)))) Qo)
def QjT(d:Den):Prop:=∀(n m:Nat) (f:Nat->Nat->Int),d [Qb n m f]=some (Qb n m f,true)
theorem Qvr:QjT (Ql 1 QiL):=λn m f=>
 QU (QC (r:=⟨Qb n m f,true,[]⟩) (QI (toD:=λ(i:Nat)=>Qd m (f i)) (out:=λ(i:Nat)=>Qd m (f i)) (List.range n) (Qal (r:=⟨Qb n m f,false,[]⟩) rfl rfl) rfl λi _=>⟨_,rfl,⟨Qd m (f i),true,[]⟩,QrL (m:=m) (f:=f i) (rs:=⟨[Qd m (f i)],false,[]⟩) rfl rfl,rfl,rfl⟩) ⟨rfl,rfl⟩)
noncomputable def Qff(Qb3:Den):DS:=(Qf (sIf (bOr (Qek (QO (QhW "list" (Qa 0)))) (QO (dOp gNe (dBf Q8 (Qc (Qa 0) Qe)) (Qa 1)))) (Qf (QL (dC (.bl false))) Qo) Qo) (Qf (QL (dOp gEq (dBf Q8 (Qc (QG (Qag (Qa 0)) (.nm 1) [none,none] (QO (Qh 1 Qb3 [] (Qc (Qa 1) Qe))) (Qa 1)) Qe)) (Qa 1))) Qo))
def Qna(d:Den):Prop:=∀(n:Nat) (a:Nat->Int),d [Qd n a,.int n]=some (.bl true,true)
theorem Qt1{dw:Den}(hw:Qlv dw):Qna (Ql 2 (Qff dw)):=λn a=>by
 refine QU ?_
 refine QD (Qad (b:=false) (Qc3 (a:=false) (b:=false) (Qdp (b:=true) (QM (b:=true) rfl rfl)) (QM (b:=false) (r:=⟨.bl false,true,[]⟩) ((Qc2 (a:=n) (b:=n) (Qoy (m:=n) (f:=a) (r:=⟨Qd n a,false,[]⟩) rfl rfl) rfl (rb:=⟨.int n,true,[]⟩) rfl rfl).trans (by simp)) rfl)) (λh=>by cases h) (λ_=>Qy ?_))
 have ec:=Qkt (fi:=Qag (Qa 0)) (t:= .nm 1) (cap:=[none,none]) (ft:=QO (Qh 1 dw [] (Qc (Qa 1) Qe))) (fe:=Qa 1) (ρ:=[some (Qd n a,false),some (.int n,true)]) (toD:=λ(i:Nat)=> .int (a i)) (keep:=λ_=>true) (out:=λ(i:Nat)=> .int (a i)) (List.range n) (Qal (r:=⟨Qd n a,false,[]⟩) rfl rfl) rfl λi _=>⟨[none,some (.int (a i),true)],rfl,QM (b:=true) (Qm (r:=⟨[.int (a i)],true,[]⟩) rfl (hw (a i)) rfl) rfl,λ_=>⟨⟨.int (a i),true,[]⟩,rfl,rfl,rfl⟩⟩
 have el:=Qfg ec rfl
 rw[Zy,List.filter_eq_self.mpr λ_ _=>rfl,Zt]at el
 exact QC (r:=⟨.bl true,true,[]⟩) ((Qb1 (a:=n) (b:=n) el rfl (rb:=⟨.int n,true,[]⟩) rfl rfl).trans (by simp)) ⟨rfl,rfl⟩
noncomputable def QfR(Qbn:Den):DS:=(Qf (sIf (bOr (Qek (QO (QhW "list" (Qa 0)))) (QO (dOp gNe (dBf Q8 (Qc (Qa 0) Qe)) (Qa 1)))) (Qf (QL (dC (.bl false))) Qo) Qo) (Qf (Qdn (Qag (Qa 0)) (.nm 2) (Qf (sIf (Qek (QO (Qh 2 Qbn [] (Qc (Qa 2) (Qc (Qa 1) Qe))))) (Qf (QL (dC (.bl false))) Qo) Qo) Qo)) (Qf (QL (dC (.bl true))) Qo)))
def Qln(d:Den):Prop:=∀(n:Nat) (f:Nat->Nat->Int),d [Qb n n f,.int n]=some (.bl true,true)
theorem Qso{dn:Den}(hn:Qna dn):Qln (Ql 3 (QfR dn)):=λn f=>by
 refine QU ?_
 refine QD (Qad (b:=false) (Qc3 (a:=false) (b:=false) (Qdp (b:=true) (QM (b:=true) rfl rfl)) (QM (b:=false) (r:=⟨.bl false,true,[]⟩) ((Qc2 (a:=n) (b:=n) (QaL (n:=n) (m:=n) (f:=f) (r:=⟨Qb n n f,false,[]⟩) rfl rfl) rfl (rb:=⟨.int n,true,[]⟩) rfl rfl).trans (by simp)) rfl)) (λh=>by cases h) (λ_=>Qy ?_))
 refine QD (Qb0 (toD:=λ(i:Nat)=>Qd n (f i)) (List.range n) (λ_ ρ=>∃j2,ρ=[some (Qb n n f,false),some (.int n,true),j2]) (ir:=⟨(List.range n).map λi=>Qd n (f i),[]⟩) rfl rfl ⟨none,rfl⟩ ?_ ?_)
 ·rintro i i' ρ hi ⟨j2,rfl⟩
  refine⟨[some (Qb n n f,false),some (.int n,true),some (Qd n (f i'),false)],rfl,?_⟩
  exact QD (Qad (b:=false) (Qdp (b:=true) (QM (b:=true) (Qm (r:=⟨[Qd n (f i'),.int n],false,[]⟩) rfl (hn n (f i')) rfl) rfl)) (λh=>by cases h) (λ_=>Qy (Qy ⟨_,rfl⟩)))
 ·rintro ρ ⟨j2,rfl⟩
  exact QC (r:=⟨.bl true,true,[]⟩) rfl ⟨rfl,rfl⟩
noncomputable def QeE:DS:=(Qf (sIf (QO (dOp gLt (Qa 1) (dBf Q8 (Qc (Qa 0) Qe)))) (Qf (QL (Qs (Qa 0) (Qa 1))) Qo) Qo) (Qf (Qp 2 (QX (QaM (dC (.int 7919)) (Qa 1)) (dC (.int 5)))) (Qf (sIf (QO (dOp gGt (dBf Q8 (Qc (Qa 0) Qe)) (dC (.int 0)))) (Qf (Qp 2 (dOp Qco (QX (QaM (Qs (Qa 0) (dOp Qco (Qa 1) (dBf Q8 (Qc (Qa 0) Qe)))) (dC (.int 48271))) (QaM (Qa 1) (dC (.int 7919)))) (dC (.int 2147483647)))) Qo) Qo) (Qf (QL (dOp Qco (QaM (Qa 2) (Qa 2)) (dC (.int 2147483629)))) Qo))))
def Qif(d:Den):Prop:=∀ns:List Int,ns.length<=63->(∀k,Qas (ns.getD k 0))->∃F:Nat->Int,∀k:Nat,k<=1000->d [.lst (ns.map .int),.int k]=some (.int (F k),true)/\Qas (F k)
set_option exponentiation.threshold 400 in
theorem QsV:Qif (Ql 3 QeE):=λns hl hb=>by
 have key:∀k:Nat,k<=1000->∃v,Ql 3 QeE [.lst (ns.map .int),.int k]=some (.int v,true)/\Qas v:=λk hk=>by
  have elen:∀(ρ:En),ρ[0]? =some (some (.lst (ns.map .int),false))->dBf Q8 (Qc (Qa 0) Qe) ρ=some ⟨.int ns.length,true,[]⟩:=λρ h=>by
   rw[Qfg (xs:=ns.map D.int) (QhN h) rfl,Zy]
  have run:Run QeE (Qc8 3 [.lst (ns.map .int),.int k]) (Rt λd fr=>∃v,d= .int v/\fr=true/\Qas v):=by
   refine QD (Qad (b:=decide ((k:Int)<ns.length)) (QM (QbU (d:= .bl (decide ((k:Int)<ns.length))) (ra:=⟨.int k,true,[]⟩) rfl (elen _ rfl) rfl) rfl) (λh=>?_) (λh=>Qy ?_))
   ·have h:=of_decide_eq_true h
    obtain⟨c,hc⟩:∃c,ns[k]? =some c:=⟨_,Zat (by omega)⟩
    refine QD (Qbq (r:=⟨.int c,true,[]⟩) (Qiv (ns:=ns) (i:=k) (v:=c) (ra:=⟨.lst (ns.map .int),false,[]⟩) (rb:=⟨.int k,true,[]⟩) rfl rfl rfl rfl (by omega) (by simpa using hc)) ⟨c,rfl,rfl,?_⟩)
    have:=hb k
    rw[Zap,hc]at this
    exact this
   have h:=of_decide_eq_false h
   refine run_seq (Qg (Qce (a:=7919*k) (b:=5) (QaO (a:=7919) (b:=k) rfl rfl rfl rfl (Qet (by decide))) rfl rfl rfl) ?_)
   rw[Qi]
   refine QaP (P:=λρ=>∃v:Int,0<=v/\v<2147483647/\ρ=[some (.lst (ns.map .int),false),some (.int k,true),some (.int v,true)]) ?_ ?_
   ·refine Qad (b:=decide ((0:Int)<ns.length)) (QM (QbU (d:= .bl (decide ((0:Int)<ns.length))) (rb:=⟨.int 0,true,[]⟩) (elen _ rfl) rfl rfl) rfl) (λh2=>?_) (λh2=>Qy ⟨7919*k+5,by omega,by omega,rfl⟩)
    have h2:=of_decide_eq_true h2
    have x0:=Zaf (k:Int) (by omega:(ns.length:Int)≠0)
    have x1:=ZW (k:Int) h2
    obtain⟨c,hc⟩:∃c,ns[((k:Int) % (ns.length:Int)).toNat]? =some c:=⟨_,Zat (by omega)⟩
    refine run_seq (Qg (Qb6 (a:=c*48271+k*7919) (b:=2147483647) (Qce (a:=c*48271) (b:=k*7919) (QaO (a:=c) (b:=48271) (Qiv (ns:=ns) (i:=(k:Int) % (ns.length:Int)) (v:=c) (ra:=⟨.lst (ns.map .int),false,[]⟩) rfl rfl (Qb6 (a:=k) (b:=ns.length) rfl rfl (elen _ rfl) rfl (by omega)) rfl x0 hc) rfl rfl rfl (Qoz (by decide))) rfl (QaO (a:=k) (b:=7919) rfl rfl rfl rfl (Qoz (by decide))) rfl) rfl rfl rfl (by decide)) (Qy ?_))
    rw[Qi]
    exact⟨_,Zaf _ (by decide),ZW _ (by decide),rfl⟩
   rintro ρ ⟨v,v0,v1,rfl⟩
   have y0:=Zaf (v*v) (by decide:(2147483629:Int)≠0)
   have y1:=ZW (v*v) (by decide:(0:Int)<2147483629)
   refine QC (Qb6 (a:=v*v) (b:=2147483629) (QaO (a:=v) (b:=v) rfl rfl rfl rfl (Qet (by omega))) rfl rfl rfl (by decide)) ⟨v*v % 2147483629,rfl,rfl,Qph (by
    have:(v*v % 2147483629).natAbs<2147483629:=by omega
    exact ZbC this (by decide))⟩
  obtain⟨o,h1,h2⟩:=run
  cases o with
  | rt d fr=>
   obtain⟨v,rfl,rfl,h3⟩:=h2
   exact⟨v,by unfold Ql;rw[h1];rfl,h3⟩
  | _=>exact h2.elim
 refine⟨λk=>if h:k<=1000 then(key k h).choose else 0,λk hk=>?_⟩
 dsimp only
 rw[dif_pos hk]
 exact(key k hk).choose_spec
noncomputable def Qhl:DS:=(Qf (QL (dOp Qa9 (dOp Qco (QaM (Qa 0) (dOp QhY (dC (.int 618970019642690137449562111)) (dC (.int 3)))) (QX (QaM (dC (.int 2)) (Qa 1)) (dC (.int 1)))) (Qa 1))) Qo)
theorem QuK:Qas (618970019642690137449562111^3):=by decide+kernel
def QgK(d:Den):Prop:=∀c far:Int,Qas c->0<=far->∃v,d [.int c,.int far]=some (.int v,true)/\ -far<=v/\v<=far
theorem Qp8:QgK (Ql 2 Qhl):=λc far hc h0=>by
 have ep:∀ρ:En,dOp QhY (dC (.int 618970019642690137449562111)) (dC (.int 3)) ρ=some ⟨.int (618970019642690137449562111^3),true,[]⟩:=λρ=>Qip (a:=618970019642690137449562111) (k:=3) (by decide) (by decide)
 have hb:=QuK
 generalize (618970019642690137449562111:Int)^3=big at ep hb
 have x0:=Zaf (c*big) (by omega:2*far+1≠0)
 have x1:=ZW (c*big) (by omega:0<2*far+1)
 refine⟨c*big % (2*far+1)-far,QU (QC (QbU (d:= .int (c*big % (2*far+1)-far)) (rb:=⟨.int far,true,[]⟩) (Qb6 (a:=c*big) (b:=2*far+1) (QaO (a:=c) (b:=big) rfl rfl (ep _) rfl (Qdi hc hb)) rfl (Qce (a:=2*far) (b:=1) (QaO (a:=2) (b:=far) rfl rfl rfl rfl (Qet (by decide))) rfl rfl rfl) rfl (by omega)) rfl rfl) ⟨rfl,rfl⟩),by omega,by omega⟩
noncomputable def Qfo(Qaj:Den)(QbH:Den):DS:=(Qf (Qp 4 (Qat Qe)) (Qf (Qdn (QaK (Qa 2)) (.nm 5) (Qf (Qi0 4 Qbs (QG (QaK (Qa 2)) (.nm 1) [none,none,some 3,some 5,some 0,some 2,some 1] QN (Qh 2 QbH [] (Qc (Qh 2 Qaj [] (Qc (Qa 4) (Qc (QX (QX (Qa 6) (QaM (Qa 3) (Qa 5))) (Qa 1)) Qe))) (Qc (Qa 2) Qe))))) Qo)) (Qf (QL (Qa 4)) Qo)))
def InT(n:Nat)(far:Int)(f:Nat->Nat->Int):Prop:=∀i j,i<n->j<n-> -far<=f i j/\f i j<=far
theorem QrQ{dc dn:Den}(ns:List Int)(F:Nat->Int)(hc:∀k:Nat,k<=1000->dc [.lst (ns.map .int),.int k]=some (.int (F k),true)/\Qas (F k))(hn:QgK dn)(a n:Nat)(far:Int)(ha:a<=100)(hn8:n<=8)(h0:0<=far):∃f,Ql 6 (Qfo dc dn) [.lst (ns.map .int),.int a,.int n,.int far]=some (Qb n n f,true)/\InT n far f:=by
 have num:∀k:Nat,∃v,k<=1000->dn [.int (F k),.int far]=some (.int v,true)/\ -far<=v/\v<=far:=λk=>by
  by_cases hk:k<=1000
  ·obtain⟨v,h⟩:=hn (F k) far (hc k hk).2 h0
   exact⟨v,λ_=>h⟩
  ·exact⟨0,λh=>absurd h hk⟩
 refine⟨λi j=>(num (a+i*n+j)).choose,QU ?_,λi j hi hj=>?_⟩
 ·refine run_seq (Qg (r:=⟨Qb 0 n λi j=>(num (a+i*n+j)).choose,true,[]⟩) rfl ?_)
  rw[Qi]
  refine QaP (P:=λρ=>∃j5,ρ=[some (.lst (ns.map .int),false),some (.int a,true),some (.int n,true),some (.int far,true),some (Qb n n λi j=>(num (a+i*n+j)).choose,true),j5]) ?_ ?_
  ·refine Qb0 (toD:=λ(k:Nat)=> .int (k:Int)) (List.range n) (λi ρ=>∃j5,ρ=[some (.lst (ns.map .int),false),some (.int a,true),some (.int n,true),some (.int far,true),some (Qb i n λi j=>(num (a+i*n+j)).choose,true),j5]) (Qa7 (n:=n) (r:=⟨.int n,true,[]⟩) rfl rfl (by omega)) rfl ⟨none,rfl⟩ ?_ ?_
   ·rintro i i' ρ hi ⟨j5,rfl⟩
    have hi':i<n/\i=i':=by
     obtain⟨h1,h2⟩:=Zf.mp hi
     simp at h1 h2;exact⟨h1,h2⟩
    obtain⟨him,rfl⟩:=hi'
    refine⟨[some (.lst (ns.map .int),false),some (.int a,true),some (.int n,true),some (.int far,true),some (Qb i n λi j=>(num (a+i*n+j)).choose,true),some (.int i,true)],rfl,?_⟩
    refine run_seq (Qs5 (xs:=(List.range i).map λk=>Qd n (λj=>(num (a+k*n+j)).choose)) (d:=Qd n (λj=>(num (a+i*n+j)).choose)) rfl ?_ (by simp;omega) (Qy ⟨some (.int i,true),?_⟩))
    ·refine QI (toD:=λ(k:Nat)=> .int (k:Int)) (out:=λ(j:Nat)=> .int (num (a+i*n+j)).choose) (List.range n) (Qa7 (n:=n) (r:=⟨.int n,true,[]⟩) rfl rfl (by omega)) rfl λj hj=>⟨[none,some (.int j,true),some (.int far,true),some (.int i,true),some (.lst (ns.map .int),false),some (.int n,true),some (.int a,true)],rfl,⟨.int (num (a+i*n+j)).choose,true,[]⟩,?_,rfl,rfl⟩
     have hj:=Zp.mp hj
     have hin:i*n<=7*8:=Zav (by omega) hn8
     have hk:a+i*n+j<=1000:=by omega
     have ei:QX (QX (Qa 6) (QaM (Qa 3) (Qa 5))) (Qa 1) [none,some (.int j,true),some (.int far,true),some (.int i,true),some (.lst (ns.map .int),false),some (.int n,true),some (.int a,true)]=some ⟨.int ((a+i*n+j:Nat):Int),true,[]⟩:=by
      refine(Qce (a:=a+i*n) (b:=j) (Qce (a:=a) (b:=i*n) rfl rfl (QaO (a:=i) (b:=n) rfl rfl rfl rfl (Qet (by omega))) rfl) rfl rfl rfl).trans ?_
      rw[show((a+i*n+j:Nat):Int)=(a:Int)+i*n+j by simp]
     exact Qm (Qq (Qm (Qq (r:=⟨.lst (ns.map .int),false,[]⟩) rfl (Qq ei (QK _))) (hc _ hk).1 rfl) (Qq (r:=⟨.int far,true,[]⟩) rfl (QK _))) ((num (a+i*n+j)).choose_spec hk).1 rfl
    ·rw[Qs6 (f:=λi j=>(num (a+i*n+j)).choose)];rfl
   ·rintro ρ ⟨j5,rfl⟩
    rw[Zt]
    exact⟨_,rfl⟩
  rintro ρ ⟨j5,rfl⟩
  exact QC (r:=⟨Qb n n λi j=>(num (a+i*n+j)).choose,true,[4]⟩) rfl ⟨rfl,rfl⟩
 ·have hin:i*n<=7*8:=Zav (by omega) hn8
  exact((num (a+i*n+j)).choose_spec (by omega)).2
theorem Qmr{fa fb:DE}{ρ:En}{ra rb:R}{m k:Nat}{f g:Nat->Int}(ha:fa ρ=some ra)(ea:ra.d=Qd m f)(hb:fb ρ=some rb)(eb:rb.d=Qd k g)(hl:m+k<=1000):QX fa fb ρ=some ⟨Qd (m+k) (λi=>if i<m then f i else g (i-m)),true,[]⟩:=by
 have e:Qd (m+k) (λi=>if i<m then f i else g (i-m))= .lst (((List.range m).map λi=>D.int (f i))++((List.range k).map λi=>D.int (g i))):=by
  unfold Qd
  rw[List.range_add,ZaX,ZaM]
  congr 2
  ·refine ZG λi hi=>?_
   show D.int (if i<m then f i else g (i-m))=_
   rw[if_pos (Zp.mp hi)]
  ·refine ZG λi hi=>?_
   show D.int (if m+i<m then f (m+i)else g (m+i-m))=_
   rw[if_neg (by omega),Nat.add_sub_cancel_left]
 rw[e]
 unfold QX
 rw[ha,Za,hb,Za,ea,eb]
 simp only[Qd,Zy,Zt,Qmp]
 rw[if_pos (by omega)]
 unfold Qa2
 rw[if_pos]
 rw[QbY,Zi]
 exact⟨Qci (λ_=>rfl) _,Qci (λ_=>rfl) _⟩
def QhF(d:Den):Prop:=∀ns:List Int,ns.length<=63->(∀k,Qas (ns.getD k 0))->∀(a n:Nat) (far:Int),a<=100->n<=8->0<=far->∃f,d [.lst (ns.map .int),.int a,.int n,.int far]=some (Qb n n f,true)/\InT n far f
theorem QpN{dc dn:Den}(hc:Qif dc)(hn:QgK dn):QhF (Ql 6 (Qfo dc dn)):=λns hl hb a n far ha h8 h0=>by
 obtain⟨F,hF⟩:=hc ns hl hb
 exact QrQ ns F hF hn a n far ha h8 h0
theorem Qvc(k n m:Nat)(f:Nat->Nat->Int):(Qb n m f).sim (k+2)=true:=by
 unfold Qb
 simp only[D.sim,List.all_map,Zam]
 intro i _
 exact Qvi k m (f i)
noncomputable def sm:Nat->(Nat->Int)->Int
 | 0,_=>0
 | n+1,f=>sm n f+f n
theorem QaR{f g:Nat->Int}:∀{n:Nat},(∀i,i<n->f i=g i)->sm n f=sm n g
 | 0,_=>rfl
 | n+1,h=>by unfold sm;rw[QaR λi hi=>h i (by omega),h n (by omega)]
theorem Qhz(x y:Int)(f g:Nat->Int):∀n,sm n (λi=>x*f i+y*g i)=x*sm n f+y*sm n g
 | 0=>by simp[sm]
 | n+1=>by
  unfold sm
  rw[Qhz x y f g n,Zau,Zau]
  show _+(x*f n+y*g n)=_
  omega
theorem Qiy{f:Nat->Int}:∀{n:Nat},(∀i,i<n->f i=0)->sm n f=0
 | 0,_=>rfl
 | n+1,h=>by unfold sm;rw[Qiy λi hi=>h i (by omega),h n (by omega)];rfl
theorem Qdo{f:Nat->Int}{c:Nat}:∀{n:Nat},c<n->(∀i,i<n->i≠c->f i=0)->sm n f=f c
 | 0,hc,_=>by omega
 | n+1,hc,h=>by
  unfold sm
  by_cases e:c=n
  ·rw[Qiy λi hi=>h i (by omega) (by omega),e];omega
  ·rw[Qdo (c:=c) (by omega) λi hi=>h i (by omega),h n (by omega) (Ne.symm e)];omega
theorem QjV{f:Nat->Int}{c d:Nat}:∀{n:Nat},c<d->d<n->(∀i,i<n->i≠c->i≠d->f i=0)->sm n f=f c+f d
 | 0,_,hc,_=>by omega
 | n+1,hcd,hd,h=>by
  unfold sm
  by_cases e:d=n
  ·rw[Qdo (c:=c) (by omega) λi hi ne=>h i (by omega) ne (by omega),e]
  ·rw[QjV (c:=c) (d:=d) hcd (by omega) λi hi=>h i (by omega),h n (by omega) (by omega) (by omega)];omega
theorem Qk8(x:Int)(f:Nat->Int):∀n,sm n (λi=>f i*x)=sm n f*x
 | 0=>by simp[sm]
 | n+1=>by unfold sm;rw[Qk8 x f n,ZaI]
noncomputable def skp(j c:Nat):Nat:=if c<j then c else c+1
noncomputable def sgn(j:Nat):Int:=if j % 2=0 then 1 else-1
theorem Qjb(j:Nat):sgn (j+1)= -sgn j:=by
 unfold sgn
 by_cases h:j % 2=0
 ·rw[if_pos h,if_neg (by omega)]
 ·rw[if_neg h,if_pos (by omega)];rfl
noncomputable def det:Nat->(Nat->Nat->Int)->Int
 | 0,_=>1
 | n+1,m=>sm (n+1) λj=>sgn j*m j 0*det n λc r=>m (skp j c) (r+1)
noncomputable def cup(m:Nat->Nat->Int)(c:Nat)(a:Nat->Int):Nat->Nat->Int:=λj=>if j=c then a else m j
theorem Qv(m:Nat->Nat->Int)(c:Nat)(a:Nat->Int):cup m c a c=a:=by unfold cup;rw[if_pos rfl]
theorem Qu(m:Nat->Nat->Int){c j:Nat}(a:Nat->Int)(h:j≠c):cup m c a j=m j:=by unfold cup;rw[if_neg h]
theorem Q9(m:Nat->Nat->Int)(c:Nat):cup m c (m c)=m:=by
 funext j
 by_cases h:j=c
 ·rw[h,Qv]
 ·rw[Qu _ _ h]
theorem Qlh(m:Nat->Nat->Int)(c:Nat)(a b:Nat->Int):cup (cup m c a) c b=cup m c b:=by
 funext j
 by_cases h:j=c
 ·rw[h,Qv,Qv]
 ·rw[Qu _ _ h,Qu _ _ h,Qu _ _ h]
theorem Q4(m:Nat->Nat->Int){c d:Nat}(a b:Nat->Int)(h:c≠d):cup (cup m c a) d b=cup (cup m d b) c a:=by
 funext j
 by_cases h1:j=c
 ·subst h1;rw[Qu _ _ h,Qv,Qv]
 ·by_cases h2:j=d
  ·subst h2;rw[Qv,Qu _ _ h1,Qv]
  ·rw[Qu _ _ h2,Qu _ _ h1,Qu _ _ h1,Qu _ _ h2]
theorem QE:∀{n:Nat}{m k:Nat->Nat->Int},(∀j,j<n->∀r,r<n->m j r=k j r)->det n m=det n k
 | 0,_,_,_=>rfl
 | n+1,m,k,h=>by
  unfold det
  refine QaR λj hj=>?_
  rw[h j hj 0 (by omega),QE (n:=n) (m:=λc r=>m (skp j c) (r+1)) (k:=λc r=>k (skp j c) (r+1)) λc hc r hr=>h _ (by unfold skp;split<;>omega) _ (by omega)]
theorem Qhu(m:Nat->Nat->Int)(c:Nat)(v:Nat->Int):(λc' r=>cup m c v (skp c c') (r+1))=λc' r=>m (skp c c') (r+1):=by
 funext c' r
 rw[Qu _ _ (by unfold skp;split<;>omega)]
theorem QgV(m:Nat->Nat->Int){c j:Nat}(v:Nat->Int)(h:c≠j):(λc' r=>cup m c v (skp j c') (r+1))=cup (λc' r=>m (skp j c') (r+1)) (if c<j then c else c-1) (λr=>v (r+1)):=by
 funext c' r
 by_cases e:c'=if c<j then c else c-1
 ·rw[e,Qv]
  have:skp j (if c<j then c else c-1)=c:=by
   unfold skp
   by_cases q:c<j
   ·rw[if_pos q,if_pos q]
   ·rw[if_neg q,if_neg (by omega)];omega
  rw[this,Qv]
 ·rw[Qu _ _ e,Qu]
  intro z
  refine e ?_
  unfold skp at z
  by_cases q:c'<j
  ·rw[if_pos q]at z;rw[if_pos (by omega)];omega
  ·rw[if_neg q]at z;rw[if_neg (by omega)];omega
theorem Qen(x y:Int)(a b:Nat->Int):∀(n:Nat) (m:Nat->Nat->Int) (c:Nat),c<n->∀(a b:Nat->Int),det n (cup m c λr=>x*a r+y*b r)=x*det n (cup m c a)+y*det n (cup m c b)
 | 0,_,_,h,_,_=>by omega
 | n+1,m,c,h,a,b=>by
  unfold det
  rw[← Qhz]
  refine QaR λj hj=>?_
  by_cases e:j=c
  ·subst e
   rw[Qhu,Qhu,Qhu,Qv,Qv,Qv]
   generalize det n _=q
   generalize sgn j=s
   simp only[Zau,ZaI,ZC,ZF]
  ·rw[QgV m _ (Ne.symm e),QgV m _ (Ne.symm e),QgV m _ (Ne.symm e),Qu _ _ e,Qu _ _ e,Qu _ _ e]
   rw[Qen x y a b n _ _ (by split<;>omega)]
   generalize det n _=q
   generalize det n _=q'
   generalize sgn j*m j 0=s
   simp only[Zau,ZF]
theorem Qie{n:Nat}{m:Nat->Nat->Int}{c:Nat}(h:c<n)(a b:Nat->Int):det n (cup m c λr=>a r+b r)=det n (cup m c a)+det n (cup m c b):=by
 have:=Qen 1 1 a b n m c h a b
 simpa only[ZP]using this
theorem QdQ{n:Nat}{m:Nat->Nat->Int}{c:Nat}(h:c<n)(x:Int)(a:Nat->Int):det n (cup m c λr=>x*a r)=x*det n (cup m c a):=by
 have:=Qen x 0 a a n m c h a a
 simpa only[ZE,Zbd]using this
theorem Qis:∀(n:Nat) (m:Nat->Nat->Int) (c:Nat),c+1<n->m c=m (c+1)->det n m=0
 | 0,_,_,h,_=>by omega
 | n+1,m,c,h,e=>by
  unfold det
  rw[QjV (c:=c) (d:=c+1) (by omega) h]
  ·have:(λc' r=>m (skp c c') (r+1))=λc' r=>m (skp (c+1) c') (r+1):=by
    funext c' r
    unfold skp
    by_cases q:c'<c
    ·rw[if_pos q,if_pos (by omega)]
    ·rw[if_neg q]
     by_cases q2:c'=c
     ·rw[if_pos (by omega),q2,e]
     ·rw[if_neg (by omega)]
   rw[this,Qjb,e]
   generalize det n _=q
   rw[ZaJ,ZaJ];omega
  ·intro j hj h1 h2
   have:det n (λc' r=>m (skp j c') (r+1))=0:=by
    by_cases q:c<j
    ·refine Qis n _ c (by omega) ?_
     funext r
     show m (skp j c) (r+1)=m (skp j (c+1)) (r+1)
     unfold skp
     rw[if_pos q,if_pos (by omega),e]
    ·refine Qis n _ (c-1) (by omega) ?_
     funext r
     show m (skp j (c-1)) (r+1)=m (skp j (c-1+1)) (r+1)
     unfold skp
     rw[if_neg (by omega),if_neg (by omega),show c-1+1=c by omega,e]
   rw[this,ZA]
theorem QiM{n:Nat}{m:Nat->Nat->Int}{c d:Nat}(hc:c<n)(hd:d<n)(hcd:c≠d)(hz:∀k:Nat->Nat->Int,k c=k d->det n k=0)(a b:Nat->Int):det n (cup (cup m c a) d b)= -det n (cup (cup m c b) d a):=by
 have z:=hz (cup (cup m c λr=>a r+b r) d λr=>a r+b r) (by rw[Qv,Qu _ _ hcd,Qv])
 have za:=hz (cup (cup m c a) d a) (by rw[Qv,Qu _ _ hcd,Qv])
 have zb:=hz (cup (cup m c b) d b) (by rw[Qv,Qu _ _ hcd,Qv])
 rw[Qie hd,Q4 _ _ _ hcd,Qie hc,Q4 _ _ _ hcd,Qie hc,Q4 _ _ _ (Ne.symm hcd),Q4 _ _ _ (Ne.symm hcd),Q4 _ _ _ (Ne.symm hcd),Q4 _ _ _ (Ne.symm hcd),za,zb]at z
 omega
theorem QkC:∀(g n:Nat) (m:Nat->Nat->Int) (i:Nat),i+g+1<n->m i=m (i+g+1)->det n m=0
 | 0,n,m,i,h,e=>Qis n m i h e
 | g+1,n,m,i,h,e=>by
  have:=QiM (m:=m) (c:=i+g+1) (d:=i+g+1+1) (by omega) (by omega) (by omega) (λk hk=>Qis n k _ (by omega) hk) (m (i+g+1)) (m (i+g+1+1))
  rw[Q9,Q9]at this
  rw[this,QkC g n _ i (by omega)]
  ·rfl
  ·rw[Qu _ _ (by omega),Qu _ _ (by omega),Qu _ _ (by omega),Qv]
   exact e
theorem Qd2{n:Nat}{m:Nat->Nat->Int}{i j:Nat}(hi:i<n)(hj:j<n)(hij:i≠j)(e:m i=m j):det n m=0:=by
 rcases Nat.lt_or_gt_of_ne hij with h | h
 ·exact QkC (j-i-1) n m i (by omega) (by rw[show i+(j-i-1)+1=j by omega];exact e)
 ·exact QkC (i-j-1) n m j (by omega) (by rw[show j+(i-j-1)+1=i by omega];exact e.symm)
theorem QdJ{n:Nat}{m:Nat->Nat->Int}{c d:Nat}(hc:c<n)(hd:d<n)(hcd:c≠d)(a b:Nat->Int):det n (cup (cup m c a) d b)= -det n (cup (cup m c b) d a):=QiM hc hd hcd (λk hk=>Qd2 hc hd hcd hk) a b
theorem Qe6{n:Nat}{m:Nat->Nat->Int}{c:Nat}(h:c<n)(x:Nat->Int)(E:Nat->Nat->Int):∀k,det n (cup m c λr=>sm k λs=>x s*E s r)=sm k λs=>x s*det n (cup m c (E s))
 | 0=>by
  have:=QdQ (m:=m) h 0 λ_=>0
  rw[ZE]at this
  unfold sm
  simpa using this
 | k+1=>by
  unfold sm
  rw[Qie h,Qe6 h x E k,QdQ h]
theorem QnH:∀{n:Nat}(σ:Nat->Nat),(∀j,j<n+1->σ j<n)->∃i j,i<n+1/\j<n+1/\i≠j/\σ i=σ j
 | 0,σ,h=>absurd (h 0 (by omega)) (by omega)
 | n+1,σ,h=>by
  by_cases q:∃i,i<n+1/\σ i=σ (n+1)
  ·obtain⟨i,hi,e⟩:=q
   exact⟨i,n+1,by omega,by omega,by omega,e⟩
  ·have ne:∀i,i<n+1->σ i≠σ (n+1):=λi hi e=>q ⟨i,hi,e⟩
   have hv:=h (n+1) (by omega)
   obtain⟨i,j,hi,hj,hij,e⟩:=QnH (n:=n) (λj=>if σ (n+1)<σ j then σ j-1 else σ j) λj hj=>by
    have:=h j (by omega)
    have:=ne j hj
    show(if σ (n+1)<σ j then σ j-1 else σ j)<n
    by_cases c:σ (n+1)<σ j
    ·rw[if_pos c];omega
    ·rw[if_neg c];omega
   refine⟨i,j,by omega,by omega,hij,?_⟩
   have a:=ne i hi
   have b:=ne j hj
   have e:(if σ (n+1)<σ i then σ i-1 else σ i)=(if σ (n+1)<σ j then σ j-1 else σ j):=e
   by_cases c:σ (n+1)<σ i
   ·rw[if_pos c]at e
    by_cases d:σ (n+1)<σ j
    ·rw[if_pos d]at e;omega
    ·rw[if_neg d]at e;omega
   ·rw[if_neg c]at e
    by_cases d:σ (n+1)<σ j
    ·rw[if_pos d]at e;omega
    ·rw[if_neg d]at e;omega
theorem Qm5{n:Nat}{E:Nat->Nat->Int}{x:Nat->Nat->Int}:∀(k:Nat) (W:Nat->Nat->Int) (σ:Nat->Nat),k<=n+1->(∀j,j<n+1->σ j<n)->(∀j,j<k->W j=λr=>sm n λs=>x j s*E s r)->(∀j,k<=j->j<n+1->W j=E (σ j))->det (n+1) W=0
 | 0,W,σ,hk,hσ,_,h2=>by
  obtain⟨i,j,hi,hj,hij,e⟩:=QnH σ hσ
  exact Qd2 hi hj hij (by rw[h2 i (by omega) hi,h2 j (by omega) hj,e])
 | k+1,W,σ,hk,hσ,h1,h2=>by
  have:=Qe6 (n:=n+1) (m:=W) (c:=k) (by omega) (x k) E n
  rw[← h1 k (by omega),Q9]at this
  rw[this]
  refine Qiy λs hs=>?_
  rw[Qm5 k (cup W k (E s)) (λj=>if j=k then s else σ j) (by omega) (λj hj=>by show(if j=k then s else σ j)<n;by_cases e:j=k;(rw[if_pos e];exact hs);(rw[if_neg e];exact hσ j hj)) (λj hj=>by rw[Qu _ _ (by omega)];exact h1 j (by omega)) λj h3 h4=>?_,ZA]
  show cup W k (E s) j=E (if j=k then s else σ j)
  by_cases e:j=k
  ·rw[e,Qv,if_pos rfl]
  ·rw[Qu _ _ e,if_neg e];exact h2 j (by omega) h4
noncomputable def cyc(m:Nat->Nat->Int)(a:Nat->Int)(l k:Nat):Nat->Nat->Int:=λc=>if c<k then m c else if c=k then a else if c<=l then m (c-1)else m c
theorem Qti{n:Nat}(m:Nat->Nat->Int)(a:Nat->Int){l k:Nat}(hk:k<l)(hl:l<n):det n (cyc m a l k)= -det n (cyc m a l (k+1)):=by
 have h:=QdJ (n:=n) (m:=cyc m a l k) (c:=k) (d:=k+1) (by omega) (by omega) (by omega) a (m k)
 have e1:cup (cup (cyc m a l k) k a) (k+1) (m k)=cyc m a l k:=by
  have q1:cyc m a l k k=a:=by unfold cyc;rw[if_neg (by omega),if_pos rfl]
  have q2:cyc m a l k (k+1)=m k:=by unfold cyc;rw[if_neg (by omega),if_neg (by omega),if_pos (by omega),ZaN]
  have:=Q9 (cyc m a l k) k
  rw[q1]at this
  rw[this,← q2,Q9]
 have e2:cup (cup (cyc m a l k) k (m k)) (k+1) a=cyc m a l (k+1):=by
  funext c
  by_cases h1:c=k+1
  ·subst h1;rw[Qv];unfold cyc;rw[if_neg (by omega),if_pos rfl]
  ·rw[Qu _ _ h1]
   by_cases h2:c=k
   ·subst h2;rw[Qv];unfold cyc;rw[if_pos (by omega)]
   ·rw[Qu _ _ h2]
    unfold cyc
    by_cases h3:c<k
    ·rw[if_pos h3,if_pos (by omega)]
    ·rw[if_neg h3,if_neg h2,if_neg (show ¬c<k+1 by omega),if_neg h1]
 rw[e1,e2]at h
 exact h
theorem Qot{n:Nat}(m:Nat->Nat->Int)(a:Nat->Int){l:Nat}(hl:l<n):∀g k,k+g=l->det n (cyc m a l k)=sgn g*det n (cup m l a)
 | 0,k,h=>by
  have:cyc m a l k=cup m l a:=by
   funext c
   unfold cyc cup
   by_cases h1:c=l
   ·rw[if_neg (by omega),if_pos (by omega),if_pos h1]
   ·rw[if_neg h1]
    by_cases h2:c<k
    ·rw[if_pos h2]
    ·rw[if_neg h2,if_neg (by omega),if_neg (by omega)]
  rw[this];unfold sgn;simp
 | g+1,k,h=>by
  rw[Qti m a (by omega) hl,Qot m a hl g (k+1) (by omega),Qjb,ZaJ]
theorem QwY(j:Nat):sgn j*sgn j=1:=by unfold sgn;split<;>rfl
noncomputable def bE(r s q:Nat):Int:=if q=0 then(if s=r then 1 else 0)else if s=q-1 then 1 else 0
theorem QmR{n:Nat}(m:Nat->Nat->Int)(a:Nat->Int){r:Nat}(hr:r<n):det n m*a r=sm n λl=>det n (cup m l a)*m l r:=by
 have v0:∃v:Nat->Nat->Int,v=λj=>if j=0 then a else m (j-1):=⟨_,rfl⟩
 obtain⟨v,hv⟩:=v0
 have hv0:v 0=a:=by rw[hv];rfl
 have hvs:∀j,v (j+1)=m j:=λj=>by rw[hv];show(if j+1=0 then a else m (j+1-1))=_;rw[if_neg (by omega),ZaN]
 have z:det (n+1) (λj s=>if s=0 then v j r else v j (s-1))=0:=by
  have key:det (n+1) (λj q=>sm n λs=>v j s*bE r s q)=0:=
   Qm5 (E:=bE r) (x:=v) (n+1) _ (λ_=>r) (by omega) (λ_ _=>hr) (λj _=>rfl) (λj h1 h2=>by omega)
  rw[← key]
  refine QE λj hj s hs=>?_
  by_cases e:s=0
  ·subst e
   rw[if_pos rfl,Qdo (c:=r) hr]
   ·unfold bE;rw[if_pos rfl,if_pos rfl,Zal]
   ·intro i _ ne;unfold bE;rw[if_pos rfl,if_neg ne,ZA]
  ·rw[if_neg e,Qdo (c:=s-1) (by omega)]
   ·unfold bE;rw[if_neg e,if_pos rfl,Zal]
   ·intro i _ ne;unfold bE;rw[if_neg e,if_neg ne,ZA]
 unfold det at z
 have term:∀j,(sgn j*(if(0:Nat)=0 then v j r else v j (0-1))*det n λc q=>if q+1=0 then v (skp j c) r else v (skp j c) (q+1-1))=sgn j*v j r*det n λc=>v (skp j c):=λj=>by
  rw[if_pos rfl]
  congr 1
 have first:∀(k:Nat) (f:Nat->Int),sm (k+1) f=f 0+sm k λi=>f (i+1):=λk f=>by
  induction k with
  | zero=>show 0+f 0=f 0+0;omega
  | succ k ih=>show sm (k+1) f+f (k+1)=_;rw[ih];show _=f 0+(sm k (λi=>f (i+1))+f (k+1));omega
 rw[QaR λj _=>term j,first]at z
 have t0:(λc=>v (skp 0 c))=m:=by funext c;unfold skp;rw[if_neg (by omega),hvs]
 have tl:∀l,l<n->sgn (l+1)*v (l+1) r*det n (λc=>v (skp (l+1) c))= -(det n (cup m l a)*m l r):=λl hl=>by
  have:(λc=>v (skp (l+1) c))=cyc m a l 0:=by
   funext c
   unfold skp cyc
   by_cases h0:c=0
   ·subst h0;rw[if_pos (show 0<l+1 by omega),if_neg (show ¬0<0 by omega),if_pos rfl,hv0]
   ·obtain⟨c',rfl⟩:∃c',c=c'+1:=⟨c-1,by omega⟩
    rw[if_neg (show ¬c'+1<0 by omega),if_neg h0]
    by_cases h1:c'+1<=l
    ·rw[if_pos (show c'+1<l+1 by omega),if_pos h1,hvs,ZaN]
    ·rw[if_neg (show ¬c'+1<l+1 by omega),if_neg h1,hvs]
  rw[this,Qot m a hl l 0 (by omega),hvs,Qjb]
  have q:=QwY l
  generalize det n (cup m l a)=d at *
  generalize m l r=x at *
  have: -sgn l*x*(sgn l*d)= -(sgn l*sgn l*(d*x)):=by
   rw[ZaJ,ZaJ,ZC,ZF x,← ZC,Zac x d]
  rw[this,q,ZP]
 rw[t0,hv0]at z
 have neg:=Qhz (-1) 0 (λl=>det n (cup m l a)*m l r) (λ_=>0) n
 rw[QaR (g:=λl=> -1*(det n (cup m l a)*m l r)+0*0) λl hl=>by rw[tl l hl];omega]at z
 have s0:sgn 0=1:=rfl
 rw[neg,s0,ZP]at z
 rw[Zac]
 omega
theorem QrY{n:Nat}(m:Nat->Nat->Int)(u a:Nat->Int){k i:Nat}(hk:k<n)(hi:i<n)(hki:k≠i):det n m*det n (cup (cup m k u) i a)=det n (cup m k u)*det n (cup m i a)-det n (cup m i u)*det n (cup m k a):=by
 have h1:det n m*det n (cup (cup m k u) i a)=det n (cup (cup m i a) k λr=>det n m*u r):=by
  rw[QdQ hk,Q4 _ _ _ hki]
 have h2:det n (cup (cup m i a) k λr=>det n m*u r)=det n (cup (cup m i a) k λr=>sm n λl=>det n (cup m l u)*m l r):=by
  refine QE λj hj r hr=>?_
  by_cases e:j=k
  ·subst e;rw[Qv,Qv];exact QmR m u hr
  ·rw[Qu _ _ e,Qu _ _ e]
 rw[h1,h2,Qe6 hk (λl=>det n (cup m l u)) m n]
 have tk:det n (cup (cup m i a) k (m k))=det n (cup m i a):=by rw[Q4 _ _ _ (Ne.symm hki),Q9]
 have ti:det n (cup (cup m i a) k (m i))= -det n (cup m k a):=by
  rw[QdJ hi hk (Ne.symm hki),Q9]
 have tn:∀l,l<n->l≠k->l≠i->det n (cup (cup m i a) k (m l))=0:=λl hl h1 h2=>Qd2 hk hl (Ne.symm h1) (by rw[Qv,Qu _ _ h1,Qu _ _ h2])
 rcases Nat.lt_or_gt_of_ne hki with h | h
 ·rw[QjV (c:=k) (d:=i) h hi λl hl a b=>by rw[tn l hl a b,ZA],tk,ti,Int.mul_neg];omega
 ·rw[QjV (c:=i) (d:=k) h hk λl hl a b=>by rw[tn l hl b a,ZA],tk,ti,Int.mul_neg];omega
noncomputable def Qx(j r:Nat):Int:=if j=r then 1 else 0
theorem QdB:∀n,det n Qx=1
 | 0=>rfl
 | n+1=>by
  unfold det
  rw[Qdo (c:=0) (by omega) λi _ ne=>by unfold Qx;rw[if_neg ne,ZA,ZE]]
  have:(λc r=>Qx (skp 0 c) (r+1))=Qx:=by
   funext c r
   have e:skp 0 c=c+1:=by unfold skp;rw[if_neg (by omega)]
   rw[e]
   unfold Qx
   by_cases h:c=r
   ·rw[if_pos h,if_pos (by omega)]
   ·rw[if_neg h,if_neg (by omega)]
  rw[this,QdB n]
  unfold Qx sgn
  simp
theorem Qny{n:Nat}(a:Nat->Int){i:Nat}(hi:i<n):det n (cup Qx i a)=a i:=by
 have:=QmR Qx a hi
 rw[QdB,ZP,Qdo (c:=i) hi λl _ ne=>by rw[show Qx l i=0 by unfold Qx;rw[if_neg ne],ZA]]at this
 rw[this,show Qx i i=1 by unfold Qx;rw[if_pos rfl],Zal]
structure Clr (n N k:Nat) (A m R:Nat->Nat->Int) (d:Int):Prop where
 le:k<=n
 det:HS.det n m=d
 nz:d≠0
 ent:∀i j,i<n->j<N->R i j=HS.det n (cup m i (A j))
 own:∀j,j<k->m j=A j
theorem Clr.start(n N:Nat)(A:Nat->Nat->Int):Clr n N 0 A Qx (λi j=>A j i) 1:=⟨by omega,QdB n,by decide,λi j hi _=>(Qny (A j) hi).symm,λj hj=>by omega⟩
theorem Clr.exact{n N k:Nat}{A m R:Nat->Nat->Int}{d:Int}(h:Clr n N k A m R d)(hk:k<n)(kN:k<N){i j:Nat}(hi:i<n)(hj:j<N)(ne:i≠k):R k k*R i j-R i k*R k j=d*HS.det n (cup (cup m k (A k)) i (A j)):=by
 rw[h.ent k k hk kN,h.ent i j hi hj,h.ent i k hi kN,h.ent k j hk hj,← QrY m (A k) (A j) hk hi (Ne.symm ne),h.det]
theorem Clr.step{n N k:Nat}{A m R R':Nat->Nat->Int}{d:Int}(h:Clr n N k A m R d)(hk:k<n)(kN:k<N)(hp:R k k≠0)(h1:∀j,j<N->R' k j=R k j)(h2:∀i j,i<n->i≠k->j<N->∀q,R k k*R i j-R i k*R k j=d*q->R' i j=q):Clr n N (k+1) A (cup m k (A k)) R' (R k k):=by
 refine⟨hk,(h.ent k k hk kN).symm,hp,λi j hi hj=>?_,λj hj=>?_⟩
 ·by_cases e:i=k
  ·subst e
   rw[h1 j hj,h.ent i j hi hj,Qlh]
  ·exact h2 i j hi e hj _ (h.exact hk kN hi hj e)
 ·by_cases e:j=k
  ·subst e;rw[Qv]
  ·rw[Qu _ _ e];exact h.own j (by omega)
theorem Clr.tell{n N k:Nat}{A m R:Nat->Nat->Int}{d:Int}(h:Clr n N k A m R d){j r:Nat}(hj:j<N)(hr:r<n):d*A j r=sm n λl=>R l j*m l r:=by
 have:=QmR m (A j) hr
 rw[h.det]at this
 rw[this]
 exact QaR λl hl=>by rw[h.ent l j hl hj]
noncomputable def bnd(B:Nat):Nat->Nat
 | 0=>1
 | n+1=>(n+1)*(B*bnd B n)
theorem QqG{f:Nat->Int}{C:Nat}:∀{n:Nat},(∀i,i<n->(f i).natAbs<=C)->(sm n f).natAbs<=n*C
 | 0,_=>by simp[sm]
 | n+1,h=>by
  unfold sm
  have h1:=QqG (n:=n) λi hi=>h i (by omega)
  have h2:=h n (by omega)
  have:=Zbe (sm n f) (f n)
  rw[Nat.succ_mul]
  omega
theorem Qui(j:Nat):(sgn j).natAbs=1:=by unfold sgn;split<;>rfl
theorem Qe7{B:Nat}:∀{n:Nat}{m:Nat->Nat->Int},(∀j,j<n->∀r,r<n->(m j r).natAbs<=B)->(det n m).natAbs<=bnd B n
 | 0,_,_=>by show(1:Int).natAbs<=1;decide
 | n+1,m,h=>by
  unfold det bnd
  refine QqG λj hj=>?_
  rw[ZK,ZK,Qui,Nat.one_mul]
  refine Zav (h j hj 0 (by omega)) (Qe7 λc hc r hr=>h _ ?_ _ (by omega))
  unfold skp
  split<;>omega
theorem QmG{f:Nat->Int}{k:Nat}:∀{n:Nat},k<=n->(∀i,k<=i->i<n->f i=0)->sm n f=sm k f
 | 0,h,_=>by rw[Nat.le_zero.mp h]
 | n+1,h,z=>by
  by_cases e:k=n+1
  ·rw[e]
  ·show sm n f+f n=sm k f
   rw[QmG (n:=n) (by omega) λi h1 h2=>z i h1 (by omega),z n (by omega) (by omega),Zbd]
theorem QaJ{i:Int}(h:i.natAbs<2^2000):Qas i:=Zq (ZaY h) (by decide)
theorem Qpw{a d q:Int}(hd:d≠0)(h:a=d*q):Qeo a d=q:=by
 rw[QkE,h,Int.mul_fdiv_cancel_left q hd]
theorem QhS{fa fb:DE}{ρ:En}{ra rb:R}{a b:Int}(ha:fa ρ=some ra)(ea:ra.d= .int a)(hb:fb ρ=some rb)(eb:rb.d= .int b):dOp Qa9 fa fb ρ=some ⟨.int (a-b),true,[]⟩:=by
 refine QbU ha hb ?_
 rw[ea,eb];rfl
theorem Qer{fa fb:DE}{ρ:En}{ra rb:R}{a b q:Int}(ha:fa ρ=some ra)(ea:ra.d= .int a)(hb:fb ρ=some rb)(eb:rb.d= .int b)(hz:b≠0)(h2:b.natAbs<2^2000)(h:a=b*q):dOp Qcn fa fb ρ=some ⟨.int q,true,[]⟩:=by
 refine QbU ha hb ?_
 rw[ea,eb]
 show(if Qdc b=true then some (D.int (Qeo a b))else none)=_
 have:Qdc b=true:=by
  unfold Qdc
  simp only[Zi,decide_eq_true_eq]
  exact⟨hz,Zm h2 (ZU (by decide) (by decide))⟩
 rw[if_pos this,Qpw hz h]
noncomputable def QiE:DS:=(Qf (QL (QG (QbO (Qa 0) (Qa 1)) (.tp [1,2]) [none,none,none,some 2,some 3,some 0,some 1] QN (dOp Qcn (dOp Qa9 (QaM (Qs (Qa 6) (Qa 3)) (Qa 1)) (QaM (Qs (Qa 5) (Qa 3)) (Qa 2))) (Qa 4)))) Qo)
def Qk2(d:Den):Prop:=∀(N k:Nat) (a p q:Nat->Int) (b:Int),k<N->b≠0->b.natAbs<2^2000->(∀j,j<N->(a j).natAbs<2^2000/\(p j).natAbs<2^2000)->(∀j,j<N->p k*a j-a k*p j=b*q j)->d [Qd N a,Qd N p,.int k,.int b]=some (Qd N q,true)
theorem Qtp:Qk2 (Ql 4 QiE):=λN k a p q b hk hb hb2 hs hq=>
 QU (QC (r:=⟨Qd N q,true,[]⟩) (QI (toD:=λ(i:Nat)=> .tup [.int (a i),.int (p i)]) (out:=λ(i:Nat)=> .int (q i)) (List.range N) (QdT (f:=λi=> .int (a i)) (g:=λi=> .int (p i)) (ra:=⟨Qd N a,false,[]⟩) (rb:=⟨Qd N p,false,[]⟩) rfl rfl rfl rfl) rfl λi hi=>⟨[none,some (.int (a i),true),some (.int (p i),true),some (.int k,true),some (.int b,true),some (Qd N a,false),some (Qd N p,false)],rfl,⟨.int (q i),true,[]⟩,by
  have hi':=Zp.mp hi
  refine Qer (QhS (a:=p k*a i) (b:=a k*p i) (QaO (a:=p k) (b:=a i) (Qar (m:=N) (f:=p) (ra:=⟨Qd N p,false,[]⟩) (rb:=⟨.int k,true,[]⟩) rfl rfl rfl rfl hk) rfl (rb:=⟨.int (a i),true,[]⟩) rfl rfl (Qdi (QaJ (hs k hk).2) (QaJ (hs i hi').1))) rfl (QaO (a:=a k) (b:=p i) (Qar (m:=N) (f:=a) (ra:=⟨Qd N a,false,[]⟩) (rb:=⟨.int k,true,[]⟩) rfl rfl rfl rfl hk) rfl (rb:=⟨.int (p i),true,[]⟩) rfl rfl (Qdi (QaJ (hs k hk).1) (QaJ (hs i hi').2))) rfl) rfl (rb:=⟨.int b,true,[]⟩) rfl rfl hb hb2 (hq i hi'),rfl,rfl⟩) ⟨rfl,rfl⟩)
noncomputable def QfM(Qch:Den)(QcG:Den):DS:=(Qf (Qp 1 (Q7 (Qa 0))) (Qf (Qp 2 (dC (.int 1))) (Qf (Qdn (QaK (dBf Q8 (Qc (Qa 0) Qe))) (.nm 3) (Qf (Qp 1 (Qh 2 Qch [] (Qc (Qa 1) (Qc (Qa 3) Qe)))) (Qf (Qp 4 (Q7 (Qs (Qa 1) (Qa 3)))) (Qf (sIf (QO (dOp gEq (Qs (Qa 4) (Qa 3)) (dC (.int 0)))) (Qf (QL (Qdk (Qc (Qa 1) (Qc (dC (.int 0)) Qe)))) Qo) Qo) (Qf (Qp 1 (QG (Qag (Qa 1)) (.nm 1) [none,none,some 3,some 2,some 4] QN (Qh 4 QcG [] (Qc (Qa 1) (Qc (Qa 4) (Qc (Qa 2) (Qc (Qa 3) Qe))))))) (Qf (QdH 1 Qbs (Qa 3) (Qa 4)) (Qf (Qp 2 (Q7 (Qs (Qa 4) (Qa 3)))) Qo))))))) (Qf (QL (Qdk (Qc (Qa 1) (Qc (Qa 2) Qe)))) Qo))))
theorem Qeu{n:Nat}{den:Den}{dfl:List D}{fs:DA}{ρ:En}{r:RA}{d:D}(h:fs ρ=some r)(e:den (r.ds++dfl)=some (d,false))(hn:r.ds.length+dfl.length=n):Qh n den dfl fs ρ=some (R.norm ⟨d,false,r.M⟩):=by
 unfold Qh
 rw[h,Za,if_pos hn,e]
 rfl
theorem Qrm{x n N k:Nat}{g:Nat->Nat->Int}{p:Nat->Int}{fi fa:DE}{ρ:En}{Q:Out->Prop}(hx:ρ[x]? =some (some (Qb n N g,true)))(hi:fi ρ=some ⟨.int k,true,[]⟩)(ha:fa ρ=some ⟨Qd N p,false,[]⟩)(hk:k<n)
  (q:Q (.nx (ρ.set x (some (Qb n N (λi j=>if i=k then p j else g i j),false))))):Run (QdH x Qbs fi fa) ρ Q:=by
 refine⟨_,?_,q⟩
 unfold QdH
 rw[ha,Za,hx]
 have hn:(HS.R.mk (Qd N p) false []).norm=⟨Qd N p,false,[]⟩:=by unfold R.norm Qd;rfl
 simp only[Qbs,Za,hi,Qb,QbX,Zy,Zt,hn]
 rw[QcL (show(0:Int)<=k by omega) (by omega)]
 simp only[Za,ZJ]
 have e:((List.range n).map λi=>Qd N (g i)).set k (Qd N p)=(List.range n).map λi=>Qd N (λj=>if i=k then p j else g i j):=by
  refine ZaG λi=>?_
  rw[Zbq]
  by_cases h:k=i
  ·subst h
   rw[if_pos rfl,if_pos (by simpa using hk),Zn,Zz hk]
   simp
  ·rw[if_neg h,Zn,Zn]
   by_cases h2:i<n
   ·rw[Zz h2]
    simp only[Zak,if_neg (Ne.symm h)]
   ·rw[Zk (by simpa using h2)];rfl
 rw[e]
 rfl
theorem Qim(f:Nat->Int):∀n,sm n f=Qt n f
 | 0=>rfl
 | n+1=>by rw[QT,← Qim f n];rfl
noncomputable def Qkf:DS:=(Qf (QL (QG (Qag (Qa 0)) (.nm 1) [none,none] QN (dOp Qa9 (dC (.int 0)) (Qa 1)))) Qo)
def Qpn(d:Den):Prop:=∀(n:Nat) (a:Nat->Int),d [Qd n a]=some (Qd n λi=>0-a i,true)
theorem Qw5:Qpn (Ql 1 Qkf):=λn a=>QU (QC (r:=⟨Qd n λi=>0-a i,true,[]⟩) (QI (toD:=λ(i:Nat)=> .int (a i)) (out:=λ(i:Nat)=> .int (0-a i)) (List.range n) (Qal (r:=⟨Qd n a,false,[]⟩) rfl rfl) rfl λi _=>⟨[none,some (.int (a i),true)],rfl,⟨.int (0-a i),true,[]⟩,rfl,rfl,rfl⟩) ⟨rfl,rfl⟩)
noncomputable def QgO:DS:=(Qf (Qp 1 (dC (.int 0))) (Qf (Qdn (Qag (Qa 0)) (.nm 2) (Qf (Qp 3 (Q7 (Qa 2))) (Qf (Qcy (QO (dOp gNe (Qa 3) (dC (.int 0)))) (Qf (Qp 4 (dOp Qco (Qa 1) (Qa 3))) (Qf (Qp 1 (Q7 (Qa 3))) (Qf (Qp 3 (Q7 (Qa 4))) Qo)))) Qo))) (Qf (QL (dBf Qjj (Qc (Qa 1) Qe))) Qo)))
theorem QsX{a b t:Int}:(t∣b/\t∣QcW a b)↔(t∣a/\t∣b):=by
 have e:QcW a b=a-b*Qeo a b:=by
  rw[QkE,show QcW a b=a.fmod b from Qll a b,Int.fmod_def]
 rw[e]
 constructor
 ·rintro⟨h1,h2⟩
  refine⟨?_,h1⟩
  have:=Zax h2 (Zan (c:=Qeo a b) h1)
  rwa[Zaz]at this
 ·rintro⟨h1,h2⟩
  exact⟨h2,ZaZ h1 (Zan h2)⟩
theorem Qu5{a b:Int}(h:b≠0):(QcW a b).natAbs<b.natAbs:=by
 rw[show QcW a b=a.fmod b from Qll a b]
 by_cases hb:0<b
 ·have h1:=ZbE a hb
  have h2:=Int.fmod_lt_of_pos a hb
  omega
 ·have hb':0< -b:=by omega
  have h1:=ZbE (-a) hb'
  have h2:=Int.fmod_lt_of_pos (-a) hb'
  have h3:=Int.neg_fmod_neg a b
  omega
def Qg2(d:Den):Prop:=∀(xs:List Int),∃g:Int,d [Qd7 xs]=some (.int g,true)/\0<=g/\∀t,t∣g↔∀x∈xs,t∣x
theorem Qq5:Qg2 (Ql 5 QgO):=λxs=>by
 have key:Run QgO [some (Qd7 xs,false),none,none,none,none] λo=>match o with | .rt d fr=>fr=true/\∃g,d= .int g/\0<=g/\∀t,t∣g↔∀x∈xs,t∣x | _=>False:=by
  refine run_seq (Qg (r:=⟨.int 0,true,[]⟩) rfl ?_)
  rw[Qi]
  refine QD (Qb0 (toD:=D.int) xs (λk ρ=>∃g j2 j3 j4,(∀t,t∣g↔∀x∈xs.take k,t∣x)/\ρ=[some (Qd7 xs,false),some (.int g,true),j2,j3,j4]) (Qal (r:=⟨Qd7 xs,false,[]⟩) rfl rfl) rfl ⟨0,none,none,none,λt=>by simp,rfl⟩ ?_ ?_)
  ·rintro k x ρ hk ⟨g,j2,j3,j4,hg,rfl⟩
   refine⟨[some (Qd7 xs,false),some (.int g,true),some (.int x,true),j3,j4],rfl,?_⟩
   refine run_seq (Qg (r:=⟨.int x,false,[]⟩) rfl ?_)
   rw[QcX rfl]
   refine QaP (P:=λρ=>∃g' j4,(∀t,t∣g'↔(t∣g/\t∣x))/\ρ=[some (Qd7 xs,false),some (.int g',true),some (.int x,true),some (.int 0,true),j4]) ?_ ?_
   ·refine QhP (λn ρ=>∃g' r j4,n=r.natAbs/\(∀t,(t∣g'/\t∣r)↔(t∣g/\t∣x))/\ρ=[some (Qd7 xs,false),some (.int g',true),some (.int x,true),some (.int r,true),j4]) ?_ x.natAbs _ ⟨g,x,j4,rfl,λ_=>Iff.rfl,rfl⟩
    rintro n ρ ⟨g',r,j4,rfl,hd,rfl⟩
    refine⟨!decide (r=0),QM (Qc2 (a:=r) (b:=0) (ra:=⟨.int r,true,[]⟩) rfl rfl rfl rfl) rfl,λh=>?_,λh=>?_⟩
    ·have hr:r=0:=by simpa using h
     subst hr
     exact⟨g',j4,λt=>by rw[← hd t];simp,rfl⟩
    ·have hr:r≠0:=by simpa using h
     refine run_seq (Qg (r:=⟨.int (QcW g' r),true,[]⟩) (QbU (ra:=⟨.int g',true,[]⟩) (rb:=⟨.int r,true,[]⟩) rfl rfl (by show(if r≠0 then some (D.int (QcW g' r))else none)=_;rw[if_pos hr])) ?_)
     rw[Qi]
     refine run_seq (Qg (r:=⟨.int r,false,[]⟩) rfl ?_)
     rw[QcX rfl]
     refine run_seq (Qg (r:=⟨.int (QcW g' r),false,[]⟩) rfl (Qy ?_))
     rw[QcX rfl]
     exact⟨_,Qu5 hr,r,QcW g' r,_,rfl,λt=>QsX.trans (hd t),rfl⟩
   ·rintro ρ ⟨g',j4,hd,rfl⟩
    refine Qy ⟨g',_,_,_,λt=>?_,rfl⟩
    rw[hd t,hg t,List.take_succ,hk]
    simp only[ZM,Option.toList_some,ZD]
    exact⟨λ⟨a,b⟩ y hy=>hy.elim (a y) λe=>e▸b,λa=>⟨λy hy=>a y (.inl hy),a x (.inr rfl)⟩⟩
  ·rintro ρ ⟨g,j2,j3,j4,hg,rfl⟩
   rw[List.take_length]at hg
   refine QC (r:=⟨.int (if g<0 then-g else g),true,[]⟩) rfl ⟨rfl,_,rfl,by split<;>omega,λt=>?_⟩
   rw[← hg t]
   split
   ·exact Int.dvd_neg
   ·exact Iff.rfl
 obtain⟨o,h1,h2⟩:=key
 cases o with
 | rt d fr=>
  obtain⟨rfl,g,rfl,g0,hg⟩:=h2
  exact⟨g,by show Option.bind (QgO [some (Qd7 xs,false),none,none,none,none]) outD=_;rw[h1];rfl,g0,hg⟩
 | _=>exact h2.elim
noncomputable def QcQ(QbJ:Den):DS:=(Qf (Qp 1 (Qh 1 QbJ [] (Qc (Qa 0) Qe))) (Qf (sIf (QO (dOp gEq (Qs (Qa 1) (dC (.int 1))) (dC (.int 0)))) (Qf QA Qo) Qo) (Qf (QL (Qa 1)) Qo)))
noncomputable def Qd4(QW:Den)(QJ:Den)(Qaq:Den)(QaS:Den):DS:=(Qf (Qp 2 (dBf Q8 (Qc (Qa 0) Qe))) (Qf (sIf (QO (dOp gNe (dBf Q8 (Qc (Qa 1) Qe)) (Qa 2))) (Qf QA Qo) Qo) (Qf (Qp 3 (Qh 1 QJ [] (Qc (QG (QbO (Qh 1 QW [] (Qc (Qa 0) Qe)) (Qa 1)) (.tp [1,2]) [none,none,none] QN (QX (Qa 1) (Qat (Qc (Qa 2) Qe)))) Qe))) (Qf (Qp 4 (Qh 2 Qaq [] (Qc (Qs (Qa 3) (dC (.int 0))) (Qc (Qa 2) Qe)))) (Qf (Qp 5 (Qh 1 QaS [] (Qc (QX (Qa 4) (Qat (Qc (Qs (Qa 3) (dC (.int 1))) Qe))) Qe))) (Qf (sIf (QO (dOp gLt (Qs (Qa 3) (dC (.int 1))) (dC (.int 0)))) (Qf (Qp 5 (dOp Qa9 (dC (.int 0)) (Qa 5))) Qo) Qo) (Qf (QL (Qdk (Qc (QG (Qag (Qa 4)) (.nm 1) [none,none,some 5] QN (dOp Qcn (Qa 1) (Qa 2))) (Qc (dOp Qcn (Qs (Qa 3) (dC (.int 1))) (Qa 5)) Qe)))) Qo)))))))
theorem QfE{fa fb:DE}{ρ:En}{ra:R}{m:Nat}{f:Nat->Int}{x:Int}(ha:fa ρ=some ra)(ea:ra.d=Qd m f)(hb:fb ρ=some ⟨.int x,true,[]⟩)(hm:m<=1000):QX fa (Qat (Qc fb Qe)) ρ=some ⟨Qd (m+1) (up f m x),true,[]⟩:=by
 have hb:Qat (Qc fb Qe) ρ=some ⟨.lst [.int x],true,[]⟩:=(Qhp (rs:=⟨[.int x],true,[]⟩) (Qq hb (QK _)) (by simp)).trans rfl
 unfold QX
 rw[ha,Za,hb,Za,ea]
 simp only[Qd,Zy,Zt,Qmp]
 rw[if_pos (by simp;omega)]
 unfold Qa2
 rw[if_pos (by rw[QbY,Zi];exact⟨Qci (λ_=>rfl) _,rfl⟩)]
 congr 3
 rw[ZbI,ZaX]
 congr 1
 ·refine ZG λi hi=>?_
  rw[Qcz,if_neg (by have:=Zp.mp hi;omega)]
 ·show _=[D.int (up f m x m)]
  rw[Qcz,if_pos rfl]
theorem QjA(n:Nat)(f:Nat->Int):Qd n f=Qd7 ((List.range n).map f):=by unfold Qd Qd7;rw[ZaM];rfl
theorem Qvz{fa fb:DE}{ρ:En}{ra rb:R}{a b:Int}(ha:fa ρ=some ra)(ea:ra.d= .int a)(hb:fb ρ=some rb)(eb:rb.d= .int b)(h:0<b)(h2:b.natAbs<2^2000):dOp Qcn fa fb ρ=some ⟨.int (a / b),true,[]⟩:=by
 refine QbU ha hb ?_
 rw[ea,eb]
 show(if Qdc b=true then some (D.int (Qeo a b))else none)=_
 have:Qdc b=true:=by
  unfold Qdc
  simp only[Zi,decide_eq_true_eq]
  exact⟨by omega,Zm h2 (ZU (by decide) (by decide))⟩
 rw[if_pos this,QmT _ _ (by omega)]
theorem Qjl{fa fb:DE}{ρ:En}{ra rb:R}{m n:Nat}{f:Nat->Int}(ha:fa ρ=some ra)(ea:ra.d=Qd m f)(hb:fb ρ=some rb)(eb:rb.d= .int n)(h:n<=m):Qby fa (Qa3 fb) Qa6 ρ=some ⟨Qd (m-n) λi=>f (n+i),true,[]⟩:=by
 have cut:cutD ((List.range m).map λi=>D.int (f i)) (some (n:Int)) none=(List.range (m-n)).map λi=>D.int (f (n+i)):=by
  unfold cutD
  simp only[Zy,Zt,HT.Qjv,HT.QkA]
  rw[ZbJ h,← List.map_drop,← List.map_take]
  have e:((List.range m).drop n).take (m-n)=(List.range (m-n)).map λi=>n+i:=by
   rw[ZaL (by simp)]
   refine ZaG λi=>?_
   rw[Zbp,Zn]
   by_cases hi:i<m-n
   ·rw[Zz (by omega),Zz hi];rfl
   ·rw[Zk (by simp;omega),Zk (by simp;omega)];rfl
  rw[e,ZaM]
  rfl
 unfold Qby Qa6 Qa3
 simp only[ha,hb,Za,ea,eb,Qd,cut,Qa2]
 have:QZ ((List.range (m-n)).map λi=>D.int (f (n+i)))=true:=by
  have:=QpC ((List.range (m-n)).map λi=>f (n+i))
  rw[ZaM]at this
  exact this
 rw[if_pos this]
theorem QmH(ds:List D)(M:List Nat):(Qa2 ds M).d= .lst ds:=by unfold Qa2;split<;>rfl
theorem QmO{fa fb:DE}{ρ:En}{ra rb:R}{xs:List D}{n:Nat}(ha:fa ρ=some ra)(ea:ra.d= .lst xs)(hb:fb ρ=some rb)(eb:rb.d= .int n)(h:n<=xs.length):∃r:HS.R,Qby fa Qa6 (Qa3 fb) ρ=some r/\r.d= .lst (xs.take n):=by
 unfold Qby Qa6 Qa3
 simp only[ha,hb,Za,ea,eb]
 refine⟨_,rfl,?_⟩
 rw[QmH]
 unfold cutD
 simp only[HT.Qjv,HT.QkA,List.drop_zero,Nat.sub_zero]
 rw[ZbJ h]
theorem Qm3{fa fb:DE}{ρ:En}{ra rb:R}{xs:List D}{n:Nat}(ha:fa ρ=some ra)(ea:ra.d= .lst xs)(hb:fb ρ=some rb)(eb:rb.d= .int n)(h:n<=xs.length):∃r:HS.R,Qby fa (Qa3 fb) Qa6 ρ=some r/\r.d= .lst (xs.drop n):=by
 unfold Qby Qa6 Qa3
 simp only[ha,hb,Za,ea,eb]
 refine⟨_,rfl,?_⟩
 rw[QmH]
 unfold cutD
 simp only[HT.Qjv,HT.QkA]
 rw[ZbJ h,ZaL (by simp)]
theorem Qtu{fa fb:DE}{ρ:En}{ra rb:R}{xs ys:List D}(ha:fa ρ=some ra)(ea:ra.d= .lst xs)(hb:fb ρ=some rb)(eb:rb.d= .lst ys)(h:xs.length+ys.length<=1000):∃r:HS.R,QX fa fb ρ=some r/\r.d= .lst (xs++ys):=by
 unfold QX
 rw[ha,Za,hb,Za,ea,eb]
 refine⟨_,if_pos (Zq h (by decide)),QmH _ _⟩
theorem Qr9{n k:Nat}(hk:k<n+1)(g:Nat->D):((List.range (n+1)).map g).take k++((List.range (n+1)).map g).drop (k+1)=(List.range n).map λc=>g (skp k c):=by
 refine ZaG λi=>?_
 by_cases hi:i<n
 ·rw[Zn (l:=List.range n),Zz hi,List.getElem?_append]
  have l1:(((List.range (n+1)).map g).take k).length=k:=by rw[ZaH,Zy,Zt];omega
  rw[l1]
  unfold skp
  by_cases q:i<k
  ·rw[if_pos q,List.getElem?_take,if_pos q,Zn,Zz (by omega)]
   simp[q]
  ·rw[if_neg q,Zbp,Zn,show k+1+(i-k)=i+1 by omega,Zz (by omega)]
   simp[q]
 ·rw[Zk (by simp;omega),Zk (by simp;omega)]
theorem Qr8{n k:Nat}(hk:k<n)(A:Nat->Nat->Int)(a:Nat->Int):((List.range n).map λi=>Qd n (A i)).take k++[Qd n a]++((List.range n).map λi=>Qd n (A i)).drop (k+1)=(List.range n).map λi=>Qd n (cup A k a i):=by
 refine ZaG λi=>?_
 have l1:(((List.range n).map λi=>Qd n (A i)).take k++[Qd n a]).length=k+1:=by rw[Zx,ZaH,Zy,Zt];simp;omega
 have l2:(((List.range n).map λi=>Qd n (A i)).take k).length=k:=by rw[ZaH,Zy,Zt];omega
 by_cases hi:i<n
 ·rw[Zn (l:=List.range n) (f:=λi=>Qd n (cup A k a i)),Zz hi,List.getElem?_append,l1]
  unfold cup
  by_cases q:i<k+1
  ·rw[if_pos q,List.getElem?_append,l2]
   by_cases q2:i<k
   ·rw[if_pos q2,List.getElem?_take,if_pos q2,Zn,Zz hi]
    simp[show ¬i=k by omega]
   ·have e:i=k:=by omega
    subst e
    rw[if_neg q2]
    simp
  ·rw[if_neg q,Zbp,Zn,show k+1+(i-(k+1))=i by omega,Zz hi]
   simp[show ¬i=k by omega]
 ·rw[Zk (by rw[Zx,l1];simp;omega),Zk (by simp;omega)]
noncomputable def Qca(QaB:Den):DS:=(Qf (sIf (QO (dOp gEq (dBf Q8 (Qc (Qa 0) Qe)) (dC (.int 1)))) (Qf (QL (Qs (Qs (Qa 0) (dC (.int 0))) (dC (.int 0)))) Qo) Qo) (Qf (Qp 1 (dC (.int 0))) (Qf (Qdn (QaK (dBf Q8 (Qc (Qa 0) Qe))) (.nm 2) (Qf (sIf (QO (dOp gNe (Qs (Qs (Qa 0) (Qa 2)) (dC (.int 0))) (dC (.int 0)))) (Qf (Qp 3 (Qh 1 QaB [] (Qc (QG (Qag (QX (Qby (Qa 0) Qa6 (Qa3 (Qa 2))) (Qby (Qa 0) (Qa3 (QX (Qa 2) (dC (.int 1)))) Qa6))) (.nm 1) [none,none] QN (Qby (Qa 1) (Qa3 (dC (.int 1))) Qa6)) Qe))) (Qf (Qp 1 (QX (Qa 1) (QaM (QaM (dOp Qa9 (dC (.int 1)) (QaM (dC (.int 2)) (dOp Qco (Qa 2) (dC (.int 2))))) (Qs (Qs (Qa 0) (Qa 2)) (dC (.int 0)))) (Qa 3)))) Qo)) Qo) Qo)) (Qf (QL (Qa 1)) Qo))))
theorem QvH(k:Nat):1-2*((k:Int) % 2)=sgn k:=by
 unfold sgn
 split<;>omega
noncomputable def QjK:DS:=(Qf (QL (QG (QaK (Qa 0)) (.nm 1) [none,none,some 1] QN (dIf (QO (dOp gEq (Qa 1) (Qa 2))) (dC (.int 1)) (dC (.int 0))))) Qo)
def Qh7(d:Den):Prop:=∀(n p:Nat),n<=1000->d [.int n,.int p]=some (Qd n λi=>if i=p then 1 else 0,true)
theorem QuY:Qh7 (Ql 2 QjK):=λn p hn=>by
 refine QU (QC (r:=⟨Qd n λi=>if i=p then 1 else 0,true,[]⟩) (QI (toD:=λ(i:Nat)=> .int (i:Int)) (out:=λ(i:Nat)=> .int (if i=p then 1 else 0)) (List.range n) (Qa7 (n:=n) (r:=⟨.int n,true,[]⟩) rfl rfl (by omega)) rfl λi _=>⟨[none,some (.int i,true),some (.int p,true)],rfl,⟨.int (if i=p then 1 else 0),true,[]⟩,?_,rfl,rfl⟩) ⟨rfl,rfl⟩)
 unfold dIf
 rw[QM (Qb1 (a:=(i:Int)) (b:=(p:Int)) (ra:=⟨.int i,true,[]⟩) (rb:=⟨.int p,true,[]⟩) rfl rfl rfl rfl) rfl,Za]
 by_cases z:i=p
 ·rw[if_pos z,if_pos (by rw[z];simp)];rfl
 ·rw[if_neg z,if_neg (by simp;omega)];rfl
structure Alt (n:Nat) (φ:(Nat->Nat->Int)->Int):Prop where
 congr:∀{m k:Nat->Nat->Int},(∀j,j<n->∀r,r<n->m j r=k j r)->φ m=φ k
 lin:∀(m:Nat->Nat->Int) (c:Nat),c<n->∀(x y:Int) (a b:Nat->Int),φ (cup m c λr=>x*a r+y*b r)=x*φ (cup m c a)+y*φ (cup m c b)
 alt:∀{m:Nat->Nat->Int}{i j:Nat},i<n->j<n->i≠j->m i=m j->φ m=0
section
variable {n:Nat}{φ:(Nat->Nat->Int)->Int}{m:Nat->Nat->Int}
theorem Alt.add(h:Alt n φ){c:Nat}(hc:c<n)(a b:Nat->Int):φ (cup m c λr=>a r+b r)=φ (cup m c a)+φ (cup m c b):=by
 have:=h.lin m c hc 1 1 a b
 simpa only[ZP]using this
theorem Alt.mul(h:Alt n φ){c:Nat}(hc:c<n)(x:Int)(a:Nat->Int):φ (cup m c λr=>x*a r)=x*φ (cup m c a):=by
 have:=h.lin m c hc x 0 a a
 simpa only[ZE,Zbd]using this
theorem Alt.swap(h:Alt n φ){c d:Nat}(hc:c<n)(hd:d<n)(hcd:c≠d)(a b:Nat->Int):φ (cup (cup m c a) d b)= -φ (cup (cup m c b) d a):=by
 have z:=h.alt (m:=cup (cup m c λr=>a r+b r) d λr=>a r+b r) hc hd hcd (by rw[Qv,Qu _ _ hcd,Qv])
 have za:=h.alt (m:=cup (cup m c a) d a) hc hd hcd (by rw[Qv,Qu _ _ hcd,Qv])
 have zb:=h.alt (m:=cup (cup m c b) d b) hc hd hcd (by rw[Qv,Qu _ _ hcd,Qv])
 rw[h.add hd,Q4 _ _ _ hcd,h.add hc,Q4 _ _ _ hcd,h.add hc,Q4 _ _ _ (Ne.symm hcd),Q4 _ _ _ (Ne.symm hcd),Q4 _ _ _ (Ne.symm hcd),Q4 _ _ _ (Ne.symm hcd),za,zb]at z
 omega
theorem Alt.sum(h:Alt n φ){c:Nat}(hc:c<n)(x:Nat->Int)(E:Nat->Nat->Int):∀k,φ (cup m c λr=>sm k λs=>x s*E s r)=sm k λs=>x s*φ (cup m c (E s))
 | 0=>by
  have:=h.mul (m:=m) hc 0 λ_=>0
  rw[ZE]at this
  unfold sm
  simpa using this
 | k+1=>by
  unfold sm
  rw[h.add hc,h.sum hc x E k,h.mul hc]
theorem Qou(n:Nat):Alt n (det n):=⟨QE,λm c hc x y a b=>Qen x y a b n m c hc a b,λhi hj hij e=>Qd2 hi hj hij e⟩
theorem Qju(h:Alt n φ):∀(g t:Nat) (σ:Nat->Nat),t+g=n->(∀j,j<t->σ j=j)->(∀j,j<n->σ j<n)->φ (λj=>Qx (σ j))=det n (λj=>Qx (σ j))*φ Qx
 | 0,t,σ,e,hp,hn=>by
  have h1:∀j,j<n->∀r,r<n->Qx (σ j) r=Qx j r:=λj hj r _=>by rw[hp j (by omega)]
  rw[h.congr h1,QE h1,QdB,ZP]
 | g+1,t,σ,e,hp,hn=>by
  by_cases ht:σ t=t
  ·exact Qju h g (t+1) σ (by omega) (λj hj=>by
    by_cases z:j=t
    ·rw[z];exact ht
    ·exact hp j (by omega)) hn
  ·by_cases ex:∃i,i<n/\σ i=t
   ·obtain⟨i,hi,hs⟩:=ex
    have hti:t<i:=by
     rcases Nat.lt_trichotomy i t with z | z | z
     ·have:=hp i z;omega
     ·subst z;exact absurd hs ht
     ·exact z
    have hne:t≠i:=by omega
    have sw:∀{ψ:(Nat->Nat->Int)->Int},Alt n ψ->ψ (λj=>Qx (σ j))= -ψ (λj=>Qx (if j=t then σ i else if j=i then σ t else σ j)):=λ{ψ} hψ=>by
     have:=hψ.swap (m:=λj=>Qx (σ j)) (c:=t) (d:=i) (by omega) hi hne (Qx (σ t)) (Qx (σ i))
     have e1:cup (cup (λj=>Qx (σ j)) t (Qx (σ t))) i (Qx (σ i))=λj=>Qx (σ j):=by
      rw[Q9 (λj=>Qx (σ j)) t,Q9 (λj=>Qx (σ j)) i]
     have e2:cup (cup (λj=>Qx (σ j)) t (Qx (σ i))) i (Qx (σ t))=λj=>Qx (if j=t then σ i else if j=i then σ t else σ j):=by
      funext j
      by_cases z1:j=i
      ·subst z1;rw[Qv,if_neg (Ne.symm hne),if_pos rfl]
      ·rw[Qu _ _ z1]
       by_cases z2:j=t
       ·subst z2;rw[Qv,if_pos rfl]
       ·rw[Qu _ _ z2,if_neg z2,if_neg z1]
     rw[e1,e2]at this
     exact this
    rw[sw h,sw (Qou n),ZaJ]
    congr 1
    refine Qju h g (t+1) _ (by omega) (λj hj=>?_) (λj hj=>?_)
    ·by_cases z:j=t
     ·rw[if_pos z,hs,z]
     ·rw[if_neg z,if_neg (by omega)];exact hp j (by omega)
    ·split
     ·exact hn i hi
     ·split
      ·exact hn t (by omega)
      ·exact hn j hj
   ·obtain⟨k,hk⟩:∃k,n=k+1:=⟨n-1,by omega⟩
    obtain⟨i,j,hi,hj,hij,he⟩:=QnH (n:=k) (λj=>if σ j<t then σ j else σ j-1) λj hj=>by
     have h1:=hn j (by omega)
     have h2:σ j≠t:=λz=>ex ⟨j,by omega,z⟩
     split<;>omega
    have hs:σ i=σ j:=by
     have h1:σ i≠t:=λz=>ex ⟨i,by omega,z⟩
     have h2:σ j≠t:=λz=>ex ⟨j,by omega,z⟩
     split at he<;>split at he<;>omega
    have e1:(λj=>Qx (σ j)) i=(λj=>Qx (σ j)) j:=by show Qx (σ i)=Qx (σ j);rw[hs]
    rw[h.alt (by omega) (by omega) hij e1,(Qou n).alt (by omega) (by omega) hij e1,ZE]
theorem QgH(h:Alt n φ)(m:Nat->Nat->Int):φ m=det n m*φ Qx:=by
 have key:∀k,k<=n->∀m:Nat->Nat->Int,(∃σ:Nat->Nat,∀j,k<=j->j<n->σ j<n/\m j=Qx (σ j))->φ m=det n m*φ Qx:=by
  intro k
  induction k with
  | zero=>
   rintro _ m ⟨σ,hσ⟩
   have h1:∀j,j<n->∀r,r<n->m j r=(λj=>Qx (σ j)) j r:=λj hj r _=>by rw[(hσ j (by omega) hj).2]
   rw[h.congr h1,QE h1]
   exact Qju h n 0 σ (by omega) (λj hj=>by omega) λj hj=>(hσ j (by omega) hj).1
  | succ k ih=>
   rintro hk m ⟨σ,hσ⟩
   have hcol:∀j,j<n->∀r,r<n->m j r=cup m k (λr=>sm n λs=>m k s*Qx s r) j r:=λj hj r hr=>by
    by_cases z:j=k
    ·subst z
     rw[Qv,Qdo (c:=r) hr λi _ ne=>by rw[show Qx i r=0 by unfold Qx;rw[if_neg ne],ZA],show Qx r r=1 by unfold Qx;rw[if_pos rfl],Zal]
    ·rw[Qu _ _ z]
   rw[h.congr hcol,QE hcol,h.sum (by omega),Qe6 (by omega),← Qk8]
   refine QaR λs hs=>?_
   rw[ZC]
   congr 1
   refine ih (by omega) _ ⟨λj=>if j=k then s else σ j,λj h1 h2=>?_⟩
   show(if j=k then s else σ j)<n/\cup m k (Qx s) j=Qx (if j=k then s else σ j)
   by_cases z:j=k
   ·subst z;rw[if_pos rfl,Qv];exact⟨hs,rfl⟩
   ·rw[if_neg z,Qu _ _ z];exact hσ j (by omega) h2
 exact key n (Zj n) m ⟨id,λj h1 h2=>by omega⟩
end
theorem QrF(n:Nat)(x E:Nat->Nat->Int):det n (λj r=>sm n λs=>x j s*E s r)=det n x*det n E:=by
 have h:Alt n λx=>det n λj r=>sm n λs=>x j s*E s r:=by
  have hcup:∀(m:Nat->Nat->Int) (c:Nat) (a:Nat->Int),(λj r=>sm n λs=>cup m c a j s*E s r)=cup (λj r=>sm n λs=>m j s*E s r) c λr=>sm n λs=>a s*E s r:=λm c a=>by
   funext j r
   by_cases z:j=c
   ·subst z;rw[Qv,Qv]
   ·rw[Qu _ _ z,Qu _ _ z]
  refine⟨λhm=>QE λj hj r hr=>QaR λs hs=>by rw[hm j hj s hs],λm c hc x y a b=>?_,λ{m i j} hi hj hij e=>Qd2 hi hj hij (by funext r;rw[e])⟩
  rw[hcup,hcup,hcup,← Qen x y (λr=>sm n λs=>a s*E s r) (λr=>sm n λs=>b s*E s r) n _ c hc]
  congr 2
  funext r
  rw[← Qhz]
  exact QaR λs hs=>by rw[ZaI,ZC,ZC]
 have:=QgH h x
 rw[this]
 congr 1
 refine QE λj hj r hr=>?_
 rw[Qdo (c:=j) hj λs _ ne=>by rw[show Qx j s=0 by unfold Qx;rw[if_neg (Ne.symm ne)],ZE],show Qx j j=1 by unfold Qx;rw[if_pos rfl],ZP]
noncomputable def rup(m:Nat->Nat->Int)(c:Nat)(a:Nat->Int):Nat->Nat->Int:=λj r=>if r=c then a j else m j r
theorem QoS(x y:Int):∀(n:Nat) (m:Nat->Nat->Int) (c:Nat),c<n->∀(a b:Nat->Int),det n (rup m c λj=>x*a j+y*b j)=x*det n (rup m c a)+y*det n (rup m c b)
 | 0,_,_,h,_,_=>by omega
 | n+1,m,c,h,a,b=>by
  unfold det
  rw[← Qhz]
  refine QaR λj hj=>?_
  cases c with
  | zero=>
   have e:∀a:Nat->Int,(λc' r=>rup m 0 a (skp j c') (r+1))=λc' r=>m (skp j c') (r+1):=λa=>by
    funext c' r
    unfold rup
    rw[if_neg (by omega)]
   rw[e,e,e]
   unfold rup
   simp only[if_pos]
   generalize det n _=q
   generalize sgn j=s
   simp only[Zau,ZaI,ZC,ZF]
  | succ c=>
   have e:∀a:Nat->Int,(λc' r=>rup m (c+1) a (skp j c') (r+1))=rup (λc' r=>m (skp j c') (r+1)) c λc'=>a (skp j c'):=λa=>by
    funext c' r
    unfold rup
    by_cases z:r=c
    ·rw[if_pos (by omega),if_pos z]
    ·rw[if_neg (by omega),if_neg z]
   rw[e,e,e,QoS x y n _ c (by omega) (λc'=>a (skp j c')) λc'=>b (skp j c')]
   have e0:∀a:Nat->Int,rup m (c+1) a j 0=m j 0:=λa=>by unfold rup;rw[if_neg (by omega)]
   rw[e0,e0,e0]
   generalize det n _=q
   generalize det n _=q'
   generalize sgn j*m j 0=s
   simp only[Zau,ZF]
noncomputable def trp(a b r:Nat):Nat:=if r=a then b else if r=b then a else r
theorem QrK{n:Nat}(m:Nat->Nat->Int){a b:Nat}(ha:a<n)(hb:b<n)(hab:a≠b):det n (λj r=>m j (trp a b r))= -det n m:=by
 have tb:∀r,r<n->trp a b r<n:=λr hr=>by
  unfold trp
  split
  ·exact hb
  ·split
   ·exact ha
   ·exact hr
 have h:Alt n λm=>det n λj r=>m j (trp a b r):=by
  have hcup:∀(m:Nat->Nat->Int) (c:Nat) (v:Nat->Int),(λj r=>cup m c v j (trp a b r))=cup (λj r=>m j (trp a b r)) c λr=>v (trp a b r):=λm c v=>by
   funext j r
   by_cases z:j=c
   ·subst z;rw[Qv,Qv]
   ·rw[Qu _ _ z,Qu _ _ z]
  refine⟨λhm=>QE λj hj r hr=>hm j hj _ (tb r hr),λm c hc x y v w=>?_,λ{m i j} hi hj hij e=>Qd2 hi hj hij (by funext r;rw[e])⟩
  rw[hcup,hcup,hcup,← Qen x y (λr=>v (trp a b r)) (λr=>w (trp a b r)) n _ c hc]
 have e:=QgH h m
 rw[e]
 have u:det n (λj r=>Qx j (trp a b r))= -1:=by
  have e1:=QdJ (m:=Qx) ha hb hab (Qx b) (Qx a)
  rw[show cup (cup Qx a (Qx a)) b (Qx b)=Qx by rw[Q9,Q9],QdB]at e1
  rw[← e1]
  refine QE λj hj r hr=>?_
  by_cases z1:j=b
  ·subst z1
   rw[Qv]
   unfold Qx trp
   by_cases q1:r=a
   ·rw[if_pos q1,if_pos rfl,if_pos q1.symm]
   ·rw[if_neg q1]
    by_cases q2:r=j
    ·rw[if_pos q2,if_neg (Ne.symm hab),if_neg (by omega)]
    ·rw[if_neg q2,if_neg (λz=>q2 z.symm),if_neg (λz=>q1 z.symm)]
  ·rw[Qu _ _ z1]
   by_cases z2:j=a
   ·subst z2
    rw[Qv]
    unfold Qx trp
    by_cases q1:r=j
    ·rw[if_pos q1,if_neg hab,if_neg (by omega)]
    ·rw[if_neg q1]
     by_cases q2:r=b
     ·rw[if_pos q2,if_pos rfl,if_pos q2.symm]
     ·rw[if_neg q2,if_neg (λz=>q1 z.symm),if_neg (λz=>q2 z.symm)]
   ·rw[Qu _ _ z2]
    unfold Qx trp
    by_cases q1:r=a
    ·rw[if_pos q1,if_neg z1,if_neg (by omega)]
    ·rw[if_neg q1]
     by_cases q2:r=b
     ·rw[if_pos q2,if_neg z2,if_neg (by omega)]
     ·rw[if_neg q2]
 rw[u];omega
theorem QvA{n:Nat}{m:Nat->Nat->Int}{a b:Nat}(ha:a<n)(hb:b<n)(hab:a≠b)(e:∀j,j<n->m j a=m j b):det n m=0:=by
 have h:=QrK m ha hb hab
 have:det n (λj r=>m j (trp a b r))=det n m:=QE λj hj r hr=>by
  unfold trp
  split
  ·rename_i z;rw[z];exact(e j hj).symm
  ·split
   ·rename_i z;rw[z];exact e j hj
   ·rfl
 omega
theorem QgM(n:Nat)(m:Nat->Nat->Int):det n (λj r=>m r j)=det n m:=by
 have h:Alt n λm=>det n λj r=>m r j:=by
  have hcup:∀(m:Nat->Nat->Int) (c:Nat) (v:Nat->Int),(λj r=>cup m c v r j)=rup (λj r=>m r j) c v:=λm c v=>by
   funext j r
   unfold rup
   by_cases z:r=c
   ·subst z;rw[Qv,if_pos rfl]
   ·rw[Qu _ _ z,if_neg z]
  refine⟨λhm=>QE λj hj r hr=>hm r hr j hj,λm c hc x y v w=>?_,λ{m i j} hi hj hij e=>QvA hi hj hij λk _=>by rw[e]⟩
  rw[hcup,hcup,hcup,QoS x y n _ c hc v w]
 have e:=QgH h m
 rw[e,QE (m:=λj r=>Qx r j) (k:=Qx) λj _ r _=>by
  unfold Qx
  by_cases z:r=j
  ·rw[if_pos z,if_pos z.symm]
  ·rw[if_neg z,if_neg (Ne.symm z)],QdB,Zal]
noncomputable def dia(m:Nat->Nat->Int):Nat->Int
 | 0=>1
 | n+1=>m 0 0*dia (λj r=>m (j+1) (r+1)) n
theorem Qg3:∀(n:Nat) (m:Nat->Nat->Int),(∀j r,j<n->r<n->r<j->m j r=0)->det n m=dia m n
 | 0,m,_=>rfl
 | n+1,m,h=>by
  unfold det dia
  rw[Qdo (c:=0) (by omega) λj hj ne=>by rw[h j 0 hj (by omega) (by omega),ZA,ZE]]
  have e:(λc r=>m (skp 0 c) (r+1))=λc r=>m (c+1) (r+1):=by
   funext c r
   unfold skp
   rw[if_neg (by omega)]
  rw[e,Qg3 n _ λj r hj hr hjr=>h (j+1) (r+1) (by omega) (by omega) (by omega)]
  unfold sgn
  simp
end HS
namespace HS
open PySem L2
theorem Qxs{g1 g2:DT}{ρ:En}(h:g1 ρ=some true):bOr g1 g2 ρ=some true:=by unfold bOr;rw[h];rfl
noncomputable def QcR(f:Nat->Nat->Int)(k:Nat)(p:Nat->Int)(i:Nat)(q:Nat->Int):Nat->Nat->Int:=λl j=>if l=i then q j else if l=k then p j else f l j
theorem Qeh{n N k:Nat}{g:Nat->Nat->Int}{p:Nat->Int}(hk:k<n):((List.range n).map λi=>Qd N (g i)).set k (Qd N p)=(List.range n).map λi=>Qd N (λj=>if i=k then p j else g i j):=by
 refine ZaG λi=>?_
 rw[Zbq]
 by_cases h:k=i
 ·subst h
  rw[if_pos rfl,if_pos (by simpa using hk),Zn,Zz hk]
  simp
 ·rw[if_neg h,Zn,Zn]
  by_cases h2:i<n
  ·rw[Zz h2]
   simp only[Zak,if_neg (Ne.symm h)]
  ·rw[Zk (by simpa using h2)];rfl
theorem Quj{x n N k i:Nat}{f:Nat->Nat->Int}{p q:Nat->Int}{fy f1 g1 f2 g2:DE}{ρ:En}{by' b1 b2:Bool}{Q:Out->Prop}(hx:x<ρ.length)(ey:fy (ρ.set x none)=some ⟨Qb n N f,by',[]⟩)(e1:f1 (ρ.set x none)=some ⟨.int k,true,[]⟩)(e2:g1 (ρ.set x none)=some ⟨Qd N p,b1,[]⟩)(e3:f2 (ρ.set x none)=some ⟨.int i,true,[]⟩)(e4:g2 (ρ.set x none)=some ⟨Qd N q,b2,[]⟩)(hk:k<n)(hi:i<n)
  (h:Q (.nx ((ρ.set x none).set x (some (Qb n N (QcR f k p i q),false))))):Run (Qjk x fy f1 g1 f2 g2) ρ Q:=by
 refine⟨_,?_,h⟩
 unfold Qjk QpU
 rw[if_pos (by simpa using hx),ey,Za]
 simp only[Qb,e1,e2,e3,e4,Za,Zy,Zt]
 rw[QcL (show(0:Int)<=k by omega) (by omega),QcL (show(0:Int)<=i by omega) (by omega)]
 simp only[Za,ZJ,Qeh hk]
 rw[Qeh (g:=λl j=>if l=k then p j else f l j) hi]
 rfl
noncomputable def QgA(Qdf:Den):DS:=(Qf (Qp 2 (QG (Qec (Qa 1) (dBf Q8 (Qc (Qa 0) Qe))) (.nm 1) [none,none,some 1,some 0] (QO (dOp gNe (Qs (Qs (Qa 3) (Qa 1)) (Qa 2)) (dC (.int 0)))) (Qa 1))) (Qf (sIf (bOr (Qek (QO (Qa 2))) (QO (dOp gEq (Qs (Qa 2) (dC (.int 0))) (Qa 1)))) (Qf (QL (Qa 0)) Qo) Qo) (Qf (Qjk 3 (Qa 0) (Qa 1) (Qs (Qa 0) (Qs (Qa 2) (dC (.int 0)))) (Qs (Qa 2) (dC (.int 0))) (Qh 1 Qdf [] (Qc (Qs (Qa 0) (Qa 1)) Qe))) (Qf (QL (Qa 3)) Qo))))
def Qjh(d:Den):Prop:=∀(n N k:Nat) (f:Nat->Nat->Int),k<n->n<=1000->k<N->∃g,d [Qb n N f,.int k]=some (Qb n N g,false)∧
 ((g=f/\(f k k=0->∀i,k<=i->i<n->f i k=0))∨∃i,k<i/\i<n/\f i k≠0/\g=QcR f k (f i) i λj=>0-f k j)
theorem Qqp{dop:Den}(ho:Qpn dop):Qjh (Ql 4 (QgA dop)):=λn N k f hk hn kN=>by
 have eI:=Qkt (fi:=Qec (Qa 1) (dBf Q8 (Qc (Qa 0) Qe))) (t:= .nm 1) (cap:=[none,none,some 1,some 0]) (ft:=QO (dOp gNe (Qs (Qs (Qa 3) (Qa 1)) (Qa 2)) (dC (.int 0)))) (fe:=Qa 1) (ρ:=[some (Qb n N f,false),some (.int k,true),none,none])
  (toD:=λ(i:Nat)=> .int ((k:Int)+i)) (keep:=λi=> !decide (f (k+i) k=0)) (out:=λ(i:Nat)=> .int ((k:Int)+i)) (List.range (n-k)) (QlS (i:=k) (j:=n) (n:=n-k) (ra:=⟨.int k,true,[]⟩) rfl rfl (QaL (n:=n) (m:=N) (f:=f) (r:=⟨Qb n N f,false,[]⟩) rfl rfl) rfl (by omega) (by omega) (by omega) (by omega)) rfl λi hi=>⟨[none,some (.int ((k:Int)+i),true),some (.int k,true),some (Qb n N f,false)],rfl,by
   have hi':=Zp.mp hi
   refine QM (Qc2 (a:=f (k+i) k) (b:=0) (Qar (m:=N) (f:=f (k+i)) (i:=k) ((Qda (m:=n) (n:=N) (f:=f) (i:=(k:Int)+i) (ra:=⟨Qb n N f,false,[]⟩) (rb:=⟨.int ((k:Int)+i),true,[]⟩) rfl rfl rfl rfl (by omega) (by omega)).trans (by rw[show((k:Int)+i).toNat=k+i by omega])) rfl (rb:=⟨.int k,true,[]⟩) rfl rfl kN) rfl rfl rfl) rfl,λ_=>⟨⟨.int ((k:Int)+i),true,[]⟩,rfl,rfl,rfl⟩⟩
 have hmem:∀i,i∈(List.range (n-k)).filter (λi=> !decide (f (k+i) k=0))↔i<n-k/\f (k+i) k≠0:=λi=>by simp
 have hfst:∀i,f (k+i) k≠0->i<n-k->∀a l,(List.range (n-k)).filter (λi=> !decide (f (k+i) k=0))=a::l->f k k≠0->a=0:=λi _ hi a l e h0=>by
  have hr:List.range (n-k)=0::(List.range (n-k-1)).map (· +1):=by
   rw[show n-k=(n-k-1)+1 by omega,ZbD];rfl
  rw[hr,List.filter_cons,if_pos (by show(!decide (f (k+0) k=0))=true;rw[Nat.add_zero,decide_eq_false h0];rfl)]at e
  exact(List.cons.inj e).1.symm
 generalize (List.range (n-k)).filter (λi=> !decide (f (k+i) k=0))=xs at eI hmem hfst
 cases xs with
 | nil=>
  refine⟨f,?_,.inl ⟨rfl,λ_ i h1 h2=>?_⟩⟩
  ·refine QU ?_
   refine run_seq (Qg eI ?_)
   rw[Qi]
   refine QD (Qad (b:=true) ((Qxs (Qdp (b:=false) (show QO (Qa 2) _=some false from rfl)))) (λ_=>?_) (λh=>by cases h))
   exact QD (Qbq (r:=⟨Qb n N f,false,[]⟩) rfl ⟨rfl,rfl⟩)
  ·by_cases z:f i k=0
   ·exact z
   ·have:=(hmem (i-k)).mpr ⟨by omega,by rw[show k+(i-k)=i by omega];exact z⟩
    simp at this
 | cons a l=>
  obtain⟨ha,hz⟩:=(hmem a).mp Zo
  have eidx:∀ρ:En,ρ[2]? =some (some (.lst ((a::l).map λ(i:Nat)=>D.int ((k:Int)+i)),true))->Qs (Qa 2) (dC (.int 0)) ρ=some ⟨.int ((k:Int)+a),true,[]⟩:=λρ hρ=>by
   unfold Qs
   rw[show Qa 2 ρ=some ⟨.lst ((a::l).map λ(i:Nat)=>D.int ((k:Int)+i)),true,[2]⟩ by unfold Qa;rw[hρ];rfl,Za,show dC (.int 0) ρ=some ⟨.int 0,true,[]⟩from rfl,Za]
   dsimp only
   simp only[D.items,ZR,Za]
   rw[Qij (show(0:Int)<=0 by decide) (by simp)]
   rfl
  by_cases h0:a=0
  ·subst h0
   refine⟨f,?_,.inl ⟨rfl,λz=>absurd z (by simpa using hz)⟩⟩
   refine QU ?_
   refine run_seq (Qg eI ?_)
   rw[Qi]
   refine QD (Qad (b:=true) ((Qc3 (a:=false) (b:=true) (Qdp (b:=true) (show QO (Qa 2) _=some true from rfl)) (QM (b:=true) (Qb1 (a:=k) (b:=k) (ra:=⟨.int k,true,[]⟩) ?_ rfl (rb:=⟨.int k,true,[]⟩) rfl rfl) (by simp))).trans rfl) (λ_=>?_) (λh=>by cases h))
   ·rw[eidx _ rfl]
    show some (HS.R.mk (.int ((k:Int)+(0:Nat))) true [])=_
    rw[show(k:Int)+(0:Nat)=k by omega]
   ·exact QD (Qbq (r:=⟨Qb n N f,false,[]⟩) rfl ⟨rfl,rfl⟩)
  ·have hkk:f k k=0:=by
    by_cases z:f k k=0
    ·exact z
    ·exact absurd (hfst a hz ha a l rfl z) h0
   refine⟨_,?_,.inr ⟨k+a,by omega,by omega,hz,rfl⟩⟩
   refine QU ?_
   refine run_seq (Qg eI ?_)
   rw[Qi]
   refine QD (Qad (b:=false) ((Qc3 (a:=false) (b:=false) (Qdp (b:=true) (show QO (Qa 2) _=some true from rfl)) (QM (b:=false) (Qb1 (a:=(k:Int)+a) (b:=k) (eidx _ rfl) rfl (rb:=⟨.int k,true,[]⟩) rfl rfl) ?_)).trans rfl) (λh=>by cases h) (λ_=>Qy ?_))
   ·show D.bl _=_
    rw[decide_eq_false (by omega)]
   refine run_seq (Quj (n:=n) (N:=N) (k:=k) (i:=k+a) (f:=f) (p:=f (k+a)) (q:=λj=>0-f k j) (by':=false) (b1:=false) (b2:=true) (show 3<4 by decide) rfl rfl ?_ ?_ ?_ hk (by omega) ?_)
   ·exact(Qda (m:=n) (n:=N) (f:=f) (i:=(k:Int)+a) (ra:=⟨Qb n N f,false,[]⟩) rfl rfl (eidx _ rfl) rfl (by omega) (by omega)).trans (by rw[show((k:Int)+a).toNat=k+a by omega])
   ·exact(eidx _ rfl).trans (by rw[show((k+a:Nat):Int)=(k:Int)+a by simp])
   ·exact Qm (r:=⟨[Qd N (f k)],false,[]⟩) (Qq ((Qda (m:=n) (n:=N) (f:=f) (i:=k) (ra:=⟨Qb n N f,false,[]⟩) (rb:=⟨.int k,true,[]⟩) rfl rfl rfl rfl (by omega) (by omega)).trans (by rw[ZJ])) (QK _)) (ho N (f k)) rfl
   ·exact QD (Qbq (r:=⟨Qb n N (QcR f k (f (k+a)) (k+a) λj=>0-f k j),false,[]⟩) rfl ⟨rfl,rfl⟩)
def Qpk(n:Nat)(m:Nat->Nat->Int):Prop:=∀j,j<n->∀r,r<n->(m j r).natAbs<=2^240
theorem QjL{n:Nat}(hn:n<=8):bnd (2^240) n<2^2000:=by
 have h:∀k,k<9->bnd (2^240) k<2^2000:=by decide+kernel
 exact h n (by omega)
theorem Qpk.put{n:Nat}{m:Nat->Nat->Int}(h:Qpk n m){i:Nat}{a:Nat->Int}(ha:∀r,r<n->(a r).natAbs<=2^240):Qpk n (cup m i a):=λj hj r hr=>by
 by_cases e:j=i
 ·subst e;rw[Qv];exact ha r hr
 ·rw[Qu _ _ e];exact h j hj r hr
structure QcN (n N k:Nat) (A m R:Nat->Nat->Int) (d:Int):Prop where
 clr:Clr n N k A m R d
 col:Qpk n m
theorem QcN.start(n N:Nat)(A:Nat->Nat->Int):QcN n N 0 A Qx (λi j=>A j i) 1:=⟨Clr.start n N A,λj _ r _=>by unfold Qx;split<;>decide⟩
theorem QcN.small{n N k:Nat}{A m R:Nat->Nat->Int}{d:Int}(h:QcN n N k A m R d)(hn:n<=8)(hA:∀j,j<N->∀r,r<n->(A j r).natAbs<=2^240):d.natAbs<2^2000/\∀i j,i<n->j<N->(R i j).natAbs<2^2000:=by
 have b:=QjL hn
 refine⟨?_,λi j hi hj=>?_⟩
 ·rw[← h.clr.det];exact Zae (Qe7 h.col) b
 ·rw[h.clr.ent i j hi hj];exact Zae (Qe7 (h.col.put (hA j hj))) b
theorem QcN.step{n N k:Nat}{A m R R':Nat->Nat->Int}{d:Int}(h:QcN n N k A m R d)(hk:k<n)(kN:k<N)(hA:∀j,j<N->∀r,r<n->(A j r).natAbs<=2^240)(hp:R k k≠0)(h1:∀j,j<N->R' k j=R k j)(h2:∀i j,i<n->i≠k->j<N->∀q,R k k*R i j-R i k*R k j=d*q->R' i j=q):QcN n N (k+1) A (cup m k (A k)) R' (R k k):=
 ⟨h.clr.step hk kN hp h1 h2,h.col.put (hA k kN)⟩
theorem QcN.swap{n N k:Nat}{A m R:Nat->Nat->Int}{d:Int}(h:QcN n N k A m R d){i:Nat}(hk:k<n)(hi:i<n)(hki:k<i):∃m',QcN n N k A m' (QcR R k (R i) i λj=>0-R k j) d:=by
 have ne:k≠i:=by omega
 have neg:∀(c:Nat),c<n->∀(M:Nat->Nat->Int) (a:Nat->Int),HS.det n (cup M c λr=> -a r)= -HS.det n (cup M c a):=λc hc M a=>by
  have:=QdQ (m:=M) hc (-1) a
  simpa only[ZaJ,ZP]using this
 obtain⟨c1,c2⟩:=h
 refine⟨cup (cup m k (m i)) i λr=> -m k r,⟨c1.le,?_,c1.nz,λl j hl hj=>?_,λj hj=>?_⟩,λj hj r hr=>?_⟩
 ·rw[neg i hi,QdJ hk hi ne,Int.neg_neg,Q9,Q9];exact c1.det
 ·unfold QcR
  by_cases e2:l=i
  ·subst e2
   rw[if_pos rfl]
   show 0-R k j=_
   rw[c1.ent k j hk hj,Qlh,QdJ hk hl ne,Q4 _ _ _ ne]
   have:=Q9 m l
   rw[this];omega
  ·rw[if_neg e2]
   by_cases e1:l=k
   ·subst e1
    rw[if_pos rfl,c1.ent i j hi hj,Q4 _ _ _ (Ne.symm ne),Qlh,neg i hi,QdJ hl hi ne,Int.neg_neg,Q9]
   ·rw[if_neg e1,c1.ent l j hl hj,Q4 _ _ _ (Ne.symm e2),neg i hi,Q4 _ _ _ (Ne.symm e1),QdJ hk hi ne,Int.neg_neg]
    rw[Q4 _ _ _ e1,Q9,Q4 _ _ _ e2,Q9]
 ·rw[Qu _ _ (by omega),Qu _ _ (by omega)];exact c1.own j hj
 ·by_cases e1:j=i
  ·subst e1;rw[Qv,Int.natAbs_neg];exact c2 k hk r hr
  ·rw[Qu _ _ e1]
   by_cases e2:j=k
   ·subst e2;rw[Qv];exact c2 i hi r hr
   ·rw[Qu _ _ e2];exact c2 j hj r hr
theorem Clr.stuck{n N k:Nat}{A m R:Nat->Nat->Int}{d:Int}(h:Clr n N k A m R d)(hk:k<n)(kN:k<N)(hz:∀i,k<=i->i<n->R i k=0):HS.det n A=0:=by
 have t:∀r,r<n->d*A k r=sm k λl=>R l k*A l r:=λr hr=>by
  rw[h.tell kN hr,QmG (k:=k) (by omega) λl h1 h2=>by rw[hz l h1 h2,ZE]]
  exact QaR λl hl=>by rw[h.own l hl]
 have e:d*HS.det n A=0:=by
  have e1:HS.det n (cup A k λr=>d*A k r)=d*HS.det n A:=by rw[QdQ hk,Q9]
  rw[← e1]
  have e2:HS.det n (cup A k λr=>d*A k r)=HS.det n (cup A k λr=>sm k λl=>R l k*A l r):=QE λj hj r hr=>by
   by_cases q:j=k
   ·subst q;rw[Qv,Qv];exact t r hr
   ·rw[Qu _ _ q,Qu _ _ q]
  rw[e2,Qe6 hk (λl=>R l k) A k]
  exact Qiy λi hi=>by rw[Qd2 (show i<n by omega) hk (by omega) (by rw[Qv,Qu _ _ (by omega)]),ZA]
 rcases Int.mul_eq_zero.mp e with z | z
 ·exact absurd z h.nz
 ·exact z
theorem Clr.all{n N:Nat}{A m R:Nat->Nat->Int}{d:Int}(h:Clr n N n A m R d):d=HS.det n A:=by
 rw[← h.det]
 exact QE λj hj r _=>by rw[h.own j hj]
def Qe3(d:Den):Prop:=∀(n N:Nat) (A:Nat->Nat->Int),n<=8->n<=N->(∀j,j<N->∀r,r<n->(A j r).natAbs<=2^240)->∃R,d [Qb n N (λi j=>A j i)]=some (.tup [Qb n N R,.int (det n A)],false)/\(det n A≠0->∃m,QcN n N n A m R (det n A))
theorem Qn3{dp dt:Den}(hp:Qjh dp)(ht:Qk2 dt):Qe3 (Ql 5 (QfM dp dt)):=λn N A n8 hN hA=>by
 have key:Run (QfM dp dt) [some (Qb n N (λi j=>A j i),false),none,none,none,none] λo=>match o with | .rt d fr=>fr=false/\∃R,d= .tup [Qb n N R,.int (det n A)]/\(det n A≠0->∃m,QcN n N n A m R (det n A)) | _=>False:=by
  refine run_seq (Qg (Qay (r:=⟨Qb n N (λi j=>A j i),false,[]⟩) rfl) ?_)
  refine run_seq (Qg (r:=⟨.int 1,true,[]⟩) rfl ?_)
  rw[Qi]
  refine QD (Qb0 (toD:=λ(k:Nat)=> .int (k:Int)) (List.range n) (λk ρ=>∃m R b j3 j4,QcN n N k A m R b/\ρ=[some (Qb n N (λi j=>A j i),false),some (Qb n N R,false),some (.int b,true),j3,j4]) (Qa7 (n:=n) (QaL (n:=n) (m:=N) (f:=λi j=>A j i) (r:=⟨Qb n N (λi j=>A j i),false,[]⟩) rfl rfl) rfl (by omega)) rfl ⟨_,_,_,none,none,QcN.start n N A,rfl⟩ ?_ ?_)
  ·rintro k k' ρ hk ⟨m0,R0,b,j3,j4,C0,rfl⟩
   have hk':k<n/\k=k':=by
    obtain⟨h1,h2⟩:=Zf.mp hk
    simp at h1 h2;exact⟨h1,h2⟩
   obtain⟨hkn,rfl⟩:=hk'
   have kN:k<N:=by omega
   obtain⟨R,ep,hR⟩:=hp n N k R0 hkn (by omega) kN
   have hC:∃m,QcN n N k A m R b/\(R k k=0->det n A=0):=by
    rcases hR with⟨rfl,hz⟩ | ⟨i,h1,h2,h3,rfl⟩
    ·exact⟨m0,C0,λz=>C0.clr.stuck hkn kN (hz z)⟩
    ·obtain⟨m',C'⟩:=C0.swap hkn h2 h1
     refine⟨m',C',λz=>absurd z ?_⟩
     unfold QcR
     rw[if_neg (by omega),if_pos rfl]
     exact h3
   obtain⟨m,C,hzero⟩:=hC
   obtain⟨sb,sR⟩:=C.small n8 hA
   refine⟨[some (Qb n N (λi j=>A j i),false),some (Qb n N R0,false),some (.int b,true),some (.int k,true),j4],rfl,?_⟩
   refine run_seq (Qg (r:=⟨Qb n N R,false,[]⟩) ((Qeu (r:=⟨[Qb n N R0,.int k],false,[]⟩) rfl ep rfl).trans rfl) ?_)
   refine run_seq (Qg (r:=⟨Qd N (R k),false,[]⟩) ((Qay (Qda (m:=n) (n:=N) (f:=R) (i:=k) (ra:=⟨Qb n N R,false,[]⟩) (rb:=⟨.int k,true,[]⟩) rfl rfl rfl rfl (by omega) (by omega))).trans rfl) ?_)
   refine QD (Qad (b:=decide (R k k=0)) (QM (Qb1 (a:=R k k) (b:=0) (Qar (m:=N) (f:=R k) (i:=k) (ra:=⟨Qd N (R k),false,[]⟩) (rb:=⟨.int k,true,[]⟩) rfl rfl rfl rfl kN) rfl rfl rfl) rfl) (λh=>?_) (λh=>Qy ?_))
   ·have dz:=hzero (of_decide_eq_true h)
    refine QD (Qbq (r:=⟨.tup [Qb n N R,.int 0],false,[]⟩) rfl ?_)
    exact⟨rfl,R,by rw[dz],λz=>absurd dz z⟩
   have pv:R k k≠0:=of_decide_eq_false h
   have ex:∀i j,∃q,i<n->i≠k->j<N->R k k*R i j-R i k*R k j=b*q:=λi j=>by
    by_cases h:i<n/\i≠k/\j<N
    ·exact⟨_,λh1 h2 h3=>C.clr.exact hkn kN h1 h3 h2⟩
    ·exact⟨0,λh1 h2 h3=>absurd ⟨h1,h2,h3⟩ h⟩
   have zz:∀j,R k k*R k j-R k k*R k j=b*0:=λj=>by rw[ZbF,ZA]
   have eT:∀i,i<n->dt [Qd N (R i),Qd N (R k),.int k,.int b]=some (Qd N (λj=>if i=k then 0 else(ex i j).choose),true):=λi hi=>
    ht N k (R i) (R k) _ b kN C.clr.nz sb (λj hj=>⟨sR i j hi hj,sR k j hkn hj⟩) λj hj=>by
     by_cases e:i=k
     ·rw[if_pos e,e];exact zz j
     ·rw[if_neg e];exact(ex i j).choose_spec hi e hj
   refine run_seq (Qg (r:=⟨Qb n N (λi j=>if i=k then 0 else(ex i j).choose),true,[]⟩) (QI (toD:=λ(i:Nat)=>Qd N (R i)) (out:=λ(i:Nat)=>Qd N (λj=>if i=k then 0 else(ex i j).choose)) (List.range n) (Qal (r:=⟨Qb n N R,false,[]⟩) rfl rfl) rfl λi hi=>⟨[none,some (Qd N (R i),false),some (.int k,true),some (.int b,true),some (Qd N (R k),false)],rfl,⟨Qd N (λj=>if i=k then 0 else(ex i j).choose),true,[]⟩,Qm (r:=⟨[Qd N (R i),Qd N (R k),.int k,.int b],false,[]⟩) rfl (eT i (Zp.mp hi)) rfl,rfl,rfl⟩) ?_)
   rw[Qi]
   refine run_seq (Qrm (n:=n) (N:=N) (k:=k) (p:=R k) (g:=λi j=>if i=k then 0 else(ex i j).choose) rfl rfl rfl hkn ?_)
   refine run_seq (Qg (r:=⟨.int (R k k),false,[]⟩) ((Qay (Qar (m:=N) (f:=R k) (i:=k) (ra:=⟨Qd N (R k),false,[]⟩) (rb:=⟨.int k,true,[]⟩) rfl rfl rfl rfl kN)).trans rfl) (Qy ?_))
   rw[QcX rfl]
   refine⟨_,_,_,_,_,C.step (R':=λi j=>if i=k then R k j else(λi j=>if i=k then 0 else(ex i j).choose) i j) hkn kN hA pv (λj _=>by show(if k=k then R k j else _)=_;rw[if_pos rfl]) (λi j hi ne hj q hq=>?_),rfl⟩
   show(if i=k then R k j else if i=k then 0 else(ex i j).choose)=q
   rw[if_neg ne,if_neg ne]
   exact Zah C.clr.nz (((ex i j).choose_spec hi ne hj).symm.trans hq)
  ·rintro ρ ⟨m,R,b,j3,j4,C,rfl⟩
   rw[Zt]at C
   have hb:=C.clr.all
   subst hb
   exact QC (r:=⟨.tup [Qb n N R,.int (det n A)],false,[]⟩) rfl ⟨rfl,R,rfl,λ_=>⟨m,C⟩⟩
 obtain⟨o,h1,h2⟩:=key
 cases o with
 | rt d fr=>
  obtain⟨rfl,R,rfl,C⟩:=h2
  exact⟨R,by show Option.bind (QfM dp dt [some (Qb n N (λi j=>A j i),false),none,none,none,none]) outD=_;rw[h1];rfl,C⟩
 | _=>exact h2.elim
def Qdh(N:Nat)(d:Den):Prop:=∀(n:Nat) (A:Nat->Nat->Int),1<=n->n<=N->n<=8->(∀j,j<n->∀r,r<n->(A j r).natAbs<=2^240)->d [Qb n n A]=some (.int (det n A),true)
theorem QuD:Qdh 0 (λ_=>none):=λn A h1 h2=>by omega
set_option maxHeartbeats 0 in
theorem QeW{N:Nat}{d:Den}(ih:Qdh N d):Qdh (N+1) (Ql 4 (Qca d)):=λn A h1 hN h8 hA=>by
 have len:∀{ρ:En},ρ[0]? =some (some (Qb n n A,false))->dBf Q8 (Qc (Qa 0) Qe) ρ=some ⟨.int n,true,[]⟩:=λ{ρ} h=>QaL (n:=n) (m:=n) (f:=A) (QhN h) rfl
 have entry:∀{ρ:En}{fk:DE}{k:Nat},ρ[0]? =some (some (Qb n n A,false))->fk ρ=some ⟨.int k,true,[]⟩->k<n->Qs (Qs (Qa 0) fk) (dC (.int 0)) ρ=some ⟨.int (A k 0),true,[]⟩:=λ{ρ fk k} h hk hkn=>Qar (m:=n) (f:=A k) (i:=0) (Qda (m:=n) (n:=n) (f:=A) (i:=k) (QhN h) rfl hk rfl (by omega) (by omega)) rfl (QaY _ _) rfl (by omega)
 refine QU ?_
 refine QD (Qad (QM (Qb1 (a:=n) (b:=1) (len rfl) rfl (QaY _ _) rfl) rfl) (λh=>?_) (λh=>Qy ?_))
 ·have e:n=1:=by have:=of_decide_eq_true h;omega
  subst e
  refine QD (Qbq (entry (k:=0) rfl (QaY _ _) (by decide)) ⟨?_,rfl⟩)
  show D.int (A 0 0)= .int (sm 1 λj=>sgn j*A j 0*1)
  congr 1
  show A 0 0=0+1*A 0 0*1
  omega
 have n2:2<=n:=by have:=of_decide_eq_false h;omega
 obtain⟨p,rfl⟩:∃p,n=p+1:=⟨n-1,by omega⟩
 refine run_seq (Qg (r:=⟨.int 0,true,[]⟩) rfl ?_)
 rw[Qi]
 refine QaP (P:=λρ=>∃j2 j3,ρ=[some (Qb (p+1) (p+1) A,false),some (.int (det (p+1) A),true),j2,j3]) ?_ ?_
 ·refine Qb0 (toD:=λ(k:Nat)=> .int (k:Int)) (List.range (p+1)) (λi ρ=>∃j2 j3,ρ=[some (Qb (p+1) (p+1) A,false),some (.int (sm i λj=>sgn j*A j 0*det p λc r=>A (skp j c) (r+1)),true),j2,j3]) (Qa7 (n:=p+1) (len rfl) rfl (by omega)) rfl ⟨none,none,rfl⟩ ?_ ?_
  ·rintro k k' ρ hk ⟨j2,j3,rfl⟩
   have hk':k<p+1/\k=k':=by
    obtain⟨h1,h2⟩:=Zf.mp hk
    simp at h1 h2;exact⟨h1,h2⟩
   obtain⟨hkp,rfl⟩:=hk'
   have bm:(det p λc r=>A (skp k c) (r+1)).natAbs<2^2000:=Zae (Qe7 λc hc r hr=>hA (skp k c) (by unfold skp;split<;>omega) (r+1) (by omega)) (QjL (by omega))
   refine⟨_,rfl,?_⟩
   refine run_seq (Qad (QM (Qc2 (a:=A k 0) (b:=0) (entry (k:=k) rfl rfl hkp) rfl (QaY _ _) rfl) rfl) (λh=>?_) (λh=>?_))
   ·obtain⟨r1,q1,d1⟩:=QmO (fa:=Qa 0) (fb:=Qa 2) (ρ:=[some (Qb (p+1) (p+1) A,false),some (.int (sm k λj=>sgn j*A j 0*det p λc r=>A (skp j c) (r+1)),true),some (.int k,true),j3]) (ra:=⟨Qb (p+1) (p+1) A,false,[]⟩) (xs:=(List.range (p+1)).map λi=>Qd (p+1) (A i)) (n:=k) rfl rfl (rb:=⟨.int k,true,[]⟩) rfl rfl (by simp;omega)
    obtain⟨r2,q2,d2⟩:=Qm3 (fa:=Qa 0) (fb:=QX (Qa 2) (dC (.int 1))) (ρ:=[some (Qb (p+1) (p+1) A,false),some (.int (sm k λj=>sgn j*A j 0*det p λc r=>A (skp j c) (r+1)),true),some (.int k,true),j3]) (ra:=⟨Qb (p+1) (p+1) A,false,[]⟩) (xs:=(List.range (p+1)).map λi=>Qd (p+1) (A i)) (n:=k+1) rfl rfl (Qce (a:=(k:Int)) (b:=1) (ra:=⟨.int k,true,[]⟩) rfl rfl (QaY _ _) rfl) rfl (by simp;omega)
    obtain⟨r3,q3,d3⟩:=Qtu q1 d1 q2 d2 (by simp;omega)
    rw[Qr9 hkp]at d3
    refine run_seq (Qg (Qm (Qq (QI (toD:=λ(c:Nat)=>Qd (p+1) (A (skp k c))) (out:=λ(c:Nat)=>Qd p λr=>A (skp k c) (1+r)) (List.range p) (Qal q3 d3) rfl λc _=>⟨[none,some (Qd (p+1) (A (skp k c)),false)],rfl,⟨Qd p λr=>A (skp k c) (1+r),true,[]⟩,Qjl (m:=p+1) (n:=1) (f:=A (skp k c)) (ra:=⟨Qd (p+1) (A (skp k c)),false,[]⟩) rfl rfl (QaY _ _) rfl (by omega),rfl,rfl⟩) (QK _)) (d:= .int (det p λc r=>A (skp k c) (r+1))) ?_ rfl) ?_)
    ·have:=ih p (λc r=>A (skp k c) (r+1)) (by omega) (by omega) (by omega) λc hc r hr=>hA (skp k c) (by unfold skp;split<;>omega) (r+1) (by omega)
     have e:(List.range p).map (λc=>Qd p λr=>A (skp k c) (1+r))=(List.range p).map λc=>Qd p λr=>A (skp k c) (r+1):=ZG λc _=>Qe9 λr _=>by rw[Nat.add_comm]
     show d [.lst ((List.range p).map λc=>Qd p λr=>A (skp k c) (1+r))]=_
     rw[e]
     exact this
    rw[Qi]
    refine run_seq (Qg (Qce (a:=sm k λj=>sgn j*A j 0*det p λc r=>A (skp j c) (r+1)) (b:=sgn k*A k 0*det p λc r=>A (skp k c) (r+1)) rfl rfl (QaO (a:=sgn k*A k 0) (b:=det p λc r=>A (skp k c) (r+1)) (QaO (a:=sgn k) (b:=A k 0) ((QhS (a:=1) (b:=2*((k:Int) % 2)) (ra:=⟨.int 1,true,[]⟩) rfl rfl (QaO (a:=2) (b:=(k:Int) % 2) rfl rfl (Qb6 (a:=(k:Int)) (b:=2) (ra:=⟨.int k,true,[]⟩) rfl rfl (QaY _ _) rfl (by decide)) rfl (Qet (by decide))) rfl).trans (by rw[QvH])) rfl (entry (k:=k) rfl rfl hkp) rfl (Qet (by unfold sgn;split<;>decide))) rfl (rb:=⟨.int (det p λc r=>A (skp k c) (r+1)),true,[]⟩) rfl rfl (Qdi (QaJ ?_) (QaJ bm))) rfl) (Qy (Qy ?_)))
    ·have:=hA k hkp 0 (by omega)
     have b:(2:Nat)^200<2^2000:=Nat.pow_lt_pow_right (by decide) (by decide)
     rw[ZK]
     have s:(sgn k).natAbs=1:=by unfold sgn;split<;>rfl
     rw[s,Nat.one_mul]
     omega
    rw[Qi]
    exact⟨_,_,rfl⟩
   ·have z:A k 0=0:=by simpa using h
    refine Qy (Qy ⟨some (.int k,true),j3,?_⟩)
    have e:(sm (k+1) λj=>sgn j*A j 0*det p λc r=>A (skp j c) (r+1))=sm k λj=>sgn j*A j 0*det p λc r=>A (skp j c) (r+1):=by
     show(sm k λj=>sgn j*A j 0*det p λc r=>A (skp j c) (r+1))+sgn k*A k 0*(det p λc r=>A (skp k c) (r+1))=_
     rw[z,ZA,ZE,Zbd]
    rw[e]
    rfl
  ·rintro ρ ⟨j2,j3,rfl⟩
   rw[Zt]
   exact⟨_,_,rfl⟩
 rintro ρ ⟨j2,j3,rfl⟩
 exact QC (r:=⟨.int (det (p+1) A),true,[]⟩) rfl ⟨rfl,rfl⟩
theorem Qth{n:Nat}{den:Den}{fs:DA}{ρ:En}{r:RA}{d:D}{fr:Bool}(h:fs ρ=some r)(e:den r.ds=some (d,fr))(hn:r.ds.length=n)(hf:d.flat=false)(hM:r.M=[]):Qh n den [] fs ρ=some ⟨d,fr,[]⟩:=by
 unfold Qh
 rw[h,Za,if_pos (by simpa using hn),Zaq,e]
 cases fr with
 | true=>rfl
 | false=>
  show some (R.norm ⟨d,false,r.M⟩)=_
  unfold R.norm
  rw[if_neg (by show ¬d.flat=true;rw[hf];exact ZO),hM]
theorem Qya{i:Nat}{d:D}{fr:Bool}{ρ:En}(hf:d.flat=false):asg i ⟨d,fr,[]⟩ ρ=ρ.set i (some (d,fr)):=by
 cases fr with
 | true=>exact Qi i d ρ
 | false=>
  unfold asg R.norm
  simp[hf,Qaz]
theorem Qug{ρ:En}{i:Nat}{d:D}{b:Bool}(h:ρ[i]? =some (some (d,b)))(hf:d.flat=false):∃M,Qa i ρ=some ⟨d,b,M⟩:=by
 unfold Qa
 rw[h]
 cases b with
 | true=>exact⟨[i],by simp[hf]⟩
 | false=>exact⟨[],by simp[hf]⟩
end HS
namespace HS
open PySem PySem.Spec L2
def Ap(f:DS)(fx:DX):Prop:=∀ρ,fx ρ≠none->f ρ=none
def ApF(d:Den)(xd:List D->Option Str):Prop:=∀ds,xd ds≠none->d ds=none
theorem QeD{f:DS}:Ap f xNo:=λρ h=>absurd rfl h
theorem QcZ{x:Str}{fs:DA}:Ap QA (QfC x fs):=λρ h=>rfl
theorem Qdr{f g:DS}{fx gx:DX}(a:Ap f fx)(b:Ap g gx):Ap (Qf f g) (Qaa f fx gx):=λρ h=>by
 unfold Qaa at h
 unfold Qf
 split at h
 ·rename_i ρ' e
  rw[e]
  exact b ρ' h
 ·exact absurd rfl h
 ·rename_i e
  rw[e];rfl
theorem QiD{c:DT}{f g:DS}{fx gx:DX}(a:Ap f fx)(b:Ap g gx):Ap (sIf c f g) (xIf c fx gx):=λρ h=>by
 unfold xIf at h
 unfold sIf
 cases e:c ρ with
 | none=>rfl
 | some v=>
  rw[e,Za]at h
  rw[Za]
  cases v with
  | true=>rw[if_pos rfl]at h ⊢;exact a ρ h
  | false=>rw[if_neg ZO]at h ⊢;exact b ρ h
theorem Qov{n:Nat}{d:Den}{xd:List D->Option Str}{fs:DA}(a:ApF d xd){ρ:En}(h:QbK n xd fs ρ≠none):Qh n d [] fs ρ=none:=by
 unfold QbK at h
 unfold Qh
 cases e:fs ρ with
 | none=>rfl
 | some r=>
  rw[e,Za]at h
  rw[Za]
  split at h
  ·rename_i hl
   rw[if_pos (by simpa using hl),Zaq,a r.ds (λz=>h (by rw[z];rfl))];rfl
  ·exact absurd rfl h
theorem Qcf{n:Nat}{d:Den}{xd:List D->Option Str}{fs:DA}(a:ApF d xd):Ap (QcU (Qh n d [] fs)) (QbK n xd fs):=λρ h=>by unfold QcU;rw[Qov a h];rfl
theorem Qd6{n i:Nat}{d:Den}{xd:List D->Option Str}{fs:DA}(a:ApF d xd):Ap (Qp i (Qh n d [] fs)) (QbK n xd fs):=λρ h=>by unfold Qp;rw[Qov a h];rfl
theorem Qmk{k:Nat}{f:DS}{fx:DX}(a:Ap f fx):ApF (Ql k f) (QbS k fx):=λds h=>by
 unfold QbS at h
 unfold Ql
 rw[a _ λz=>h (by rw[z];rfl)];rfl
def Qgc(f:DX)(ρ:En)(x:Str):Prop:=∃ρ',f ρ=some (x,ρ')
theorem QnB{x:Str}{fs:DA}{ρ:En}{r:RA}(h:fs ρ=some r)(hl:r.ds.length<=1):Qgc (QfC x fs) ρ x:=⟨ρ,by unfold QfC;rw[h,Za,if_pos hl]⟩
theorem QkP{n:Nat}{xd:List D->Option Str}{fs:DA}{ρ:En}{r:RA}{x:Str}(h:fs ρ=some r)(hl:r.ds.length=n)(hx:xd r.ds=some x):Qgc (QbK n xd fs) ρ x:=⟨ρ,by unfold QbK;rw[h,Za,if_pos hl,hx];rfl⟩
theorem QtJ{g:DT}{fa fb:DX}{b:Bool}{ρ:En}{x:Str}(h:g ρ=some b)(q1:b=true->Qgc fa ρ x)(q2:b=false->Qgc fb ρ x):Qgc (xIf g fa fb) ρ x:=by
 cases b with
 | true=>obtain⟨o,h1⟩:=q1 rfl;exact⟨o,by simp[xIf,h,h1]⟩
 | false=>obtain⟨o,h1⟩:=q2 rfl;exact⟨o,by simp[xIf,h,h1]⟩
theorem Qez{f:DS}{fx fr:DX}{ρ:En}{x:Str}(a:Ap f fx)(q:Qgc fx ρ x):Qgc (Qaa f fx fr) ρ x:=by
 obtain⟨o,h⟩:=q
 exact⟨o,by unfold Qaa;rw[a ρ (by rw[h];exact λz=>by cases z)];exact h⟩
theorem Qgy{f:DS}{fx fr:DX}{ρ:En}{x:Str}(h:Run f ρ (Nx λρ'=>Qgc fr ρ' x)):Qgc (Qaa f fx fr) ρ x:=by
 obtain⟨o,h1,h2⟩:=h
 cases o with
 | nx ρ'=>obtain⟨o,h3⟩:=h2;exact⟨o,by unfold Qaa;rw[h1];exact h3⟩
 | _=>exact h2.elim
theorem Qka{k:Nat}{f:DX}{ds:List D}{x:Str}(h:Qgc f (Qc8 k ds) x):QbS k f ds=some x:=by
 obtain⟨ρ,e⟩:=h
 unfold QbS
 rw[e];rfl
theorem QmU{f:DS}{fx:DX}{sub:Str->Str->Option Bool}{y:Str}{h:DS}{r:List Hd}{x:Str}{ρ ρ':En}{Q:Out->Prop}(a:Ap f fx)(e:fx ρ=some (x,ρ'))(hs:sub x y=some true)(q:Run h ρ' Q):Run (QdX f fx sub ((y,none,h)::r)) ρ Q:=by
 obtain⟨o,h1,h2⟩:=q
 refine⟨o,?_,h2⟩
 unfold QdX
 rw[a ρ (by rw[e];exact λz=>by cases z)]
 dsimp only
 rw[e,Za]
 unfold Qjr
 rw[hs,Za,if_pos rfl]
 exact h1
theorem QsK{f:DS}{fx:DX}{sub:Str->Str->Option Bool}{y:Str}{i:Nat}{h:DS}{r:List Hd}{x:Str}{ρ ρ':En}{Q:Out->Prop}(a:Ap f fx)(e:fx ρ=some (x,ρ'))(hs:sub x y=some true)(q:Run h (ρ'.set i (some (.exc x,true))) λo=>Q (Qwh i o)):Run (QdX f fx sub ((y,some i,h)::r)) ρ Q:=by
 obtain⟨o,h1,h2⟩:=q
 refine⟨_,?_,h2⟩
 unfold QdX
 rw[a ρ (by rw[e];exact λz=>by cases z)]
 dsimp only
 rw[e,Za]
 unfold Qjr
 rw[hs,Za,if_pos rfl]
 dsimp only
 rw[h1];rfl
end HS
namespace HS
open PySem L2
theorem Qj5{n:Nat}{d:Den}{xd:List D->Option Str}{fs:DA}{ρ:En}{r:RA}{x:Str}(a:ApF d xd)(h:fs ρ=some r)(hl:r.ds.length=n)(hx:xd r.ds=some x):Qaa (QcU (Qh n d [] fs)) (QbK n xd fs) xNo ρ=some (x,ρ):=by
 have e:QbK n xd fs ρ=some (x,ρ):=by unfold QbK;rw[h,Za,if_pos hl,hx];rfl
 unfold Qaa
 rw[Qcf a ρ (by rw[e];exact λz=>by cases z)]
 exact e
theorem QhZ{sub:Str->Str->Option Bool}{ys:List Str}{fa:DE}{ρ:En}{x:Str}{b:Bool}(h:fa ρ=some ⟨.exc x,true,[]⟩)(hs:anyS sub x ys=some b):QfF sub ys fa ρ=some ⟨.bl b,true,[]⟩:=by
 unfold QfF
 rw[h,Za]
 dsimp only
 rw[hs];rfl
theorem any_cons{sub:Str->Str->Option Bool}{x y:Str}{ys:List Str}{b c:Bool}(h:sub x y=some b)(t:anyS sub x ys=some c):anyS sub x (y::ys)=some (b || c):=by
 unfold anyS
 rw[h,Za,t];rfl
theorem Qid{fa fb:DE}{ρ:En}{a b:Bool}(ha:fa ρ=some ⟨.bl a,true,[]⟩)(hb:fb ρ=some ⟨.bl b,true,[]⟩):Qep fa fb ρ=some ⟨.bl (a && b),true,[]⟩:=by
 unfold Qep
 rw[ha,Za]
 cases a with
 | true=>rw[hb];rfl
 | false=>rfl
theorem Qk0{fa:DE}{ρ:En}{a:Bool}(ha:fa ρ=some ⟨.bl a,true,[]⟩):Qg5 fa ρ=some ⟨.bl (!a),true,[]⟩:=by
 unfold Qg5
 rw[ha];rfl
def QeC(d:Den):Prop:=∀(n N:Nat) (A:Nat->Nat->Int),n<=8->n<=N->(∀j,j<N->∀r,r<n->(A j r).natAbs<=2^240)->det n A≠0->∃m R b,d [Qb n N (λi j=>A j i)]=some (.tup [Qb n N R,.int b],false)/\QcN n N n A m R b
theorem QnS{dc:Den}(hc:Qe3 dc):QeC (Ql 2 (QcQ dc)):=λn N A n8 hN hA hd=>by
 obtain⟨R,ec,hC⟩:=hc n N A n8 hN hA
 obtain⟨m,C⟩:=hC hd
 refine⟨m,R,det n A,QU ?_,C⟩
 refine run_seq (Qg (r:=⟨.tup [Qb n N R,.int (det n A)],false,[]⟩) ((Qeu (r:=⟨[Qb n N (λi j=>A j i)],false,[]⟩) rfl ec rfl).trans rfl) ?_)
 refine QD (Qad (b:=false) (QM (Qb1 (a:=det n A) (b:=0) (ra:=⟨.int (det n A),true,[]⟩) rfl rfl rfl rfl) (by simp[hd])) (λh=>by cases h) (λ_=>Qy ?_))
 exact QC (r:=⟨.tup [Qb n N R,.int (det n A)],false,[]⟩) rfl ⟨rfl,rfl⟩
noncomputable def QcS(QbJ:Den):DX:=(Qaa (Qp 1 (Qh 1 QbJ [] (Qc (Qa 0) Qe))) xNo (Qaa (sIf (QO (dOp gEq (Qs (Qa 1) (dC (.int 1))) (dC (.int 0)))) (Qf QA Qo) Qo) (xIf (QO (dOp gEq (Qs (Qa 1) (dC (.int 1))) (dC (.int 0)))) (Qaa QA (QfC "NoRings" (Qc (dC (.str "the table has measure 0")) Qe)) xNo) xNo) (Qaa (QL (Qa 1)) xNo xNo)))
theorem QxD{dc:Den}:ApF (Ql 2 (QcQ dc)) (QbS 2 (QcS dc)):=Qmk (by unfold QcQ QcS;repeat (first | exact QeD | exact QcZ | assumption | apply Qdr | apply QiD | apply ap_for | apply Qcf | apply Qd6 | apply ap_ret))
def Qg4(xd:List D->Option Str):Prop:=∀(n N:Nat) (A:Nat->Nat->Int),n<=8->n<=N->(∀j,j<N->∀r,r<n->(A j r).natAbs<=2^240)->det n A=0->xd [Qb n N (λi j=>A j i)]=some "NoRings"
theorem Qoe{dc:Den}(hc:Qe3 dc):Qg4 (QbS 2 (QcS dc)):=λn N A n8 hN hA hd=>by
 obtain⟨R,ec,hC⟩:=hc n N A n8 hN hA
 rw[hd]at ec
 refine Qka (Qgy (Qg (r:=⟨.tup [Qb n N R,.int 0],false,[]⟩) ((Qeu (r:=⟨[Qb n N (λi j=>A j i)],false,[]⟩) rfl ec rfl).trans rfl) ?_))
 exact Qez (by repeat (first | exact QeD | exact QcZ | assumption | apply Qdr | apply QiD | apply ap_for | apply Qcf | apply Qd6 | apply ap_ret)) (QtJ (b:=true) rfl (λ_=>Qez QcZ (QnB rfl (Zj _))) (λh=>by cases h))
def QhG(d:Den):Prop:=∀(n:Nat) (f:Nat->Nat->Int) (row:Nat->Int),n<=8->(∀j r,j<n->r<n->(f j r).natAbs<=2^240)->(∀r,r<n->(row r).natAbs<=2^240)->det n f≠0->∃tops q,d [Qb n n f,Qd n row]=some (.tup [Qd n tops,.int q],true)/\0<q/\q.natAbs<2^2000/\(∀r,r<n->q*row r=sm n λl=>tops l*f l r)/\(∀l,l<n->(tops l).natAbs<2^2000)/\(∀t,t∣q->(∀l,l<n->t∣tops l)->t.natAbs=1)
theorem QpD{dt dc dl dm:Den}(ht:QdF dt)(hc:QeC dc)(hl:QfH dl)(hm:Qg2 dm):QhG (Ql 6 (Qd4 dt dc dl dm)):=λn f row n8 hf hr hL=>by
 have hA:∀j,j<n+1->∀r,r<n->((λj r=>if j=n then row r else f j r) j r).natAbs<=2^240:=λj hj r hr'=>by
  show(if j=n then row r else f j r).natAbs<=_
  split
  ·exact hr r hr'
  ·exact hf j r (by omega) hr'
 have hL':det n (λj r=>if j=n then row r else f j r)≠0:=by
  rw[QE (k:=f) λj hj r _=>by rw[if_neg (by omega)]]
  exact hL
 obtain⟨m,R,b,ec,C⟩:=hc n (n+1) _ n8 (by omega) hA hL'
 obtain⟨sb,sR⟩:=C.small n8 hA
 obtain⟨g,eg,g0,hg⟩:=hm ((List.range (n+1)).map (up (λi=>R i n) n b))
 have gb:g∣b:=(hg g).mp ⟨1,by omega⟩ b (Zao.mpr ⟨n,Zp.mpr (by omega),by rw[Qcz,if_pos rfl]⟩)
 have gR:∀i,i<n->g∣R i n:=λi hi=>(hg g).mp ⟨1,by omega⟩ _ (Zao.mpr ⟨i,Zp.mpr (by omega),by rw[Qcz,if_neg (by omega)]⟩)
 have bz:=C.clr.nz
 have gz:g≠0:=λz=>by rw[z]at gb;obtain⟨x,hx⟩:=gb;rw[ZE]at hx;exact bz hx
 obtain⟨p,hp⟩:∃p,p=if b<0 then 0-g else g:=⟨_,rfl⟩
 have pz:p≠0:=by rw[hp];split<;>omega
 have pd:∀x,g∣x->∃y,x=p*y:=λx ⟨y,hy⟩=>by
  rw[hp]
  split
  ·exact⟨-y,by rw[hy,ZaO,Int.neg_mul_neg]⟩
  ·exact⟨y,hy⟩
 obtain⟨q,hq⟩:=pd b gb
 have tp:∀i,∃y,i<n->R i n=p*y:=λi=>by
  by_cases h:i<n
  ·obtain⟨y,hy⟩:=pd _ (gR i h);exact⟨y,λ_=>hy⟩
  ·exact⟨0,λh'=>absurd h' h⟩
 have gle:g.natAbs<=b.natAbs:=ZX.mpr gb |> λh=>ZaW (by omega) h
 have ple:p.natAbs<2^2000:=by rw[hp];split<;>omega
 have q0:0<q:=by
  by_cases h:b<0
  ·rw[if_pos h]at hp
   refine Zas λz=>?_
   have:=Int.mul_nonneg_of_nonpos_of_nonpos (a:=p) (b:=q) (by omega) (by omega)
   omega
  ·rw[if_neg h]at hp
   refine Zas λz=>?_
   have:=ZaA (a:=p) (b:=q) (by omega) (by omega)
   omega
 have qle:q.natAbs<2^2000:=by
  have:q∣b:=⟨p,by rw[hq,Zac]⟩
  have:=ZaW (by omega) (ZX.mpr this)
  omega
 have tops_small:∀l,l<n->((tp l).choose).natAbs<2^2000:=λl hl=>by
  have h:=(tp l).choose_spec hl
  have:=sR l n hl (by omega)
  by_cases z:(tp l).choose=0
  ·rw[z];exact Zae (ZT _) this
  ·have d:(tp l).choose∣R l n:=⟨p,by rw[Zac];exact h⟩
   have nz:R l n≠0:=by rw[h];exact Int.mul_ne_zero pz z
   have:=ZaW (by omega) (ZX.mpr d)
   omega
 have low:∀t,t∣q->(∀l,l<n->t∣(tp l).choose)->t.natAbs=1:=λt tq all=>by
  have bg:p*t∣g:=(hg (p*t)).mpr λx hx=>by
   obtain⟨i,hi,rfl⟩:=Zao.mp hx
   rw[Qcz]
   split
   ·obtain⟨y,hy⟩:=tq
    exact⟨y,by rw[hq,hy,ZC]⟩
   ·rename_i z
    have hi':i<n:=by have:=Zp.mp hi;omega
    obtain⟨y,hy⟩:=all i hi'
    exact⟨y,by rw[(tp i).choose_spec hi',hy,ZC]⟩
  have pg:p.natAbs=g.natAbs:=by rw[hp];split<;>omega
  have h1:=ZaW (by omega) (ZX.mpr bg)
  rw[ZK,pg]at h1
  have t0:t≠0:=λz=>by
   obtain⟨y,hy⟩:=tq
   rw[z,ZE]at hy
   omega
  have h2:t.natAbs<2:=by
   refine Zas λh=>?_
   have h3:=Nat.mul_le_mul_left g.natAbs (show 2<=t.natAbs by omega)
   omega
  omega
 refine⟨λi=>(tp i).choose,q,QU ?_,q0,qle,λr hr'=>?_,tops_small,low⟩
 ·refine run_seq (Qg (QaL (n:=n) (m:=n) (f:=f) (r:=⟨Qb n n f,false,[]⟩) rfl rfl) ?_)
  rw[Qi]
  refine QD (Qad (b:=false) (QM (b:=false) (r:=⟨.bl false,true,[]⟩) ((Qc2 (a:=n) (b:=n) ((Qfg (xs:=(List.range n).map λi=> .int (row i)) (r:=⟨Qd n row,false,[]⟩) rfl rfl).trans (by rw[Zy,Zt])) rfl (rb:=⟨.int n,true,[]⟩) rfl rfl).trans (by simp)) rfl) (λh=>by cases h) (λ_=>Qy ?_))
  have et:=ht n f (by omega)
  have eZ:QG (QbO (Qh 1 dt [] (Qc (Qa 0) Qe)) (Qa 1)) (.tp [1,2]) [none,none,none] QN (QX (Qa 1) (Qat (Qc (Qa 2) Qe))) [some (Qb n n f,false),some (Qd n row,false),some (.int n,true),none,none,none]=some ⟨Qb n (n+1) (λi j=>(λj r=>if j=n then row r else f j r) j i),true,[]⟩:=by
   refine(QI (toD:=λ(i:Nat)=> .tup [Qd n (λj=>f j i),.int (row i)]) (out:=λ(i:Nat)=>Qd (n+1) (up (λj=>f j i) n (row i))) (List.range n) (QdT (f:=λi=>Qd n (λj=>f j i)) (g:=λi=> .int (row i)) (Qm (r:=⟨[Qb n n f],false,[]⟩) rfl et rfl) rfl (rb:=⟨Qd n row,false,[]⟩) rfl rfl) rfl λi hi=>⟨[none,some (Qd n (λj=>f j i),false),some (.int (row i),true)],rfl,⟨Qd (n+1) (up (λj=>f j i) n (row i)),true,[]⟩,QfE (m:=n) (f:=λj=>f j i) (ra:=⟨Qd n (λj=>f j i),false,[]⟩) rfl rfl rfl (by omega),rfl,rfl⟩).trans ?_
   have eT:Qb n (n+1) (λi j=>(λj r=>if j=n then row r else f j r) j i)= .lst ((List.range n).map λi=>Qd (n+1) (up (λj=>f j i) n (row i))):=by
    unfold Qb
    refine congrArg D.lst (ZG λi _=>?_)
    unfold Qd
    exact congrArg D.lst (ZG λj _=>by rw[Qcz])
   rw[eT]
  refine run_seq (Qg (r:=⟨.tup [Qb n (n+1) R,.int b],false,[]⟩) ((Qeu (Qq eZ (QK _)) ec rfl).trans rfl) ?_)
  refine run_seq (Qg (Qm (r:=⟨[Qb n (n+1) R,.int n],false,[]⟩) rfl (hl n (n+1) R n (by omega)) rfl) ?_)
  rw[Qi]
  refine run_seq (Qg (Qm (Qq (QfE (m:=n) (f:=λi=>R i n) (x:=b) (ra:=⟨Qd n (λi=>R i n),true,[4]⟩) rfl rfl rfl (by omega)) (QK _)) (by show dm [Qd (n+1) (up (λi=>R i n) n b)]=_;rw[QjA];exact eg) rfl) ?_)
  rw[Qi]
  refine QaP (P:=λρ=>ρ=[some (Qb n n f,false),some (Qd n row,false),some (.int n,true),some (.tup [Qb n (n+1) R,.int b],false),some (Qd n (λi=>R i n),true),some (.int p,true)]) ?_ ?_
  ·refine Qad (b:=decide (b<0)) (QM (QbU (d:= .bl (decide (b<0))) (ra:=⟨.int b,true,[]⟩) (rb:=⟨.int 0,true,[]⟩) rfl rfl rfl) rfl) (λh=>?_) (λh=>?_)
   ·refine run_seq (Qg (r:=⟨.int (0-g),true,[]⟩) rfl (Qy ?_))
    rw[Qi,hp,if_pos (of_decide_eq_true h)];rfl
   ·refine Qy ?_
    rw[hp,if_neg (of_decide_eq_false h)];rfl
  ·rintro ρ rfl
   refine QC (r:=⟨.tup [Qd n λi=>(tp i).choose,.int q],true,[]⟩) ?_ ⟨rfl,rfl⟩
   unfold Qdk
   refine(congrArg (λz=>Option.bind z _) (Qq (QI (toD:=λ(i:Nat)=> .int (R i n)) (out:=λ(i:Nat)=> .int (tp i).choose) (List.range n) (Qal (r:=⟨Qd n (λi=>R i n),true,[4]⟩) rfl rfl) rfl λi hi=>⟨[none,some (.int (R i n),true),some (.int p,true)],rfl,⟨.int (tp i).choose,true,[]⟩,Qer (a:=R i n) (b:=p) (ra:=⟨.int (R i n),true,[]⟩) (rb:=⟨.int p,true,[]⟩) rfl rfl rfl rfl pz ple ((tp i).choose_spec (Zp.mp hi)),rfl,rfl⟩) (Qq (Qer (a:=b) (b:=p) (q:=q) (ra:=⟨.int b,true,[]⟩) (rb:=⟨.int p,true,[]⟩) rfl rfl rfl rfl pz ple hq) (QK _)))).trans ?_
   rfl
 ·have t:=C.clr.tell (j:=n) (by omega) hr'
  have t:b*row r=sm n λl=>R l n*m l r:=by
   have e:(if n=n then row r else f n r)=row r:=if_pos rfl
   rw[← e];exact t
  rw[QaR (g:=λl=>((tp l).choose*f l r)*p) λl hl=>by
   rw[C.clr.own l hl]
   show R l n*(if l=n then row r else f l r)=_
   rw[if_neg (by omega),Zac _ p,← ZC,← (tp l).choose_spec hl],Qk8,hq]at t
  refine Zah pz ?_
  rw[← ZC,t,Zac]
noncomputable def QdZ(QaS:Den)(Qaq:Den)(QW:Den)(QJ:Den)(x_cleared_whole:List D->Option Str):DX:=(Qaa (Qp 2 (dBf Q8 (Qc (Qa 0) Qe))) xNo (Qaa (sIf (QO (dOp gNe (dBf Q8 (Qc (Qa 1) Qe)) (Qa 2))) (Qf QA Qo) Qo) (xIf (QO (dOp gNe (dBf Q8 (Qc (Qa 1) Qe)) (Qa 2))) (Qaa QA (QfC "NoRow" (Qc (dC (.str "a row that is shared out is as long as the table")) Qe)) xNo) xNo) (Qaa (Qp 3 (Qh 1 QJ [] (Qc (QG (QbO (Qh 1 QW [] (Qc (Qa 0) Qe)) (Qa 1)) (.tp [1,2]) [none,none,none] QN (QX (Qa 1) (Qat (Qc (Qa 2) Qe)))) Qe))) (QbK 1 x_cleared_whole (Qc (QG (QbO (Qh 1 QW [] (Qc (Qa 0) Qe)) (Qa 1)) (.tp [1,2]) [none,none,none] QN (QX (Qa 1) (Qat (Qc (Qa 2) Qe)))) Qe)) (Qaa (Qp 4 (Qh 2 Qaq [] (Qc (Qs (Qa 3) (dC (.int 0))) (Qc (Qa 2) Qe)))) xNo (Qaa (Qp 5 (Qh 1 QaS [] (Qc (QX (Qa 4) (Qat (Qc (Qs (Qa 3) (dC (.int 1))) Qe))) Qe))) xNo (Qaa (sIf (QO (dOp gLt (Qs (Qa 3) (dC (.int 1))) (dC (.int 0)))) (Qf (Qp 5 (dOp Qa9 (dC (.int 0)) (Qa 5))) Qo) Qo) (xIf (QO (dOp gLt (Qs (Qa 3) (dC (.int 1))) (dC (.int 0)))) (Qaa (Qp 5 (dOp Qa9 (dC (.int 0)) (Qa 5))) xNo xNo) xNo) (Qaa (QL (Qdk (Qc (QG (Qag (Qa 4)) (.nm 1) [none,none,some 5] QN (dOp Qcn (Qa 1) (Qa 2))) (Qc (dOp Qcn (Qs (Qa 3) (dC (.int 1))) (Qa 5)) Qe)))) xNo xNo)))))))
theorem QxF{dt dc dl dm:Den}{xc:List D->Option Str}(h:ApF dc xc):ApF (Ql 6 (Qd4 dt dc dl dm)) (QbS 6 (QdZ dm dl dt dc xc)):=Qmk (by unfold Qd4 QdZ;repeat (first | exact QeD | exact QcZ | assumption | apply Qdr | apply QiD | apply ap_for | apply Qcf | apply Qd6 | apply ap_ret))
structure Qle (xd:List D->Option Str):Prop where
 row:∀(n:Nat) (f:Nat->Nat->Int) (xs:List D),xs.length≠n->xd [Qb n n f,.lst xs]=some "NoRow"
 rings:∀(n:Nat) (f:Nat->Nat->Int) (row:Nat->Int),n<=8->(∀j r,j<n->r<n->(f j r).natAbs<=2^240)->(∀r,r<n->(row r).natAbs<=2^240)->det n f=0->xd [Qb n n f,Qd n row]=some "NoRings"
theorem QoZ{dt dc dl dm:Den}{xc:List D->Option Str}(h:ApF dc xc)(ht:QdF dt)(hx:Qg4 xc):Qle (QbS 6 (QdZ dm dl dt dc xc)) where
 row:=λn f xs hl=>by
  refine Qka (Qgy (Qg (QaL (n:=n) (m:=n) (f:=f) (r:=⟨Qb n n f,false,[]⟩) rfl rfl) ?_))
  rw[Qi]
  refine Qez (by repeat (first | exact QeD | exact QcZ | assumption | apply Qdr | apply QiD | apply ap_for | apply Qcf | apply Qd6 | apply ap_ret)) (QtJ (b:=true) (QM (Qc2 (a:=xs.length) (b:=n) (Qfg (xs:=xs) (r:=⟨.lst xs,false,[]⟩) rfl rfl) rfl (rb:=⟨.int n,true,[]⟩) rfl rfl) ?_) (λ_=>Qez QcZ (QnB rfl (Zj _))) (λh=>by cases h))
  show D.bl _=_
  simp
  omega
 rings:=λn f row n8 hf hr hd=>by
  have hA:∀j,j<n+1->∀r,r<n->((λj r=>if j=n then row r else f j r) j r).natAbs<=2^240:=λj hj r hr'=>by
   show(if j=n then row r else f j r).natAbs<=_
   split
   ·exact hr r hr'
   ·exact hf j r (by omega) hr'
  have hd':det n (λj r=>if j=n then row r else f j r)=0:=by
   rw[QE (k:=f) λj hj r _=>by rw[if_neg (by omega)]]
   exact hd
  have ex:=hx n (n+1) _ n8 (by omega) hA hd'
  refine Qka (Qgy (Qg (QaL (n:=n) (m:=n) (f:=f) (r:=⟨Qb n n f,false,[]⟩) rfl rfl) ?_))
  rw[Qi]
  refine Qgy (Qad (b:=false) (QM (b:=false) (r:=⟨.bl false,true,[]⟩) ((Qc2 (a:=n) (b:=n) ((Qfg (xs:=(List.range n).map λi=> .int (row i)) (r:=⟨Qd n row,false,[]⟩) rfl rfl).trans (by rw[Zy,Zt])) rfl (rb:=⟨.int n,true,[]⟩) rfl rfl).trans (by simp)) rfl) (λh=>by cases h) (λ_=>Qy ?_))
  have et:=ht n f (by omega)
  have eZ:QG (QbO (Qh 1 dt [] (Qc (Qa 0) Qe)) (Qa 1)) (.tp [1,2]) [none,none,none] QN (QX (Qa 1) (Qat (Qc (Qa 2) Qe))) [some (Qb n n f,false),some (Qd n row,false),some (.int n,true),none,none,none]=some ⟨Qb n (n+1) (λi j=>(λj r=>if j=n then row r else f j r) j i),true,[]⟩:=by
   refine(QI (toD:=λ(i:Nat)=> .tup [Qd n (λj=>f j i),.int (row i)]) (out:=λ(i:Nat)=>Qd (n+1) (up (λj=>f j i) n (row i))) (List.range n) (QdT (f:=λi=>Qd n (λj=>f j i)) (g:=λi=> .int (row i)) (Qm (r:=⟨[Qb n n f],false,[]⟩) rfl et rfl) rfl (rb:=⟨Qd n row,false,[]⟩) rfl rfl) rfl λi hi=>⟨[none,some (Qd n (λj=>f j i),false),some (.int (row i),true)],rfl,⟨Qd (n+1) (up (λj=>f j i) n (row i)),true,[]⟩,QfE (m:=n) (f:=λj=>f j i) (ra:=⟨Qd n (λj=>f j i),false,[]⟩) rfl rfl rfl (by omega),rfl,rfl⟩).trans ?_
   have eT:Qb n (n+1) (λi j=>(λj r=>if j=n then row r else f j r) j i)= .lst ((List.range n).map λi=>Qd (n+1) (up (λj=>f j i) n (row i))):=by
    unfold Qb
    refine congrArg D.lst (ZG λi _=>?_)
    unfold Qd
    exact congrArg D.lst (ZG λj _=>by rw[Qcz])
   rw[eT]
  exact Qez (Qd6 h) (QkP (Qq eZ (QK _)) rfl ex)
theorem QwK{fa:DE}{ρ:En}{a:Int}{r:R}(h:fa ρ=some r)(e:r.d= .int a):dBf Qjj (Qc fa Qe) ρ=some ⟨.int (if a<0 then-a else a),true,[]⟩:=by
 unfold dBf
 rw[Qq h (QK _),Za,e];rfl
theorem Quz{fa:DE}{ρ:En}{n:Nat}{f:Nat->Nat->Int}{fr:Bool}{M:List Nat}(h:fa ρ=some ⟨Qb n n f,fr,M⟩)(n1:1<=n):Qs fa (dC (.int 0)) ρ=some ⟨Qd n (f 0),fr,M⟩:=Qda (m:=n) (n:=n) (f:=f) (i:=0) h rfl (QaY _ _) rfl (by decide) (by omega)
theorem QsL{f:DS}{fx:DX}{sub:Str->Str->Option Bool}{y y':Str}{h h':DS}{r:List Hd}{x:Str}{ρ ρ':En}{Q:Out->Prop}(a:Ap f fx)(e:fx ρ=some (x,ρ'))(hs:sub x y=some false)(hs':sub x y'=some true)(q:Run h' ρ' Q):Run (QdX f fx sub ((y,none,h)::(y',none,h')::r)) ρ Q:=by
 obtain⟨o,h1,h2⟩:=q
 refine⟨o,?_,h2⟩
 unfold QdX
 rw[a ρ (by rw[e];exact λz=>by cases z)]
 dsimp only
 rw[e,Za]
 unfold Qjr
 rw[hs,Za,if_neg ZO]
 unfold Qjr
 rw[hs',Za,if_pos rfl]
 exact h1
noncomputable def Qej(QaH:Den)(x_shared_out:List D->Option Str)(sub:Str->Str->Option Bool):DS:=(Qf (Qp 2 (dC (.str "taken"))) (Qf (QdX (Qf (QcU (Qh 2 QaH [] (Qc (Qa 0) (Qc (Qa 1) Qe)))) Qo) (Qaa (QcU (Qh 2 QaH [] (Qc (Qa 0) (Qc (Qa 1) Qe)))) (QbK 2 x_shared_out (Qc (Qa 0) (Qc (Qa 1) Qe))) xNo) sub [("NoRings",none,(Qf (Qp 2 (dC (.str "rings"))) Qo)),("NoRow",none,(Qf (Qp 2 (dC (.str "row"))) Qo))]) (Qf (QL (Qa 2)) Qo)))
structure QtZ (sub:Str->Str->Option Bool):Prop where
 rh:sub "NoRow" "HeapError" =some true
 rv:sub "NoRow" "ValueError" =some true
 rr:sub "NoRow" "NoRow" =some true
 rg:sub "NoRow" "NoRings" =some false
 gh:sub "NoRings" "HeapError" =some true
 gv:sub "NoRings" "ValueError" =some true
 gr:sub "NoRings" "NoRow" =some false
 gg:sub "NoRings" "NoRings" =some true
def Qkz(xs':List D->Option Str)(d:Den):Prop:=(∀a b,xs' [.lst a,.lst b]=some "NoRow" ->d [.lst a,.lst b]=some (.str "row",true))/\∀a b,xs' [.lst a,.lst b]=some "NoRings" ->d [.lst a,.lst b]=some (.str "rings",true)
theorem Qsj{ds:Den}{xs':List D->Option Str}{sub:Str->Str->Option Bool}(ap:ApF ds xs')(w:QtZ sub):Qkz xs' (Ql 3 (Qej ds xs' sub)):=by
 refine⟨λa b hx=>?_,λa b hx=>?_⟩
 ·refine QU ?_
  refine run_seq (Qg (r:=⟨.str "taken",true,[]⟩) rfl ?_)
  rw[Qi]
  refine run_seq (QsL (x:= "NoRow") (Qdr (Qcf ap) QeD) (Qj5 ap (r:=⟨[.lst a,.lst b],_,_⟩) rfl rfl hx) w.rg w.rr ?_)
  refine run_seq (Qg (r:=⟨.str "row",true,[]⟩) rfl (Qy ?_))
  rw[Qi]
  exact QC (r:=⟨.str "row",true,[]⟩) rfl ⟨rfl,rfl⟩
 ·refine QU ?_
  refine run_seq (Qg (r:=⟨.str "taken",true,[]⟩) rfl ?_)
  rw[Qi]
  refine run_seq (QmU (x:= "NoRings") (Qdr (Qcf ap) QeD) (Qj5 ap (r:=⟨[.lst a,.lst b],_,_⟩) rfl rfl hx) w.gg ?_)
  refine run_seq (Qg (r:=⟨.str "rings",true,[]⟩) rfl (Qy ?_))
  rw[Qi]
  exact QC (r:=⟨.str "rings",true,[]⟩) rfl ⟨rfl,rfl⟩
theorem QuO{fa fb:DE}{ρ:En}{ra rb:R}{d:D}(ha:fa ρ=some ra)(ea:ra.d=d)(hb:fb ρ=some rb)(eb:rb.d=d)(hs:d.sim 8=true):dOp gEq fa fb ρ=some ⟨.bl true,true,[]⟩:=by
 refine QbU ha hb ?_
 rw[ea,eb]
 unfold gEq
 rw[hs,QmZ hs];rfl
theorem QsO{n:Nat}{f g:Nat->Int}{a b:Nat}(ha:a<n)(hb:b<n)(hab:a≠b)(h:∀k,k<n->k≠a->k≠b->f k=g k)(e:f a+f b=g a+g b):Qt n f=Qt n g:=by
 have e1:Qt n f=Qt n λk=>g k+((if k=a then f a-g a else 0)*1+(if k=b then f b-g b else 0)*1):=Qr λk hk=>by
  by_cases k1:k=a
  ·subst k1;rw[if_pos rfl,if_neg hab];omega
  ·by_cases k2:k=b
   ·subst k2;rw[if_neg k1,if_pos rfl];omega
   ·rw[if_neg k1,if_neg k2,h k hk k1 k2];omega
 rw[e1,Qcp,Qcp,QcE ha _ λ_=>1,QcE hb _ λ_=>1]
 omega
theorem Qcs{n:Nat}{f:Nat->Int}{a:Nat}(ha:a<n)(h:∀k,k<n->k≠a->f k=0):Qt n f=f a:=by
 have e1:Qt n f=Qt n λk=>(if k=a then f a else 0)*1:=Qr λk hk=>by
  by_cases k1:k=a
  ·subst k1;rw[if_pos rfl];omega
  ·rw[if_neg k1,h k hk k1];omega
 rw[e1,QcE ha _ λ_=>1];omega
theorem QlH(n:Nat)(c:Int)(f:Nat->Int):Qt n (λi=>f i*c)=Qt n f*c:=by
 rw[Zac,← Qac]
 exact Qr λi _=>Zac _ _
theorem Qjg(n:Nat)(f g:Nat->Int):Qt n (λi=>f i-g i)=Qt n f-Qt n g:=by
 have:=Qcp n (λi=>f i-g i) g
 rw[Qr (g:=f) λi _=>by omega]at this
 omega
theorem QgL{n:Nat}{f:Nat->Int}{t:Int}(h:∀k,k<n->t∣f k):t∣Qt n f:=by
 induction n with
 | zero=>exact Int.dvd_zero t
 | succ n ih=>rw[QT];exact Zax (ih λk hk=>h k (by omega)) (h n (by omega))
theorem QsM{n:Nat}{f:Nat->Int}{C:Nat}(h:∀k,k<n->(f k).natAbs<=C):(Qt n f).natAbs<=n*C:=by
 induction n with
 | zero=>exact ZT _
 | succ n ih=>
  rw[QT,Nat.succ_mul]
  have h1:=ih λk hk=>h k (by omega)
  have h2:=h n (by omega)
  have h3:=Zbe (Qt n f) (f n)
  omega
noncomputable def idF(i j:Nat):Int:=if i=j then 1 else 0
theorem Qax(n:Nat)(a b c:Nat->Nat->Int):prodF n (prodF n a b) c=prodF n a (prodF n b c):=by
 funext i j
 unfold prodF
 have e1:(Qt n λk=>(Qt n λl=>a i l*b l k)*c k j)=Qt n λk=>Qt n λl=>a i l*(b l k*c k j):=Qr λk _=>by
  rw[← QlH];exact Qr λl _=>ZC _ _ _
 rw[e1,QhX]
 exact Qr λl _=>Qac n _ _
theorem Qaf{n:Nat}{a a' b b':Nat->Nat->Int}{i j:Nat}(h1:∀k,k<n->a i k=a' i k)(h2:∀k,k<n->b k j=b' k j):prodF n a b i j=prodF n a' b' i j:=
 Qr λk hk=>by rw[h1 k hk,h2 k hk]
theorem Qct{n:Nat}(a:Nat->Nat->Int){i:Nat}(j:Nat)(hi:i<n):prodF n idF a i j=a i j:=by
 unfold prodF idF
 rw[Qcs hi λk _ hk=>by rw[if_neg (Ne.symm hk),ZE],if_pos rfl,ZP]
theorem QgW{n:Nat}(a:Nat->Nat->Int)(i:Nat){j:Nat}(hj:j<n):prodF n a idF i j=a i j:=by
 unfold prodF idF
 rw[Qcs hj λk _ hk=>by rw[if_neg hk,ZA],if_pos rfl,Zal]
def Qa0(n:Nat)(a b:Nat->Nat->Int):Prop:=∀i j,i<n->j<n->prodF n a b i j=idF i j
theorem Qa0.prod{n:Nat}{a b c d:Nat->Nat->Int}(h1:Qa0 n a b)(h2:Qa0 n c d):Qa0 n (prodF n a c) (prodF n d b):=λi j hi hj=>by
 rw[Qax,Qaf (a':=a) (b':=prodF n (prodF n c d) b) (λ_ _=>rfl) λk hk=>by rw[Qax]]
 rw[Qaf (a':=a) (b':=b) (λ_ _=>rfl) λk hk=>?_]
 ·exact h1 i j hi hj
 ·rw[Qaf (a':=idF) (b':=b) (λl hl=>h2 k l hk hl) λ_ _=>rfl,Qct b j hk]
theorem split_len:∀(L h:Nat),0<L->∃L1 L2 N,L=L1*L2/\Nat.Coprime L1 h/\L2∣h^N:=by
 intro L
 induction L using Nat.strongRecOn with
 | _ L ih=>
  intro h hL
  by_cases g:Nat.gcd L h=1
  ·exact⟨L,1,0,by omega,g,Nat.one_dvd _⟩
  ·have hg:0<Nat.gcd L h:=Nat.gcd_pos_of_pos_left h hL
   obtain⟨M,hM⟩:=Nat.gcd_dvd_left L h
   have hM0:0<M:=by
    rcases Nat.eq_zero_or_pos M with z | z
    ·rw[z,Nat.mul_zero]at hM;omega
    ·exact z
   have hlt:M<L:=by
    have:2*M<=Nat.gcd L h*M:=Zbk M (by omega)
    omega
   obtain⟨L1,L2,N,e,c,d⟩:=ih M hlt h hM0
   refine⟨L1,Nat.gcd L h*L2,N+1,?_,c,?_⟩
   ·rw[Nat.mul_left_comm,← e];exact hM
   ·rw[Nat.pow_succ,ZaF (h^N)]
    exact Nat.mul_dvd_mul (Nat.gcd_dvd_right L h) d
theorem Qgv{t:Nat}{x:Int}:(t:Int)∣x↔t∣x.natAbs:=by rw[← ZX,Int.natAbs_natCast]
noncomputable def Qbw:Nat->(Nat->Int)->Nat
 | 0,_=>0
 | n+1,u=>Nat.gcd (Qbw n u) (u n).natAbs
theorem Qbb{u:Nat->Int}{t:Nat}:∀{n:Nat},t∣Qbw n u↔∀i,i<n->(t:Int)∣u i
 | 0=>⟨λ_ i hi=>by omega,λ_=>Nat.dvd_zero t⟩
 | n+1=>by
  unfold Qbw
  rw[Nat.dvd_gcd_iff,Qbb (n:=n)]
  constructor
  ·rintro⟨h1,h2⟩ i hi
   by_cases e:i=n
   ·subst e;exact Qgv.mpr h2
   ·exact h1 i (by omega)
  ·exact λh=>⟨λi hi=>h i (by omega),Qgv.mp (h n (by omega))⟩
theorem Qse{n:Nat}{u v:Nat->Int}{L:Nat}(hL:0<L)(hc:∀t:Nat,t∣L->(∀i,i<n->(t:Int)∣u i)->(∀i,i<n->(t:Int)∣v i)->t=1):
  ∃T:Nat,∀t:Nat,t∣L->(∀i,i<n->(t:Int)∣u i+T*v i)->t=1:=by
 obtain⟨L1,L2,N,e,c,d⟩:=split_len L (Nat.gcd (Qbw n u) L) hL
 refine⟨L1,λt ht hu=>?_⟩
 have c1:Nat.Coprime t L1:=by
  have a1:Nat.gcd t L1∣t:=Nat.gcd_dvd_left _ _
  have a2:Nat.gcd t L1∣L1:=Nat.gcd_dvd_right _ _
  have hui:∀i,i<n->((Nat.gcd t L1:Nat):Int)∣u i:=λi hi=>by
   have h1:=Int.dvd_trans (Int.natCast_dvd_natCast.mpr a1) (hu i hi)
   have h2:((Nat.gcd t L1:Nat):Int)∣(L1:Int)*v i:=Zan (Int.natCast_dvd_natCast.mpr a2)
   have:=ZaZ h1 h2
   rwa[Int.add_sub_cancel]at this
  have h3:Nat.gcd t L1∣Nat.gcd (Qbw n u) L:=Nat.dvd_gcd (Qbb.mpr hui) (Nat.dvd_trans a1 ht)
  exact Nat.eq_one_of_dvd_one (by rw[← c];exact Nat.dvd_gcd a2 h3)
 have t2:t∣L2:=by
  rw[e]at ht
  exact Nat.Coprime.dvd_of_dvd_mul_left c1 ht
 have c2:Nat.Coprime t (Nat.gcd (Qbw n u) L):=by
  have a1:Nat.gcd t (Nat.gcd (Qbw n u) L)∣t:=Nat.gcd_dvd_left _ _
  have a2:Nat.gcd t (Nat.gcd (Qbw n u) L)∣Qbw n u:=Nat.dvd_trans (Nat.gcd_dvd_right _ _) (Nat.gcd_dvd_left _ _)
  show Nat.gcd t (Nat.gcd (Qbw n u) L)=1
  generalize Nat.gcd t (Nat.gcd (Qbw n u) L)=D at a1 a2 ⊢
  have hui:=Qbb.mp a2
  have cD:Nat.Coprime D L1:=Nat.Coprime.coprime_dvd_left a1 c1
  refine hc D (Nat.dvd_trans a1 ht) hui λi hi=>?_
  have h1:=ZaZ (Int.dvd_trans (Int.natCast_dvd_natCast.mpr a1) (hu i hi)) (hui i hi)
  rw[show u i+(L1:Int)*v i-u i=(L1:Int)*v i by omega]at h1
  have h2:=Qgv.mp h1
  rw[ZK,Int.natAbs_natCast]at h2
  exact Qgv.mpr (Nat.Coprime.dvd_of_dvd_mul_left cD h2)
 exact Nat.Coprime.eq_one_of_dvd (Nat.Coprime.pow_right N c2) (Nat.dvd_trans t2 d)
theorem QwP{n:Nat}(u v:Nat->Int){L:Nat}(hL:0<L):
  ∃T:Nat,∀t:Nat,t∣L->(∀i,i<n->(t:Int)∣u i+T*v i)->(∀i,i<n->(t:Int)∣u i)/\∀i,i<n->(t:Int)∣v i:=by
 obtain⟨g,hg⟩:∃g,g=Nat.gcd (Nat.gcd (Qbw n u) (Qbw n v)) L:=⟨_,rfl⟩
 have gL:g∣L:=by rw[hg];exact Nat.gcd_dvd_right _ _
 have gu:∀i,i<n->(g:Int)∣u i:=Qbb.mp (by rw[hg];exact Nat.dvd_trans (Nat.gcd_dvd_left _ _) (Nat.gcd_dvd_left _ _))
 have gv:∀i,i<n->(g:Int)∣v i:=Qbb.mp (by rw[hg];exact Nat.dvd_trans (Nat.gcd_dvd_left _ _) (Nat.gcd_dvd_right _ _))
 have g0:0<g:=Nat.pos_of_dvd_of_pos gL hL
 obtain⟨L',eL⟩:=gL
 have hL':0<L':=by
  rcases Nat.eq_zero_or_pos L' with z | z
  ·rw[z,Nat.mul_zero]at eL;omega
  ·exact z
 have eu:∀i,i<n->u i=(g:Int)*(u i / g):=λi hi=>(Int.mul_ediv_cancel' (gu i hi)).symm
 have ev:∀i,i<n->v i=(g:Int)*(v i / g):=λi hi=>(Int.mul_ediv_cancel' (gv i hi)).symm
 have gz:(g:Int)≠0:=by omega
 obtain⟨T,hT⟩:=Qse (n:=n) (u:=λi=>u i / g) (v:=λi=>v i / g) hL' λt h1 h2 h3=>by
  have a1:g*t∣L:=by rw[eL];exact Nat.mul_dvd_mul_left g h1
  have a2:g*t∣Qbw n u:=Qbb.mpr λi hi=>by rw[eu i hi,Zag];exact Int.mul_dvd_mul_left _ (h2 i hi)
  have a3:g*t∣Qbw n v:=Qbb.mpr λi hi=>by rw[ev i hi,Zag];exact Int.mul_dvd_mul_left _ (h3 i hi)
  have a4:g*t∣g:=by
   have:=Nat.dvd_gcd (Nat.dvd_gcd a2 a3) a1
   rwa[← hg]at this
  exact Nat.eq_one_of_dvd_one (Nat.dvd_of_mul_dvd_mul_left g0 (by rw[Nat.mul_one];exact a4))
 refine⟨T,λt ht hu=>?_⟩
 have hD:Nat.gcd (Qbw n λi=>u i+T*v i) L∣g:=by
  obtain⟨D',hD'⟩:g∣Nat.gcd (Qbw n λi=>u i+T*v i) L:=Nat.dvd_gcd (Qbb.mpr λi hi=>Zax (gu i hi) (Int.dvd_mul_of_dvd_right (gv i hi))) ⟨L',eL⟩
  have b1:D'∣L':=by
   have:=Nat.gcd_dvd_right (Qbw n λi=>u i+T*v i) L
   rw[hD',eL]at this
   exact Nat.dvd_of_mul_dvd_mul_left g0 this
  have b2:=hT D' b1 λi hi=>by
   have h1:((g*D':Nat):Int)∣u i+T*v i:=by rw[← hD'];exact(Qbb (n:=n) (u:=λi=>u i+T*v i)).mp (Nat.gcd_dvd_left _ _) i hi
   rw[eu i hi,ev i hi,show(g:Int)*(u i / g)+T*((g:Int)*(v i / g))=g*(u i / g+T*(v i / g)) by rw[Zau,ZF],Zag]at h1
   exact Int.dvd_of_mul_dvd_mul_left gz h1
  rw[hD',b2,Nat.mul_one];exact Nat.dvd_refl g
 have tg:t∣g:=Nat.dvd_trans (Nat.dvd_gcd (Qbb.mpr hu) ht) hD
 exact⟨λi hi=>Int.dvd_trans (Int.natCast_dvd_natCast.mpr tg) (gu i hi),λi hi=>Int.dvd_trans (Int.natCast_dvd_natCast.mpr tg) (gv i hi)⟩
theorem Qvt{L g y:Int}(h:∀t:Int,t∣L->t∣g->t.natAbs=1)(hd:L∣g*y):L∣y:=by
 have c:Nat.Coprime L.natAbs g.natAbs:=by
  have:=h (Nat.gcd L.natAbs g.natAbs) (Qgv.mpr (Nat.gcd_dvd_left _ _)) (Qgv.mpr (Nat.gcd_dvd_right _ _))
  rwa[Int.natAbs_natCast]at this
 have h2:=ZX.mpr hd
 rw[ZK]at h2
 exact ZX.mp (Nat.Coprime.dvd_of_dvd_mul_left c h2)
structure Qik (n:Nat) (A P:Nat->Nat->Int) (w:Int) (R Rb:Nat->Nat->Int) (len:Nat->Int):Prop where
 u1:Qa0 n R Rb
 u2:Qa0 n Rb R
 pos:∀j,j<n->0<len j
 col:∀i j,i<n->j<n->len j∣prodF n A R i j
 row:∀i j,i<n->j<n->w∣len j*prodF n Rb P j i
 nxt:∀j,j+1<n->len j∣len (j+1)
structure RT (n k:Nat) (A P:Nat->Nat->Int) (w c L:Int) (R Rb S:Nat->Nat->Int) (len:Nat->Int):Prop where
 kn:k<=n
 u1:Qa0 n R Rb
 u2:Qa0 n Rb R
 L0:0<L
 cL:c*L=w
 low:∀i j,k<=i->i<n->j<n->S i j=0
 i1:∀i j,i<n->j<n->L∣prodF n (prodF n A R) S i j
 i2:∀i j,i<k->j<n->w∣prodF n Rb P i j-c*S i j
 one:∀j,j<k->len j=1
 pos:∀j,k<=j->j<n->0<len j
 col:∀i j,k<=j->j<n->i<n->len j∣prodF n A R i j
 row:∀i j,k<=j->j<n->i<n->w∣len j*prodF n Rb P j i
 nxt:∀j,k<=j->j+1<n->len j∣len (j+1)
 top:k<n->len k=L
theorem RT.stop{n k:Nat}{A P:Nat->Nat->Int}{w c L:Int}{R Rb S:Nat->Nat->Int}{len:Nat->Int}(h:RT n k A P w c L R Rb S len)(hp:∀i j,i<n->j<n->L∣S i j):Qik n A P w R Rb len where
 u1:=h.u1
 u2:=h.u2
 pos:=λj hj=>by
  by_cases z:j<k
  ·rw[h.one j z];decide
  ·exact h.pos j (by omega) hj
 col:=λi j hi hj=>by
  by_cases z:j<k
  ·rw[h.one j z];exact Int.one_dvd _
  ·exact h.col i j (by omega) hj hi
 row:=λi j hi hj=>by
  by_cases z:j<k
  ·rw[h.one j z,ZP]
   have h1:=h.i2 j i z hi
   have h2:w∣c*S j i:=by rw[← h.cL];exact Int.mul_dvd_mul_left c (hp j i hj hi)
   have:=Zax h1 h2
   rwa[Zaz]at this
  ·exact h.row i j (by omega) hj hi
 nxt:=λj hj=>by
  by_cases z:j<k
  ·rw[h.one j z];exact Int.one_dvd _
  ·exact h.nxt j (by omega) hj
theorem RT.done{n:Nat}{A P:Nat->Nat->Int}{w c L:Int}{R Rb S:Nat->Nat->Int}{len:Nat->Int}(h:RT n 0 A P w c L R Rb S len):Qik n A P w R Rb len:=
 ⟨h.u1,h.u2,λj hj=>h.pos j (by omega) hj,λi j hi hj=>h.col i j (by omega) hj hi,λi j hi hj=>h.row i j (by omega) hj hi,λj hj=>h.nxt j (by omega) hj⟩
structure Qmg (n last:Nat) (x:Nat->Int) (T B:Nat->Nat->Int) (g:Int):Prop where
 u1:Qa0 n T B
 u2:Qa0 n B T
 tl:∀i j,last<i->i<n->j<n->T i j=idF i j
 tu:∀i j,i<=last->last<j->j<n->T i j=0
 bl:∀i j,i<n->last<j->j<n->B i j=idF i j
 hit:∀i,i<=last->Qt n (λj=>T i j*x j)=if i=last then g else 0
theorem RT.step{n last:Nat}{A P:Nat->Nat->Int}{w c L part L':Int}{R Rb S Sq S1:Nat->Nat->Int}{len x cc:Nat->Int}{T B:Nat->Nat->Int}{g:Int}(h:RT n (last+1) A P w c L R Rb S len)
  (p0:0<part) (eL:L=part*L') (hS:∀i j,i<n->j<n->S i j=part*Sq i j) (h1:∀i j,i<n->j<n->L'∣Sq i j-S1 i j) (hz:∀i j,last<i->i<n->j<n->S1 i j=0)
  (cop:∀t,t∣L'->(∀i j,i<n->j<n->t∣Sq i j)->t.natAbs=1) (hx:∀i,i<n->L'∣x i-Qt n λj=>cc j*S1 i j) (hx0:∀i,last<i->i<n->x i=0)
  (hxc:∀t,t∣L'->(∀i,i<n->t∣x i)->∀i j,i<n->j<n->t∣S1 i j) (sp:Qmg n last x T B g):
  RT n last A P w (c*part) L' (prodF n R B) (prodF n T Rb) (λi j=>if i=last then 0 else prodF n T S1 i j) (λj=>if j=last then L' else len j):=by
 have hn:last<n:=h.kn
 have L0':0<L':=by
  refine Zas λz=>?_
  have:=ZaA (a:=part) (b:=L') (by omega) (by omega)
  have:=h.L0
  omega
 have pz:part≠0:=by omega
 have ew:w=c*part*L':=by rw[← h.cL,eL,ZC]
 obtain⟨M,hM⟩:∃M,M=prodF n A R:=⟨_,rfl⟩
 obtain⟨Q,hQ⟩:∃Q,Q=prodF n Rb P:=⟨_,rfl⟩
 have aM:prodF n A (prodF n R B)=prodF n M B:=by rw[hM,Qax]
 have aQ:prodF n (prodF n T Rb) P=prodF n T Q:=by rw[hQ,Qax]
 have i1:=h.i1
 have i2:=h.i2
 have col:=h.col
 have row:=h.row
 rw[← hM]at i1 col
 rw[← hQ]at i2 row
 have F1:∀i j,i<n->j<n->L'∣prodF n M S1 i j:=λi j hi hj=>by
  have a1:=i1 i j hi hj
  have a2:prodF n M S i j=part*prodF n M Sq i j:=by
   unfold prodF
   rw[← Qac]
   exact Qr λl hl=>by rw[hS l j hl hj,ZF]
  rw[a2,eL]at a1
  have a3:=Int.dvd_of_mul_dvd_mul_left pz a1
  have a4:L'∣Qt n λl=>M i l*(Sq l j-S1 l j):=QgL λl hl=>Int.dvd_mul_of_dvd_right (h1 l j hl hj)
  have a5:(Qt n λl=>M i l*(Sq l j-S1 l j))=prodF n M Sq i j-prodF n M S1 i j:=by
   unfold prodF
   rw[← Qjg]
   exact Qr λl _=>Int.mul_sub _ _ _
  rw[a5]at a4
  have:=ZaZ a3 a4
  rwa[Int.sub_sub_self]at this
 have F2:∀i,i<n->L'∣Qt n λl=>M i l*x l:=λi hi=>by
  have a1:L'∣Qt n λl=>M i l*(x l-Qt n λj=>cc j*S1 l j):=QgL λl hl=>Int.dvd_mul_of_dvd_right (hx l hl)
  have a2:L'∣Qt n λj=>cc j*prodF n M S1 i j:=QgL λj hj=>Int.dvd_mul_of_dvd_right (F1 i j hi hj)
  have a3:(Qt n λj=>cc j*prodF n M S1 i j)=Qt n λl=>M i l*Qt n λj=>cc j*S1 l j:=by
   unfold prodF
   rw[Qr (g:=λj=>Qt n λl=>M i l*(cc j*S1 l j)) λj _=>by rw[← Qac];exact Qr λl _=>ZF _ _ _,QhX]
   exact Qr λl _=>Qac n _ _
  rw[a3]at a2
  have:=Zax a1 a2
  rw[← Qcp,Qr (g:=λl=>M i l*x l) λl _=>by rw[← Zau,Zaz]]at this
  exact this
 have F3:∀l,l<n->x l=g*B l last:=λl hl=>by
  have a1:(Qt n λj=>prodF n B T l j*x j)=x l:=by
   rw[Qcs hl λj hj e=>by rw[sp.u2 l j hl hj];unfold idF;rw[if_neg (Ne.symm e),ZE],sp.u2 l l hl hl]
   unfold idF
   rw[if_pos rfl,ZP]
  have a2:(Qt n λj=>prodF n B T l j*x j)=Qt n λm=>B l m*Qt n λj=>T m j*x j:=by
   unfold prodF
   rw[Qr (g:=λj=>Qt n λm=>B l m*(T m j*x j)) λj _=>by rw[← QlH];exact Qr λm _=>ZC _ _ _,QhX]
   exact Qr λm _=>Qac n _ _
  rw[← a1,a2,Qcs hn λm hm ne=>?_]
  ·rw[sp.hit last (Zj _),if_pos rfl,Zac]
  ·by_cases z:m<=last
   ·rw[sp.hit m z,if_neg ne,ZA]
   ·have:(Qt n λj=>T m j*x j)=0:=by
     rw[Qcs hm λj hj e=>by rw[sp.tl m j (by omega) hm hj];unfold idF;rw[if_neg (Ne.symm e),ZE],hx0 m (by omega) hm,ZA]
    rw[this,ZA]
 have F4:∀t,t∣L'->t∣g->t.natAbs=1:=λt t1 t2=>cop t t1 λi j hi hj=>by
  have a1:=hxc t t1 (λl hl=>by rw[F3 l hl];exact Zan t2) i j hi hj
  have a2:=Zax (Int.dvd_trans t1 (h1 i j hi hj)) a1
  rwa[Zaz]at a2
 have F5:∀i,i<n->L'∣prodF n M B i last:=λi hi=>Qvt F4 (by
  have:g*prodF n M B i last=Qt n λl=>M i l*x l:=by
   unfold prodF
   rw[← Qac]
   exact Qr λl hl=>by rw[F3 l hl,ZF]
  rw[this];exact F2 i hi)
 have F6:∀i j,i<=last->j<n->w∣prodF n T Q i j-c*part*prodF n T S1 i j:=λi j hi hj=>by
  have e:prodF n T Q i j-c*part*prodF n T S1 i j=Qt n λl=>T i l*(Q l j-c*part*S1 l j):=by
   unfold prodF
   rw[← Qac,← Qjg]
   exact Qr λl _=>by rw[Int.mul_sub,ZF (c*part)]
  rw[e]
  refine QgL λl hl=>?_
  by_cases z:l<=last
  ·refine Int.dvd_mul_of_dvd_right ?_
   have a1:=i2 l j (by omega) hj
   have a2:w∣c*S l j-c*part*S1 l j:=by
    rw[hS l j hl hj,← ZC,← Int.mul_sub,ew]
    exact Int.mul_dvd_mul_left _ (h1 l j hl hj)
   have:=Zax a1 a2
   rwa[show Q l j-c*S l j+(c*S l j-c*part*S1 l j)=Q l j-c*part*S1 l j by omega]at this
  ·rw[sp.tu i l hi (by omega) hl,ZE];exact Int.dvd_zero _
 refine⟨by omega,Qa0.prod h.u1 sp.u2,Qa0.prod sp.u1 h.u2,L0',ew.symm,λi j hi hin hj=>?_,λi j hi hj=>?_,λi j hi hj=>?_,λj hj=>?_,λj hj hjn=>?_,λi j hj hjn hi=>?_,λi j hj hjn hi=>?_,λj hj hjn=>?_,λ_=>by rw[if_pos rfl]⟩
 ·by_cases z:i=last
  ·show(if i=last then 0 else _)=(0:Int);rw[if_pos z]
  ·show(if i=last then 0 else prodF n T S1 i j)=0
   rw[if_neg z,Qaf (a':=idF) (b':=S1) (λl hl=>sp.tl i l (by omega) hin hl) (λ_ _=>rfl),Qct _ _ hin]
   exact hz i j (by omega) hin hj
 ·rw[aM]
  have e1:prodF n (prodF n M B) (λi j=>if i=last then 0 else prodF n T S1 i j) i j=prodF n (prodF n M B) (prodF n T S1) i j-prodF n M B i last*prodF n T S1 last j:=by
   have s1:prodF n (prodF n M B) (prodF n T S1) i j=Qt n (λl=>prodF n M B i l*(if l=last then 0 else prodF n T S1 l j))+Qt n (λl=>(if l=last then prodF n M B i last*prodF n T S1 last j else 0)*1):=by
    rw[← Qcp]
    show(Qt n λl=>prodF n M B i l*prodF n T S1 l j)=_
    exact Qr λl _=>by
     by_cases z:l=last
     ·subst z;rw[if_pos rfl,if_pos rfl];omega
     ·rw[if_neg z,if_neg z];omega
   rw[s1,QcE hn _ λ_=>1]
   show(Qt n λl=>prodF n M B i l*(if l=last then 0 else prodF n T S1 l j))=_
   omega
  rw[e1,← Qax]
  refine ZaZ ?_ (Zan (F5 i hi))
  rw[Qaf (a':=M) (b':=S1) (λl hl=>?_) (λ_ _=>rfl)]
  ·exact F1 i j hi hj
  ·rw[Qax,Qaf (a':=M) (b':=idF) (λ_ _=>rfl) (λm hm=>sp.u2 m l hm hl),QgW _ _ hl]
 ·rw[aQ,if_neg (by omega)]
  exact F6 i j (by omega) hj
 ·rw[if_neg (by omega)];exact h.one j (by omega)
 ·by_cases z:j=last
  ·rw[if_pos z];exact L0'
  ·rw[if_neg z];exact h.pos j (by omega) hjn
 ·rw[aM]
  by_cases z:j=last
  ·rw[if_pos z,z];exact F5 i hi
  ·rw[if_neg z,Qaf (a':=M) (b':=idF) (λ_ _=>rfl) (λl hl=>sp.bl l j hl (by omega) hjn),QgW _ _ hjn]
   exact col i j (by omega) hjn hi
 ·rw[aQ]
  by_cases z:j=last
  ·rw[if_pos z,z]
   have a1:w∣L'*(prodF n T Q last i-c*part*prodF n T S1 last i):=Int.dvd_mul_of_dvd_right (F6 last i (Zj _) hi)
   have a2:w∣L'*(c*part*prodF n T S1 last i):=by rw[ew];exact⟨prodF n T S1 last i,by rw[← ZC,Zac L']⟩
   have:=Zax a1 a2
   rwa[← Zau,Zaz]at this
  ·rw[if_neg z,Qaf (a':=idF) (b':=Q) (λl hl=>sp.tl j l (by omega) hjn hl) (λ_ _=>rfl),Qct _ _ hjn]
   exact row i j (by omega) hjn hi
 ·by_cases z:j=last
  ·rw[if_pos z,if_neg (by omega),z]
   rw[h.top (by omega),eL]
   exact Int.dvd_mul_left _ _
  ·rw[if_neg z,if_neg (by omega)]
   exact h.nxt j (by omega) hjn
theorem QgP{i:Int}{k:Nat}(h:i.natAbs<2^k)(hk:k<=2^20):Qas i:=Zq (ZaY h) hk
noncomputable def Qht(Qam:Den):DS:=(Qf (QL (QG (QaK (Qa 0)) (.nm 1) [none,none,some 0] QN (Qh 2 Qam [] (Qc (Qa 2) (Qc (Qa 1) Qe))))) Qo)
def Qgj(d:Den):Prop:=∀n:Nat,n<=1000->d [.int n]=some (Qb n n idF,true)
theorem Qr6{du:Den}(hu:Qh7 du):Qgj (Ql 1 (Qht du)):=λn hn=>by
 have e:Qb n n idF=Qb n n λi j=>if j=i then 1 else 0:=by
  unfold Qb
  refine congrArg D.lst (ZG λi _=>Qe9 λj _=>?_)
  show idF i j=if j=i then 1 else 0
  unfold idF
  by_cases z:i=j
  ·rw[if_pos z,if_pos z.symm]
  ·rw[if_neg z,if_neg (Ne.symm z)]
 rw[e]
 exact QU (QC (r:=⟨Qb n n λi j=>if j=i then 1 else 0,true,[]⟩) (QI (toD:=λ(k:Nat)=> .int (k:Int)) (out:=λ(i:Nat)=>Qd n λj=>if j=i then 1 else 0) (List.range n) (Qa7 (n:=n) (r:=⟨.int n,true,[]⟩) rfl rfl (by omega)) rfl λi _=>⟨[none,some (.int i,true),some (.int n,true)],rfl,⟨Qd n λj=>if j=i then 1 else 0,true,[]⟩,Qm (r:=⟨[.int n,.int i],true,[]⟩) rfl (hu n i hn) rfl,rfl,rfl⟩) ⟨rfl,rfl⟩)
noncomputable def Qor:DS:=(Qf (QL (QG (QbO (Qa 1) (Qa 3)) (.tp [1,2]) [none,none,none,some 0,some 2] QN (QX (QaM (Qa 3) (Qa 1)) (QaM (Qa 4) (Qa 2))))) Qo)
def Qii(d:Den):Prop:=∀(n:Nat) (p q:Int) (a b:Nat->Int),Qas p->Qas q->(∀i,i<n->Qas (a i)/\Qas (b i))->d [.int p,Qd n a,.int q,Qd n b]=some (Qd n λi=>p*a i+q*b i,true)
theorem QrS:Qii (Ql 4 Qor):=λn p q a b hp hq hb=>
 QU (QC (r:=⟨Qd n λi=>p*a i+q*b i,true,[]⟩) (QI (toD:=λ(i:Nat)=> .tup [.int (a i),.int (b i)]) (out:=λi=> .int (p*a i+q*b i)) (List.range n) (QdT (f:=λi=> .int (a i)) (g:=λi=> .int (b i)) (ra:=⟨Qd n a,false,[]⟩) (rb:=⟨Qd n b,false,[]⟩) rfl rfl rfl rfl) rfl λi hi=>⟨[none,some (.int (a i),true),some (.int (b i),true),some (.int p,true),some (.int q,true)],rfl,⟨.int (p*a i+q*b i),true,[]⟩,Qce (a:=p*a i) (b:=q*b i) (QaO (a:=p) (b:=a i) rfl rfl rfl rfl (Qdi hp (hb i (Zp.mp hi)).1)) rfl (QaO (a:=q) (b:=b i) rfl rfl rfl rfl (Qdi hq (hb i (Zp.mp hi)).2)) rfl,rfl,rfl⟩) ⟨rfl,rfl⟩)
noncomputable def QaZ(r x y:Int):Nat->Int
 | 0=>r
 | 1=>x
 | _=>y
theorem QlN{r x y:Int}(h1:r.natAbs<2^2000)(h2:x.natAbs<2^2000)(h3:y.natAbs<2^2000):∀i,Qas (QaZ r x y i)
 | 0=>QaJ h1
 | 1=>QaJ h2
 | _+2=>QaJ h3
noncomputable def QfT(QbF:Den):DS:=(Qf (Qp 2 (Qat (Qc (Qa 0) (Qc (dC (.int 1)) (Qc (dC (.int 0)) Qe))))) (Qf (Qp 3 (Qat (Qc (Qa 1) (Qc (dC (.int 0)) (Qc (dC (.int 1)) Qe))))) (Qf (Qcy (QO (dOp gNe (Qs (Qa 3) (dC (.int 0))) (dC (.int 0)))) (Qf (Qp 4 (Qh 4 QbF [] (Qc (dC (.int 1)) (Qc (Qa 2) (Qc (dOp Qa9 (dC (.int 0)) (dOp Qcn (Qs (Qa 2) (dC (.int 0))) (Qs (Qa 3) (dC (.int 0))))) (Qc (Qa 3) Qe)))))) (Qf (Qp 2 (Q7 (Qa 3))) (Qf (Qp 3 (Q7 (Qa 4))) Qo)))) (Qf (QL (QpI (Qc (Qa 2) Qe))) Qo))))
structure Wgh (a b R0 R1:Nat) (x0 y0 x1 y1:Int):Prop where
 e0:(R0:Int)=x0*a+y0*b
 e1:(R1:Int)=x1*a+y1*b
 dv:∀t:Nat,(t∣R0/\t∣R1)↔(t∣a/\t∣b)
 l0:R0<2^2000
 l1:R1<2^2000
 bx:x1.natAbs*R0+x0.natAbs*R1<=b
 by':y1.natAbs*R0+y0.natAbs*R1<=a
 x0l:x0.natAbs<=b+1
 x1l:x1.natAbs<=b+1
 y0l:y0.natAbs<=a+1
 y1l:y1.natAbs<=a+1
theorem Qow{p0 p1:Int}{q R0 R1 R2 c:Nat}(e:q*R1+R2=R0)(h:p1.natAbs*R0+p0.natAbs*R1<=c):(1*p0+(0-(q:Int))*p1).natAbs*R1+p1.natAbs*R2<=c:=by
 have h1:(1*p0+(0-(q:Int))*p1).natAbs<=p0.natAbs+q*p1.natAbs:=by
  have:=Zbe (1*p0) ((0-(q:Int))*p1)
  rw[ZP,ZaO,ZaJ,Int.natAbs_neg,ZK,Int.natAbs_natCast]at this
  rw[ZP,ZaO,ZaJ]
  exact this
 have h2:=Zbk R1 h1
 have h3:(p0.natAbs+q*p1.natAbs)*R1+p1.natAbs*R2=p1.natAbs*R0+p0.natAbs*R1:=by
  rw[← e,Nat.add_mul,Nat.mul_add]
  have:q*p1.natAbs*R1=p1.natAbs*(q*R1):=by rw[ZaF q,Nat.mul_assoc]
  omega
 omega
theorem Wgh.step{a b R0 R1:Nat}{x0 y0 x1 y1:Int}(h:Wgh a b R0 R1 x0 y0 x1 y1)(hr:R1≠0):Wgh a b R1 (R0 % R1) x1 y1 (1*x0+(0-((R0 / R1:Nat):Int))*x1) (1*y0+(0-((R0 / R1:Nat):Int))*y1):=by
 have e:R0 / R1*R1+R0 % R1=R0:=by rw[ZaF];exact Nat.div_add_mod R0 R1
 have bx:=Qow e h.bx
 have by':=Qow e h.by'
 have r1:1<=R1:=by omega
 refine⟨h.e1,?_,λt=>?_,h.l1,Zm (Nat.mod_lt _ (by omega)) (ZaT h.l1),bx,by',h.x1l,?_,h.y1l,?_⟩
 ·have e':((R0 / R1:Nat):Int)*R1+((R0 % R1:Nat):Int)=R0:=by rw[← Zag,← ZbK,e]
  have h0:=h.e0
  have h1:=h.e1
  generalize ((R0 / R1:Nat):Int)=q at *
  generalize ((R0 % R1:Nat):Int)=z at *
  grind
 ·rw[← h.dv t]
  constructor
  ·rintro⟨h1,h2⟩
   exact⟨(Nat.dvd_mod_iff h1).mp h2,h1⟩
  ·rintro⟨h1,h2⟩
   exact⟨h2,(Nat.dvd_mod_iff h2).mpr h1⟩
 ·have:=Nat.mul_le_mul_left (1*x0+(0-((R0 / R1:Nat):Int))*x1).natAbs r1
  omega
 ·have:=Nat.mul_le_mul_left (1*y0+(0-((R0 / R1:Nat):Int))*y1).natAbs r1
  omega
def Qlo(d:Den):Prop:=∀a b:Nat,a<2^1999->b<2^1999->∃(g:Nat) (x y:Int),d [.int a,.int b]=some (.tup [.int g,.int x,.int y],true)/\(g:Int)=x*a+y*b/\g∣a/\g∣b/\x.natAbs<=2^1999/\y.natAbs<=2^1999
theorem Qsx{da:Den}(ha:Qii da):Qlo (Ql 5 (QfT da)):=λa b la lb=>by
 have p:(2:Nat)^2000=2*2^1999:=by rw[Nat.pow_succ,ZaF]
 have key:Run (QfT da) [some (.int a,true),some (.int b,true),none,none,none] λo=>match o with | .rt d fr=>fr=true/\∃(g:Nat) (x y:Int),d= .tup [.int g,.int x,.int y]/\(g:Int)=x*a+y*b/\g∣a/\g∣b/\x.natAbs<=2^1999/\y.natAbs<=2^1999 | _=>False:=by
  refine run_seq (Qg (r:=⟨Qd 3 (QaZ a 1 0),true,[]⟩) rfl ?_)
  rw[Qi]
  refine run_seq (Qg (r:=⟨Qd 3 (QaZ b 0 1),true,[]⟩) rfl ?_)
  rw[Qi]
  refine QaP (P:=λρ=>∃(g:Nat) (x y z u:Int) (b2:Bool) (j3 j4:Option (D×Bool)),Wgh a b g 0 x y z u/\ρ=[some (.int a,true),some (.int b,true),some (Qd 3 (QaZ g x y),b2),j3,j4]) ?_ ?_
  ·refine QhP (λn ρ=>∃(R0 R1:Nat) (x0 y0 x1 y1:Int) (b2 b3:Bool) (j4:Option (D×Bool)),R1=n/\Wgh a b R0 R1 x0 y0 x1 y1/\ρ=[some (.int a,true),some (.int b,true),some (Qd 3 (QaZ R0 x0 y0),b2),some (Qd 3 (QaZ R1 x1 y1),b3),j4]) ?_ b _ ⟨a,b,1,0,0,1,true,true,none,rfl,⟨by omega,by omega,λt=>Iff.rfl,by omega,by omega,by simp,by simp,by simp,by simp,by simp,by simp⟩,rfl⟩
   rintro n ρ ⟨R0,R1,x0,y0,x1,y1,b2,b3,j4,rfl,W,rfl⟩
   obtain⟨r2,v2,d2⟩:∃r:HS.R,Qa 2 [some (.int a,true),some (.int b,true),some (Qd 3 (QaZ R0 x0 y0),b2),some (Qd 3 (QaZ R1 x1 y1),b3),j4]=some r/\r.d=Qd 3 (QaZ R0 x0 y0):=by cases b2<;>exact⟨_,rfl,rfl⟩
   obtain⟨r3,v3,d3⟩:∃r:HS.R,Qa 3 [some (.int a,true),some (.int b,true),some (Qd 3 (QaZ R0 x0 y0),b2),some (Qd 3 (QaZ R1 x1 y1),b3),j4]=some r/\r.d=Qd 3 (QaZ R1 x1 y1):=by cases b3<;>exact⟨_,rfl,rfl⟩
   refine⟨!decide ((R1:Int)=0),QM (Qc2 (a:=R1) (b:=0) (Qar (m:=3) (f:=QaZ R1 x1 y1) (i:=0) (rb:=⟨.int 0,true,[]⟩) v3 d3 rfl rfl (by decide)) rfl rfl rfl) rfl,λh=>?_,λh=>?_⟩
   ·have hr:R1=0:=by
     have:(R1:Int)=0:=by simpa using h
     omega
    subst hr
    exact⟨R0,x0,y0,x1,y1,b2,_,_,W,rfl⟩
   ·have hr:R1≠0:=by
     have:¬(R1:Int)=0:=by simpa using h
     omega
    have hq:(R0 / R1)<2^2000:=Zae (Nat.div_le_self R0 R1) W.l0
    have x0l:=W.x0l
    have x1l:=W.x1l
    have y0l:=W.y0l
    have y1l:=W.y1l
    have W':=W.step hr
    have er:(Qd 3 λi=>1*QaZ R0 x0 y0 i+(0-((R0 / R1:Nat):Int))*QaZ R1 x1 y1 i)=Qd 3 (QaZ ((R0 % R1:Nat):Int) (1*x0+(0-((R0 / R1:Nat):Int))*x1) (1*y0+(0-((R0 / R1:Nat):Int))*y1)):=Qe9 λi hi=>by
     match i,hi with
     | 0,_=>
      show 1*(R0:Int)+(0-((R0 / R1:Nat):Int))*R1=((R0 % R1:Nat):Int)
      have e:R0 / R1*R1+R0 % R1=R0:=by rw[ZaF];exact Nat.div_add_mod R0 R1
      have e':((R0 / R1:Nat):Int)*R1+((R0 % R1:Nat):Int)=R0:=by rw[← Zag,← ZbK,e]
      generalize ((R0 / R1:Nat):Int)=q at *
      generalize ((R0 % R1:Nat):Int)=z at *
      grind
     | 1,_=>rfl
     | 2,_=>rfl
    have ec:=ha 3 1 (0-((R0 / R1:Nat):Int)) (QaZ R0 x0 y0) (QaZ R1 x1 y1) (QaJ (by decide)) (QaJ (by rw[ZaO,Int.natAbs_neg,Int.natAbs_natCast];exact hq)) λi _=>⟨QlN (by have:=W.l0;omega) (by omega) (by omega) i,QlN (by have:=W.l1;omega) (by omega) (by omega) i⟩
    rw[er]at ec
    refine run_seq (Qg (r:=⟨Qd 3 (QaZ ((R0 % R1:Nat):Int) (1*x0+(0-((R0 / R1:Nat):Int))*x1) (1*y0+(0-((R0 / R1:Nat):Int))*y1)),true,[]⟩) (Qm (r:=⟨[.int 1,Qd 3 (QaZ R0 x0 y0),.int (0-((R0 / R1:Nat):Int)),Qd 3 (QaZ R1 x1 y1)],_,_⟩) ((Qq rfl (Qq v2 (Qq (QhS (a:=0) (b:=((R0 / R1:Nat):Int)) rfl rfl (Qvz (a:=R0) (b:=R1) (Qar (m:=3) (f:=QaZ R0 x0 y0) (i:=0) (rb:=⟨.int 0,true,[]⟩) v2 d2 rfl rfl (by decide)) rfl (Qar (m:=3) (f:=QaZ R1 x1 y1) (i:=0) (rb:=⟨.int 0,true,[]⟩) v3 d3 rfl rfl (by decide)) rfl (by omega) (by have:=W.l1;omega)) rfl) (Qq v3 (QK _))))).trans (by rw[d2,d3])) ec rfl) ?_)
    rw[Qi]
    generalize hnf:QaZ ((R0 % R1:Nat):Int) (1*x0+(0-((R0 / R1:Nat):Int))*x1) (1*y0+(0-((R0 / R1:Nat):Int))*y1)=nf at ec er ⊢
    cases b3
    ·refine run_seq (Qg (Qay (r:=⟨Qd 3 (QaZ R1 x1 y1),false,[]⟩) rfl) ?_)
     refine run_seq (Qg (Qay (r:=⟨Qd 3 nf,true,[4]⟩) rfl) (Qy ?_))
     refine⟨R0 % R1,Nat.mod_lt _ (by omega),R1,R0 % R1,x1,y1,_,_,false,false,some (Qd 3 nf,false),rfl,W',?_⟩
     rw[hnf];rfl
    ·refine run_seq (Qg (Qay (r:=⟨Qd 3 (QaZ R1 x1 y1),true,[3]⟩) rfl) ?_)
     refine run_seq (Qg (Qay (r:=⟨Qd 3 nf,true,[4]⟩) rfl) (Qy ?_))
     refine⟨R0 % R1,Nat.mod_lt _ (by omega),R1,R0 % R1,x1,y1,_,_,false,false,some (Qd 3 nf,false),rfl,W',?_⟩
     rw[hnf];rfl
  ·rintro ρ ⟨g,x,y,z,u,b2,j3,j4,W,rfl⟩
   have hd:=(W.dv g).mp ⟨Nat.dvd_refl g,Nat.dvd_zero g⟩
   have x0l:=W.x0l
   have y0l:=W.y0l
   refine QD (Qbq (r:=⟨.tup [.int g,.int x,.int y],true,[]⟩) (by cases b2<;>rfl) ⟨rfl,g,x,y,rfl,W.e0,hd.1,hd.2,by omega,by omega⟩)
 obtain⟨o,h1,h2⟩:=key
 cases o with
 | rt d fr=>
  obtain⟨rfl,g,x,y,rfl,h⟩:=h2
  exact⟨g,x,y,by show Option.bind (QfT da [some (.int a,true),some (.int b,true),none,none,none]) outD=_;rw[h1];rfl,h⟩
 | _=>exact h2.elim
noncomputable def Qgb(T:Nat->Nat->Int)(l a:Nat)(p q r s:Int):Nat->Nat->Int:=QcR T l (λj=>p*T l j+q*T a j) a λj=>r*T l j+s*T a j
noncomputable def Qdm(B:Nat->Nat->Int)(l a:Nat)(p q r s:Int):Nat->Nat->Int:=λi j=>if j=a then(0-q)*B i l+p*B i a else if j=l then s*B i l+(0-r)*B i a else B i j
theorem QhC{T:Nat->Nat->Int}{l a:Nat}{p q r s:Int}(j:Nat):Qgb T l a p q r s a j=r*T l j+s*T a j:=by unfold Qgb QcR;rw[if_pos rfl]
theorem Qh5{T:Nat->Nat->Int}{l a:Nat}{p q r s:Int}(h:l≠a)(j:Nat):Qgb T l a p q r s l j=p*T l j+q*T a j:=by unfold Qgb QcR;rw[if_neg h,if_pos rfl]
theorem Qfr{T:Nat->Nat->Int}{l a i:Nat}{p q r s:Int}(h1:i≠a)(h2:i≠l)(j:Nat):Qgb T l a p q r s i j=T i j:=by unfold Qgb QcR;rw[if_neg h1,if_neg h2]
theorem Qns{B:Nat->Nat->Int}{l a:Nat}{p q r s:Int}(i:Nat):Qdm B l a p q r s i a=(0-q)*B i l+p*B i a:=by unfold Qdm;rw[if_pos rfl]
theorem Qm4{B:Nat->Nat->Int}{l a:Nat}{p q r s:Int}(h:l≠a)(i:Nat):Qdm B l a p q r s i l=s*B i l+(0-r)*B i a:=by unfold Qdm;rw[if_neg h,if_pos rfl]
theorem Qj7{B:Nat->Nat->Int}{l a j:Nat}{p q r s:Int}(h1:j≠a)(h2:j≠l)(i:Nat):Qdm B l a p q r s i j=B i j:=by unfold Qdm;rw[if_neg h1,if_neg h2]
theorem QoN(n:Nat)(α β:Int)(f g:Nat->Int):(Qt n λk=>α*f k+β*g k)=α*Qt n f+β*Qt n g:=by rw[Qcp,Qac,Qac]
theorem QgX(n:Nat)(α β:Int)(f g h:Nat->Int):(Qt n λk=>(α*f k+β*g k)*h k)=α*(Qt n λk=>f k*h k)+β*Qt n λk=>g k*h k:=by
 rw[← QoN];exact Qr λk _=>by rw[ZaI,ZC,ZC]
theorem QlU(n:Nat)(α β:Int)(f g h:Nat->Int):(Qt n λk=>h k*(α*f k+β*g k))=α*(Qt n λk=>h k*f k)+β*Qt n λk=>h k*g k:=by
 rw[← QoN];exact Qr λk _=>by rw[Zau,ZF,ZF (h k)]
theorem Qu9{n:Nat}{T B:Nat->Nat->Int}{l a:Nat}{p q r s:Int}(hl:l<n)(ha:a<n)(hla:l≠a)(hd:p*s-q*r=1)(u1:Qa0 n T B)(u2:Qa0 n B T):
  Qa0 n (Qgb T l a p q r s) (Qdm B l a p q r s)/\Qa0 n (Qdm B l a p q r s) (Qgb T l a p q r s):=by
 constructor
 ·intro i j hi hj
  have two:∀c d:Nat,c<n->d<n->(Qt n λk=>T c k*B k d)=idF c d:=λc d hc hd=>u1 c d hc hd
  have right:∀c,c<n->(Qt n λk=>T c k*Qdm B l a p q r s k j)=if j=a then(0-q)*idF c l+p*idF c a else if j=l then s*idF c l+(0-r)*idF c a else idF c j:=λc hc=>by
   by_cases ja:j=a
   ·subst ja
    rw[if_pos rfl,Qr (g:=λk=>T c k*((0-q)*B k l+p*B k j)) λk _=>by rw[Qns],QlU,two c l hc hl,two c j hc hj]
   ·by_cases jl:j=l
    ·subst jl
     rw[if_neg ja,if_pos rfl,Qr (g:=λk=>T c k*(s*B k j+(0-r)*B k a)) λk _=>by rw[Qm4 hla],QlU,two c j hc hj,two c a hc ha]
    ·rw[if_neg ja,if_neg jl,Qr (g:=λk=>T c k*B k j) λk _=>by rw[Qj7 ja jl],two c j hc hj]
  have ll:idF l l=1:=by unfold idF;rw[if_pos rfl]
  have aa:idF a a=1:=by unfold idF;rw[if_pos rfl]
  have la:idF l a=0:=by unfold idF;rw[if_neg hla]
  have al:idF a l=0:=by unfold idF;rw[if_neg (Ne.symm hla)]
  have ne:∀c d:Nat,c≠d->idF c d=0:=λc d h=>by unfold idF;rw[if_neg h]
  show(Qt n λk=>Qgb T l a p q r s i k*Qdm B l a p q r s k j)=idF i j
  by_cases ia:i=a
  ·subst ia
   rw[Qr (g:=λk=>(r*T l k+s*T i k)*Qdm B l i p q r s k j) λk _=>by rw[QhC],QgX,right l hl,right i hi]
   by_cases ja:j=i
   ·subst ja;rw[if_pos rfl,if_pos rfl,ll,la,al,aa];grind
   ·rw[if_neg ja,if_neg ja]
    by_cases jl:j=l
    ·subst jl;rw[if_pos rfl,if_pos rfl,ll,la,al,aa];grind
    ·rw[if_neg jl,if_neg jl,ne l j (Ne.symm jl),ne i j (Ne.symm ja)];omega
  ·by_cases il:i=l
   ·subst il
    rw[Qr (g:=λk=>(p*T i k+q*T a k)*Qdm B i a p q r s k j) λk _=>by rw[Qh5 hla],QgX,right i hi,right a ha]
    by_cases ja:j=a
    ·subst ja;rw[if_pos rfl,if_pos rfl,ll,la,al,aa];grind
    ·rw[if_neg ja,if_neg ja]
     by_cases jl:j=i
     ·subst jl;rw[if_pos rfl,if_pos rfl,ll,la,al,aa];grind
     ·rw[if_neg jl,if_neg jl,ne i j (Ne.symm jl),ne a j (Ne.symm ja)];omega
   ·rw[Qr (g:=λk=>T i k*Qdm B l a p q r s k j) λk _=>by rw[Qfr ia il],right i hi,ne i l il,ne i a ia]
    by_cases ja:j=a
    ·subst ja;rw[if_pos rfl,ne i j ia];omega
    ·rw[if_neg ja]
     by_cases jl:j=l
     ·subst jl;rw[if_pos rfl,ne i j il];omega
     ·rw[if_neg jl]
 ·intro i j hi hj
  rw[← u2 i j hi hj]
  refine QsO hl ha hla (λk _ k1 k2=>by rw[Qj7 k2 k1,Qfr k2 k1]) ?_
  rw[Qm4 hla,Qns,Qh5 hla,QhC]
  generalize B i l=bl
  generalize B i a=ba
  generalize T l j=tl
  generalize T a j=ta
  grind
structure QeO (n last at':Nat) (x:Nat->Int) (T B:Nat->Nat->Int) (wh:Nat):Prop where
 u1:Qa0 n T B
 u2:Qa0 n B T
 tl:∀i j,last<i->i<n->j<n->T i j=idF i j
 tu:∀i j,i<=last->last<j->j<n->T i j=0
 bl:∀i j,i<n->last<j->j<n->B i j=idF i j
 un:∀i j,at'<=i->i<last->j<n->T i j=idF i j
 h0:∀i,i<at'->(Qt n λj=>T i j*x j)=0
 hl:(Qt n λj=>T last j*x j)=wh
 wl:wh<2^1999
 bT:∀i j,i<n->j<n->(T i j).natAbs<=2^(2000*at')
 bB:∀i j,i<n->j<n->(B i j).natAbs<=2^(2000*at')
theorem Qo4{p q a b:Int}{k:Nat}(hp:p.natAbs<=2^1999)(hq:q.natAbs<=2^1999)(ha:a.natAbs<=2^(2000*k))(hb:b.natAbs<=2^(2000*k)):(p*a+q*b).natAbs<=2^(2000*(k+1)):=by
 have h1:=Zbe (p*a) (q*b)
 rw[ZK,ZK]at h1
 have h2:=Zav hp ha
 have h3:=Zav hq hb
 have h4:(2:Nat)^(2000*(k+1))=2*(2^1999*2^(2000*k)):=by
  rw[← Nat.pow_add,← Nat.pow_succ']
  congr 1;omega
 omega
theorem QeO.skip{n last at':Nat}{x:Nat->Int}{T B:Nat->Nat->Int}{wh:Nat}(h:QeO n last at' x T B wh)(hl:last<n)(ha:at'<last)(hx:x at'=0):QeO n last (at'+1) x T B wh:=by
 have up:(2:Nat)^(2000*at')<=2^(2000*(at'+1)):=ZU (by decide) (by omega)
 refine⟨h.u1,h.u2,h.tl,h.tu,h.bl,λi j h1 h2=>h.un i j (by omega) h2,λi hi=>?_,h.hl,h.wl,λi j hi hj=>Zq (h.bT i j hi hj) up,λi j hi hj=>Zq (h.bB i j hi hj) up⟩
 by_cases e:i=at'
 ·subst e
  rw[Qcs (a:=i) (by omega) λj hj ne=>by rw[h.un i j (Zj _) ha hj];unfold idF;rw[if_neg (Ne.symm ne),ZE],hx,ZA]
 ·exact h.h0 i (by omega)
theorem QeO.step{n last at':Nat}{x:Nat->Int}{T B:Nat->Nat->Int}{wh g one other:Nat}{p q:Int}(h:QeO n last at' x T B wh)(hl:last<n)(ha:at'<last)(g0:g≠0)(hw:wh=g*one)(hx:x at'=(g*other:Nat))(hxl:g*other<2^1999)(hg:(g:Int)=p*wh+q*x at')
  (pl:p.natAbs<=2^1999) (ql:q.natAbs<=2^1999):QeO n last (at'+1) x (Qgb T last at' p q (0-(other:Int)) one) (Qdm B last at' p q (0-(other:Int)) one) g:=by
 have hla:last≠at':=by omega
 have an:at'<n:=by omega
 have g0':(g:Int)≠0:=by omega
 have onel:one<2^1999:=by
  have:=h.wl
  have:one<=g*one:=Nat.le_mul_of_pos_left one (by omega)
  omega
 have otherl:other<2^1999:=by
  have:other<=g*other:=Nat.le_mul_of_pos_left other (by omega)
  omega
 have gl:g<2^1999∨one=0:=by
  by_cases z:one=0
  ·exact .inr z
  ·have:=h.wl
   have:g<=g*one:=ZbA g (by omega)
   exact .inl (by omega)
 have hd:p*one-q*(0-(other:Int))=1:=by
  rw[hw,hx,Zag,Zag]at hg
  have:(g:Int)*(p*one-q*(0-(other:Int)))=g*1:=by grind
  exact Zah g0' this
 have gl:g<2^1999:=by
  rcases gl with z | z
  ·exact z
  ·rw[z]at hd
   have:other≠0:=λz=>by rw[z]at hd;simp at hd
   have:g<=g*other:=ZbA g (by omega)
   omega
 obtain⟨v1,v2⟩:=Qu9 (p:=p) (q:=q) (r:=0-(other:Int)) (s:=one) hl an hla hd h.u1 h.u2
 have tA:∀j,j<n->T at' j=idF at' j:=λj hj=>h.un at' j (Zj _) ha hj
 have hA:(Qt n λj=>T at' j*x j)=x at':=by
  rw[Qcs an λj hj ne=>by rw[tA j hj];unfold idF;rw[if_neg (Ne.symm ne),ZE],tA at' an]
  unfold idF;rw[if_pos rfl,ZP]
 have ol:(0-(other:Int)).natAbs<=2^1999:=by rw[ZaO,Int.natAbs_neg,Int.natAbs_natCast];omega
 have ol':(0-(0-(other:Int))).natAbs<=2^1999:=by rw[ZaO,Int.natAbs_neg];exact ol
 have ql':(0-q).natAbs<=2^1999:=by rw[ZaO,Int.natAbs_neg];exact ql
 have oneb:(one:Int).natAbs<=2^1999:=by rw[Int.natAbs_natCast];omega
 have up:(2:Nat)^(2000*at')<=2^(2000*(at'+1)):=ZU (by decide) (by omega)
 refine⟨v1,v2,λi j h1 h2 h3=>by rw[Qfr (by omega) (by omega)];exact h.tl i j h1 h2 h3,λi j h1 h2 h3=>?_,λi j h1 h2 h3=>by rw[Qj7 (by omega) (by omega)];exact h.bl i j h1 h2 h3,λi j h1 h2 h3=>by rw[Qfr (by omega) (by omega)];exact h.un i j (by omega) h2 h3,λi hi=>?_,?_,gl,λi j hi hj=>?_,λi j hi hj=>?_⟩
 ·by_cases e1:i=at'
  ·subst e1;rw[QhC,h.tu last j (Zj _) h2 h3,h.tu i j (by omega) h2 h3];omega
  ·by_cases e2:i=last
   ·subst e2;rw[Qh5 hla,h.tu i j (Zj _) h2 h3,h.tu at' j (by omega) h2 h3];omega
   ·rw[Qfr e1 e2];exact h.tu i j h1 h2 h3
 ·by_cases e1:i=at'
  ·subst e1
   rw[Qr (g:=λj=>((0-(other:Int))*T last j+one*T i j)*x j) λj _=>by rw[QhC],QgX,h.hl,hA,hw,hx,Zag,Zag]
   grind
  ·rw[Qr (g:=λj=>T i j*x j) λj _=>by rw[Qfr e1 (by omega)]]
   exact h.h0 i (by omega)
 ·rw[Qr (g:=λj=>(p*T last j+q*T at' j)*x j) λj _=>by rw[Qh5 hla],QgX,h.hl,hA]
  exact hg.symm
 ·by_cases e1:i=at'
  ·subst e1;rw[QhC];exact Qo4 ol oneb (h.bT last j hl hj) (h.bT i j hi hj)
  ·by_cases e2:i=last
   ·subst e2;rw[Qh5 hla];exact Qo4 pl ql (h.bT i j hi hj) (h.bT at' j an hj)
   ·rw[Qfr e1 e2];exact Zq (h.bT i j hi hj) up
 ·by_cases e1:j=at'
  ·subst e1;rw[Qns];exact Qo4 ql' pl (h.bB i last hi hl) (h.bB i j hi hj)
  ·by_cases e2:j=last
   ·subst e2;rw[Qm4 hla];exact Qo4 oneb ol' (h.bB i j hi hj) (h.bB i at' hi an)
   ·rw[Qj7 e1 e2];exact Zq (h.bB i j hi hj) up
theorem QeO.start{n last:Nat}{x:Nat->Int}(hl:last<n){wh:Nat}(hw:x last=wh)(wl:wh<2^1999):QeO n last 0 x idF idF wh:=by
 have u:Qa0 n idF idF:=λi j hi hj=>Qct _ _ hi
 have b1:∀i j,(idF i j).natAbs<=2^(2000*0):=λi j=>by unfold idF;split<;>decide
 refine⟨u,u,λ_ _ _ _ _=>rfl,λi j h1 h2 _=>by unfold idF;rw[if_neg (by omega)],λ_ _ _ _ _=>rfl,λ_ _ _ _ _=>rfl,λi hi=>by omega,?_,wl,λi j _ _=>b1 i j,λi j _ _=>b1 i j⟩
 rw[Qcs hl λj _ ne=>by unfold idF;rw[if_neg (Ne.symm ne),ZE]]
 unfold idF
 rw[if_pos rfl,ZP];exact hw
theorem QeO.tell{n last:Nat}{x:Nat->Int}{T B:Nat->Nat->Int}{wh:Nat}(h:QeO n last last x T B wh):Qmg n last x T B wh:=⟨h.u1,h.u2,h.tl,h.tu,h.bl,λi hi=>by
 by_cases e:i=last
 ·rw[if_pos e,e];exact h.hl
 ·rw[if_neg e];exact h.h0 i (by omega)⟩
theorem QgU{n N i:Nat}{f:Nat->Nat->Int}(h:i<n):((List.range n).map λi=>Qd N (f i))[i]? =some (Qd N (f i)):=by
 rw[Zn,Zz h];rfl
theorem QuW{t b ln n i k:Nat}{T B:Nat->Nat->Int}{a1 a2 a3 a4:Nat->Int}{fi fk g1 g2 g3 g4:DE}{ρ ρ1:En}{Q:Out->Prop}(ht:ρ[t]? =some (some (Qb n n T,true)))(hb:ρ[b]? =some (some (Qb n n B,true)))(h1:t≠b)(h2:ln≠t)(h3:ln≠b)(h4:ln<ρ.length)
  (ei:fi ρ=some ⟨.int i,true,[]⟩) (ek:fk ρ=some ⟨.int k,true,[]⟩) (hi:i<n) (hk:k<n) (e1:(((ρ.set t none).set b none).set ln none).set ln (some (.tup [Qd n (T i),Qd n (T k),Qd n (B i),Qd n (B k)],false))=ρ1)
  (ei':fi ρ1=some ⟨.int i,true,[]⟩) (ek':fk ρ1=some ⟨.int k,true,[]⟩) (c1:g1 ρ1=some ⟨Qd n a1,true,[]⟩) (c2:g2 ρ1=some ⟨Qd n a2,true,[]⟩) (c3:g3 ρ1=some ⟨Qd n a3,true,[]⟩) (c4:g4 ρ1=some ⟨Qd n a4,true,[]⟩)
  (q:Q (.nx (((((ρ.set t none).set b none).set ln none).set t (some (Qb n n (QcR T i a1 k a2),true))).set b (some (Qb n n (QcR B i a3 k a4),true))))):Run (Qi3 t b ln fi fk g1 g2 g3 g4) ρ Q:=by
 refine⟨_,?_,q⟩
 unfold Qi3
 rw[ht,hb]
 simp only[Qb]
 rw[if_pos ⟨h1,h2,h3,h4⟩,ei,Za,ek,Za]
 simp only[Zy,Zt]
 rw[QcL (show(0:Int)<=i by omega) (by omega),QcL (show(0:Int)<=k by omega) (by omega)]
 simp only[Za,ZJ]
 rw[QgU hi,QgU hk,QgU hi,QgU hk]
 simp only[Za]
 have fl:(D.tup [Qd n (T i),Qd n (T k),Qd n (B i),Qd n (B k)]).flat=false:=rfl
 rw[fl,e1]
 unfold Qmt
 rw[ei',Za,ek',Za,c1,Za,c2,Za,c3,Za,c4,Za]
 have o0:∀a:Nat->Int,QhQ (HS.R.mk (Qd n a) true [])=true:=λa=>rfl
 simp only[o0,and_self,if_true]
 rw[Qeh hi,Qeh (g:=λi' j=>if i'=i then a1 j else T i' j) hk,Qeh hi,Qeh (g:=λi' j=>if i'=i then a3 j else B i' j) hk]
 rfl
noncomputable def Qdb(QR:Den)(QdN:Den)(QbF:Den)(QW:Den):DS:=(Qf (Qp 2 (Qh 1 QR [] (Qc (dBf Q8 (Qc (Qa 0) Qe)) Qe))) (Qf (Qp 3 (Qh 1 QR [] (Qc (dBf Q8 (Qc (Qa 0) Qe)) Qe))) (Qf (Qp 4 (Q7 (Qs (Qa 0) (Qa 1)))) (Qf (Qdn (QaK (Qa 1)) (.nm 5) (Qf (Qp 6 (Qh 2 QdN [] (Qc (Qa 4) (Qc (Qs (Qa 0) (Qa 5)) Qe)))) (Qf (sIf (QO (dOp gEq (Qs (Qa 6) (dC (.int 0))) (dC (.int 0)))) (Qf Qpt Qo) Qo) (Qf (Qp 7 (dOp Qcn (Qa 4) (Qs (Qa 6) (dC (.int 0))))) (Qf (Qp 8 (dOp Qcn (Qs (Qa 0) (Qa 5)) (Qs (Qa 6) (dC (.int 0))))) (Qf (Qi3 2 3 9 (Qa 1) (Qa 5) (Qh 4 QbF [] (Qc (Qs (Qa 6) (dC (.int 1))) (Qc (Qs (Qa 9) (dC (.int 0))) (Qc (Qs (Qa 6) (dC (.int 2))) (Qc (Qs (Qa 9) (dC (.int 1))) Qe))))) (Qh 4 QbF [] (Qc (dOp Qa9 (dC (.int 0)) (Qa 8)) (Qc (Qs (Qa 9) (dC (.int 0))) (Qc (Qa 7) (Qc (Qs (Qa 9) (dC (.int 1))) Qe))))) (Qh 4 QbF [] (Qc (Qa 7) (Qc (Qs (Qa 9) (dC (.int 2))) (Qc (Qa 8) (Qc (Qs (Qa 9) (dC (.int 3))) Qe))))) (Qh 4 QbF [] (Qc (dOp Qa9 (dC (.int 0)) (Qs (Qa 6) (dC (.int 2)))) (Qc (Qs (Qa 9) (dC (.int 2))) (Qc (Qs (Qa 6) (dC (.int 1))) (Qc (Qs (Qa 9) (dC (.int 3))) Qe)))))) (Qf (Qp 4 (Q7 (Qs (Qa 6) (dC (.int 0))))) Qo))))))) (Qf (QL (Qdk (Qc (Qa 2) (Qc (Qh 1 QW [] (Qc (Qa 3) Qe)) Qe)))) Qo)))))
def Qlt(d:Den):Prop:=∀(n last:Nat) (x:Nat->Int),last<n->n<=8->(∀i,i<n->0<=x i/\x i<2^1999)->∃(T B:Nat->Nat->Int) (g:Nat),d [Qd n x,.int last]=some (.tup [Qb n n T,Qb n n B],true)/\Qmg n last x T B g/\(∀i j,i<n->j<n->(T i j).natAbs<=2^16000)/\(∀i j,i<n->j<n->(B i j).natAbs<=2^16000)
theorem Qtj{du dw da dt:Den}(hu:Qgj du)(hw:Qlo dw)(ha:Qii da)(ht:QdF dt):Qlt (Ql 10 (Qdb du dw da dt)):=λn last x hl n8 hx=>by
 obtain⟨X,hX⟩:∃X:Nat->Nat,∀i,i<n->x i=X i:=⟨λi=>(x i).toNat,λi hi=>by have:=(hx i hi).1;show x i=((x i).toNat:Int);omega⟩
 have hXl:∀i,i<n->X i<2^1999:=λi hi=>by have:=(hx i hi).2;rw[hX i hi]at this;omega
 have key:Run (Qdb du dw da dt) [some (Qd n x,false),some (.int last,true),none,none,none,none,none,none,none,none] λo=>match o with | .rt d fr=>fr=true/\∃(T B:Nat->Nat->Int) (g:Nat),d= .tup [Qb n n T,Qb n n B]/\Qmg n last x T B g/\(∀i j,i<n->j<n->(T i j).natAbs<=2^16000)/\(∀i j,i<n->j<n->(B i j).natAbs<=2^16000) | _=>False:=by
  have elen:∀ρ:En,ρ[0]? =some (some (Qd n x,false))->dBf Q8 (Qc (Qa 0) Qe) ρ=some ⟨.int n,true,[]⟩:=λρ hρ=>Qoy (m:=n) (f:=x) (QhN hρ) rfl
  refine run_seq (Qg (r:=⟨Qb n n idF,true,[]⟩) (Qm (r:=⟨[.int n],true,[]⟩) (Qq (elen _ rfl) (QK _)) (hu n (by omega)) rfl) ?_)
  rw[Qi]
  refine run_seq (Qg (r:=⟨Qb n n idF,true,[]⟩) (Qm (r:=⟨[.int n],true,[]⟩) (Qq (elen _ rfl) (QK _)) (hu n (by omega)) rfl) ?_)
  rw[Qi]
  refine run_seq (Qg (r:=⟨.int (X last),false,[]⟩) ((Qay (Qar (m:=n) (f:=x) (i:=last) (ra:=⟨Qd n x,false,[]⟩) (rb:=⟨.int last,true,[]⟩) rfl rfl rfl rfl hl)).trans (by rw[hX last hl])) ?_)
  rw[QcX rfl]
  have symm:(λi j=>idF j i)=idF:=by
   funext i j;unfold idF
   by_cases z:i=j
   ·rw[if_pos z,if_pos z.symm]
   ·rw[if_neg z,if_neg (Ne.symm z)]
  refine QD (Qb0 (toD:=λ(k:Nat)=> .int (k:Int)) (List.range last) (λat' ρ=>∃(T B:Nat->Nat->Int) (wh:Nat) (j5 j6 j7 j8 j9:Option (D×Bool)),QeO n last at' x T B wh/\ρ=[some (Qd n x,false),some (.int last,true),some (Qb n n T,true),some (Qb n n (λi j=>B j i),true),some (.int wh,true),j5,j6,j7,j8,j9]) (Qa7 (n:=last) (r:=⟨.int last,true,[]⟩) rfl rfl (by omega)) rfl ⟨idF,idF,X last,none,none,none,none,none,QeO.start hl (hX last hl) (hXl last hl),by rw[symm];rfl⟩ ?_ ?_)
  ·rintro k k' ρ hk ⟨T,B,wh,j5,j6,j7,j8,j9,C,rfl⟩
   have hk':k<last/\k=k':=by
    obtain⟨h1,h2⟩:=Zf.mp hk
    simp at h1 h2;exact⟨h1,h2⟩
   obtain⟨hkl,rfl⟩:=hk'
   have kn:k<n:=by omega
   obtain⟨g,p,q,ew,eg,g1,g2,pl,ql⟩:=hw wh (X k) C.wl (hXl k kn)
   refine⟨[some (Qd n x,false),some (.int last,true),some (Qb n n T,true),some (Qb n n (λi j=>B j i),true),some (.int wh,true),some (.int k,true),j6,j7,j8,j9],rfl,?_⟩
   refine run_seq (Qg (r:=⟨.tup [.int g,.int p,.int q],true,[]⟩) (Qm (r:=⟨[.int wh,.int (X k)],true,[]⟩) (Qq (r:=⟨.int wh,true,[]⟩) rfl (Qq ((Qar (m:=n) (f:=x) (i:=k) (ra:=⟨Qd n x,false,[]⟩) (rb:=⟨.int k,true,[]⟩) rfl rfl rfl rfl kn).trans (by rw[hX k kn])) (QK _))) ew rfl) ?_)
   rw[Qi]
   change Nx _ (.nx [some (Qd n x,false),some (.int last,true),some (Qb n n T,true),some (Qb n n (λi j=>B j i),true),some (.int wh,true),some (.int k,true),some (.tup [.int g,.int p,.int q],true),j7,j8,j9])
   refine QD (Qad (b:=decide ((g:Int)=0)) (QM (Qb1 (a:=g) (b:=0) (ra:=⟨.int g,true,[]⟩) rfl rfl rfl rfl) rfl) (λh=>?_) (λh=>Qy ?_))
   ·have hg:g=0:=by
     have:(g:Int)=0:=of_decide_eq_true h
     omega
    subst hg
    have hxk:x k=0:=by rw[hX k kn,Nat.eq_zero_of_zero_dvd g2];rfl
    exact QD ⟨_,rfl,T,B,wh,_,_,_,_,_,C.skip hl hkl hxk,rfl⟩
   have g0:g≠0:=λz=>by
    have:=of_decide_eq_false h
    omega
   obtain⟨one,hone⟩:=g1
   obtain⟨other,hother⟩:=g2
   have gl:g<2^2000:=by
    have p:(2:Nat)^2000=2*2^1999:=by rw[Nat.pow_succ,ZaF]
    have w1:=C.wl
    have w2:=hXl k kn
    by_cases z:wh=0
    ·by_cases z2:X k=0
     ·rw[z,z2]at eg;simp at eg;omega
     ·have:=ZaW (by omega) (⟨other,hother⟩:g∣X k);omega
    ·have:=ZaW (by omega) (⟨one,hone⟩:g∣wh);omega
   refine run_seq (Qg (r:=⟨.int one,true,[]⟩) (Qer (a:=wh) (b:=g) (q:=one) rfl rfl (rb:=⟨.int g,true,[]⟩) rfl rfl (by omega) (by rw[Int.natAbs_natCast];exact gl) (by rw[hone,Zag])) ?_)
   rw[Qi]
   refine run_seq (Qg (r:=⟨.int other,true,[]⟩) (Qer (a:=(X k:Int)) (b:=g) (q:=other) ((Qar (m:=n) (f:=x) (i:=k) (ra:=⟨Qd n x,false,[]⟩) (rb:=⟨.int k,true,[]⟩) rfl rfl rfl rfl kn).trans (by rw[hX k kn])) rfl (rb:=⟨.int g,true,[]⟩) rfl rfl (by omega) (by rw[Int.natAbs_natCast];exact gl) (by rw[hother,Zag])) ?_)
   rw[Qi]
   change Nx _ (.nx [some (Qd n x,false),some (.int last,true),some (Qb n n T,true),some (Qb n n (λi j=>B j i),true),some (.int wh,true),some (.int k,true),some (.tup [.int g,.int p,.int q],true),some (.int one,true),some (.int other,true),j9])
   have C':=C.step (g:=g) (one:=one) (other:=other) (p:=p) (q:=q) hl hkl g0 hone (by rw[hX k kn,hother]) (by rw[← hother];exact hXl k kn) (by rw[hX k kn];exact eg) pl ql
   have b8:∀z:Int,z.natAbs<=2^(2000*k)->Qas z:=λz hz=>QgP (k:=16001) (by
    have:(2:Nat)^(2000*k)<2^16001:=Nat.pow_lt_pow_right (by decide) (by omega)
    omega) (by decide)
   have bS:∀z:Int,z.natAbs<=2^1999->Qas z:=λz hz=>QaJ (by
    have:(2:Nat)^1999<2^2000:=Nat.pow_lt_pow_right (by decide) (by decide)
    omega)
   have w1:=C.wl
   have onel:(one:Int).natAbs<=2^1999:=by
    rw[Int.natAbs_natCast]
    have:one<=g*one:=Nat.le_mul_of_pos_left one (by omega)
    omega
   have otherl:(other:Int).natAbs<=2^1999:=by
    rw[Int.natAbs_natCast]
    have:other<=g*other:=Nat.le_mul_of_pos_left other (by omega)
    have:=hXl k kn
    omega
   have neg:∀z:Int,z.natAbs<=2^1999->(0-z).natAbs<=2^1999:=λz hz=>by rw[ZaO,Int.natAbs_neg];exact hz
   have eb:QcR (λi j=>B j i) last (λj=>(one:Int)*B j last+(other:Int)*B j k) k (λj=>(0-q)*B j last+p*B j k)=λi j=>Qdm B last k p q (0-(other:Int)) one j i:=by
    funext i j
    unfold QcR Qdm
    by_cases e1:i=k
    ·rw[if_pos e1,if_pos e1]
    ·rw[if_neg e1,if_neg e1]
     by_cases e2:i=last
     ·rw[if_pos e2,if_pos e2,show(0-(0-(other:Int)))=other by omega]
     ·rw[if_neg e2,if_neg e2]
   refine run_seq (QuW (n:=n) (i:=last) (k:=k) (T:=T) (B:=λi j=>B j i) (a1:=λj=>p*T last j+q*T k j) (a2:=λj=>(0-(other:Int))*T last j+one*T k j) (a3:=λj=>(one:Int)*B j last+(other:Int)*B j k) (a4:=λj=>(0-q)*B j last+p*B j k)
    (ρ1:=[some (Qd n x,false),some (.int last,true),none,none,some (.int wh,true),some (.int k,true),some (.tup [.int g,.int p,.int q],true),some (.int one,true),some (.int other,true),some (.tup [Qd n (T last),Qd n (T k),Qd n λj=>B j last,Qd n λj=>B j k],false)]) rfl rfl (by decide) (by decide) (by decide) (show 9<10 by decide) rfl rfl hl kn rfl rfl rfl
    (Qm (r:=⟨[.int p,Qd n (T last),.int q,Qd n (T k)],false,[]⟩) rfl (ha n p q (T last) (T k) (bS p pl) (bS q ql) λi hi=>⟨b8 _ (C.bT last i hl hi),b8 _ (C.bT k i kn hi)⟩) rfl)
    (Qm (r:=⟨[.int (0-other),Qd n (T last),.int one,Qd n (T k)],false,[]⟩) rfl (ha n (0-other) one (T last) (T k) (bS _ (neg _ otherl)) (bS _ onel) λi hi=>⟨b8 _ (C.bT last i hl hi),b8 _ (C.bT k i kn hi)⟩) rfl)
    (Qm (r:=⟨[.int one,Qd n λj=>B j last,.int other,Qd n λj=>B j k],false,[]⟩) rfl (ha n one other (λj=>B j last) (λj=>B j k) (bS _ onel) (bS _ otherl) λi hi=>⟨b8 _ (C.bB i last hi hl),b8 _ (C.bB i k hi kn)⟩) rfl)
    (Qm (r:=⟨[.int (0-q),Qd n λj=>B j last,.int p,Qd n λj=>B j k],false,[]⟩) rfl (ha n (0-q) p (λj=>B j last) (λj=>B j k) (bS _ (neg _ ql)) (bS p pl) λi hi=>⟨b8 _ (C.bB i last hi hl),b8 _ (C.bB i k hi kn)⟩) rfl) ?_)
   rw[eb]
   refine run_seq (Qg (r:=⟨.int g,false,[]⟩) rfl (Qy ?_))
   rw[QcX rfl]
   exact⟨_,_,g,_,_,_,_,_,C',rfl⟩
  ·rintro ρ ⟨T,B,wh,j5,j6,j7,j8,j9,C,rfl⟩
   rw[Zt]at C
   have bound:(2:Nat)^(2000*last)<=2^16000:=ZU (by decide) (by omega)
   refine QC (r:=⟨.tup [Qb n n T,Qb n n B],true,[2]⟩) ?_ ⟨rfl,T,B,wh,rfl,C.tell,λi j hi hj=>Zq (C.bT i j hi hj) bound,λi j hi hj=>Zq (C.bB i j hi hj) bound⟩
   have ec:Qh 1 dt [] (Qc (Qa 3) Qe) [some (Qd n x,false),some (.int last,true),some (Qb n n T,true),some (Qb n n λi j=>B j i,true),some (.int wh,true),j5,j6,j7,j8,j9]=some ⟨Qb n n B,true,[]⟩:=Qm (r:=⟨[Qb n n λi j=>B j i],true,[3]⟩) rfl (ht n _ (by omega)) rfl
   unfold Qdk
   rw[Qq (r:=⟨Qb n n T,true,[2]⟩) rfl (Qq ec (QK _))]
   rfl
 obtain⟨o,h1,h2⟩:=key
 cases o with
 | rt d fr=>
  obtain⟨rfl,T,B,g,rfl,h⟩:=h2
  exact⟨T,B,g,by show Option.bind (Qdb du dw da dt [some (Qd n x,false),some (.int last,true),none,none,none,none,none,none,none,none]) outD=_;rw[h1];rfl,h⟩
 | _=>exact h2.elim
noncomputable def QiG(QaS:Den):DS:=(Qf (QL (Qh 1 QaS [] (Qc (QX (QG (Qag (Qa 0)) (.nm 1) [none,none] QN (Qh 1 QaS [] (Qc (Qa 1) Qe))) (Qat (Qc (Qa 1) Qe))) Qe))) Qo)
def Qiz(d:Den):Prop:=∀(k n:Nat) (f:Nat->Nat->Int) (L:Int),k<=100->∃g:Int,d [Qb k n f,.int L]=some (.int g,true)/\0<=g/\∀t,t∣g↔((∀i j,i<k->j<n->t∣f i j)/\t∣L)
theorem QsW{dc:Den}(hc:Qg2 dc):Qiz (Ql 2 (QiG dc)):=λk n f L hk=>by
 obtain⟨gi,hgi⟩:=Classical.axiomOfChoice λi:Nat=>hc ((List.range n).map (f i))
 have hrow:∀i t,t∣gi i↔∀j,j<n->t∣f i j:=λi t=>by
  rw[(hgi i).2.2 t]
  exact⟨λh j hj=>h _ (Zao.mpr ⟨j,Zp.mpr hj,rfl⟩),λh x hx=>by obtain⟨j,hj,rfl⟩:=Zao.mp hx;exact h j (Zp.mp hj)⟩
 obtain⟨g,eg,g0,hg⟩:=hc ((List.range (k+1)).map (up gi k L))
 rw[← QjA]at eg
 refine⟨g,QU (QC (r:=⟨.int g,true,[]⟩) (Qm (r:=⟨[Qd (k+1) (up gi k L)],true,[]⟩) (Qq (QfE (m:=k) (f:=gi) (x:=L) (QI (toD:=λ(i:Nat)=>Qd n (f i)) (out:=λ(i:Nat)=> .int (gi i)) (List.range k) (Qal (r:=⟨Qb k n f,false,[]⟩) rfl rfl) rfl λi _=>⟨[none,some (Qd n (f i),false)],rfl,⟨.int (gi i),true,[]⟩,Qm (r:=⟨[Qd n (f i)],false,[]⟩) rfl (by rw[QjA];exact(hgi i).1) rfl,rfl,rfl⟩) rfl rfl (by omega)) (QK _)) eg rfl) ⟨rfl,rfl⟩),g0,λt=>?_⟩
 rw[hg t]
 constructor
 ·intro h
  refine⟨λi j hi hj=>(hrow i t).mp (h _ (Zao.mpr ⟨i,Zp.mpr (by omega),by rw[Qcz,if_neg (by omega)]⟩)) j hj,h _ (Zao.mpr ⟨k,Zp.mpr (by omega),by rw[Qcz,if_pos rfl]⟩)⟩
 ·rintro⟨h1,h2⟩ x hx
  obtain⟨i,hi,rfl⟩:=Zao.mp hx
  have hi:=Zp.mp hi
  rw[Qcz]
  by_cases e:i=k
  ·rw[if_pos e];exact h2
  ·rw[if_neg e];exact(hrow i t).mpr λj hj=>h1 i j (by omega) hj
noncomputable def Qnr:DS:=(Qf (QL (QG (Qag (Qa 0)) (.nm 1) [none,none,some 1] QN (dOp Qco (Qa 1) (Qa 2)))) Qo)
def QgZ(d:Den):Prop:=∀(n:Nat) (a:Nat->Int) (L:Int),0<L->d [Qd n a,.int L]=some (Qd n λi=>a i % L,true)
theorem QqJ:QgZ (Ql 2 Qnr):=λn a L hL=>
 QU (QC (r:=⟨Qd n λi=>a i % L,true,[]⟩) (QI (toD:=λ(i:Nat)=> .int (a i)) (out:=λ(i:Nat)=> .int (a i % L)) (List.range n) (Qal (r:=⟨Qd n a,false,[]⟩) rfl rfl) rfl λi _=>⟨[none,some (.int (a i),true),some (.int L,true)],rfl,⟨.int (a i % L),true,[]⟩,Qb6 (a:=a i) (b:=L) rfl rfl rfl rfl hL,rfl,rfl⟩) ⟨rfl,rfl⟩)
noncomputable def Qmy:DS:=(Qf (QL (QG (Qag (Qa 0)) (.nm 1) [none,none,some 1] QN (dOp Qcn (Qa 1) (Qa 2)))) Qo)
def QgT(d:Den):Prop:=∀(n:Nat) (a q:Nat->Int) (b:Int),b≠0->b.natAbs<2^2000->(∀i,i<n->a i=b*q i)->d [Qd n a,.int b]=some (Qd n q,true)
theorem QqM:QgT (Ql 2 Qmy):=λn a q b b0 bl h=>
 QU (QC (r:=⟨Qd n q,true,[]⟩) (QI (toD:=λ(i:Nat)=> .int (a i)) (out:=λ(i:Nat)=> .int (q i)) (List.range n) (Qal (r:=⟨Qd n a,false,[]⟩) rfl rfl) rfl λi hi=>⟨[none,some (.int (a i),true),some (.int b,true)],rfl,⟨.int (q i),true,[]⟩,Qer (a:=a i) (b:=b) (q:=q i) rfl rfl rfl rfl b0 bl (h i (Zp.mp hi)),rfl,rfl⟩) ⟨rfl,rfl⟩)
noncomputable def QiR:DS:=(Qf (QL (QG (Qag (Qa 0)) (.nm 1) [none,none,some 1] QN (QaM (Qa 2) (Qa 1)))) Qo)
def Qky(d:Den):Prop:=∀(n:Nat) (a:Nat->Int) (c:Int),Qas c->(∀i,i<n->Qas (a i))->d [Qd n a,.int c]=some (Qd n λi=>c*a i,true)
theorem QrT:Qky (Ql 2 QiR):=λn a c hc ha=>
 QU (QC (r:=⟨Qd n λi=>c*a i,true,[]⟩) (QI (toD:=λ(i:Nat)=> .int (a i)) (out:=λ(i:Nat)=> .int (c*a i)) (List.range n) (Qal (r:=⟨Qd n a,false,[]⟩) rfl rfl) rfl λi hi=>⟨[none,some (.int (a i),true),some (.int c,true)],rfl,⟨.int (c*a i),true,[]⟩,QaO (a:=c) (b:=a i) rfl rfl rfl rfl (Qdi hc (ha i (Zp.mp hi))),rfl,rfl⟩) ⟨rfl,rfl⟩)
noncomputable def pairF(u v:Nat->Int):Nat->Nat->Int
 | 0=>u
 | _=>v
noncomputable def Qir(QaE:Den)(Qcl:Den):DS:=(Qf (Qp 3 (Qh 2 QaE [] (Qc (Qat (Qc (Qa 0) (Qc (Qa 1) Qe))) (Qc (Qa 2) Qe)))) (Qf (Qp 4 (Q7 (Qa 0))) (Qf (Qcy (QO (dOp gNe (Qh 2 QaE [] (Qc (Qat (Qc (Qa 4) Qe)) (Qc (Qa 2) Qe))) (Qa 3))) (Qf (Qp 4 (Qh 2 Qcl [] (Qc (QG (QbO (Qa 4) (Qa 1)) (.tp [1,2]) [none,none,none] QN (QX (Qa 1) (Qa 2))) (Qc (Qa 2) Qe)))) Qo)) (Qf (QL (Qa 4)) Qo))))
def Qk3(d:Den):Prop:=∀(n:Nat) (u v:Nat->Int) (L:Int),0<L->(∀i,i<n->0<=u i/\u i<L)->∃(x:Nat->Int) (fr:Bool) (k:Nat),d [Qd n u,Qd n v,.int L]=some (Qd n x,fr)/\(∀i,i<n->0<=x i/\x i<L)/\(∀i,i<n->L∣x i-(u i+k*v i))/\∀t,t∣L->(∀i,i<n->t∣x i)->(∀i,i<n->t∣u i)/\∀i,i<n->t∣v i
theorem QsS{di dw:Den}(hi:Qiz di)(hw:QgZ dw):Qk3 (Ql 5 (Qir di dw)):=λn u v L hL hu=>by
 obtain⟨w,ew,w0,hwd⟩:=hi 2 n (pairF u v) L (by decide)
 have hwd:∀t,t∣w↔((∀i,i<n->t∣u i)/\(∀i,i<n->t∣v i)/\t∣L):=λt=>by
  rw[hwd t]
  constructor
  ·rintro⟨h1,h2⟩
   exact⟨λi hi=>h1 0 i (by decide) hi,λi hi=>h1 1 i (by decide) hi,h2⟩
  ·rintro⟨h1,h2,h3⟩
   refine⟨λi j hi hj=>?_,h3⟩
   match i,hi with
   | 0,_=>exact h1 j hj
   | 1,_=>exact h2 j hj
 obtain⟨Ln,hLn⟩:∃Ln:Nat,L=Ln:=⟨L.toNat,by omega⟩
 obtain⟨T,hT⟩:=QwP (n:=n) u v (L:=Ln) (by omega)
 have hT:∀t:Int,t∣L->(∀i,i<n->t∣u i+T*v i)->(∀i,i<n->t∣u i)/\∀i,i<n->t∣v i:=λt h1 h2=>by
  have:=hT t.natAbs (by rw[hLn]at h1;have:=ZX.mpr h1;rwa[Int.natAbs_natCast]at this) λi hi=>Int.natAbs_dvd.mpr (h2 i hi)
  exact⟨λi hi=>Int.natAbs_dvd.mp (this.1 i hi),λi hi=>Int.natAbs_dvd.mp (this.2 i hi)⟩
 have key:Run (Qir di dw) [some (Qd n u,false),some (Qd n v,false),some (.int L,true),none,none] λo=>match o with | .rt d fr=>∃(x:Nat->Int) (k:Nat),d=Qd n x/\(∀i,i<n->0<=x i/\x i<L)/\(∀i,i<n->L∣x i-(u i+k*v i))/\∀t,t∣L->(∀i,i<n->t∣x i)->(∀i,i<n->t∣u i)/\∀i,i<n->t∣v i | _=>False:=by
  refine run_seq (Qg (r:=⟨.int w,true,[]⟩) (Qm (r:=⟨[Qb 2 n (pairF u v),.int L],false,[]⟩) rfl ew rfl) ?_)
  rw[Qi]
  refine run_seq (Qg (Qay (r:=⟨Qd n u,false,[]⟩) rfl) ?_)
  refine QaP (P:=λρ=>∃(x:Nat->Int) (k:Nat) (b4:Bool),(∀i,i<n->0<=x i/\x i<L)/\(∀i,i<n->L∣x i-(u i+k*v i))/\(∀t,t∣L->(∀i,i<n->t∣x i)->(∀i,i<n->t∣u i)/\∀i,i<n->t∣v i)/\ρ=[some (Qd n u,false),some (Qd n v,false),some (.int L,true),some (.int w,true),some (Qd n x,b4)]) ?_ ?_
  ·refine QhP (λm ρ=>∃(x:Nat->Int) (k:Nat) (b4:Bool),k+m=T/\(∀i,i<n->0<=x i/\x i<L)/\(∀i,i<n->L∣x i-(u i+k*v i))/\ρ=[some (Qd n u,false),some (Qd n v,false),some (.int L,true),some (.int w,true),some (Qd n x,b4)]) ?_ T _ ⟨u,0,false,by omega,hu,λi hi=>by simp,rfl⟩
   rintro m ρ ⟨x,k,b4,hk,hx,hd,rfl⟩
   obtain⟨g,eg,g0,hg⟩:=hi 1 n (pairF x x) L (by decide)
   have hg:∀t,t∣g↔((∀i,i<n->t∣x i)/\t∣L):=λt=>by
    rw[hg t]
    refine⟨λh=>⟨λi hi=>h.1 0 i (by decide) hi,h.2⟩,λh=>⟨λi j hi hj=>?_,h.2⟩⟩
    match i,hi with
    | 0,_=>exact h.1 j hj
   have back:∀t,t∣L->((∀i,i<n->t∣x i)↔∀i,i<n->t∣u i+k*v i):=λt ht=>by
    constructor
    ·intro h i hi
     have:=ZaZ (h i hi) (Int.dvd_trans ht (hd i hi))
     rwa[Int.sub_sub_self]at this
    ·intro h i hi
     have:=Zax (Int.dvd_trans ht (hd i hi)) (h i hi)
     rwa[Zaz]at this
   obtain⟨r4,v4,d4⟩:∃r:HS.R,Qa 4 [some (Qd n u,false),some (Qd n v,false),some (.int L,true),some (.int w,true),some (Qd n x,b4)]=some r/\r.d=Qd n x:=by cases b4<;>exact⟨_,rfl,rfl⟩
   have ecall:Qh 2 di [] (Qc (Qat (Qc (Qa 4) Qe)) (Qc (Qa 2) Qe)) [some (Qd n u,false),some (Qd n v,false),some (.int L,true),some (.int w,true),some (Qd n x,b4)]=some ⟨.int g,true,[]⟩:=Qm (r:=⟨[Qb 1 n (pairF x x),.int L],r4.fr && true && (true && true),r4.M++[]++([]++[])⟩) ((Qq (Qhp (Qq v4 (QK _)) (show 1<=64 by decide)) (Qq rfl (QK _))).trans (by rw[d4];rfl)) eg rfl
   refine⟨!decide (g=w),QM (Qc2 (a:=g) (b:=w) ecall rfl (rb:=⟨.int w,true,[]⟩) rfl rfl) rfl,λh=>?_,λh=>?_⟩
   ·have e:g=w:=by simpa using h
    refine⟨x,k,b4,hx,hd,λt h1 h2=>?_,rfl⟩
    have:=(hg t).mpr ⟨h2,h1⟩
    rw[e,hwd t]at this
    exact⟨this.1,this.2.1⟩
   ·have e:g≠w:=by simpa using h
    have hkT:k≠T:=λz=>e (Int.dvd_antisymm g0 w0 ((hwd g).mpr (by
     have h1:=(hg g).mp (Int.dvd_refl g)
     have h2:=(back g h1.2).mp h1.1
     rw[z]at h2
     have h3:=hT g h1.2 h2
     exact⟨h3.1,h3.2,h1.2⟩)) ((hg w).mpr (by
     have h1:=(hwd w).mp (Int.dvd_refl w)
     exact⟨(back w h1.2.2).mpr λi hi=>Zax (h1.1 i hi) (Int.dvd_mul_of_dvd_right (h1.2.1 i hi)),h1.2.2⟩)))
    refine run_seq (Qg (r:=⟨Qd n λi=>(x i+v i) % L,true,[]⟩) (Qm (r:=⟨[Qd n λi=>x i+v i,.int L],true,[]⟩) (Qq (QI (toD:=λ(i:Nat)=> .tup [.int (x i),.int (v i)]) (out:=λi=> .int (x i+v i)) (List.range n) (QdT (f:=λi=> .int (x i)) (g:=λi=> .int (v i)) v4 d4 (rb:=⟨Qd n v,false,[]⟩) rfl rfl) rfl λi hi=>⟨[none,some (.int (x i),true),some (.int (v i),true)],rfl,⟨.int (x i+v i),true,[]⟩,rfl,rfl,rfl⟩) (Qq (r:=⟨.int L,true,[]⟩) rfl (QK _))) (hw n _ L hL) rfl) (Qy ?_))
    rw[Qi]
    refine⟨m-1,by omega,λi=>(x i+v i) % L,k+1,true,by omega,λi hi=>⟨Zaf _ (by omega),ZW _ hL⟩,λi hi=>?_,rfl⟩
    have h1:=hd i hi
    have h2:L∣(x i+v i)-(x i+v i) % L:=Int.dvd_self_sub_emod
    have:=ZaZ h1 h2
    rwa[show x i-(u i+(k:Int)*v i)-(x i+v i-(x i+v i) % L)=(x i+v i) % L-(u i+((k+1:Nat):Int)*v i) by rw[ZbK,ZaI];omega]at this
  ·rintro ρ ⟨x,k,b4,hx,hd,hc,rfl⟩
   cases b4
   ·exact QD (Qbq (r:=⟨Qd n x,false,[]⟩) rfl ⟨x,k,rfl,hx,hd,hc⟩)
   ·exact QD (Qbq (r:=⟨Qd n x,true,[4]⟩) rfl ⟨x,k,rfl,hx,hd,hc⟩)
 obtain⟨o,h1,h2⟩:=key
 cases o with
 | rt d fr=>
  obtain⟨x,k,rfl,h⟩:=h2
  exact⟨x,fr,k,by show Option.bind (Qir di dw [some (Qd n u,false),some (Qd n v,false),some (.int L,true),none,none]) outD=_;rw[h1];rfl,h⟩
 | _=>exact h2.elim
noncomputable def QdA(Qaq:Den)(Qe4:Den):DS:=(Qf (Qp 2 (Qh 2 Qaq [] (Qc (Qa 0) (Qc (dC (.int 0)) Qe)))) (Qf (Qdn (Qec (dC (.int 1)) (dBf Q8 (Qc (Qa 0) Qe))) (.nm 3) (Qf (Qp 2 (Qh 3 Qe4 [] (Qc (Qa 2) (Qc (Qh 2 Qaq [] (Qc (Qa 0) (Qc (Qa 3) Qe))) (Qc (Qa 1) Qe))))) Qo)) (Qf (QL (Qa 2)) Qo)))
structure Qpv (n m:Nat) (f:Nat->Nat->Int) (L:Int) (x cc:Nat->Int):Prop where
 bd:∀i,i<n->0<=x i/\x i<L
 mix:∀i,i<n->L∣x i-Qt n λj=>cc j*f i j
 cop:∀t,t∣L->(∀i,i<n->t∣x i)->∀i j,i<n->j<m->t∣f i j
def Qnw(d:Den):Prop:=∀(n:Nat) (f:Nat->Nat->Int) (L:Int),0<n->n<=8->0<L->(∀i j,i<n->j<n->0<=f i j/\f i j<L)->∃(x cc:Nat->Int) (fr:Bool),d [Qb n n f,.int L]=some (Qd n x,fr)/\Qpv n n f L x cc
theorem Qt7{dl dm:Den}(hl:QfH dl)(hm:Qk3 dm):Qnw (Ql 4 (QdA dl dm)):=λn f L n0 n8 hL hf=>by
 have key:Run (QdA dl dm) [some (Qb n n f,false),some (.int L,true),none,none] λo=>match o with | .rt d fr=>∃(x cc:Nat->Int),d=Qd n x/\Qpv n n f L x cc | _=>False:=by
  refine run_seq (Qg (r:=⟨Qd n λi=>f i 0,true,[]⟩) (Qm (r:=⟨[Qb n n f,.int (0:Nat)],false,[]⟩) rfl (hl n n f 0 n0) rfl) ?_)
  rw[Qi]
  refine QD (Qb0 (toD:=λ(k:Nat)=> .int ((1:Int)+k)) (List.range (n-1)) (λk ρ=>∃(x cc:Nat->Int) (b2:Bool) (j3:Option (D×Bool)),Qpv n (k+1) f L x cc/\ρ=[some (Qb n n f,false),some (.int L,true),some (Qd n x,b2),j3]) (QlS (i:=1) (j:=n) (n:=n-1) rfl rfl (QaL (n:=n) (m:=n) (f:=f) (r:=⟨Qb n n f,false,[]⟩) rfl rfl) rfl (by omega) (by omega) (by decide) (by decide)) rfl ⟨λi=>f i 0,λj=>if j=0 then 1 else 0,true,none,⟨λi hi=>hf i 0 hi n0,λi hi=>?_,λt h1 h2 i j hi hj=>?_⟩,rfl⟩ ?_ ?_)
  ·rw[QcE n0,ZP,ZbF];exact Int.dvd_zero _
  ·rw[show j=0 by omega];exact h2 i hi
  ·rintro k k' ρ hk ⟨x,cc,b2,j3,I,rfl⟩
   have hk':k<n-1/\k=k':=by
    obtain⟨h1,h2⟩:=Zf.mp hk
    simp at h1 h2;exact⟨h1,h2⟩
   obtain⟨hkn,rfl⟩:=hk'
   refine⟨[some (Qb n n f,false),some (.int L,true),some (Qd n x,b2),some (.int ((1:Int)+k),true)],rfl,?_⟩
   obtain⟨y,fr,K,em,y1,y2,y3⟩:=hm n x (λi=>f i (k+1)) L hL I.bd
   have eK:(1:Int)+k=((k+1:Nat):Int):=by omega
   obtain⟨r2,v2,d2⟩:∃r:HS.R,Qa 2 [some (Qb n n f,false),some (.int L,true),some (Qd n x,b2),some (.int ((1:Int)+k),true)]=some r/\r.d=Qd n x:=by cases b2<;>exact⟨_,rfl,rfl⟩
   have ecol:Qh 2 dl [] (Qc (Qa 0) (Qc (Qa 3) Qe)) [some (Qb n n f,false),some (.int L,true),some (Qd n x,b2),some (.int ((1:Int)+k),true)]=some ⟨Qd n λi=>f i (k+1),true,[]⟩:=Qm (r:=⟨[Qb n n f,.int ((k+1:Nat):Int)],false,[]⟩) (by rw[← eK];rfl) (hl n n f (k+1) (by omega)) rfl
   have ecl:=Qni (n:=3) (dfl:=[]) (den:=dm) (fs:=Qc (Qa 2) (Qc (Qh 2 dl [] (Qc (Qa 0) (Qc (Qa 3) Qe))) (Qc (Qa 1) Qe))) (ρ:=[some (Qb n n f,false),some (.int L,true),some (Qd n x,b2),some (.int ((1:Int)+k),true)]) (r:=⟨[Qd n x,Qd n λi=>f i (k+1),.int L],r2.fr && (true && (true && true)),r2.M++([]++([]++[]))⟩) ((Qq v2 (Qq ecol (Qq (r:=⟨.int L,true,[]⟩) rfl (QK _)))).trans (by rw[d2])) em rfl
   refine run_seq (Qg ecl (Qy ?_))
   refine⟨y,λj=>cc j+(if j=k+1 then(K:Int)else 0),fr,some (.int ((1:Int)+k),true),⟨y1,λi hi=>?_,λt h1 h2 i j hi hj=>?_⟩,?_⟩
   ·have h1:=y2 i hi
    have h2:=I.mix i hi
    have:=Zax h1 h2
    rw[Qr (g:=λj=>cc j*f i j+(if j=k+1 then(K:Int)else 0)*f i j) λj _=>ZaI _ _ _,Qcp,QcE (by omega)]
    rwa[show y i-(x i+(K:Int)*f i (k+1))+(x i-Qt n λj=>cc j*f i j)=y i-((Qt n λj=>cc j*f i j)+(K:Int)*f i (k+1)) by omega]at this
   ·obtain⟨h3,h4⟩:=y3 t h1 h2
    by_cases e:j=k+1
    ·rw[e];exact h4 i hi
    ·exact I.cop t h1 h3 i j hi (by omega)
   ·cases fr
    ·cases b2
     ·have:r2=⟨Qd n x,false,[]⟩:=by injection v2 with z;exact z.symm
      rw[this];rfl
     ·have:r2=⟨Qd n x,true,[2]⟩:=by injection v2 with z;exact z.symm
      rw[this];rfl
    ·rfl
  ·rintro ρ ⟨x,cc,b2,j3,I,rfl⟩
   rw[Zt,show n-1+1=n by omega]at I
   cases b2
   ·exact QD (Qbq (r:=⟨Qd n x,false,[]⟩) rfl ⟨x,cc,rfl,I⟩)
   ·exact QD (Qbq (r:=⟨Qd n x,true,[2]⟩) rfl ⟨x,cc,rfl,I⟩)
 obtain⟨o,h1,h2⟩:=key
 cases o with
 | rt d fr=>
  obtain⟨x,cc,rfl,h⟩:=h2
  exact⟨x,cc,fr,by show Option.bind (QdA dl dm [some (Qb n n f,false),some (.int L,true),none,none]) outD=_;rw[h1];rfl,h⟩
 | _=>exact h2.elim
theorem Qnu{fa:DE}{ρ:En}{ra:HS.R}{n m:Nat}{f:Nat->Nat->Int}(ha:fa ρ=some ra)(ea:ra.d=Qb n m f):QfG fa ρ=some ⟨(List.range n).map λ(i:Nat)=> .tup [.int i,Qd m (f i)],ra.M⟩:=by
 unfold QfG
 rw[ha,Za,ea]
 have:QeZ ((List.range n).map λi=>Qd m (f i))=(List.range n).map λ(i:Nat)=>D.tup [.int i,Qd m (f i)]:=by
  unfold QeZ
  refine List.ext_getElem (by simp) λi h1 h2=>?_
  simp
 show some (IR.mk (QeZ ((List.range n).map λi=>Qd m (f i))) ra.M)=_
 rw[this]
theorem Qtx{x n N k:Nat}{g:Nat->Nat->Int}{p:Nat->Int}{fi fa:DE}{ρ:En}{Q:Out->Prop}(hx:ρ[x]? =some (some (Qb n N g,true)))(hi:fi ρ=some ⟨.int k,true,[]⟩)(ha:fa ρ=some ⟨Qd N p,true,[]⟩)(hk:k<n)
  (q:Q (.nx (ρ.set x (some (Qb n N (λi j=>if i=k then p j else g i j),true))))):Run (QdH x Qbs fi fa) ρ Q:=by
 refine⟨_,?_,q⟩
 unfold QdH
 rw[ha,Za,hx]
 have hn:(HS.R.mk (Qd N p) true []).norm=⟨Qd N p,true,[]⟩:=by unfold R.norm Qd;rfl
 simp only[Qbs,Za,hi,Qb,QbX,Zy,Zt,hn]
 rw[QcL (show(0:Int)<=k by omega) (by omega)]
 simp only[Za,ZJ]
 rw[Qeh hk]
 simp[kill,Qbz]
theorem QvE{n:Nat}(hn:n<=8):bnd (2^240) n<2^1999:=by
 have h:∀k,k<9->bnd (2^240) k<2^1999:=by decide+kernel
 exact h n (by omega)
theorem QcN.QuU{n N k:Nat}{A m R:Nat->Nat->Int}{d:Int}(h:QcN n N k A m R d)(hn:n<=8)(hA:∀j,j<N->∀r,r<n->(A j r).natAbs<=2^240):d.natAbs<2^1999/\∀i j,i<n->j<N->(R i j).natAbs<2^1999:=by
 have b:=QvE hn
 refine⟨?_,λi j hi hj=>?_⟩
 ·rw[← h.clr.det];exact Zae (Qe7 h.col) b
 ·rw[h.clr.ent i j hi hj];exact Zae (Qe7 (h.col.put (hA j hj))) b
noncomputable def Qdu(Qam:Den)(QJ:Den):DS:=(Qf (Qp 1 (dBf Q8 (Qc (Qa 0) Qe))) (Qf (Qp 2 (Qh 1 QJ [] (Qc (QG (QfG (Qa 0)) (.tp [1,2]) [none,none,none,some 1] QN (QX (Qa 2) (Qh 2 Qam [] (Qc (Qa 3) (Qc (Qa 1) Qe))))) Qe))) (Qf (QL (Qdk (Qc (QG (Qag (Qs (Qa 2) (dC (.int 0)))) (.nm 1) [none,none,some 1] QN (Qby (Qa 1) (Qa3 (Qa 2)) Qa6)) (Qc (Qs (Qa 2) (dC (.int 1))) Qe)))) Qo)))
def QkQ(d:Den):Prop:=∀(n:Nat) (f:Nat->Nat->Int),n<=8->(∀i j,i<n->j<n->(f i j).natAbs<=2^240)->(det n λj i=>f i j)≠0->∃P:Nat->Nat->Int,d [Qb n n f]=some (.tup [Qb n n P,.int (det n λj i=>f i j)],true)/\(∀i j,i<n->j<n->prodF n f P i j=(det n λj i=>f i j)*idF i j)/\(∀i j,i<n->j<n->(P i j).natAbs<2^1999)/\(det n λj i=>f i j).natAbs<2^1999
theorem Qsk{du dc:Den}(hu:Qh7 du)(hc:QeC dc):QkQ (Ql 3 (Qdu du dc)):=λn f n8 hf hd=>by
 obtain⟨A,hA⟩:∃A:Nat->Nat->Int,A=λj r=>if j<n then f r j else if j-n=r then 1 else 0:=⟨_,rfl⟩
 have aLow:∀j r,j<n->A j r=f r j:=λj r hj=>by rw[hA];show(if j<n then _ else _)=_;rw[if_pos hj]
 have aUp:∀c r,A (n+c) r=idF c r:=λc r=>by rw[hA];show(if n+c<n then _ else if n+c-n=r then 1 else 0)=_;rw[if_neg (by omega),show n+c-n=c by omega];rfl
 have bA:∀j,j<n+n->∀r,r<n->(A j r).natAbs<=2^240:=λj hj r hr=>by
  by_cases z:j<n
  ·rw[aLow j r z];exact hf r j hr z
  ·rw[show j=n+(j-n) by omega,aUp];unfold idF;split<;>decide
 have dA:det n A=det n λj i=>f i j:=QE λj hj r _=>aLow j r hj
 obtain⟨m,R,b,ec,C⟩:=hc n (n+n) A n8 (by omega) bA (by rw[dA];exact hd)
 obtain⟨sb,sR⟩:=C.QuU n8 bA
 have hb:b=det n λj i=>f i j:=by rw[← dA];exact C.clr.all
 subst hb
 refine⟨λi j=>R i (n+j),QU ?_,λi j hi hj=>?_,λi j hi hj=>sR i (n+j) hi (by omega),sb⟩
 ·refine run_seq (Qg (QaL (n:=n) (m:=n) (f:=f) (r:=⟨Qb n n f,false,[]⟩) rfl rfl) ?_)
  rw[Qi]
  have et:Qb n (n+n) (λi j=>A j i)= .lst ((List.range n).map λi=>Qd (n+n) λj=>if j<n then f i j else(λk=>if k=i then 1 else 0) (j-n)):=by
   unfold Qb
   refine congrArg D.lst (ZG λi _=>Qe9 λj _=>?_)
   rw[hA]
  refine run_seq (Qg (r:=⟨.tup [Qb n (n+n) R,.int (det n λj i=>f i j)],false,[]⟩) ((Qeu (r:=⟨[Qb n (n+n) λi j=>A j i],true,[]⟩) (Qq (r:=⟨Qb n (n+n) λi j=>A j i,true,[]⟩) ?_ (QK _)) ec rfl).trans rfl) ?_)
  ·rw[et]
   exact QI (toD:=λ(i:Nat)=> .tup [.int i,Qd n (f i)]) (out:=λ(i:Nat)=>Qd (n+n) λj=>if j<n then f i j else(λk=>if k=i then 1 else 0) (j-n)) (List.range n) (Qnu (n:=n) (m:=n) (f:=f) (ra:=⟨Qb n n f,false,[]⟩) rfl rfl) rfl λi _=>⟨[none,some (.int i,true),some (Qd n (f i),false),some (.int n,true)],rfl,⟨Qd (n+n) λj=>if j<n then f i j else(λk=>if k=i then 1 else 0) (j-n),true,[]⟩,Qmr (m:=n) (k:=n) (f:=f i) (g:=λk=>if k=i then 1 else 0) (ra:=⟨Qd n (f i),false,[]⟩) rfl rfl (Qm (r:=⟨[.int n,.int i],true,[]⟩) rfl (hu n i (by omega)) rfl) rfl (by omega),rfl,rfl⟩
  ·refine QC (r:=⟨.tup [Qb n n λi j=>R i (n+j),.int (det n λj i=>f i j)],true,[]⟩) ?_ ⟨rfl,rfl⟩
   have e1:QG (Qag (Qs (Qa 2) (dC (.int 0)))) (.nm 1) [none,none,some 1] QN (Qby (Qa 1) (Qa3 (Qa 2)) Qa6) [some (Qb n n f,false),some (.int n,true),some (.tup [Qb n (n+n) R,.int (det n λj i=>f i j)],false)]=some ⟨Qb n n λi j=>R i (n+j),true,[]⟩:=
    QI (toD:=λ(i:Nat)=>Qd (n+n) (R i)) (out:=λ(i:Nat)=>Qd n λj=>R i (n+j)) (List.range n) (Qal (r:=⟨Qb n (n+n) R,false,[]⟩) rfl rfl) rfl λi _=>⟨[none,some (Qd (n+n) (R i),false),some (.int n,true)],rfl,⟨Qd n λj=>R i (n+j),true,[]⟩,(Qjl (m:=n+n) (n:=n) (f:=R i) (ra:=⟨Qd (n+n) (R i),false,[]⟩) (rb:=⟨.int n,true,[]⟩) rfl rfl rfl rfl (by omega)).trans (by rw[show n+n-n=n by omega]),rfl,rfl⟩
   change Qdk (Qc (QG (Qag (Qs (Qa 2) (dC (.int 0)))) (.nm 1) [none,none,some 1] QN (Qby (Qa 1) (Qa3 (Qa 2)) Qa6)) (Qc (Qs (Qa 2) (dC (.int 1))) Qe)) [some (Qb n n f,false),some (.int n,true),some (.tup [Qb n (n+n) R,.int (det n λj i=>f i j)],false)]=_
   unfold Qdk
   rw[Qq e1 (Qq (fa:=Qs (Qa 2) (dC (.int 1))) (r:=⟨.int (det n λj i=>f i j),true,[]⟩) rfl (QK _))]
   rfl
 ·have t:=C.clr.tell (j:=n+j) (r:=i) (by omega) hi
  rw[aUp]at t
  have e:idF j i=idF i j:=by
   unfold idF
   by_cases z:i=j
   ·rw[if_pos z,if_pos z.symm]
   ·rw[if_neg z,if_neg (Ne.symm z)]
  rw[← e,t,Qim]
  exact Qr λl hl=>by rw[C.clr.own l hl,aLow l i hl,Zac]
theorem RT.start{n:Nat}{A P:Nat->Nat->Int}{w W:Int}(hW:0<W)(hw:W∣w)(hA:∀i j,i<n->j<n->prodF n A P i j=w*idF i j):RT n n A P W 1 W idF idF P λ_=>1:=by
 have u:Qa0 n idF idF:=λi j hi hj=>Qct _ _ hi
 refine⟨Zj n,u,u,hW,ZP W,λi j h1 h2=>by omega,λi j hi hj=>?_,λi j hi hj=>?_,λ_ _=>rfl,λj h1 h2=>by omega,λi j h1 h2=>by omega,λi j h1 h2=>by omega,λj h1 h2=>by omega,λh=>by omega⟩
 ·rw[Qaf (a':=A) (b':=P) (λk hk=>QgW A i hk) (λ_ _=>rfl),hA i j hi hj]
  exact Zan hw
 ·rw[Qct P j hi,ZP,ZbF];exact Int.dvd_zero _
noncomputable def Qdj(QR:Den)(QaE:Den)(QaI:Den)(Qcl:Den)(QbI:Den)(Qbd:Den)(Q3:Den):DS:=(Qf (Qp 2 (dBf Q8 (Qc (Qa 0) Qe))) (Qf (Qp 3 (Qh 1 QR [] (Qc (Qa 2) Qe))) (Qf (Qp 4 (Qh 1 QR [] (Qc (Qa 2) Qe))) (Qf (Qp 5 (QaM (Qat (Qc (dC (.int 1)) Qe)) (Qa 2))) (Qf (Qp 6 (Q7 (Qa 0))) (Qf (Qp 7 (dBf Qjj (Qc (Qa 1) Qe))) (Qf (Qdn (QgB (dOp Qa9 (Qa 2) (dC (.int 1))) (Qo2 (dC (.int 1))) (Qo2 (dC (.int 1)))) (.nm 8) (Qf (Qp 9 (Qh 2 QaE [] (Qc (Qa 6) (Qc (Qa 7) Qe)))) (Qf (Qp 7 (dOp Qcn (Qa 7) (Qa 9))) (Qf (sIf (QO (dOp gEq (Qa 7) (dC (.int 1)))) (Qf QpK Qo) Qo) (Qf (Qp 6 (QG (Qag (Qa 6)) (.nm 1) [none,none,some 7,some 9] QN (Qh 2 Qcl [] (Qc (Qh 2 QaI [] (Qc (Qa 1) (Qc (Qa 3) Qe))) (Qc (Qa 2) Qe))))) (Qf (QdH 5 Qbs (Qa 8) (Qa 7)) (Qf (Qp 10 (Qh 2 Qbd [] (Qc (Qh 2 QbI [] (Qc (Qa 6) (Qc (Qa 7) Qe))) (Qc (Qa 8) Qe)))) (Qf (Qp 3 (Qh 2 Q3 [] (Qc (Qa 3) (Qc (Qs (Qa 10) (dC (.int 1))) Qe)))) (Qf (Qp 4 (Qh 2 Q3 [] (Qc (Qs (Qa 10) (dC (.int 0))) (Qc (Qa 4) Qe)))) (Qf (Qp 6 (Qh 2 Q3 [] (Qc (Qs (Qa 10) (dC (.int 0))) (Qc (Qa 6) Qe)))) (Qf (QdH 6 Qbs (Qa 8) (QaM (Qat (Qc (dC (.int 0)) Qe)) (Qa 2))) Qo))))))))))) (Qf (QL (Qdk (Qc (Qa 3) (Qc (Qa 4) (Qc (Qa 5) Qe))))) Qo))))))))
def Qap(n k:Nat)(f:Nat->Nat->Int):Prop:=∀i j,i<n->j<n->(f i j).natAbs<=2^k
theorem Qap.bits{n k:Nat}{f:Nat->Nat->Int}(h:Qap n k f)(hk:k<2^20):Qpg n f:=λi j hi hj=>QgP (k:=k+1) (by
 have:=h i j hi hj
 have:(2:Nat)^k<2^(k+1):=Nat.pow_lt_pow_right (by decide) (by omega)
 omega) (by omega)
theorem Qap.prod{n k l:Nat}{f g:Nat->Nat->Int}(hn:n<=8)(h1:Qap n k f)(h2:Qap n l g):Qap n (k+l+3) (prodF n f g):=λi j hi hj=>by
 have h:(prodF n f g i j).natAbs<=n*2^(k+l):=QsM λm hm=>by
  rw[ZK,Nat.pow_add]
  exact Zav (h1 i m hi hm) (h2 m j hm hj)
 have h3:n*2^(k+l)<=8*2^(k+l):=Zbk _ hn
 have h4:(2:Nat)^(k+l+3)=8*2^(k+l):=by rw[Nat.pow_add,ZaF]
 omega
theorem Qap.mono{n k l:Nat}{f:Nat->Nat->Int}(h:Qap n k f)(hk:k<=l):Qap n l f:=λi j hi hj=>Zq (h i j hi hj) (ZU (by decide) hk)
theorem Qap.id(n k:Nat):Qap n k idF:=λi j _ _=>by
 have:0<(2:Nat)^k:=Nat.pow_pos (by decide)
 unfold idF
 split
 ·show 1<=_;omega
 ·exact ZT _
def Qk6(d:Den):Prop:=∀(n:Nat) (A P:Nat->Nat->Int) (w:Int),0<n->n<=8->w≠0->w.natAbs<2^1999->(∀i j,i<n->j<n->prodF n A P i j=w*idF i j)->∃(R Rb:Nat->Nat->Int) (len:Nat->Int),d [Qb n n P,.int w]=some (.tup [Qb n n R,Qb n n Rb,Qd n len],true)/\Qik n A P (w.natAbs:Int) R Rb len/\Qap n 130000 R/\Qap n 130000 Rb/\∀j,j<n->(len j).natAbs<2^1999
structure RTI (n k:Nat) (A P:Nat->Nat->Int) (W c L:Int) (R Rb S:Nat->Nat->Int) (len:Nat->Int):Prop where
 kn:k<=n
 rt:RT n (n-k) A P W c L R Rb S len
 bR:Qap n (16003*k) R
 bB:Qap n (16003*k) Rb
 Ll:L<2^1999
 ll:∀j,j<n->(len j).natAbs<2^1999
theorem Qs7{du di ds dw df dc dp:Den}(hu:Qgj du)(hi:Qiz di)(hs:QgT ds)(hw:QgZ dw)(hf:Qnw df)(hc:Qlt dc)(hp:QfO dp):Qk6 (Ql 11 (Qdj du di ds dw df dc dp)):=λn A P w n0 n8 w0 wl hA=>by
 obtain⟨W,hW⟩:∃W:Int,W=w.natAbs:=⟨_,rfl⟩
 have W0:0<W:=by omega
 have Ww:W∣w:=by rw[hW];exact Int.natAbs_dvd.mpr (Int.dvd_refl w)
 have Wl:W<2^1999:=by rw[hW];exact_mod_cast wl
 rw[← hW]
 have key:Run (Qdj du di ds dw df dc dp) [some (Qb n n P,false),some (.int w,true),none,none,none,none,none,none,none,none,none] λo=>match o with | .rt d fr=>fr=true/\∃(R Rb:Nat->Nat->Int) (len:Nat->Int),d= .tup [Qb n n R,Qb n n Rb,Qd n len]/\Qik n A P W R Rb len/\Qap n 130000 R/\Qap n 130000 Rb/\(∀j,j<n->(len j).natAbs<2^1999) | _=>False:=by
  refine run_seq (Qg (QaL (n:=n) (m:=n) (f:=P) (r:=⟨Qb n n P,false,[]⟩) rfl rfl) ?_)
  rw[Qi]
  refine run_seq (Qg (r:=⟨Qb n n idF,true,[]⟩) (Qm (r:=⟨[.int n],true,[]⟩) rfl (hu n (by omega)) rfl) ?_)
  rw[Qi]
  refine run_seq (Qg (r:=⟨Qb n n idF,true,[]⟩) (Qm (r:=⟨[.int n],true,[]⟩) rfl (hu n (by omega)) rfl) ?_)
  rw[Qi]
  refine run_seq (Qg (Qms (n:=n) (z:=1) (r:=⟨.int n,true,[]⟩) rfl rfl (by omega)) ?_)
  rw[Qi]
  refine run_seq (Qg (Qay (r:=⟨Qb n n P,false,[]⟩) rfl) ?_)
  refine run_seq (Qg (r:=⟨.int W,true,[]⟩) ?_ ?_)
  ·show some (HS.R.mk (.int (if w<0 then-w else w)) true [])=_
   rw[hW,show(if w<0 then-w else w)=(w.natAbs:Int) by split<;>omega]
  rw[Qi]
  change Nx _ (.nx [some (Qb n n P,false),some (.int w,true),some (.int n,true),some (Qb n n idF,true),some (Qb n n idF,true),some (Qd n λ_=>1,true),some (Qb n n P,false),some (.int W,true),none,none,none])
  refine QaP (P:=λρ=>∃(R Rb:Nat->Nat->Int) (len:Nat->Int) (j6 j7 j8 j9 j10:Option (D×Bool)),Qik n A P W R Rb len/\Qap n 130000 R/\Qap n 130000 Rb/\(∀j,j<n->(len j).natAbs<2^1999)/\ρ=[some (Qb n n P,false),some (.int w,true),some (.int n,true),some (Qb n n R,true),some (Qb n n Rb,true),some (Qd n len,true),j6,j7,j8,j9,j10]) ?_ ?_
  ·refine Qb0 (toD:=λ(k:Nat)=> .int ((n:Int)-1-k)) (List.range n) (λk ρ=>∃(R Rb S:Nat->Nat->Int) (len:Nat->Int) (c L:Int) (b6:Bool) (j8 j9 j10:Option (D×Bool)),RTI n k A P W c L R Rb S len/\ρ=[some (Qb n n P,false),some (.int w,true),some (.int n,true),some (Qb n n R,true),some (Qb n n Rb,true),some (Qd n len,true),some (Qb n n S,b6),some (.int L,true),j8,j9,j10]) (QqL (n:=n) (QhS (a:=n) (b:=1) (ra:=⟨.int n,true,[]⟩) rfl rfl rfl rfl) rfl (rb:=⟨.int (-1),true,[]⟩) rfl rfl (rc:=⟨.int (-1),true,[]⟩) rfl rfl (by omega)) rfl ⟨idF,idF,P,λ_=>1,1,W,false,none,none,none,⟨by omega,by rw[Nat.sub_zero];exact RT.start W0 Ww hA,Qap.id n _,Qap.id n _,Wl,λj hj=>by show(1:Int).natAbs<2^1999;exact Zm (by decide) (ZU (n:=2) (by decide) (show 1<=1999 by decide))⟩,rfl⟩ ?_ ?_
   ·rintro k k' ρ hk ⟨R,Rb,S,len,c,L,b6,j8,j9,j10,I,rfl⟩
    have hk':k<n/\k=k':=by
     obtain⟨h1,h2⟩:=Zf.mp hk
     simp at h1 h2;exact⟨h1,h2⟩
    obtain⟨hkn,rfl⟩:=hk'
    obtain⟨last,hlast⟩:∃last,last=n-1-k:=⟨_,rfl⟩
    have el:(n:Int)-1-k=(last:Int):=by omega
    have ek:n-k=last+1:=by omega
    have hln:last<n:=by omega
    obtain⟨kn,rt,bR,bB,Ll,ll⟩:=I
    rw[ek]at rt
    refine⟨[some (Qb n n P,false),some (.int w,true),some (.int n,true),some (Qb n n R,true),some (Qb n n Rb,true),some (Qd n len,true),some (Qb n n S,b6),some (.int L,true),some (.int (last:Int),true),j9,j10],by rw[el];rfl,?_⟩
    obtain⟨part,ep,p0,hpd⟩:=hi n n S L (by omega)
    have pp:=(hpd part).mp (Int.dvd_refl part)
    have L0:=rt.L0
    obtain⟨L',eL⟩:=pp.2
    have pz:part≠0:=λz=>by rw[z,ZE]at eL;omega
    have p1:0<part:=by omega
    have pL:part.natAbs<2^2000:=by
     have h1:=Int.le_of_dvd L0 pp.2
     have h2:(2:Int)^1999<2^2000:=by decide
     have h3:((part.natAbs:Nat):Int)<((2^2000:Nat):Int):=by rw[Int.natAbs_of_nonneg p0];push_cast;omega
     omega
    have L0':0<L':=by
     refine Zas λz=>?_
     have:=ZaA (a:=part) (b:=L') (by omega) (by omega)
     omega
    have Ll':L'<2^1999:=by
     have:L'<=L:=by
      have:=Int.mul_le_mul_of_nonneg_right (show 1<=part by omega) (show 0<=L' by omega)
      omega
     omega
    have ll':L'.natAbs<2^1999:=by
     have h3:((L'.natAbs:Nat):Int)<((2^1999:Nat):Int):=by rw[Int.natAbs_of_nonneg (by omega)];push_cast;omega
     omega
    obtain⟨r6,v6,d6⟩:∃r:HS.R,Qa 6 [some (Qb n n P,false),some (.int w,true),some (.int n,true),some (Qb n n R,true),some (Qb n n Rb,true),some (Qd n len,true),some (Qb n n S,b6),some (.int L,true),some (.int (last:Int),true),j9,j10]=some r/\r.d=Qb n n S:=by cases b6<;>exact⟨_,rfl,rfl⟩
    refine run_seq (Qg (r:=⟨.int part,true,[]⟩) (Qm (r:=⟨[Qb n n S,.int L],r6.fr && (true && true),r6.M++([]++[])⟩) ((Qq v6 (Qq (r:=⟨.int L,true,[]⟩) rfl (QK _))).trans (by rw[d6])) ep rfl) ?_)
    rw[Qi]
    refine run_seq (Qg (r:=⟨.int L',true,[]⟩) (Qer (a:=L) (b:=part) (q:=L') (ra:=⟨.int L,true,[]⟩) rfl rfl (rb:=⟨.int part,true,[]⟩) rfl rfl pz pL eL) ?_)
    rw[Qi]
    change Nx _ (.nx [some (Qb n n P,false),some (.int w,true),some (.int n,true),some (Qb n n R,true),some (Qb n n Rb,true),some (Qd n len,true),some (Qb n n S,b6),some (.int L',true),some (.int (last:Int),true),some (.int part,true),j10])
    have hS:=λi j (hi:i<n) (hj:j<n)=>pp.1 i j hi hj
    refine QD (Qad (b:=decide (L'=1)) (QM (Qb1 (a:=L') (b:=1) (ra:=⟨.int L',true,[]⟩) rfl rfl rfl rfl) rfl) (λh=>?_) (λh=>Qy ?_))
    ·have h1:L'=1:=of_decide_eq_true h
     have:L=part:=by rw[eL,h1,Zal]
     refine QD ⟨_,rfl,R,Rb,len,_,_,_,_,_,rt.stop λi j hi hj=>by rw[this];exact hS i j hi hj,bR.mono (by omega),bB.mono (by omega),ll,rfl⟩
    have hone:L'≠1:=of_decide_eq_false h
    have hSq:∀i j,i<n->j<n->S i j=part*(S i j / part):=λi j hi hj=>(Int.mul_ediv_cancel' (hS i j hi hj)).symm
    obtain⟨r6',v6',d6'⟩:∃r:HS.R,Qa 6 [some (Qb n n P,false),some (.int w,true),some (.int n,true),some (Qb n n R,true),some (Qb n n Rb,true),some (Qd n len,true),some (Qb n n S,b6),some (.int L',true),some (.int (last:Int),true),some (.int part,true),j10]=some r/\r.d=Qb n n S:=by cases b6<;>exact⟨_,rfl,rfl⟩
    refine run_seq (Qg (r:=⟨Qb n n λi j=>S i j / part % L',true,[]⟩) (QI (toD:=λ(i:Nat)=>Qd n (S i)) (out:=λ(i:Nat)=>Qd n λj=>S i j / part % L') (List.range n) (Qal v6' d6') rfl λi hi=>⟨[none,some (Qd n (S i),false),some (.int L',true),some (.int part,true)],rfl,⟨Qd n λj=>S i j / part % L',true,[]⟩,Qm (r:=⟨[Qd n λj=>S i j / part,.int L'],true,[]⟩) (Qq (r:=⟨Qd n λj=>S i j / part,true,[]⟩) (Qm (r:=⟨[Qd n (S i),.int part],false,[]⟩) rfl (hs n (S i) (λj=>S i j / part) part pz pL λj hj=>hSq i j (Zp.mp hi) hj) rfl) (Qq (r:=⟨.int L',true,[]⟩) rfl (QK _))) (hw n _ L' L0') rfl,rfl,rfl⟩) ?_)
    rw[Qi]
    refine run_seq (Qto (x:=5) (m:=n) (f:=len) (i:=(last:Int)) (v:=L') (ri:=⟨.int (last:Int),true,[]⟩) (ra:=⟨.int L',true,[]⟩) rfl rfl rfl rfl rfl (by omega) (by omega) ?_)
    rw[ZJ]
    change Nx _ (.nx [some (Qb n n P,false),some (.int w,true),some (.int n,true),some (Qb n n R,true),some (Qb n n Rb,true),some (Qd n (up len last L'),true),some (Qb n n λi j=>S i j / part % L',true),some (.int L',true),some (.int (last:Int),true),some (.int part,true),j10])
    have bS1:∀i j,i<n->j<n->0<=S i j / part % L'/\S i j / part % L'<L':=λi j _ _=>⟨Zaf _ (by omega),ZW _ L0'⟩
    obtain⟨x,cc,fr,ef,FI⟩:=hf n (λi j=>S i j / part % L') L' n0 n8 L0' bS1
    obtain⟨T,B,g,ec,sp,bT,bBk⟩:=hc n last x hln n8 λi hi=>⟨(FI.bd i hi).1,by have:=(FI.bd i hi).2;omega⟩
    have hz:∀i j,last<i->i<n->j<n->S i j / part % L'=0:=λi j h1 h2 h3=>by rw[rt.low i j (by omega) h2 h3];simp
    have rt':=rt.step (Sq:=λi j=>S i j / part) (S1:=λi j=>S i j / part % L') (x:=x) (cc:=cc) (T:=T) (B:=B) (g:=g) p1 eL hSq (λi j _ _=>Int.dvd_self_sub_emod) hz (λt h1 h2=>by
     have a1:part*t∣part:=(hpd (part*t)).mpr ⟨λi j hi hj=>by rw[hSq i j hi hj];exact Int.mul_dvd_mul_left part (h2 i j hi hj),by rw[eL];exact Int.mul_dvd_mul_left part h1⟩
     have a2:t∣1:=Int.dvd_of_mul_dvd_mul_left pz (by rw[Zal];exact a1)
     have:=ZX.mpr a2
     exact Nat.eq_one_of_dvd_one this) FI.mix (λi h1 h2=>by
     have a1:=FI.mix i h2
     rw[Qr (g:=λ_=>0) λj hj=>by rw[hz i j h1 h2 hj,ZA],QhA,Int.sub_zero]at a1
     have a2:=FI.bd i h2
     rw[← Int.emod_eq_of_lt a2.1 a2.2];exact Int.emod_eq_zero_of_dvd a1) FI.cop sp
    have ecf:=Qni (n:=2) (dfl:=[]) (den:=df) (fs:=Qc (Qa 6) (Qc (Qa 7) Qe)) (ρ:=[some (Qb n n P,false),some (.int w,true),some (.int n,true),some (Qb n n R,true),some (Qb n n Rb,true),some (Qd n (up len last L'),true),some (Qb n n λi j=>S i j / part % L',true),some (.int L',true),some (.int (last:Int),true),some (.int part,true),j10]) (r:=⟨[Qb n n λi j=>S i j / part % L',.int L'],true,[6]⟩) rfl ef rfl
    have efree:∃r:HS.R,Qh 2 df [] (Qc (Qa 6) (Qc (Qa 7) Qe)) [some (Qb n n P,false),some (.int w,true),some (.int n,true),some (Qb n n R,true),some (Qb n n Rb,true),some (Qd n (up len last L'),true),some (Qb n n λi j=>S i j / part % L',true),some (.int L',true),some (.int (last:Int),true),some (.int part,true),j10]=some r/\r.d=Qd n x:=by
     cases fr
     ·exact⟨_,ecf,rfl⟩
     ·exact⟨_,ecf,rfl⟩
    obtain⟨rf,vf,dfx⟩:=efree
    refine run_seq (Qg (r:=⟨.tup [Qb n n T,Qb n n B],true,[]⟩) (Qm (r:=⟨[Qd n x,.int last],rf.fr && (true && true),rf.M++([]++[])⟩) ((Qq vf (Qq (r:=⟨.int last,true,[]⟩) rfl (QK _))).trans (by rw[dfx])) ec rfl) ?_)
    rw[Qi]
    change Nx _ (.nx [some (Qb n n P,false),some (.int w,true),some (.int n,true),some (Qb n n R,true),some (Qb n n Rb,true),some (Qd n (up len last L'),true),some (Qb n n λi j=>S i j / part % L',true),some (.int L',true),some (.int (last:Int),true),some (.int part,true),some (.tup [Qb n n T,Qb n n B],true)])
    have BT:Qap n 16000 T:=bT
    have BB:Qap n 16000 B:=bBk
    have kk:16003*k+16000+3=16003*(k+1):=by omega
    have B1:Qap n 1999 λi j=>S i j / part % L':=λi j hi hj=>by
     show(S i j / part % L').natAbs<=2^1999
     have h3:(((S i j / part % L').natAbs:Nat):Int)<((2^1999:Nat):Int):=by rw[Int.natAbs_of_nonneg (bS1 i j hi hj).1];push_cast;have:=(bS1 i j hi hj).2;omega
     omega
    refine run_seq (Qg (r:=⟨Qb n n (prodF n R B),true,[]⟩) (Qm (r:=⟨[Qb n n R,Qb n n B],true,[3,10]⟩) rfl (hp n R B (by omega) (bR.bits (by omega)) (BB.bits (by decide))) rfl) ?_)
    rw[Qi]
    refine run_seq (Qg (r:=⟨Qb n n (prodF n T Rb),true,[]⟩) (Qm (r:=⟨[Qb n n T,Qb n n Rb],true,[10,4]⟩) rfl (hp n T Rb (by omega) (BT.bits (by decide)) (bB.bits (by omega))) rfl) ?_)
    rw[Qi]
    refine run_seq (Qg (r:=⟨Qb n n (prodF n T λi j=>S i j / part % L'),true,[]⟩) (Qm (r:=⟨[Qb n n T,Qb n n λi j=>S i j / part % L'],true,[10,6]⟩) rfl (hp n T _ (by omega) (BT.bits (by decide)) (B1.bits (by decide))) rfl) ?_)
    rw[Qi]
    change Nx _ (.nx [some (Qb n n P,false),some (.int w,true),some (.int n,true),some (Qb n n (prodF n R B),true),some (Qb n n (prodF n T Rb),true),some (Qd n (up len last L'),true),some (Qb n n (prodF n T λi j=>S i j / part % L'),true),some (.int L',true),some (.int (last:Int),true),some (.int part,true),some (.tup [Qb n n T,Qb n n B],true)])
    refine run_seq (Qtx (x:=6) (n:=n) (N:=n) (k:=last) (g:=prodF n T λi j=>S i j / part % L') (p:=λ_=>0) rfl rfl (Qms (n:=n) (z:=0) (r:=⟨.int n,true,[]⟩) rfl rfl (by omega)) hln (Qy ?_))
    refine⟨_,_,_,up len last L',c*part,L',true,_,_,_,⟨by omega,?_,?_,?_,Ll',λj hj=>?_⟩,rfl⟩
    ·rw[show n-(k+1)=last by omega];exact rt'
    ·rw[← kk];exact bR.prod n8 BB
    ·rw[← kk,show 16003*k+16000+3=16000+16003*k+3 by omega];exact BT.prod n8 bB
    ·rw[Qcz]
     split
     ·exact ll'
     ·exact ll j hj
   ·rintro ρ ⟨R,Rb,S,len,c,L,b6,j8,j9,j10,I,rfl⟩
    rw[Zt]at I
    obtain⟨kn,rt,bR,bB,Ll,ll⟩:=I
    rw[Nat.sub_self]at rt
    exact⟨R,Rb,len,_,_,_,_,_,rt.done,bR.mono (by omega),bB.mono (by omega),ll,rfl⟩
  ·rintro ρ ⟨R,Rb,len,j6,j7,j8,j9,j10,rg,b1,b2,ll,rfl⟩
   exact QC (r:=⟨.tup [Qb n n R,Qb n n Rb,Qd n len],true,[3,4,5]⟩) rfl ⟨rfl,R,Rb,len,rfl,rg,b1,b2,ll⟩
 obtain⟨o,h1,h2⟩:=key
 cases o with
 | rt d fr=>
  obtain⟨rfl,R,Rb,len,rfl,h⟩:=h2
  exact⟨R,Rb,len,by show Option.bind (Qdj du di ds dw df dc dp [some (Qb n n P,false),some (.int w,true),none,none,none,none,none,none,none,none,none]) outD=_;rw[h1];rfl,h⟩
 | _=>exact h2.elim
theorem Quu{n:Nat}{m:Nat->Nat->Int}{y:Nat->Int}(hd:det n m≠0)(h:∀r,r<n->sm n (λl=>y l*m l r)=0):∀k,k<n->y k=0:=λk hk=>by
 have e1:det n (cup m k λr=>sm n λl=>y l*m l r)=y k*det n m:=by
  rw[Qe6 hk y m n,Qdo hk λi hi ne=>by rw[Qd2 (i:=i) (j:=k) hi hk ne (by rw[Qv,Qu _ _ ne]),ZA],Q9]
 have e2:det n (cup m k λr=>sm n λl=>y l*m l r)=0:=by
  rw[QE (k:=cup m k λr=>0*m k r) λj hj r hr=>by
   by_cases e:j=k
   ·subst e;rw[Qv,Qv,h r hr,ZE]
   ·rw[Qu _ _ e,Qu _ _ e],QdQ hk,ZE]
 rw[e2]at e1
 rcases Int.mul_eq_zero.mp e1.symm with z | z
 ·exact z
 ·exact absurd z hd
theorem Qrj{n:Nat}{A P:Nat->Nat->Int}{w:Int}(hd:(det n λj i=>A i j)≠0)(h:∀i j,i<n->j<n->prodF n A P i j=w*idF i j):∀i j,i<n->j<n->prodF n P A i j=w*idF i j:=λi j hi hj=>by
 have:=Quu (n:=n) (m:=λj i=>A i j) (y:=λl=>prodF n P A l j-w*idF l j) hd (λr hr=>by
  rw[Qim]
  have e1:(Qt n λl=>(prodF n P A l j-w*idF l j)*A r l)=prodF n A (prodF n P A) r j-w*prodF n A idF r j:=by
   unfold prodF
   rw[← Qac,← Qjg]
   exact Qr λl _=>by grind
  rw[e1,← Qax,Qaf (a':=λi j=>w*idF i j) (b':=A) (λk hk=>h r k hr hk) (λ_ _=>rfl),QgW _ _ hj]
  have e2:prodF n (λi j=>w*idF i j) A r j=w*prodF n idF A r j:=by
   unfold prodF
   rw[← Qac]
   exact Qr λl _=>ZC _ _ _
  rw[e2,Qct _ _ hr,ZbF]) i hi
 omega
structure Qml (n:Nat) (f Lf R Lb Rb:Nat->Nat->Int) (len:Nat->Int):Prop where
 u1:Qa0 n R Rb
 u2:Qa0 n Rb R
 v1:Qa0 n Lf Lb
 v2:Qa0 n Lb Lf
 mid:∀i j,i<n->j<n->prodF n (prodF n Lf f) R i j=len i*idF i j
 pos:∀j,j<n->0<len j
 nxt:∀j,j+1<n->len j∣len (j+1)
theorem Qsu{n:Nat}{f P R Rb Lf Lb:Nat->Nat->Int}{w W:Int}{len:Nat->Int}(w0:w≠0)(hd:(det n λj i=>f i j)≠0)(hP:∀i j,i<n->j<n->prodF n f P i j=w*idF i j)(rg:Qik n f P W R Rb len)
  (hL:∀i j,i<n->j<n->len i*prodF n Rb P i j=w*Lf i j) (hB:∀i j,i<n->j<n->prodF n f R i j=len j*Lb i j):Qml n f Lf R Lb Rb len:=by
 have hPA:=Qrj hd hP
 have key:∀i j,i<n->j<n->prodF n (prodF n Rb P) (prodF n f R) i j=w*idF i j:=λi j hi hj=>by
  rw[Qax,← Qax n P f R,Qaf (a':=Rb) (b':=λi j=>w*R i j) (λ_ _=>rfl) λk hk=>?_]
  ·have:prodF n Rb (λi j=>w*R i j) i j=w*prodF n Rb R i j:=by
    unfold prodF
    rw[← Qac]
    exact Qr λl _=>ZF _ _ _
   rw[this,rg.u2 i j hi hj]
  ·rw[Qaf (a':=λi j=>w*idF i j) (b':=R) (λl hl=>hPA k l hk hl) (λ_ _=>rfl)]
   have:prodF n (λi j=>w*idF i j) R k j=w*prodF n idF R k j:=by
    unfold prodF
    rw[← Qac]
    exact Qr λl _=>ZC _ _ _
   rw[this,Qct _ _ hk]
 have kL:∀i j,i<n->j<n->w*prodF n Lf (prodF n f R) i j=len i*(w*idF i j):=λi j hi hj=>by
  rw[← key i j hi hj]
  unfold prodF
  rw[← Qac,← Qac]
  refine Qr λk hk=>?_
  have:=hL i k hi hk
  unfold prodF at this
  rw[← ZC,← this,ZC]
 refine⟨rg.u1,rg.u2,λi j hi hj=>?_,λi j hi hj=>?_,λi j hi hj=>?_,rg.pos,rg.nxt⟩
 ·have h1:=kL i j hi hj
  have h2:prodF n Lf (prodF n f R) i j=len j*prodF n Lf Lb i j:=by
   unfold prodF
   rw[← Qac]
   refine Qr λk hk=>?_
   have:=hB k j hk hj
   unfold prodF at this
   rw[this,ZF]
  have lj:=rg.pos j hj
  have h3:w*len j*prodF n Lf Lb i j=w*len j*idF i j:=by
   rw[ZC,← h2,h1]
   unfold idF
   by_cases e:i=j
   ·subst e;rw[if_pos rfl];grind
   ·rw[if_neg e];grind
  exact Zah (Int.mul_ne_zero w0 (by omega)) h3
 ·have h1:w*prodF n Lb Lf i j=w*idF i j:=by
   rw[← hP i j hi hj]
   have e:prodF n f P i j=prodF n (prodF n f R) (prodF n Rb P) i j:=by
    have hk':∀k,k<n->prodF n (prodF n R Rb) P k j=P k j:=λk hk=>by
     rw[Qaf (a':=idF) (b':=P) (λl hl=>rg.u1 k l hk hl) (λ_ _=>rfl),Qct _ _ hk]
    rw[Qax,← Qax n R Rb P]
    exact Qaf (λ_ _=>rfl) λk hk=>(hk' k hk).symm
   rw[e]
   show w*Qt n (λk=>Lb i k*Lf k j)=Qt n λk=>prodF n f R i k*prodF n Rb P k j
   rw[← Qac]
   exact Qr λk hk=>by rw[hB i k hi hk,ZF,← hL k j hk hj];grind
  exact Zah w0 h1
 ·rw[Qax]
  have h1:=kL i j hi hj
  have:w*prodF n Lf (prodF n f R) i j=w*(len i*idF i j):=by rw[h1];exact ZF _ _ _
  exact Zah w0 this
noncomputable def Qdy(Qak:Den)(Qan:Den)(QaV:Den)(QR:Den)(QaI:Den)(Q3:Den)(QW:Den):DS:=(Qf (Qp 1 (Qh 1 Qak [] (Qc (Qa 0) Qe))) (Qf (Qp 2 (Qh 2 Qan [] (Qc (Qs (Qa 1) (dC (.int 0))) (Qc (Qs (Qa 1) (dC (.int 1))) Qe)))) (Qf (Qp 3 (Q7 (Qs (Qa 2) (dC (.int 0))))) (Qf (Qp 4 (Q7 (Qs (Qa 2) (dC (.int 1))))) (Qf (Qp 5 (Q7 (Qs (Qa 2) (dC (.int 2))))) (Qf (Qp 6 (QG (QbO (Qh 1 QR [] (Qc (dBf Q8 (Qc (Qa 0) Qe)) Qe)) (Qa 5)) (.tp [1,2]) [none,none,none] QN (Qh 2 QaV [] (Qc (Qa 1) (Qc (Qa 2) Qe))))) (Qf (Qp 7 (QG (Qag (Qh 2 Q3 [] (Qc (Qa 6) (Qc (Qh 2 Q3 [] (Qc (Qa 4) (Qc (Qs (Qa 1) (dC (.int 0))) Qe))) Qe)))) (.nm 1) [none,none,some 1] QN (Qh 2 QaI [] (Qc (Qa 1) (Qc (Qs (Qa 2) (dC (.int 1))) Qe))))) (Qf (Qp 8 (Qh 1 QW [] (Qc (QG (QbO (Qh 1 QW [] (Qc (Qh 2 Q3 [] (Qc (Qa 0) (Qc (Qa 3) Qe))) Qe)) (Qa 5)) (.tp [1,2]) [none,none,none] QN (Qh 2 QaI [] (Qc (Qa 1) (Qc (Qa 2) Qe)))) Qe))) (Qf (QL (Qdk (Qc (Qa 7) (Qc (Qa 6) (Qc (Qa 3) (Qc (Qa 8) (Qc (Qa 4) Qe))))))) Qo)))))))))
noncomputable def QY(len:Nat->Int):Nat->Nat->Int:=λi j=>len i*idF i j
def Qlm(d:Den):Prop:=∀(n:Nat) (f:Nat->Nat->Int),0<n->n<=8->(∀i j,i<n->j<n->(f i j).natAbs<=2^240)->(det n λj i=>f i j)≠0->∃(Lf R Lb Rb:Nat->Nat->Int) (len:Nat->Int),d [Qb n n f]=some (.tup [Qb n n Lf,Qb n n (QY len),Qb n n R,Qb n n Lb,Qb n n Rb],false)/\Qml n f Lf R Lb Rb len/\Qap n 200000 Lf/\Qap n 130000 R/\Qap n 200000 Lb/\Qap n 130000 Rb/\∀j,j<n->(len j).natAbs<2^1999
theorem QrD{db dr dn du ds dp dt:Den}(hb:QkQ db)(hr:Qk6 dr)(hn:Qky dn)(hu:Qgj du)(hs:QgT ds)(hp:QfO dp)(ht:QdF dt):Qlm (Ql 9 (Qdy db dr dn du ds dp dt)):=λn f n0 n8 hf hd=>by
 obtain⟨P,eb,hP,bP,wl⟩:=hb n f n8 hf hd
 obtain⟨w,hw⟩:∃w,w=det n λj i=>f i j:=⟨_,rfl⟩
 rw[← hw]at eb wl hd
 have hP:∀i j,i<n->j<n->prodF n f P i j=w*idF i j:=λi j hi hj=>by rw[hP i j hi hj,← hw]
 obtain⟨R,Rb,len,er,rg,bR,bB,ll⟩:=hr n f P w n0 n8 hd wl hP
 have wl':w.natAbs<2^2000:=ZbC wl (Nat.pow_lt_pow_right (by decide) (by decide))
 have ll':∀j,j<n->(len j).natAbs<2^2000:=λj hj=>ZbC (ll j hj) (Nat.pow_lt_pow_right (by decide) (by decide))
 obtain⟨Lf,hL⟩:∃Lf:Nat->Nat->Int,∀i j,i<n->j<n->len i*prodF n Rb P i j=w*Lf i j:=by
  refine⟨λi j=>len i*prodF n Rb P i j / w,λi j hi hj=>(Int.mul_ediv_cancel' ?_).symm⟩
  exact Int.natAbs_dvd.mp (rg.row j i hj hi)
 obtain⟨Lb,hB⟩:∃Lb:Nat->Nat->Int,∀i j,i<n->j<n->prodF n f R i j=len j*Lb i j:=
  ⟨λi j=>prodF n f R i j / len j,λi j hi hj=>(Int.mul_ediv_cancel' (rg.col i j hi hj)).symm⟩
 have BP:Qap n 1999 P:=λi j hi hj=>ZaT (bP i j hi hj)
 have BQ:=bB.prod n8 BP
 have Bf:Qap n 240 f:=hf
 have BM:=Bf.prod n8 bR
 have Bm:Qap n 1999 (QY len):=λi j hi hj=>by
  unfold QY idF
  split
  ·rw[Zal];exact ZaT (ll i hi)
  ·rw[ZA];exact ZT _
 have BmQ:=Bm.prod n8 BQ
 have mQ:∀i j,i<n->j<n->prodF n (QY len) (prodF n Rb P) i j=w*Lf i j:=λi j hi hj=>by
  rw[← hL i j hi hj]
  show(Qt n λk=>QY len i k*prodF n Rb P k j)=_
  rw[Qcs hi λk hk ne=>by unfold QY idF;rw[if_neg (Ne.symm ne),ZA,ZE]]
  unfold QY idF
  rw[if_pos rfl,Zal]
 have dvL:∀a b c:Int,a=b*c->b≠0->c.natAbs<=a.natAbs:=λa b c h hb=>by
  rw[h,ZK]
  exact Nat.le_mul_of_pos_left _ (by omega)
 have BL:Qap n 200000 Lf:=λi j hi hj=>Zq (dvL _ _ _ (mQ i j hi hj) hd) (BmQ.mono (l:=200000) (by decide) i j hi hj)
 have BLb:Qap n 200000 Lb:=λi j hi hj=>Zq (dvL _ _ _ (hB i j hi hj) (by have:=rg.pos j hj;omega)) (BM.mono (l:=200000) (by decide) i j hi hj)
 refine⟨Lf,R,Lb,Rb,len,QU ?_,Qsu hd (by rw[← hw];exact hd) hP rg hL hB,BL,bR,BLb,bB,ll⟩
 refine run_seq (Qg (r:=⟨.tup [Qb n n P,.int w],true,[]⟩) (Qm (r:=⟨[Qb n n f],false,[]⟩) rfl eb rfl) ?_)
 rw[Qi]
 refine run_seq (Qg (r:=⟨.tup [Qb n n R,Qb n n Rb,Qd n len],true,[]⟩) (Qm (r:=⟨[Qb n n P,.int w],true,[1]⟩) rfl er rfl) ?_)
 rw[Qi]
 refine run_seq (Qg (Qay (r:=⟨Qb n n R,true,[2]⟩) rfl) ?_)
 refine run_seq (Qg (Qay (r:=⟨Qb n n Rb,false,[]⟩) rfl) ?_)
 refine run_seq (Qg (Qay (r:=⟨Qd n len,false,[]⟩) rfl) ?_)
 change Nx _ (.nx [some (Qb n n f,false),some (.tup [Qb n n P,.int w],true),some (.tup [Qb n n R,Qb n n Rb,Qd n len],false),some (Qb n n R,false),some (Qb n n Rb,false),some (Qd n len,false),none,none,none])
 refine run_seq (Qg (r:=⟨Qb n n (QY len),true,[]⟩) (QI (toD:=λ(i:Nat)=> .tup [Qd n (idF i),.int (len i)]) (out:=λ(i:Nat)=>Qd n (QY len i)) (List.range n) (QdT (f:=λi=>Qd n (idF i)) (g:=λi=> .int (len i)) (Qm (r:=⟨[.int n],true,[]⟩) (Qq (QaL (n:=n) (m:=n) (f:=f) (r:=⟨Qb n n f,false,[]⟩) rfl rfl) (QK _)) (hu n (by omega)) rfl) rfl (rb:=⟨Qd n len,false,[]⟩) rfl rfl) rfl λi hi=>⟨[none,some (Qd n (idF i),false),some (.int (len i),true)],rfl,⟨Qd n (QY len i),true,[]⟩,Qm (r:=⟨[Qd n (idF i),.int (len i)],false,[]⟩) rfl (hn n (idF i) (len i) (QaJ (ll' i (Zp.mp hi))) λj _=>QaJ (by unfold idF;split<;>exact Zm (by decide) (ZU (n:=2) (by decide) (show 1<=2000 by decide)))) rfl,rfl,rfl⟩) ?_)
 rw[Qi]
 change Nx _ (.nx [some (Qb n n f,false),some (.tup [Qb n n P,.int w],true),some (.tup [Qb n n R,Qb n n Rb,Qd n len],false),some (Qb n n R,false),some (Qb n n Rb,false),some (Qd n len,false),some (Qb n n (QY len),true),none,none])
 have eQ:Qh 2 dp [] (Qc (Qa 4) (Qc (Qs (Qa 1) (dC (.int 0))) Qe)) [some (Qb n n f,false),some (.tup [Qb n n P,.int w],true),some (.tup [Qb n n R,Qb n n Rb,Qd n len],false),some (Qb n n R,false),some (Qb n n Rb,false),some (Qd n len,false),some (Qb n n (QY len),true),none,none]=some ⟨Qb n n (prodF n Rb P),true,[]⟩:=Qm (r:=⟨[Qb n n Rb,Qb n n P],false,[1]⟩) rfl (hp n Rb P (by omega) (bB.bits (by decide)) (BP.bits (by decide))) rfl
 have eMQ:Qh 2 dp [] (Qc (Qa 6) (Qc (Qh 2 dp [] (Qc (Qa 4) (Qc (Qs (Qa 1) (dC (.int 0))) Qe))) Qe)) [some (Qb n n f,false),some (.tup [Qb n n P,.int w],true),some (.tup [Qb n n R,Qb n n Rb,Qd n len],false),some (Qb n n R,false),some (Qb n n Rb,false),some (Qd n len,false),some (Qb n n (QY len),true),none,none]=some ⟨Qb n n (prodF n (QY len) (prodF n Rb P)),true,[]⟩:=Qm (r:=⟨[Qb n n (QY len),Qb n n (prodF n Rb P)],true,[6]⟩) (Qq (r:=⟨Qb n n (QY len),true,[6]⟩) rfl (Qq eQ (QK _))) (hp n _ _ (by omega) (Bm.bits (by decide)) (BQ.bits (by decide))) rfl
 refine run_seq (Qg (r:=⟨Qb n n Lf,true,[]⟩) (QI (toD:=λ(i:Nat)=>Qd n (prodF n (QY len) (prodF n Rb P) i)) (out:=λ(i:Nat)=>Qd n (Lf i)) (List.range n) (Qal eMQ rfl) rfl λi hi=>⟨[none,some (Qd n (prodF n (QY len) (prodF n Rb P) i),false),some (.tup [Qb n n P,.int w],false)],rfl,⟨Qd n (Lf i),true,[]⟩,Qm (r:=⟨[Qd n (prodF n (QY len) (prodF n Rb P) i),.int w],false,[]⟩) rfl (hs n _ (Lf i) w hd wl' λj hj=>mQ i j (Zp.mp hi) hj) rfl,rfl,rfl⟩) ?_)
 rw[Qi]
 change Nx _ (.nx [some (Qb n n f,false),some (.tup [Qb n n P,.int w],true),some (.tup [Qb n n R,Qb n n Rb,Qd n len],false),some (Qb n n R,false),some (Qb n n Rb,false),some (Qd n len,false),some (Qb n n (QY len),true),some (Qb n n Lf,true),none])
 have eM:Qh 2 dp [] (Qc (Qa 0) (Qc (Qa 3) Qe)) [some (Qb n n f,false),some (.tup [Qb n n P,.int w],true),some (.tup [Qb n n R,Qb n n Rb,Qd n len],false),some (Qb n n R,false),some (Qb n n Rb,false),some (Qd n len,false),some (Qb n n (QY len),true),some (Qb n n Lf,true),none]=some ⟨Qb n n (prodF n f R),true,[]⟩:=Qm (r:=⟨[Qb n n f,Qb n n R],false,[]⟩) rfl (hp n f R (by omega) (Bf.bits (by decide)) (bR.bits (by decide))) rfl
 have eT:Qh 1 dt [] (Qc (Qh 2 dp [] (Qc (Qa 0) (Qc (Qa 3) Qe))) Qe) [some (Qb n n f,false),some (.tup [Qb n n P,.int w],true),some (.tup [Qb n n R,Qb n n Rb,Qd n len],false),some (Qb n n R,false),some (Qb n n Rb,false),some (Qd n len,false),some (Qb n n (QY len),true),some (Qb n n Lf,true),none]=some ⟨Qb n n (λj i=>prodF n f R i j),true,[]⟩:=Qm (r:=⟨[Qb n n (prodF n f R)],true,[]⟩) (Qq eM (QK _)) (ht n _ (by omega)) rfl
 refine run_seq (Qg (r:=⟨Qb n n Lb,true,[]⟩) (Qm (r:=⟨[Qb n n λj i=>Lb i j],true,[]⟩) (Qq (QI (toD:=λ(i:Nat)=> .tup [Qd n λj=>prodF n f R j i,.int (len i)]) (out:=λ(i:Nat)=>Qd n λj=>Lb j i) (List.range n) (QdT (f:=λi=>Qd n λj=>prodF n f R j i) (g:=λi=> .int (len i)) eT rfl (rb:=⟨Qd n len,false,[]⟩) rfl rfl) rfl λi hi=>⟨[none,some (Qd n (λj=>prodF n f R j i),false),some (.int (len i),true)],rfl,⟨Qd n λj=>Lb j i,true,[]⟩,Qm (r:=⟨[Qd n λj=>prodF n f R j i,.int (len i)],false,[]⟩) rfl (hs n _ (λj=>Lb j i) (len i) (by have:=rg.pos i (Zp.mp hi);omega) (ll' i (Zp.mp hi)) λj hj=>hB j i hj (Zp.mp hi)) rfl,rfl,rfl⟩) (QK _)) (ht n _ (by omega)) rfl) ?_)
 rw[Qi]
 exact QC (r:=⟨.tup [Qb n n Lf,Qb n n (QY len),Qb n n R,Qb n n Lb,Qb n n Rb],false,[7,6,8]⟩) rfl ⟨rfl,rfl⟩
noncomputable def QdE(M D:Nat->Nat->Int)(k:Nat)(s:Int):Nat->Nat->Int:=λj r=>if j<k then M j r+s*D j r else M j r
theorem Qjt{n:Nat}(D:Nat->Nat->Int):∀(k:Nat),k<=n->∀M:Nat->Nat->Int,∃a:Nat->Int,(∀s:Int,det n (QdE M D k s)=Qt (k+1) λi=>a i*s^i)/\a k=det n (λj r=>if j<k then D j r else M j r)
 | 0,_,M=>⟨λ_=>det n M,λs=>by
   rw[QT]
   show det n (QdE M D 0 s)=0+det n M*s^0
   rw[Int.pow_zero,Zal,Int.zero_add]
   exact QE λj _ r _=>if_neg (Nat.not_lt_zero j),QE λj _ r _=>by show M j r=if j<0 then D j r else M j r;rw[if_neg (Nat.not_lt_zero j)]⟩
 | k+1,hk,M=>by
  obtain⟨a,ha,ha'⟩:=Qjt (n:=n) D k (by omega) M
  obtain⟨b,hb,hb'⟩:=Qjt (n:=n) D k (by omega) (cup M k (D k))
  refine⟨λi=>(if i<=k then a i else 0)+(if i=0 then 0 else b (i-1)),λs=>?_,?_⟩
  ·have e1:det n (QdE M D (k+1) s)=det n (QdE M D k s)+s*det n (QdE (cup M k (D k)) D k s):=by
    have e2:det n (QdE M D (k+1) s)=det n (cup (QdE M D k s) k λr=>1*M k r+s*D k r):=QE λj hj r hr=>by
     by_cases z:j=k
     ·subst z
      rw[Qv];unfold QdE;rw[if_pos (by omega),ZP]
     ·rw[Qu _ _ z];unfold QdE
      by_cases y:j<k
      ·rw[if_pos y,if_pos (by omega)]
      ·rw[if_neg y,if_neg (by omega)]
    rw[e2,Qen 1 s (M k) (D k) n (QdE M D k s) k (by omega) (M k) (D k),ZP]
    congr 1
    ·exact QE λj hj r hr=>by
      by_cases z:j=k
      ·subst z;rw[Qv];unfold QdE;rw[if_neg (by omega)]
      ·rw[Qu _ _ z]
    ·congr 1
     exact QE λj hj r hr=>by
      by_cases z:j=k
      ·subst z;rw[Qv];unfold QdE;rw[if_neg (by omega),Qv]
      ·rw[Qu _ _ z];unfold QdE;rw[Qu _ _ z]
   rw[e1,ha s,hb s]
   have e3:(Qt (k+2) λi=>((if i<=k then a i else 0)+(if i=0 then 0 else b (i-1)))*s^i)=(Qt (k+2) λi=>(if i<=k then a i else 0)*s^i)+Qt (k+2) λi=>(if i=0 then 0 else b (i-1))*s^i:=by
    rw[← Qcp];exact Qr λi _=>ZaI _ _ _
   have e4:(Qt (k+2) λi=>(if i<=k then a i else 0)*s^i)=Qt (k+1) λi=>a i*s^i:=by
    rw[QT,if_neg (by omega),ZE,Zbd]
    exact Qr λi hi=>by rw[if_pos (by omega)]
   have e5:∀l,(Qt (l+1) λi=>(if i=0 then 0 else b (i-1))*s^i)=s*Qt l λi=>b i*s^i:=λl=>by
    induction l with
    | zero=>rw[QT];show 0+(if(0:Nat)=0 then(0:Int)else b (0-1))*s^0=s*0;rw[if_pos rfl];omega
    | succ l ih=>
     rw[QT,ih,QT (m:=l),if_neg (by omega),ZaN,Zau,Int.pow_succ]
     congr 1
     rw[Zac (s^l),← ZC,Zac (b l),ZC]
   show _=Qt (k+1+1) λi=>((if i<=k then a i else 0)+(if i=0 then 0 else b (i-1)))*s^i
   rw[e3,e4,e5]
  ·show(if k+1<=k then a (k+1)else 0)+(if k+1=0 then 0 else b (k+1-1))=_
   rw[if_neg (by omega),if_neg (by omega),ZaN,hb',Int.zero_add]
   refine QE λj hj r hr=>?_
   by_cases z:j=k
   ·subst z;rw[if_neg (by omega),if_pos (by omega),Qv]
   ·by_cases y:j<k
    ·rw[if_pos y,if_pos (by omega)]
    ·rw[if_neg y,if_neg (by omega),Qu _ _ z]
noncomputable def Qga(j r:Nat):Int:=if j=r then(1:Int)+j else 0
theorem Qun:∀n,n<=4->det n Qga≠0:=λn hn=>by
 rw[Qg3 n Qga λj r _ _ h=>by unfold Qga;rw[if_neg (by omega)]]
 match n,hn with
 | 0,_=>decide
 | 1,_=>decide
 | 2,_=>decide
 | 3,_=>decide
 | 4,_=>decide
noncomputable def Qah(g:Nat->Nat->Int)(s:Int):Nat->Nat->Int:=λi j=>g i j+s*Qga i j
theorem QfB(f:Nat->Int):Qt 0 f=0:=rfl
theorem Qp2{n:Nat}(hn:n<=4)(g:Nat->Nat->Int)(h:∀s:Nat,s<n->det n (Qah g s)=0):det n (Qah g n)≠0:=λhz=>by
 obtain⟨a,h1,h2⟩:=Qjt (n:=n) Qga n (Zj n) g
 have e:∀s:Nat,s<=n->(Qt (n+1) λi=>a i*(s:Int)^i)=0:=λs hs=>by
  rw[← h1 s]
  have:det n (QdE g Qga n s)=det n (Qah g s):=QE λj hj r _=>by unfold QdE Qah;rw[if_pos hj]
  rw[this]
  by_cases z:s=n
  ·rw[z];exact hz
  ·exact h s (by omega)
 have lead:a n≠0:=by
  rw[h2,QE (k:=Qga) λj hj r _=>by rw[if_pos hj]]
  exact Qun n hn
 have hc:n=0∨n=1∨n=2∨n=3∨n=4:=by omega
 clear h1 h2 h hz
 rcases hc with rfl | rfl | rfl | rfl | rfl
 ·have e0:=e 0 (by decide)
  simp only[QT,QfB]at e0
  simp at e0
  exact lead e0
 ·have e0:=e 0 (by decide)
  have e1:=e 1 (by decide)
  simp only[QT,QfB]at e0 e1
  simp at e0 e1
  omega
 ·have e0:=e 0 (by decide)
  have e1:=e 1 (by decide)
  have e2:=e 2 (by decide)
  simp only[QT,QfB]at e0 e1 e2
  simp at e0 e1 e2
  omega
 ·have e0:=e 0 (by decide)
  have e1:=e 1 (by decide)
  have e2:=e 2 (by decide)
  have e3:=e 3 (by decide)
  simp only[QT,QfB]at e0 e1 e2 e3
  simp at e0 e1 e2 e3
  omega
 ·have e0:=e 0 (by decide)
  have e1:=e 1 (by decide)
  have e2:=e 2 (by decide)
  have e3:=e 3 (by decide)
  have e4:=e 4 (by decide)
  simp only[QT,QfB]at e0 e1 e2 e3 e4
  simp at e0 e1 e2 e3 e4
  omega
noncomputable def Qbv(len:Nat->Int):Nat->Int
 | 0=>1
 | n+1=>Qbv len n*len n
theorem Qlw{len:Nat->Int}:∀{n:Nat},(∀j,j<n->0<len j)->0<Qbv len n
 | 0,_=>Int.one_pos
 | n+1,h=>Int.mul_pos (Qlw λj hj=>h j (by omega)) (h n (by omega))
theorem QiK:∀(n:Nat) (len:Nat->Int),Qbv len (n+1)=len 0*Qbv (λi=>len (i+1)) n
 | 0,len=>by show 1*len 0=len 0*1;omega
 | n+1,len=>by
  show Qbv len (n+1)*len (n+1)=len 0*(Qbv (λi=>len (i+1)) n*len (n+1))
  rw[QiK n len,ZC]
theorem QoT:∀(n:Nat) (len:Nat->Int),dia (QY len) n=Qbv len n
 | 0,len=>rfl
 | n+1,len=>by
  show QY len 0 0*dia (λj r=>QY len (j+1) (r+1)) n=Qbv len (n+1)
  rw[QiK,show(λj r=>QY len (j+1) (r+1))=QY (λi=>len (i+1))from ?_,QoT n]
  ·unfold QY idF;rw[if_pos rfl,Zal]
  ·funext j r
   unfold QY idF
   by_cases z:j=r
   ·rw[if_pos z,if_pos (by omega)]
   ·rw[if_neg z,if_neg (by omega)]
theorem QhO(n:Nat)(f g:Nat->Nat->Int):(det n λj i=>prodF n f g i j)=(det n λj i=>f i j)*det n λj i=>g i j:=by
 rw[Zac,← QrF n (λj i=>g i j) λj i=>f i j]
 refine QE λj _ i _=>?_
 unfold prodF
 rw[← Qim]
 exact QaR λs _=>by rw[Zac]
theorem Qtd{a b:Int}(h:a*b=1):a.natAbs=1:=by
 have:=congrArg Int.natAbs h
 rw[ZK]at this
 exact Nat.eq_one_of_mul_eq_one_right this
theorem Qa0.det{n:Nat}{a b:Nat->Nat->Int}(h:Qa0 n a b):(det n λj i=>a i j).natAbs=1:=by
 have e:(HS.det n λj i=>prodF n a b i j)=1:=by
  rw[QE (k:=Qx) λj hj i hi=>by
   rw[h i j hi hj];unfold idF Qx
   by_cases z:i=j
   ·rw[if_pos z,if_pos z.symm]
   ·rw[if_neg z,if_neg (Ne.symm z)],QdB]
 rw[QhO]at e
 exact Qtd e
theorem Qml.many{n:Nat}{f Lf R Lb Rb:Nat->Nat->Int}{len:Nat->Int}(h:Qml n f Lf R Lb Rb len):Qbv len n=((det n λj i=>f i j).natAbs:Int):=by
 have e1:(HS.det n λj i=>prodF n (prodF n Lf f) R i j)=Qbv len n:=by
  rw[QE (k:=QY len) λj hj i hi=>by
   rw[h.mid i j hi hj];unfold QY idF
   by_cases z:i=j
   ·subst z;rw[if_pos rfl]
   ·rw[if_neg z,if_neg (Ne.symm z),ZA,ZA],Qg3 n (QY len) λj r _ _ hr=>by unfold QY idF;rw[if_neg (by omega),ZA],QoT]
 rw[QhO,QhO]at e1
 have e2:=congrArg Int.natAbs e1
 rw[ZK,ZK,h.v1.det,h.u1.det,Nat.mul_one,Nat.one_mul]at e2
 have:=Qlw h.pos
 omega
noncomputable def Qdz(Qam:Den)(QJ:Den)(x_cleared_whole:List D->Option Str):DX:=(Qaa (Qp 1 (dBf Q8 (Qc (Qa 0) Qe))) xNo (Qaa (Qp 2 (Qh 1 QJ [] (Qc (QG (QfG (Qa 0)) (.tp [1,2]) [none,none,none,some 1] QN (QX (Qa 2) (Qh 2 Qam [] (Qc (Qa 3) (Qc (Qa 1) Qe))))) Qe))) (QbK 1 x_cleared_whole (Qc (QG (QfG (Qa 0)) (.tp [1,2]) [none,none,none,some 1] QN (QX (Qa 2) (Qh 2 Qam [] (Qc (Qa 3) (Qc (Qa 1) Qe))))) Qe)) (Qaa (QL (Qdk (Qc (QG (Qag (Qs (Qa 2) (dC (.int 0)))) (.nm 1) [none,none,some 1] QN (Qby (Qa 1) (Qa3 (Qa 2)) Qa6)) (Qc (Qs (Qa 2) (dC (.int 1))) Qe)))) xNo xNo)))
theorem QxU{du dc:Den}{xc:List D->Option Str}(h:ApF dc xc):ApF (Ql 3 (Qdu du dc)) (QbS 3 (Qdz du dc xc)):=Qmk (by unfold Qdu Qdz;repeat (first | exact QeD | exact QcZ | assumption | apply Qdr | apply QiD | apply ap_for | apply Qcf | apply Qd6 | apply ap_ret))
def Qgo(xd:List D->Option Str):Prop:=∀(n:Nat) (f:Nat->Nat->Int),n<=8->(∀i j,i<n->j<n->(f i j).natAbs<=2^240)->(det n λj i=>f i j)=0->xd [Qb n n f]=some "NoRings"
theorem Qwn{du dc:Den}{xc:List D->Option Str}(h:ApF dc xc)(hu:Qh7 du)(hx:Qg4 xc):Qgo (QbS 3 (Qdz du dc xc)):=λn f n8 hf hd=>by
 obtain⟨A,hA⟩:∃A:Nat->Nat->Int,A=λj r=>if j<n then f r j else if j-n=r then 1 else 0:=⟨_,rfl⟩
 have aLow:∀j r,j<n->A j r=f r j:=λj r hj=>by rw[hA];show(if j<n then _ else _)=_;rw[if_pos hj]
 have bA:∀j,j<n+n->∀r,r<n->(A j r).natAbs<=2^240:=λj hj r hr=>by
  by_cases z:j<n
  ·rw[aLow j r z];exact hf r j hr z
  ·rw[hA];show(if j<n then f r j else if j-n=r then(1:Int)else 0).natAbs<=_;rw[if_neg z];split<;>decide
 have dA:det n A=0:=by rw[QE λj hj r _=>aLow j r hj];exact hd
 have ex:=hx n (n+n) A n8 (by omega) bA dA
 have et:Qb n (n+n) (λi j=>A j i)= .lst ((List.range n).map λi=>Qd (n+n) λj=>if j<n then f i j else(λk=>if k=i then 1 else 0) (j-n)):=by
  unfold Qb
  refine congrArg D.lst (ZG λi _=>Qe9 λj _=>?_)
  rw[hA]
 refine Qka (Qgy (Qg (QaL (n:=n) (m:=n) (f:=f) (r:=⟨Qb n n f,false,[]⟩) rfl rfl) ?_))
 rw[Qi]
 refine Qez (Qd6 h) (QkP (r:=⟨[Qb n (n+n) λi j=>A j i],true,[]⟩) (Qq (r:=⟨Qb n (n+n) λi j=>A j i,true,[]⟩) ?_ (QK _)) rfl ex)
 rw[et]
 exact QI (toD:=λ(i:Nat)=> .tup [.int i,Qd n (f i)]) (out:=λ(i:Nat)=>Qd (n+n) λj=>if j<n then f i j else(λk=>if k=i then 1 else 0) (j-n)) (List.range n) (Qnu (n:=n) (m:=n) (f:=f) (ra:=⟨Qb n n f,false,[]⟩) rfl rfl) rfl λi _=>⟨[none,some (.int i,true),some (Qd n (f i),false),some (.int n,true)],rfl,⟨Qd (n+n) λj=>if j<n then f i j else(λk=>if k=i then 1 else 0) (j-n),true,[]⟩,Qmr (m:=n) (k:=n) (f:=f i) (g:=λk=>if k=i then 1 else 0) (ra:=⟨Qd n (f i),false,[]⟩) rfl rfl (Qm (r:=⟨[.int n,.int i],true,[]⟩) rfl (hu n i (by omega)) rfl) rfl (by omega),rfl,rfl⟩
noncomputable def Qdv(QaI:Den)(Q3:Den)(QW:Den)(QaV:Den)(QR:Den)(Qan:Den)(Qak:Den)(x_turned_back:List D->Option Str):DX:=(Qaa (Qp 1 (Qh 1 Qak [] (Qc (Qa 0) Qe))) (QbK 1 x_turned_back (Qc (Qa 0) Qe)) (Qaa (Qp 2 (Qh 2 Qan [] (Qc (Qs (Qa 1) (dC (.int 0))) (Qc (Qs (Qa 1) (dC (.int 1))) Qe)))) xNo (Qaa (Qp 3 (Q7 (Qs (Qa 2) (dC (.int 0))))) xNo (Qaa (Qp 4 (Q7 (Qs (Qa 2) (dC (.int 1))))) xNo (Qaa (Qp 5 (Q7 (Qs (Qa 2) (dC (.int 2))))) xNo (Qaa (Qp 6 (QG (QbO (Qh 1 QR [] (Qc (dBf Q8 (Qc (Qa 0) Qe)) Qe)) (Qa 5)) (.tp [1,2]) [none,none,none] QN (Qh 2 QaV [] (Qc (Qa 1) (Qc (Qa 2) Qe))))) xNo (Qaa (Qp 7 (QG (Qag (Qh 2 Q3 [] (Qc (Qa 6) (Qc (Qh 2 Q3 [] (Qc (Qa 4) (Qc (Qs (Qa 1) (dC (.int 0))) Qe))) Qe)))) (.nm 1) [none,none,some 1] QN (Qh 2 QaI [] (Qc (Qa 1) (Qc (Qs (Qa 2) (dC (.int 1))) Qe))))) xNo (Qaa (Qp 8 (Qh 1 QW [] (Qc (QG (QbO (Qh 1 QW [] (Qc (Qh 2 Q3 [] (Qc (Qa 0) (Qc (Qa 3) Qe))) Qe)) (Qa 5)) (.tp [1,2]) [none,none,none] QN (Qh 2 QaI [] (Qc (Qa 1) (Qc (Qa 2) Qe)))) Qe))) xNo (Qaa (QL (Qdk (Qc (Qa 7) (Qc (Qa 6) (Qc (Qa 3) (Qc (Qa 8) (Qc (Qa 4) Qe))))))) xNo xNo)))))))))
theorem QxB{db dr dn du ds dp dt:Den}{xb:List D->Option Str}(h:ApF db xb):ApF (Ql 9 (Qdy db dr dn du ds dp dt)) (QbS 9 (Qdv ds dp dt dn du dr db xb)):=Qmk (by unfold Qdy Qdv;repeat (first | exact QeD | exact QcZ | assumption | apply Qdr | apply QiD | apply ap_for | apply Qcf | apply Qd6 | apply ap_ret))
theorem QwR{db dr dn du ds dp dt:Den}{xb:List D->Option Str}(h:ApF db xb)(hx:Qgo xb):Qgo (QbS 9 (Qdv ds dp dt dn du dr db xb)):=λn f n8 hf hd=>
 Qka (Qez (Qd6 h) (QkP (r:=⟨[Qb n n f],false,[]⟩) rfl rfl (hx n f n8 hf hd)))
noncomputable def QeG(QS:Den)(x_ring_tables:List D->Option Str)(sub:Str->Str->Option Bool):DS:=(Qf (Qp 1 (dC (.bl false))) (Qf (QdX (Qf (QcU (Qh 1 QS [] (Qc (Qa 0) Qe))) Qo) (Qaa (QcU (Qh 1 QS [] (Qc (Qa 0) Qe))) (QbK 1 x_ring_tables (Qc (Qa 0) Qe)) xNo) sub [("NoRings",none,(Qf (Qp 1 (dC (.bl true))) Qo))]) (Qf (QL (Qa 1)) Qo)))
def Qei(xs:List D->Option Str)(d:Den):Prop:=∀a,xs [.lst a]=some "NoRings" ->d [.lst a]=some (.bl true,true)
theorem QqO{ds:Den}{xs:List D->Option Str}{sub:Str->Str->Option Bool}(ap:ApF ds xs)(w:sub "NoRings" "NoRings" =some true):Qei xs (Ql 2 (QeG ds xs sub)):=λa hx=>by
 refine QU ?_
 refine run_seq (Qg (r:=⟨.bl false,true,[]⟩) rfl ?_)
 rw[Qi]
 refine run_seq (QmU (x:= "NoRings") (Qdr (Qcf ap) QeD) (Qj5 ap (r:=⟨[.lst a],_,_⟩) rfl rfl hx) w ?_)
 refine run_seq (Qg (r:=⟨.bl true,true,[]⟩) rfl (Qy ?_))
 rw[Qi]
 exact QC (r:=⟨.bl true,true,[]⟩) rfl ⟨rfl,rfl⟩
structure QtT (sub:Str->Str->Option Bool):Prop where
 gh:sub "NoRings" "HeapError" =some true
 gg:sub "NoRings" "NoRings" =some true
 gv:sub "NoRings" "ValueError" =some true
 gr:sub "NoRings" "NoRow" =some false
 gn:sub "NoRings" "NoNet" =some false
 gt:sub "NoRings" "TooMany" =some false
noncomputable def QeK(QS:Den)(x_ring_tables:List D->Option Str)(sub:Str->Str->Option Bool):DS:=(Qf (Qp 1 (dC (.bl false))) (Qf (QdX (Qf (QcU (Qh 1 QS [] (Qc (Qa 0) Qe))) Qo) (Qaa (QcU (Qh 1 QS [] (Qc (Qa 0) Qe))) (QbK 1 x_ring_tables (Qc (Qa 0) Qe)) xNo) sub [("HeapError",some 2,(Qf (Qp 1 (Qep (QfF sub ["NoRings"] (Qa 2)) (QfF sub ["ValueError"] (Qa 2)))) (Qf (Qp 1 (Qep (Qa 1) (Qep (Qg5 (QfF sub ["NoRow"] (Qa 2))) (Qep (Qg5 (QfF sub ["NoNet"] (Qa 2))) (Qg5 (QfF sub ["TooMany"] (Qa 2))))))) Qo)))]) (Qf (QL (Qa 1)) Qo)))
theorem Qrl{ds:Den}{xs:List D->Option Str}{sub:Str->Str->Option Bool}(ap:ApF ds xs)(w:QtT sub):Qei xs (Ql 3 (QeK ds xs sub)):=λa hx=>by
 refine QU ?_
 refine run_seq (Qg (r:=⟨.bl false,true,[]⟩) rfl ?_)
 rw[Qi]
 refine run_seq (QsK (x:= "NoRings") (Qdr (Qcf ap) QeD) (Qj5 ap (r:=⟨[.lst a],_,_⟩) rfl rfl hx) w.gh ?_)
 refine run_seq (Qg (Qid (QhZ (x:= "NoRings") rfl (any_cons w.gg (ys:=[]) rfl)) (QhZ (x:= "NoRings") rfl (any_cons w.gv (ys:=[]) rfl))) ?_)
 rw[Qi]
 refine run_seq (Qg (Qid (a:=true) rfl (Qid (Qk0 (QhZ (x:= "NoRings") rfl (any_cons w.gr (ys:=[]) rfl))) (Qid (Qk0 (QhZ (x:= "NoRings") rfl (any_cons w.gn (ys:=[]) rfl))) (Qk0 (QhZ (x:= "NoRings") rfl (any_cons w.gt (ys:=[]) rfl)))))) (Qy ?_))
 rw[Qi]
 exact QC (r:=⟨.bl true,true,[]⟩) rfl ⟨rfl,rfl⟩
theorem QrR{f:DS}{fx:DX}{sub:Str->Str->Option Bool}{hl:List Hd}{ρ:En}{Q:Out->Prop}(h:Run f ρ Q):Run (QdX f fx sub hl) ρ Q:=by
 obtain⟨o,h1,h2⟩:=h
 exact⟨o,by unfold QdX;rw[h1],h2⟩
theorem Qpx{ds:Den}{xs:List D->Option Str}{sub:Str->Str->Option Bool}{a b:List D}{d:D}(h:ds [.lst a,.lst b]=some (d,true)):Ql 3 (Qej ds xs sub) [.lst a,.lst b]=some (.str "taken",true):=by
 refine QU ?_
 refine run_seq (Qg (r:=⟨.str "taken",true,[]⟩) rfl ?_)
 rw[Qi]
 refine run_seq (QrR (run_seq (QsR (Qm (r:=⟨[.lst a,.lst b],_,_⟩) rfl h rfl) (Qy ?_))))
 exact QC (r:=⟨.str "taken",true,[]⟩) rfl ⟨rfl,rfl⟩
theorem QwX(ds:List D):(Qa2 ds []).M=[]:=by unfold Qa2;split<;>rfl
theorem QoC{fa:DE}{lo hi:DO}{ρ:En}{ra r:HS.R}(ha:fa ρ=some ra)(hM:ra.M=[])(h:Qby fa lo hi ρ=some r):r.M=[]:=by
 unfold Qby at h
 rw[ha,Za]at h
 obtain⟨l,_,h⟩:=bind1 h
 obtain⟨k,_,h⟩:=bind1 h
 split at h
 ·cases h;rw[hM];exact QwX _
 ·cases h
theorem QmN{fa fb:DE}{ρ:En}{ra rb:HS.R}{xs ys:List D}(ha:fa ρ=some ra)(ea:ra.d= .lst xs)(hb:fb ρ=some rb)(eb:rb.d= .lst ys)(h:xs.length+ys.length<=1000)(hf:QZ (xs++ys)=false):QX fa fb ρ=some ⟨.lst (xs++ys),false,ra.M++rb.M⟩:=by
 unfold QX
 rw[ha,Za,hb,Za,ea,eb]
 show(if _ then some (Qa2 (xs++ys) (ra.M++rb.M))else none)=_
 rw[if_pos (Zq h (by decide))]
 unfold Qa2
 rw[hf];rfl
theorem QjO{xs ys:List D}{n:Nat}{a:Nat->Int}:QZ (xs++Qd n a::ys)=false:=by
 rw[QbY]
 show(QZ xs && (D.flat (Qd n a) && QZ ys))=false
 rw[show D.flat (Qd n a)=false from rfl,Bool.false_and,Bool.and_false]
theorem Qus{fr fa fv:DE}{ρ:En}{n i x:Nat}{f:Nat->Nat->Int}{a:Nat->Int}(hr:fr ρ=some ⟨Qb n n f,false,[]⟩)(ha:fa ρ=some ⟨.int i,true,[]⟩)(hv:fv ρ=some ⟨Qd n a,true,[x]⟩)(hi:i<n)(hn:n<=100):QX (QX (Qby fr Qa6 (Qa3 fa)) (Qat (Qc fv Qe))) (Qby fr (Qa3 (QX fa (dC (.int 1)))) Qa6) ρ=some ⟨Qb n n (cup f i a),false,[x]⟩:=by
 obtain⟨r1,q1,d1⟩:=QmO (fa:=fr) (fb:=fa) (xs:=(List.range n).map λi=>Qd n (f i)) (n:=i) hr rfl ha rfl (by simp;omega)
 obtain⟨r2,q2,d2⟩:=Qm3 (fa:=fr) (fb:=QX fa (dC (.int 1))) (xs:=(List.range n).map λi=>Qd n (f i)) (n:=i+1) hr rfl (Qce (a:=(i:Int)) (b:=1) ha rfl (QaY _ _) rfl) rfl (by simp;omega)
 have m1:=QoC hr rfl q1
 have m2:=QoC hr rfl q2
 have q3:=QmN (fb:=Qat (Qc fv Qe)) (ys:=[Qd n a]) q1 d1 (rb:=⟨.lst [Qd n a],true,[x]⟩) (Qhp (Qq hv (QK _)) (by decide:1<=64)) rfl (by simp;omega) QjO
 have q4:=QmN q3 rfl q2 d2 (by simp;omega) (by rw[ZaS];exact QjO)
 rw[q4,Qr8 hi,m1,m2]
 rfl
noncomputable def QbN:DS:=(Qf (Qp 2 (dBf Q8 (Qc (Qa 0) Qe))) (Qf (Qp 3 (dOp Qco (Qa 1) (Qa 2))) (Qf (Qp 4 (dOp Qa9 (dOp Qco (dOp Qcn (Qa 1) (dC (.int 5))) (dC (.int 7))) (dC (.int 3)))) (Qf (sIf (bOr (QO (dOp gEq (Qa 2) (dC (.int 1)))) (QO (dOp gEq (dOp Qco (dOp Qcn (Qa 1) (dC (.int 35))) (dC (.int 3))) (dC (.int 0))))) (Qf (Qp 5 (QaM (Qat (Qc (dC (.int 0)) Qe)) (Qa 2))) Qo) (Qf (Qp 5 (QG (Qag (Qs (Qa 0) (dOp Qco (QX (Qa 3) (dC (.int 1))) (Qa 2)))) (.nm 1) [none,none,some 4] QN (QaM (Qa 2) (Qa 1)))) Qo)) (Qf (Qp 6 (QX (QX (Qby (Qa 0) Qa6 (Qa3 (Qa 3))) (Qat (Qc (Qa 5) Qe))) (Qby (Qa 0) (Qa3 (QX (Qa 3) (dC (.int 1)))) Qa6))) (Qf (sIf (QO (dOp gEq (dOp Qco (dOp Qcn (Qa 1) (dC (.int 105))) (dC (.int 2))) (dC (.int 1)))) (Qf (Qp 6 (QG (QaK (Qa 2)) (.nm 1) [none,none,some 6] QN (QG (Qag (Qa 2)) (.nm 1) [none,none,some 1] QN (Qs (Qa 1) (Qa 2))))) Qo) Qo) (Qf (QL (Qa 6)) Qo)))))))
def Qlj(d:Den):Prop:=∀(n:Nat) (f:Nat->Nat->Int) (c far:Int),0<n->n<=4->InT n far f->0<=far->∃g fr,d [Qb n n f,.int c]=some (Qb n n g,fr)/\det n g=0/\InT n (3*far) g
theorem Qtz:Qlj (Ql 7 QbN):=λn f c far n0 n4 hf hfar=>by
 have q1:=Zaf c (by omega:(n:Int)≠0)
 have q2:=ZW c (by omega:(0:Int)<n)
 obtain⟨i,ei⟩:∃i:Nat,c % (n:Int)=i:=⟨(c % (n:Int)).toNat,by omega⟩
 have hi:i<n:=by omega
 obtain⟨o,eo⟩:∃o:Int,o=c / 5 % 7-3:=⟨_,rfl⟩
 have o1:=Zaf (c / 5) (by decide:(7:Int)≠0)
 have o2:=ZW (c / 5) (by decide:(0:Int)<7)
 have key:Run QbN [some (Qb n n f,false),some (.int c,true),none,none,none,none,none] (Rt λd fr=>∃g,d=Qb n n g/\det n g=0/\InT n (3*far) g):=by
  refine run_seq (Qg (QaL (n:=n) (m:=n) (f:=f) (r:=⟨Qb n n f,false,[]⟩) rfl rfl) ?_)
  rw[Qi]
  refine run_seq (Qg (r:=⟨.int i,true,[]⟩) ((Qb6 (a:=c) (b:=n) rfl rfl (rb:=⟨.int n,true,[]⟩) rfl rfl (by omega)).trans (by rw[ei])) ?_)
  rw[Qi]
  refine run_seq (Qg (r:=⟨.int o,true,[]⟩) ((QhS (a:=c / 5 % 7) (b:=3) (Qb6 (a:=c / 5) (b:=7) (Qkb (a:=c) (b:=5) rfl rfl (QaY _ _) rfl (by decide) (by decide)) rfl (QaY _ _) rfl (by decide)) rfl (QaY _ _) rfl).trans (by rw[eo])) ?_)
  rw[Qi]
  change Nx _ (.nx [some (Qb n n f,false),some (.int c,true),some (.int n,true),some (.int i,true),some (.int o,true),none,none])
  refine QaP (P:=λρ=>∃rw':Nat->Int,det n (cup f i rw')=0/\(∀j,j<n-> -(3*far)<=rw' j/\rw' j<=3*far)/\ρ=[some (Qb n n f,false),some (.int c,true),some (.int n,true),some (.int i,true),some (.int o,true),some (Qd n rw',true),none]) ?_ ?_
  ·refine Qad (b:=decide ((n:Int)=1) || decide (c / 35 % 3=0)) (Qc3 (QM (Qb1 (a:=n) (b:=1) (ra:=⟨.int n,true,[]⟩) rfl rfl (QaY _ _) rfl) rfl) (QM (Qb1 (a:=c / 35 % 3) (b:=0) (Qb6 (a:=c / 35) (b:=3) (Qkb (a:=c) (b:=35) rfl rfl (QaY _ _) rfl (by decide) (by decide)) rfl (QaY _ _) rfl (by decide)) rfl (QaY _ _) rfl) rfl)) (λ_=>?_) (λh=>?_)
   ·refine run_seq (Qg (Qms (n:=n) (z:=0) (r:=⟨.int n,true,[]⟩) rfl rfl (by omega)) (Qy ?_))
    rw[Qi]
    refine⟨λ_=>0,?_,λj _=>by show-(3*far)<=0/\0<=3*far;omega,rfl⟩
    have:=QdQ (m:=f) hi 0 (f i)
    rw[ZE]at this
    exact(QE λj _ r _=>by
     by_cases z:j=i
     ·subst z;rw[Qv,Qv];show(0:Int)=0*f j r;rw[ZE]
     ·rw[Qu _ _ z,Qu _ _ z]).trans this
   ·have hn1:n≠1:=λz=>by
     subst z
     simp at h
    have p1:=Zaf ((i:Int)+1) (by omega:(n:Int)≠0)
    have p2:=ZW ((i:Int)+1) (by omega:(0:Int)<n)
    obtain⟨p,ep⟩:∃p:Nat,((i:Int)+1) % (n:Int)=p:=⟨(((i:Int)+1) % (n:Int)).toNat,by omega⟩
    have pn:p<n:=by omega
    have pi:p≠i:=λz=>by
     by_cases y:i+1=n
     ·rw[show(i:Int)+1=n by omega,Int.emod_self]at ep;omega
     ·rw[Int.emod_eq_of_lt (by omega) (by omega)]at ep;omega
    refine run_seq (Qg (r:=⟨Qd n λj=>o*f p j,true,[]⟩) (QI (toD:=λ(j:Nat)=> .int (f p j)) (out:=λ(j:Nat)=> .int (o*f p j)) (List.range n) (Qal (r:=⟨Qd n (f p),false,[]⟩) ((Qda (m:=n) (n:=n) (f:=f) (i:=((i:Int)+1) % n) (ra:=⟨Qb n n f,false,[]⟩) rfl rfl (Qb6 (a:=(i:Int)+1) (b:=n) (Qce (a:=(i:Int)) (b:=1) (ra:=⟨.int i,true,[]⟩) rfl rfl (QaY _ _) rfl) rfl (rb:=⟨.int n,true,[]⟩) rfl rfl (by omega)) rfl p1 p2).trans (by rw[ep,ZJ])) rfl) rfl λj _=>⟨[none,some (.int (f p j),true),some (.int o,true)],rfl,⟨.int (o*f p j),true,[]⟩,QaO (a:=o) (b:=f p j) rfl rfl rfl rfl (Qet (by omega)),rfl,rfl⟩) (Qy ?_))
    rw[Qi]
    refine⟨λj=>o*f p j,?_,λj hj=>?_,rfl⟩
    ·rw[QdQ hi,Qd2 (i:=i) (j:=p) hi pn (Ne.symm pi) (by rw[Qv,Qu _ _ pi]),ZA]
    ·have b:=hf p j pn hj
     have h3:(o*f p j).natAbs<=3*far.natAbs:=by rw[ZK];exact Zav (by omega) (by omega)
     show-(3*far)<=o*f p j/\o*f p j<=3*far
     omega
  ·rintro ρ ⟨rw',dz,br,rfl⟩
   have bg:InT n (3*far) (cup f i rw'):=λj r hj hr=>by
    by_cases z:j=i
    ·subst z;rw[Qv];exact br r hr
    ·rw[Qu _ _ z];have:=hf j r hj hr;omega
   refine run_seq (Qg (r:=⟨Qb n n (cup f i rw'),false,[5]⟩) (Qus (n:=n) (i:=i) (x:=5) (f:=f) (a:=rw') rfl rfl rfl hi (by omega)) ?_)
   change Nx _ (.nx [some (Qb n n f,false),some (.int c,true),some (.int n,true),some (.int i,true),some (.int o,true),some (Qd n rw',false),some (Qb n n (cup f i rw'),false)])
   refine QaP (P:=λρ=>∃g b6,det n g=0/\InT n (3*far) g/\ρ=[some (Qb n n f,false),some (.int c,true),some (.int n,true),some (.int i,true),some (.int o,true),some (Qd n rw',false),some (Qb n n g,b6)]) ?_ ?_
   ·refine Qad (b:=decide (c / 105 % 2=1)) (QM (Qb1 (a:=c / 105 % 2) (b:=1) (Qb6 (a:=c / 105) (b:=2) (Qkb (a:=c) (b:=105) rfl rfl (QaY _ _) rfl (by decide) (by decide)) rfl (QaY _ _) rfl (by decide)) rfl (QaY _ _) rfl) rfl) (λ_=>?_) (λ_=>?_)
    ·refine run_seq (Qg (r:=⟨Qb n n (λk l=>cup f i rw' l k),true,[]⟩) (QI (toD:=λ(k:Nat)=> .int (k:Int)) (out:=λ(k:Nat)=>Qd n λl=>cup f i rw' l k) (List.range n) (Qa7 (n:=n) (r:=⟨.int n,true,[]⟩) rfl rfl (by omega)) rfl λk hk=>⟨[none,some (.int k,true),some (Qb n n (cup f i rw'),false)],rfl,⟨Qd n λl=>cup f i rw' l k,true,[]⟩,QI (toD:=λ(l:Nat)=>Qd n (cup f i rw' l)) (out:=λ(l:Nat)=> .int (cup f i rw' l k)) (List.range n) (Qal (r:=⟨Qb n n (cup f i rw'),false,[]⟩) rfl rfl) rfl λl _=>⟨[none,some (Qd n (cup f i rw' l),false),some (.int k,true)],rfl,⟨.int (cup f i rw' l k),true,[]⟩,Qar (m:=n) (f:=cup f i rw' l) (i:=k) (ra:=⟨Qd n (cup f i rw' l),false,[]⟩) (rb:=⟨.int k,true,[]⟩) rfl rfl rfl rfl (Zp.mp hk),rfl,rfl⟩,rfl,rfl⟩) (Qy ?_))
     rw[Qi]
     exact⟨_,true,by rw[QgM n (cup f i rw')];exact dz,λj r hj hr=>bg r j hr hj,rfl⟩
    ·exact Qy ⟨_,false,dz,bg,rfl⟩
   ·rintro ρ ⟨g,b6,dz,bg,rfl⟩
    cases b6
    ·exact QC (r:=⟨Qb n n g,false,[]⟩) rfl ⟨g,rfl,dz,bg⟩
    ·exact QC (r:=⟨Qb n n g,true,[6]⟩) rfl ⟨g,rfl,dz,bg⟩
 obtain⟨out,h1,h2⟩:=key
 cases out with
 | rt d fr=>
  obtain⟨g,rfl,h⟩:=h2
  exact⟨g,fr,by show Option.bind (QbN [some (Qb n n f,false),some (.int c,true),none,none,none,none,none]) outD=_;rw[h1];rfl,h⟩
 | _=>exact h2.elim
noncomputable def QbV(QaW:Den)(QaB:Den):DS:=(Qf (Qp 1 (Qh 1 QaW [] (Qc (Qa 0) Qe))) (Qf (Qdn (QaK (dBf Q8 (Qc (Qa 0) Qe))) (.nm 2) (Qf (sIf (QO (dOp gNe (Qh 1 QaB [] (Qc (Qa 1) Qe)) (dC (.int 0)))) (Qf (QL (Qa 1)) Qo) Qo) (Qf (Qdn (QaK (dBf Q8 (Qc (Qa 0) Qe))) (.nm 3) (Qf (QdH 1 (Qd0 Qbs (Qa 3)) (Qa 3) (QX (QX (Qs (Qs (Qa 1) (Qa 3)) (Qa 3)) (dC (.int 1))) (Qa 3))) Qo)) Qo))) (Qf (QL (Qa 1)) Qo)))
def Qjy(d:Den):Prop:=∀(n:Nat) (g:Nat->Nat->Int),0<n->n<=4->(∀i j,i<n->j<n->(g i j).natAbs<=2^200)->∃s:Nat,s<=n/\d [Qb n n g]=some (Qb n n (Qah g s),true)/\det n (Qah g s)≠0
theorem Qig{n m:Nat}{f g:Nat->Nat->Int}(h:∀i j,i<n->j<m->f i j=g i j):Qb n m f=Qb n m g:=congrArg D.lst (ZG λi hi=>Qe9 λj hj=>h i j (Zp.mp hi) hj)
theorem QnU{n:Nat}{g:Nat->Nat->Int}(n4:n<=4)(hg:∀i j,i<n->j<n->(g i j).natAbs<=2^200){s:Nat}(hs:s<=4):∀i j,i<n->j<n->(Qah g s i j).natAbs<=2^240:=λi j hi hj=>by
 have:=hg i j hi hj
 unfold Qah Qga
 by_cases z:i=j
 ·rw[if_pos z]
  have h1:((s:Int)*(1+(i:Int))).natAbs<=4*5:=by rw[ZK];exact Zav (by omega) (by omega)
  omega
 ·rw[if_neg z,ZA,Zbd];omega
theorem Qro{dc dm:Den}(hc:QjT dc)(hm:Qdh 4 dm):Qjy (Ql 4 (QbV dc dm)):=λn g n0 n4 hg=>by
 have key:Run (QbV dc dm) [some (Qb n n g,false),none,none,none] (Rt λd fr=>fr=true/\∃s:Nat,s<=n/\d=Qb n n (Qah g s)/\det n (Qah g s)≠0):=by
  have e0:Qb n n g=Qb n n (Qah g ((0:Nat):Int)):=Qig λi j _ _=>by unfold Qah;simp
  refine run_seq (Qg (r:=⟨Qb n n (Qah g ((0:Nat):Int)),true,[]⟩) (Qm (r:=⟨[Qb n n g],false,[]⟩) rfl (by rw[← e0];exact hc n n g) rfl) ?_)
  rw[Qi]
  refine QD (Qb0 (toD:=λ(k:Nat)=> .int (k:Int)) (List.range n) (λs ρ=>∃j2 j3,s<=n/\(∀t:Nat,t<s->det n (Qah g t)=0)/\ρ=[some (Qb n n g,false),some (Qb n n (Qah g s),true),j2,j3]) (Qa7 (n:=n) (QaL (n:=n) (m:=n) (f:=g) (r:=⟨Qb n n g,false,[]⟩) rfl rfl) rfl (by omega)) rfl ⟨none,none,by omega,λt ht=>by omega,rfl⟩ ?_ ?_)
  ·rintro s s' ρ hs ⟨j2,j3,_,hz,rfl⟩
   have hs':s<n/\s=s':=by
    obtain⟨h1,h2⟩:=Zf.mp hs
    simp at h1 h2;exact⟨h1,h2⟩
   obtain⟨hsn,rfl⟩:=hs'
   refine⟨[some (Qb n n g,false),some (Qb n n (Qah g s),true),some (.int s,true),j3],rfl,?_⟩
   have em:=hm n (Qah g s) (by omega) n4 (by omega) λj hj r hr=>QnU n4 hg (by omega) j r hj hr
   refine QD (Qad (b:= !decide (det n (Qah g s)=0)) (QM (Qc2 (a:=det n (Qah g s)) (b:=0) (Qm (r:=⟨[Qb n n (Qah g s)],true,[1]⟩) rfl em rfl) rfl (QaY _ _) rfl) rfl) (λh=>?_) (λh=>Qy ?_))
   ·have nz:det n (Qah g s)≠0:=by simpa using h
    exact QD (Qbq (r:=⟨Qb n n (Qah g s),true,[1]⟩) rfl ⟨rfl,s,by omega,rfl,nz⟩)
   have dz:det n (Qah g s)=0:=by simpa using h
   obtain⟨stg,hstg⟩:∃stg:Nat->Nat->Nat->Int,stg=λk i j=>if i<k then Qah g ((s:Int)+1) i j else Qah g s i j:=⟨_,rfl⟩
   have es:Qb n n (Qah g s)=Qb n n (stg 0):=Qig λi j _ _=>by rw[hstg];show _=if i<0 then _ else _;rw[if_neg (by omega)]
   rw[es]
   refine QaP (P:=λρ=>∃j3,ρ=[some (Qb n n g,false),some (Qb n n (stg n),true),some (.int s,true),j3]) ?_ ?_
   ·refine Qb0 (toD:=λ(k:Nat)=> .int (k:Int)) (List.range n) (λk ρ=>∃j3,ρ=[some (Qb n n g,false),some (Qb n n (stg k),true),some (.int s,true),j3]) (Qa7 (n:=n) (QaL (n:=n) (m:=n) (f:=g) (r:=⟨Qb n n g,false,[]⟩) rfl rfl) rfl (by omega)) rfl ⟨j3,rfl⟩ ?_ ?_
    ·rintro k k' ρ hk ⟨j3,rfl⟩
     have hk':k<n/\k=k':=by
      obtain⟨h1,h2⟩:=Zf.mp hk
      simp at h1 h2;exact⟨h1,h2⟩
     obtain⟨hkn,rfl⟩:=hk'
     refine⟨[some (Qb n n g,false),some (Qb n n (stg k),true),some (.int s,true),some (.int k,true)],rfl,?_⟩
     refine run_seq (QrW (x:=1) (m:=n) (n:=n) (f:=stg k) (i:=k) (j:=k) (v:=stg k k k+1+k) (rp:=⟨.int k,true,[]⟩) (ri:=⟨.int k,true,[]⟩) rfl rfl rfl rfl rfl (Qce (a:=stg k k k+1) (b:=k) (Qce (a:=stg k k k) (b:=1) (Qar (m:=n) (f:=stg k k) (i:=k) ((Qda (m:=n) (n:=n) (f:=stg k) (i:=(k:Int)) (ra:=⟨Qb n n (stg k),true,[1]⟩) (rb:=⟨.int k,true,[]⟩) rfl rfl rfl rfl (by omega) (by omega)).trans (by rw[ZJ])) rfl (rb:=⟨.int k,true,[]⟩) rfl rfl hkn) rfl (QaY _ _) rfl) rfl (rb:=⟨.int k,true,[]⟩) rfl rfl) rfl (by omega) (by omega) (by omega) (by omega) (Qy ⟨some (.int k,true),?_⟩))
     have eu:Qb n n (up2 (stg k) (k:Int).toNat (k:Int).toNat (stg k k k+1+k))=Qb n n (stg (k+1)):=Qig λi j hi hj=>by
      rw[ZJ]
      unfold up2
      by_cases z:i=k
      ·subst z
       rw[if_pos rfl,Qcz]
       by_cases y:j=i
       ·subst y
        rw[if_pos rfl,hstg]
        show(if j<j then _ else Qah g s j j)+1+(j:Int)=if j<j+1 then Qah g ((s:Int)+1) j j else _
        rw[if_neg (by omega),if_pos (by omega)]
        unfold Qah Qga
        rw[if_pos rfl,ZaI,ZP];omega
       ·rw[if_neg y,hstg]
        show(if i<i then _ else Qah g s i j)=if i<i+1 then Qah g ((s:Int)+1) i j else _
        rw[if_neg (by omega),if_pos (by omega)]
        unfold Qah Qga
        rw[if_neg (Ne.symm y),ZA,ZA]
      ·rw[if_neg z,hstg]
       show(if i<k then _ else _)=if i<k+1 then _ else _
       by_cases y:i<k
       ·rw[if_pos y,if_pos (by omega)]
       ·rw[if_neg y,if_neg (by omega)]
     rw[← eu];rfl
    ·rintro ρ ⟨j3,rfl⟩
     rw[Zt]
     exact⟨_,rfl⟩
   ·rintro ρ ⟨j3,rfl⟩
    refine Qy ⟨some (.int s,true),j3,by omega,λt ht=>?_,?_⟩
    ·by_cases z:t=s
     ·rw[z];exact dz
     ·exact hz t (by omega)
    ·have:Qb n n (stg n)=Qb n n (Qah g ((s+1:Nat):Int)):=Qig λi j hi _=>by
      rw[hstg];show(if i<n then _ else _)=_;rw[if_pos hi];rfl
     rw[this]
  ·rintro ρ ⟨j2,j3,_,hz,rfl⟩
   rw[Zt]at hz ⊢
   exact QC (r:=⟨Qb n n (Qah g n),true,[1]⟩) rfl ⟨rfl,n,Zj n,rfl,Qp2 n4 g hz⟩
 obtain⟨out,h1,h2⟩:=key
 cases out with
 | rt d fr=>
  obtain⟨rfl,s,hs,rfl,h⟩:=h2
  exact⟨s,hs,by show Option.bind (QbV dc dm [some (Qb n n g,false),none,none,none]) outD=_;rw[h1];rfl,h⟩
 | _=>exact h2.elim
theorem QlD{len:Nat->Int}:∀{n:Nat},(∀j,j<n->(len j).natAbs<2^1999)->(Qbv len n).natAbs<=2^(1999*n)
 | 0,_=>by show(1:Int).natAbs<=2^(1999*0);decide
 | n+1,h=>by
  show(Qbv len n*len n).natAbs<=_
  rw[ZK,Nat.mul_add,Nat.mul_one,Nat.pow_add]
  exact Zav (QlD λj hj=>h j (by omega)) (ZaT (h n (by omega)))
theorem Qq9(len:Nat->Int)(i:Nat):QY len i i=len i:=by unfold QY idF;rw[if_pos rfl,Zal]
noncomputable def QlJ(Qaj:Den)(Qbt:Den)(Qbc:Den)(QaW:Den)(Qbh:Den)(Qbm:Den)(QaD:Den)(QbC:Den)(QS:Den)(Qa4:Den)(QaB:Den):DS:=(Qf (Qp 1 (QX (dC (.int 1)) (dOp Qco (Qh 2 Qaj [] (Qc (Qa 0) (Qc (dC (.int 0)) Qe))) (dC (.int 4))))) (Qf (Qp 2 (Q7 (Qs (Qat (Qc (dC (.int 3)) (Qc (dOp QhY (dC (.int 10)) (dC (.int 6))) (Qc (dOp QhY (dC (.int 10)) (dC (.int 20))) Qe)))) (dOp Qco (Qh 2 Qaj [] (Qc (Qa 0) (Qc (dC (.int 1)) Qe))) (dC (.int 3)))))) (Qf (sIf (QO (dOp gGt (Qa 1) (dC (.int 2)))) (Qf (Qp 2 (Q7 (Qs (Qat (Qc (dC (.int 3)) (Qc (dC (.int 5)) (Qc (dC (.int 9)) Qe)))) (dOp Qco (Qh 2 Qaj [] (Qc (Qa 0) (Qc (dC (.int 1)) Qe))) (dC (.int 3)))))) Qo) Qo) (Qf (Qp 3 (Qh 2 Qbc [] (Qc (Qh 4 Qbt [] (Qc (Qa 0) (Qc (dC (.int 2)) (Qc (Qa 1) (Qc (Qa 2) Qe))))) (Qc (dOp Qcn (Qh 2 Qaj [] (Qc (Qa 0) (Qc (dC (.int 1)) Qe))) (dC (.int 3))) Qe)))) (Qf (Qp 4 (Qh 1 QaW [] (Qc (Qa 3) Qe))) (Qf (Qp 5 (Qs (Qh 4 Qbt [] (Qc (Qa 0) (Qc (dC (.int 30)) (Qc (Qa 1) (Qc (dOp QhY (dC (.int 10)) (dC (.int 9))) Qe))))) (dC (.int 0)))) (Qf (sIf (bOr (Qek (QO (Qh 1 Qbh [] (Qc (Qa 4) Qe)))) (bOr (Qek (QO (Qh 1 Qbm [] (Qc (Qa 4) Qe)))) (QO (dOp gNe (Qh 2 QaD [] (Qc (Qa 4) (Qc (Qa 5) Qe))) (dC (.str "rings")))))) (Qf (QL (dC (.bl false))) Qo) Qo) (Qf (sIf (bOr (QO (dOp gNe (Qh 2 QaD [] (Qc (Qa 3) (Qc (QX (Qa 5) (Qat (Qc (dC (.int 0)) Qe))) Qe))) (dC (.str "row")))) (bOr (QO (dOp gNe (Qh 2 QaD [] (Qc (Qa 3) (Qc (Qby (Qa 5) (Qa3 (dC (.int 1))) Qa6) Qe))) (dC (.str "row")))) (QO (dOp gNe (Qa 4) (Qa 3))))) (Qf (QL (dC (.bl false))) Qo) Qo) (Qf (Qp 6 (Qh 1 QbC [] (Qc (Qa 3) Qe))) (Qf (Qp 7 (Qh 1 QS [] (Qc (Qa 6) Qe))) (Qf (sIf (bOr (Qek (QO (QhW "tuple" (Qa 7)))) (bOr (QO (dOp gNe (dBf Q8 (Qc (Qa 7) Qe)) (dC (.int 5)))) (Qek (QO (Qh 2 Qa4 [] (Qc (Qs (Qa 7) (dC (.int 1))) (Qc (Qa 1) Qe))))))) (Qf (QL (dC (.bl false))) Qo) Qo) (Qf (Qp 8 (dC (.int 1))) (Qf (Qdn (QaK (Qa 1)) (.nm 9) (Qf (Qp 8 (QaM (Qa 8) (Qs (Qs (Qs (Qa 7) (dC (.int 1))) (Qa 9)) (Qa 9)))) Qo)) (Qf (QL (Qep (dOp gEq (Qa 8) (dBf Qjj (Qc (Qh 1 QaB [] (Qc (Qa 6) Qe)) Qe))) (dOp gEq (Qh 2 QaD [] (Qc (Qa 6) (Qc (Qa 5) Qe))) (dC (.str "taken"))))) Qo))))))))))))))
theorem Qws{dc dt de dcp db drf dw df dr di dm ds:Den}{xs xr:List D->Option Str}(hc:Qif dc)(ht:QhF dt)(he:Qlj de)(hcp:QjT dcp)(hb:Qei xr db)(hrf:Qei xr drf)(hw:Qkz xs dw)(hw2:∀a b d,ds [.lst a,.lst b]=some (d,true)->dw [.lst a,.lst b]=some (.str "taken",true))(hf:Qjy df)(hr:Qlm dr)(hi:Qln di)(hm:Qdh 4 dm)(hs:QhG ds)(hx:Qle xs)(hxr:Qgo xr)(ns:List Int)(hl:ns.length<=63)(hbits:∀k,Qas (ns.getD k 0)):Ql 10 (QlJ dc dt de dcp db drf dw df dr di dm) [.lst (ns.map .int)]=some (.bl true,true):=by
 obtain⟨F,hF⟩:=hc ns hl hbits
 have z1:=Zaf (F 0) (by decide:(4:Int)≠0)
 have z2:=ZW (F 0) (by decide:(0:Int)<4)
 obtain⟨n,en⟩:∃n:Nat,(n:Int)=1+F 0 % 4:=⟨(1+F 0 % 4).toNat,by omega⟩
 have n0:0<n:=by omega
 have n4:n<=4:=by omega
 have y1:=Zaf (F 1) (by decide:(3:Int)≠0)
 have y2:=ZW (F 1) (by decide:(0:Int)<3)
 have cell:∀(ρ:En) (k:Nat),k<=1000->ρ[0]? =some (some (.lst (ns.map .int),false))->Qh 2 dc [] (Qc (Qa 0) (Qc (dC (.int k)) Qe)) ρ=some ⟨.int (F k),true,[]⟩:=λρ k hk h0=>Qm (Qq (QhN h0) (Qq (QaY _ _) (QK _))) (hF k hk).1 rfl
 obtain⟨fa,hfa⟩:∃far,[3,10^6,(10^20:Int)][(F 1 % 3).toNat]? =some far:=⟨_,Zat (by simp;omega)⟩
 have hfab:1<=fa/\fa<=10^20:=by
  have hm:=ZaE hfa
  have all:∀x∈[3,10^6,(10^20:Int)],1<=x/\x<=10^20:=by decide+kernel
  exact all fa hm
 obtain⟨fb,hfb⟩:∃far,[3,5,(9:Int)][(F 1 % 3).toNat]? =some far:=⟨_,Zat (by simp;omega)⟩
 have hfbb:1<=fb/\fb<=10^20:=by
  have hm:=ZaE hfb
  have all:∀x∈[3,5,(9:Int)],1<=x/\x<=10^20:=by decide+kernel
  exact all fb hm
 have ix:∀(ρ:En),ρ[0]? =some (some (.lst (ns.map .int),false))->dOp Qco (Qh 2 dc [] (Qc (Qa 0) (Qc (dC (.int 1)) Qe))) (dC (.int 3)) ρ=some ⟨.int (F 1 % 3),true,[]⟩:=λρ h0=>Qb6 (a:=F 1) (b:=3) (cell _ 1 (by decide) h0) rfl rfl rfl (by decide)
 refine QU ?_
 refine run_seq (Qg (Qce (a:=1) rfl rfl (Qb6 (b:=4) (cell _ 0 (by decide) rfl) rfl rfl rfl (by decide)) rfl) ?_)
 rw[Qi,← en]
 refine run_seq (Qg (r:=⟨.int fa,false,[]⟩) ((Qay (Qiv (ns:=[3,10^6,(10^20:Int)]) (i:=F 1 % 3) (v:=fa) (ra:=⟨.lst ([3,10^6,(10^20:Int)].map .int),true,[]⟩) ((Qhp (rs:=⟨[.int 3,.int (10^6),.int (10^20)],true,[]⟩) (Qq (r:=⟨.int 3,true,[]⟩) rfl (Qq (Qip (a:=10) (k:=6) (by decide) (by decide)) (Qq (Qip (a:=10) (k:=20) (by decide) (by decide)) (QK _)))) (by simp)).trans rfl) rfl (ix _ rfl) rfl y1 hfa)).trans rfl) ?_)
 rw[QcX rfl]
 refine QaP (P:=λρ=>∃far:Int,(1<=far/\far<=10^20)/\ρ=[some (.lst (ns.map .int),false),some (.int n,true),some (.int far,true),none,none,none,none,none,none,none]) ?_ ?_
 ·refine Qad (b:=decide (2<(n:Int))) (QM (QbU (d:= .bl (decide (2<(n:Int)))) (ra:=⟨.int n,true,[]⟩) rfl (QaY _ _) rfl) rfl) (λ_=>?_) (λ_=>Qy ⟨fa,hfab,rfl⟩)
  refine run_seq (Qg (r:=⟨.int fb,false,[]⟩) ((Qay (Qiv (ns:=[3,5,(9:Int)]) (i:=F 1 % 3) (v:=fb) (ra:=⟨.lst ([3,5,(9:Int)].map .int),true,[]⟩) ((Qhp (rs:=⟨[.int 3,.int 5,.int 9],true,[]⟩) rfl (by simp)).trans rfl) rfl (ix _ rfl) rfl y1 hfb)).trans rfl) (Qy ?_))
  rw[QcX rfl]
  exact⟨fb,hfbb,rfl⟩
 rintro ρ ⟨far,hfar,rfl⟩
 obtain⟨A,eA,hA⟩:=ht ns hl hbits 2 n far (by decide) (by omega) (by omega)
 obtain⟨g,b3,eg,dz,hg⟩:=he n A (F 1 / 3) far n0 n4 hA (by omega)
 obtain⟨T,eT,hT⟩:=ht ns hl hbits 30 n (10^9) (by decide) (by omega) (by decide)
 have row:∀j,j<n->(T 0 j).natAbs<=2^240:=λj hj=>by
  have:=hT 0 j n0 hj
  have:(T 0 j).natAbs<=10^9:=by omega
  exact Zq this (by decide)
 have g200:∀i j,i<n->j<n->(g i j).natAbs<=2^200:=λi j hi hj=>by
  have:=hg i j hi hj
  have:(g i j).natAbs<=3*10^20:=by omega
  exact Zq this (by decide)
 have g240:∀i j,i<n->j<n->(g i j).natAbs<=2^240:=λi j hi hj=>Zq (g200 i j hi hj) (ZU (by decide) (by decide))
 refine run_seq (Qg (r:=⟨Qb n n g,b3,[]⟩) (Qth (r:=⟨[Qb n n A,.int (F 1 / 3)],true,[]⟩) (Qq (r:=⟨Qb n n A,true,[]⟩) (Qm (r:=⟨[.lst (ns.map .int),.int ((2:Nat):Int),.int n,.int far],false,[]⟩) rfl eA rfl) (Qq (Qkb (a:=F 1) (b:=3) (cell _ 1 (by decide) rfl) rfl (QaY _ _) rfl (by decide) (by decide)) (QK _))) eg rfl rfl rfl) ?_)
 rw[Qya rfl]
 change Run _ [some (.lst (ns.map .int),false),some (.int n,true),some (.int far,true),some (Qb n n g,b3),none,none,none,none,none,none] _
 have v3:∀{ρ:En},ρ[3]? =some (some (Qb n n g,b3))->∃M,Qa 3 ρ=some ⟨Qb n n g,b3,M⟩:=λh=>Qug h rfl
 obtain⟨M1,w1⟩:=v3 (ρ:=[some (.lst (ns.map .int),false),some (.int n,true),some (.int far,true),some (Qb n n g,b3),none,none,none,none,none,none]) rfl
 refine run_seq (Qg (Qm (Qq w1 (QK _)) (hcp n n g) rfl) ?_)
 rw[Qi]
 refine run_seq (Qg (r:=⟨Qd n (T 0),true,[]⟩) (Quz (Qm (Qq (r:=⟨.lst (ns.map .int),false,[]⟩) rfl (Qq (r:=⟨.int ((30:Nat):Int),true,[]⟩) rfl (Qq (r:=⟨.int n,true,[]⟩) rfl (Qq (Qip (a:=10) (k:=9) (by decide) (by decide)) (QK _))))) eT rfl) n0) ?_)
 rw[Qi]
 change Run _ [some (.lst (ns.map .int),false),some (.int n,true),some (.int far,true),some (Qb n n g,b3),some (Qb n n g,true),some (Qd n (T 0),true),none,none,none,none] _
 have xr':=hxr n g (by omega) g240 (by rw[QgM n g];exact dz)
 have xs':=hx.rings n g (T 0) (by omega) g240 row dz
 refine QD (Qad (b:=false) (Qc3 (a:=false) (b:=false) (Qdp (b:=true) (QM (b:=true) (Qm (r:=⟨[Qb n n g],true,[4]⟩) rfl (hb _ xr') rfl) rfl)) (Qc3 (a:=false) (b:=false) (Qdp (b:=true) (QM (b:=true) (Qm (r:=⟨[Qb n n g],true,[4]⟩) rfl (hrf _ xr') rfl) rfl)) (QM (b:=false) (QjM (d:= .str "rings") (Qm (r:=⟨[Qb n n g,Qd n (T 0)],true,[4,5]⟩) rfl (hw.2 _ _ xs') rfl) rfl (rb:=⟨.str "rings",true,[]⟩) rfl rfl (by decide+kernel)) rfl))) (λh=>by cases h) (λ_=>Qy ?_))
 obtain⟨M2,w2⟩:=v3 (ρ:=[some (.lst (ns.map .int),false),some (.int n,true),some (.int far,true),some (Qb n n g,b3),some (Qb n n g,true),some (Qd n (T 0),true),none,none,none,none]) rfl
 have x1:=hw.1 _ _ (hx.row n g ((List.range (n+1)).map λi=> .int (up (T 0) n 0 i)) (by simp))
 have x2:=hw.1 _ _ (hx.row n g ((List.range (n-1)).map λi=> .int (T 0 (1+i))) (by simp;omega))
 refine QD (Qad (b:=false) (Qc3 (a:=false) (b:=false) (QM (b:=false) (QjM (d:= .str "row") (Qm (Qq w2 (Qq (QfE (m:=n) (f:=T 0) (x:=0) (ra:=⟨Qd n (T 0),true,[5]⟩) rfl rfl rfl (by omega)) (QK _))) x1 rfl) rfl (rb:=⟨.str "row",true,[]⟩) rfl rfl (by decide+kernel)) rfl) (Qc3 (a:=false) (b:=false) (QM (b:=false) (QjM (d:= .str "row") (Qm (Qq w2 (Qq (Qjl (m:=n) (n:=1) (f:=T 0) (ra:=⟨Qd n (T 0),true,[5]⟩) rfl rfl (QaY _ _) rfl n0) (QK _))) x2 rfl) rfl (rb:=⟨.str "row",true,[]⟩) rfl rfl (by decide+kernel)) rfl) (QM (b:=false) (QjM (d:=Qb n n g) (ra:=⟨Qb n n g,true,[4]⟩) rfl rfl w2 rfl (Qvc 6 n n g)) rfl))) (λh=>by cases h) (λ_=>Qy ?_))
 obtain⟨s,hs4,ef,nz⟩:=hf n g n0 n4 g200
 have a240:=QnU n4 g200 (s:=s) (by omega)
 generalize Qah g (s:Int)=B at ef nz a240
 refine run_seq (Qg (Qm (Qq w2 (QK _)) ef rfl) ?_)
 rw[Qi]
 change Run _ [some (.lst (ns.map .int),false),some (.int n,true),some (.int far,true),some (Qb n n g,b3),some (Qb n n g,true),some (Qd n (T 0),true),some (Qb n n B,true),none,none,none] _
 obtain⟨Lf,R,Lb,Rb,len,er,hS,_,_,_,_,hlen⟩:=hr n B n0 (by omega) a240 (by rw[QgM n B];exact nz)
 have many:=hS.many
 rw[QgM n B]at many
 refine run_seq (Qg (r:=⟨.tup [Qb n n Lf,Qb n n (QY len),Qb n n R,Qb n n Lb,Qb n n Rb],false,[6]⟩) ((Qeu (r:=⟨[Qb n n B],true,[6]⟩) rfl er rfl).trans rfl) ?_)
 change Run _ [some (.lst (ns.map .int),false),some (.int n,true),some (.int far,true),some (Qb n n g,b3),some (Qb n n g,true),some (Qd n (T 0),true),some (Qb n n B,false),some (.tup [Qb n n Lf,Qb n n (QY len),Qb n n R,Qb n n Lb,Qb n n Rb],false),none,none] _
 refine QD (Qad (b:=false) (Qc3 (a:=false) (b:=false) (Qdp (b:=true) (QM (b:=true) rfl rfl)) (Qc3 (a:=false) (b:=false) (QM (b:=false) rfl rfl) (Qdp (b:=true) (QM (b:=true) (Qm (r:=⟨[Qb n n (QY len),.int n],false,[]⟩) rfl (hi n (QY len)) rfl) rfl)))) (λh=>by cases h) (λ_=>Qy ?_))
 refine run_seq (Qg (r:=⟨.int 1,true,[]⟩) rfl ?_)
 rw[Qi]
 refine QaP (P:=λρ=>∃j9,ρ=[some (.lst (ns.map .int),false),some (.int n,true),some (.int far,true),some (Qb n n g,b3),some (Qb n n g,true),some (Qd n (T 0),true),some (Qb n n B,false),some (.tup [Qb n n Lf,Qb n n (QY len),Qb n n R,Qb n n Lb,Qb n n Rb],false),some (.int (Qbv len n),true),j9]) ?_ ?_
 ·refine Qb0 (toD:=λ(k:Nat)=> .int (k:Int)) (List.range n) (λk ρ=>∃j9,ρ=[some (.lst (ns.map .int),false),some (.int n,true),some (.int far,true),some (Qb n n g,b3),some (Qb n n g,true),some (Qd n (T 0),true),some (Qb n n B,false),some (.tup [Qb n n Lf,Qb n n (QY len),Qb n n R,Qb n n Lb,Qb n n Rb],false),some (.int (Qbv len k),true),j9]) (Qa7 (n:=n) (r:=⟨.int n,true,[]⟩) rfl rfl (by omega)) rfl ⟨none,rfl⟩ ?_ ?_
  ·rintro k k' ρ hk ⟨j9,rfl⟩
   have hk':k<n/\k=k':=by
    obtain⟨h1,h2⟩:=Zf.mp hk
    simp at h1 h2;exact⟨h1,h2⟩
   obtain⟨hkn,rfl⟩:=hk'
   refine⟨[some (.lst (ns.map .int),false),some (.int n,true),some (.int far,true),some (Qb n n g,b3),some (Qb n n g,true),some (Qd n (T 0),true),some (Qb n n B,false),some (.tup [Qb n n Lf,Qb n n (QY len),Qb n n R,Qb n n Lb,Qb n n Rb],false),some (.int (Qbv len k),true),some (.int k,true)],rfl,?_⟩
   have bp:=QlD (len:=len) (n:=k) λj hj=>hlen j (by omega)
   refine run_seq (Qg (r:=⟨.int (Qbv len (k+1)),true,[]⟩) ((QaO (a:=Qbv len k) (b:=QY len k k) rfl rfl (Qar (m:=n) (f:=QY len k) (i:=k) ((Qda (m:=n) (n:=n) (f:=QY len) (i:=(k:Int)) (ra:=⟨Qb n n (QY len),false,[]⟩) (rb:=⟨.int k,true,[]⟩) rfl rfl rfl rfl (by omega) (by omega)).trans (by rw[ZJ])) rfl (rb:=⟨.int k,true,[]⟩) rfl rfl hkn) rfl (Qdi (QgP (k:=1999*k+1) (Zae bp (Nat.pow_lt_pow_right (by decide) (by omega))) (by omega)) (by rw[Qq9];exact QgP (hlen k hkn) (by decide)))).trans (by rw[Qq9];rfl)) (Qy ?_))
   rw[Qi]
   exact⟨_,rfl⟩
  ·rintro ρ ⟨j9,rfl⟩
   refine⟨j9,?_⟩
   rw[Zt]
 rintro ρ ⟨j9,rfl⟩
 obtain⟨tops,q,e1,_⟩:=hs n B (T 0) (by omega) a240 row nz
 have em:=hm n B n0 n4 (by omega) λj hj r hr=>a240 j r hj hr
 refine QC (QwO (a:=true) (b:=true) ((Qb1 (a:=Qbv len n) (b:=if det n B<0 then-det n B else det n B) rfl rfl (QwK (a:=det n B) (Qm (r:=⟨[Qb n n B],false,[]⟩) rfl em rfl) rfl) rfl).trans ?_) (QuO (d:= .str "taken") (rb:=⟨.str "taken",true,[]⟩) (Qm (r:=⟨[Qb n n B,Qd n (T 0)],false,[5]⟩) rfl (hw2 _ _ _ e1) rfl) rfl rfl rfl (by decide+kernel))) ⟨rfl,rfl⟩
 rw[decide_eq_true]
 rw[many]
 split<;>omega
end HS
theorem HS.some_of{α:Type}{x:Option α}{d:α}(h:x.isSome=true):x=some (x.getD d):=by cases x with | none=>cases h | some a=>rfl
namespace Law
open PySem L2 HS
noncomputable section
def top(i:Nat):Stmt:=PySem.Challenge.pw_heapstill_k36_tables_refused.main.body.getD i (.Pass ⟨0,0,0,0⟩)
abbrev cst:List (Str×Int):=[]
abbrev Sc(s:Stmt)(P:List Str):Prop:=Qb9 (namesOf (Qj s)) P (Qj s)
theorem scM{s:Stmt}{P:List Str}(h1:(Qj s).kind= .function)(h2:(Qj s).isCoroutine=false)(h3:(Qj s).isGenerator=false)(h4:(namesOf (Qj s)).Nodup/\(namesOf (Qj s)).take P.length=P/\(∀x∈P,(Qj s).names.lookup x=some .local ∨(Qj s).names.lookup x=some .cell)/\∀y∈(Qj s).names,y.2≠ .free):Sc s P:=⟨h1,h2,h3,h4.1,h4.2.1,h4.2.2.1,h4.2.2.2⟩
noncomputable abbrev Cp(s:Stmt)(Γ:List (Str×FnR)):Option DS:=Qai 60 (Qfk s Γ cst) (QaT s)
noncomputable abbrev Dn(s:Stmt)(g:DS):Den:=Ql (namesOf (Qj s)).length g
noncomputable abbrev Gc(x:Str)(n:Nat)(d:Den)(Γ:List (Str×FnR)):List (Str×FnR):=(x,⟨n,[],d⟩)::Γ
noncomputable abbrev cls:List Str:=["NoRings","NoRow"]
noncomputable abbrev QyC:List (Str×List (Str×Bool)):=[("NoRings",[("NoRings",true),("HeapError",true),("ValueError",true),("NoRow",false),("NoNet",false),("TooMany",false)]),("NoRow",[("NoRings",false),("HeapError",true),("ValueError",true),("NoRow",true),("NoNet",false),("TooMany",false)])]
noncomputable abbrev sub:=QtA QyC
noncomputable abbrev CpT(s:Stmt)(Γ:List (Str×FnR))(Γx:List (Str×(Nat×(List D->Option Str))))(hΓ:List (Str×FnR)):Option DS:=Qai 60 (thT 60 s Γ cst ⟨Γx,cls⟩ sub hΓ) (QaT s)
noncomputable abbrev CpX(s:Stmt)(Γ:List (Str×FnR))(Γx:List (Str×(Nat×(List D->Option Str)))):Option DX:=Qds 60 (Qfk s Γ cst) ⟨Γx,cls⟩ (QaT s)
abbrev Qeq:=top 7
theorem QqU:Sc Qeq ["table","at"]:=scM rfl rfl rfl (by decide+kernel)
theorem Qtt:Qw "column" Qeq ["table","at"]:=λ | _,_,_,_,_,_,[_,_],_=>rfl
def QnP:=(Cp Qeq []).getD QA
theorem Qty:Cp Qeq []=some QnP:=some_of (by decide+kernel)
abbrev Qaq:=Dn Qeq QnP
abbrev Qjd:=Gc "column" 2 Qaq []
abbrev Qea:=top 8
theorem QqW:Sc Qea ["table"]:=scM rfl rfl rfl (by decide+kernel)
theorem Qr3:Qw "turned" Qea ["table"]:=λ | _,_,_,_,_,_,[_],_=>rfl
def Qm2:=(Cp Qea Qjd).getD QA
theorem Qs1:Cp Qea Qjd=some Qm2:=some_of (by decide+kernel)
abbrev QW:=Dn Qea Qm2
abbrev Qjx:=Gc "turned" 1 QW Qjd
abbrev Qdd:=top 9
theorem Qol:Sc Qdd ["size","at"]:=scM rfl rfl rfl (by decide+kernel)
theorem QpQ:Qw "unit_row" Qdd ["size","at"]:=λ | _,_,_,_,_,_,[_,_],_=>rfl
def Qkh:=(Cp Qdd Qjx).getD QA
theorem QpO:Cp Qdd Qjx=some Qkh:=some_of (by decide+kernel)
abbrev Qam:=Dn Qdd Qkh
abbrev QgG:=Gc "unit_row" 2 Qam Qjx
abbrev Qcc:=top 10
theorem Ql0:Sc Qcc ["size"]:=scM rfl rfl rfl (by decide+kernel)
theorem Qnt:Qw "unit_table" Qcc ["size"]:=λ | _,_,_,_,_,_,[_],_=>rfl
def Qhx:=(Cp Qcc QgG).getD QA
theorem QmF:Cp Qcc QgG=some Qhx:=some_of (by decide+kernel)
abbrev QR:=Dn Qcc Qhx
abbrev Qfp:=Gc "unit_table" 1 QR QgG
abbrev Qde:=top 11
theorem Qok:Sc Qde ["line"]:=scM rfl rfl rfl (by decide+kernel)
theorem Qpm:Qw "opposite" Qde ["line"]:=λ | _,_,_,_,_,_,[_],_=>rfl
def Qki:=(Cp Qde Qfp).getD QA
theorem QpY:Cp Qde Qfp=some Qki:=some_of (by decide+kernel)
abbrev Qdf:=Dn Qde Qki
abbrev QgS:=Gc "opposite" 1 Qdf Qfp
abbrev Qed:=top 12
theorem Qqv:Sc Qed ["one","other"]:=scM rfl rfl rfl (by decide+kernel)
theorem QsY:Qw "scalar" Qed ["one","other"]:=λ | _,_,_,_,_,_,[_,_],_=>rfl
def QmM:=(Cp Qed QgS).getD QA
theorem Qsl:Cp Qed QgS=some QmM:=some_of (by decide+kernel)
abbrev QeB:=Dn Qed QmM
abbrev Qi2:=Gc "scalar" 2 QeB QgS
abbrev QdU:=top 14
theorem QoX:Sc QdU ["line","columns"]:=scM rfl rfl rfl (by decide+kernel)
theorem Qqh:Qw "line_by" QdU ["line","columns"]:=λ | _,_,_,_,_,_,[_,_],_=>rfl
def QlK:=(Cp QdU Qi2).getD QA
theorem Qqa:Cp QdU Qi2=some QlK:=some_of (by decide+kernel)
abbrev QdP:=Dn QdU QlK
abbrev Qh4:=Gc "line_by" 2 QdP Qi2
abbrev QdO:=top 13
theorem QpJ:Sc QdO ["one","other"]:=scM rfl rfl rfl (by decide+kernel)
theorem Qp3:Qw "product" QdO ["one","other"]:=λ | _,_,_,_,_,_,[_,_],_=>rfl
def QlG:=(Cp QdO Qh4).getD QA
theorem Qqf:Cp QdO Qh4=some QlG:=some_of (by decide+kernel)
abbrev Q3:=Dn QdO QlG
abbrev QhU:=Gc "product" 2 Q3 Qh4
abbrev QeA:=top 15
theorem Qq4:Sc QeA ["numbers"]:=scM rfl rfl rfl (by decide+kernel)
theorem Qsg:Qw "common" QeA ["numbers"]:=λ | _,_,_,_,_,_,[_],_=>rfl
def QmV:=(Cp QeA QhU).getD QA
theorem Qr0:Cp QeA QhU=some QmV:=some_of (by decide+kernel)
abbrev QaS:=Dn QeA QmV
abbrev QiV:=Gc "common" 1 QaS QhU
abbrev Qb5:=top 17
theorem Ql3:Sc Qb5 ["lines","at"]:=scM rfl rfl rfl (by decide+kernel)
theorem Qnq:Qw "with_pivot" Qb5 ["lines","at"]:=λ | _,_,_,_,_,_,[_,_],_=>rfl
def Qhy:=(Cp Qb5 QiV).getD QA
theorem QnN:Cp Qb5 QiV=some Qhy:=some_of (by decide+kernel)
abbrev Qch:=Dn Qb5 Qhy
abbrev Qfs:=Gc "with_pivot" 2 Qch QiV
abbrev QcC:=top 18
theorem QnF:Sc QcC ["line","pivot_line","at","before"]:=scM rfl rfl rfl (by decide+kernel)
theorem Qn5:Qw "taken_off" QcC ["line","pivot_line","at","before"]:=λ | _,_,_,_,_,_,[_,_,_,_],_=>rfl
def QiI:=(Cp QcC Qfs).getD QA
theorem Qom:Cp QcC Qfs=some QiI:=some_of (by decide+kernel)
abbrev QcG:=Dn QcC QiI
abbrev Qf3:=Gc "taken_off" 4 QcG Qfs
abbrev QdV:=top 16
theorem Qpi:Sc QdV ["lines"]:=scM rfl rfl rfl (by decide+kernel)
theorem QqS:Qw "cleared" QdV ["lines"]:=λ | _,_,_,_,_,_,[_],_=>rfl
def QlA:=(Cp QdV Qf3).getD QA
theorem Qqr:Cp QdV Qf3=some QlA:=some_of (by decide+kernel)
abbrev QbJ:=Dn QdV QlA
abbrev QeL:=Gc "cleared" 1 QbJ Qf3
abbrev Qae:=top 19
theorem Qft:Sc Qae ["lines"]:=scM rfl rfl rfl (by decide+kernel)
theorem QfZ:Qw "cleared_whole" Qae ["lines"]:=λ | _,_,_,_,_,_,[_],_=>rfl
noncomputable def QfK:=(CpX Qae QeL []).getD xNo
theorem Qjp:CpX Qae QeL []=some QfK:=some_of (by decide+kernel)
noncomputable abbrev QaQ:=QbS (namesOf (Qj Qae)).length QfK
noncomputable abbrev QdC:List (Str×(Nat×(List D->Option Str))):=("cleared_whole",(1,QaQ))::[]
def QfW:=(Cp Qae QeL).getD QA
theorem QjC:Cp Qae QeL=some QfW:=some_of (by decide+kernel)
abbrev QJ:=Dn Qae QfW
abbrev QbP:=Gc "cleared_whole" 1 QJ QeL
abbrev Qav:=top 20
theorem Qgw:Sc Qav ["table"]:=scM rfl rfl rfl (by decide+kernel)
theorem Qhf:Qw "turned_back" Qav ["table"]:=λ | _,_,_,_,_,_,[_],_=>rfl
noncomputable def Qgh:=(CpX Qav QbP QdC).getD xNo
theorem QkG:CpX Qav QbP QdC=some Qgh:=some_of (by decide+kernel)
noncomputable abbrev Qcd:=QbS (namesOf (Qj Qav)).length Qgh
noncomputable abbrev Qee:List (Str×(Nat×(List D->Option Str))):=("turned_back",(1,Qcd))::QdC
def Qhd:=(Cp Qav QbP).getD QA
theorem QlZ:Cp Qav QbP=some Qhd:=some_of (by decide+kernel)
abbrev Qak:=Dn Qav Qhd
abbrev Qcx:=Gc "turned_back" 1 Qak QbP
abbrev QaG:=top 21
theorem Qhh:Sc QaG ["table","row"]:=scM rfl rfl rfl (by decide+kernel)
theorem QhI:Qw "shared_out" QaG ["table","row"]:=λ | _,_,_,_,_,_,[_,_],_=>rfl
noncomputable def Qhc:=(CpX QaG Qcx Qee).getD xNo
theorem QlY:CpX QaG Qcx Qee=some Qhc:=some_of (by decide+kernel)
noncomputable abbrev QbE:=QbS (namesOf (Qj QaG)).length Qhc
noncomputable abbrev QeT:List (Str×(Nat×(List D->Option Str))):=("shared_out",(2,QbE))::Qee
def Qh8:=(Cp QaG Qcx).getD QA
theorem Qmq:Cp QaG Qcx=some Qh8:=some_of (by decide+kernel)
abbrev QaH:=Dn QaG Qh8
abbrev Qfu:=Gc "shared_out" 2 QaH Qcx
abbrev QcB:=top 28
theorem Qm6:Sc QcB ["lines","number"]:=scM rfl rfl rfl (by decide+kernel)
theorem Qn4:Qw "in_common" QcB ["lines","number"]:=λ | _,_,_,_,_,_,[_,_],_=>rfl
def QiH:=(Cp QcB Qfu).getD QA
theorem Qob:Cp QcB Qfu=some QiH:=some_of (by decide+kernel)
abbrev QaE:=Dn QcB QiH
abbrev Qf4:=Gc "in_common" 2 QaE Qfu
abbrev Qe5:=top 32
theorem Qsw:Sc Qe5 ["factor","line","other_factor","other_line"]:=scM rfl rfl rfl (by decide+kernel)
theorem QuL:Qw "added" Qe5 ["factor","line","other_factor","other_line"]:=λ | _,_,_,_,_,_,[_,_,_,_],_=>rfl
def Qos:=(Cp Qe5 Qf4).getD QA
theorem Qt4:Cp Qe5 Qf4=some Qos:=some_of (by decide+kernel)
abbrev QbF:=Dn Qe5 Qos
abbrev QkF:=Gc "added" 4 QbF Qf4
abbrev QdR:=top 33
theorem QpR:Sc QdR ["one","other"]:=scM rfl rfl rfl (by decide+kernel)
theorem QqK:Qw "weighed" QdR ["one","other"]:=λ | _,_,_,_,_,_,[_,_],_=>rfl
def Qlx:=(Cp QdR QkF).getD QA
theorem QqI:Cp QdR QkF=some Qlx:=some_of (by decide+kernel)
abbrev QdN:=Dn QdR Qlx
abbrev QhJ:=Gc "weighed" 2 QdN QkF
abbrev Qbg:=top 31
theorem Qj2:Sc Qbg ["free","last"]:=scM rfl rfl rfl (by decide+kernel)
theorem QkB:Qw "column_steps" Qbg ["free","last"]:=λ | _,_,_,_,_,_,[_,_],_=>rfl
def Qgf:=(Cp Qbg QhJ).getD QA
theorem QkS:Cp Qbg QhJ=some Qgf:=some_of (by decide+kernel)
abbrev Qbd:=Dn Qbg Qgf
abbrev Qes:=Gc "column_steps" 2 Qbd QhJ
abbrev Qd9:=top 27
theorem QqZ:Sc Qd9 ["line","length"]:=scM rfl rfl rfl (by decide+kernel)
theorem Qtg:Qw "within" Qd9 ["line","length"]:=λ | _,_,_,_,_,_,[_,_],_=>rfl
def Qm0:=(Cp Qd9 Qes).getD QA
theorem Qs2:Cp Qd9 Qes=some Qm0:=some_of (by decide+kernel)
abbrev Qcl:=Dn Qd9 Qm0
abbrev Qjf:=Gc "within" 2 Qcl Qes
abbrev Qe8:=top 30
theorem QsE:Sc Qe8 ["one","other","length"]:=scM rfl rfl rfl (by decide+kernel)
theorem Qvd:Qw "mixed" Qe8 ["one","other","length"]:=λ | _,_,_,_,_,_,[_,_,_],_=>rfl
def QoQ:=(Cp Qe8 Qjf).getD QA
theorem Qut:Cp Qe8 Qjf=some QoQ:=some_of (by decide+kernel)
abbrev Qe4:=Dn Qe8 QoQ
abbrev QkI:=Gc "mixed" 3 Qe4 Qjf
abbrev QbD:=top 29
theorem QkX:Sc QbD ["lines","length"]:=scM rfl rfl rfl (by decide+kernel)
theorem Qmb:Qw "free_column" QbD ["lines","length"]:=λ | _,_,_,_,_,_,[_,_],_=>rfl
def Qg8:=(Cp QbD QkI).getD QA
theorem QlV:Cp QbD QkI=some Qg8:=some_of (by decide+kernel)
abbrev QbI:=Dn QbD Qg8
abbrev QeU:=Gc "free_column" 2 QbI QkI
abbrev Qel:=top 26
theorem Qqi:Sc Qel ["line","number"]:=scM rfl rfl rfl (by decide+kernel)
theorem Qsq:Qw "shared" Qel ["line","number"]:=λ | _,_,_,_,_,_,[_,_],_=>rfl
def QnV:=(Cp Qel QeU).getD QA
theorem Qte:Cp Qel QeU=some QnV:=some_of (by decide+kernel)
abbrev QaI:=Dn Qel QnV
abbrev Qi1:=Gc "shared" 2 QaI QeU
abbrev Qbe:=top 24
theorem Qj1:Sc Qbe ["parts","whole"]:=scM rfl rfl rfl (by decide+kernel)
theorem Qkq:Qw "right_tables" Qbe ["parts","whole"]:=λ | _,_,_,_,_,_,[_,_],_=>rfl
def Qgt:=(Cp Qbe Qi1).getD QA
theorem Qlq:Cp Qbe Qi1=some Qgt:=some_of (by decide+kernel)
abbrev Qan:=Dn Qbe Qgt
abbrev Qev:=Gc "right_tables" 2 Qan Qi1
abbrev QcK:=top 25
theorem QnM:Sc QcK ["line","factor"]:=scM rfl rfl rfl (by decide+kernel)
theorem QnZ:Qw "by_number" QcK ["line","factor"]:=λ | _,_,_,_,_,_,[_,_],_=>rfl
def QiP:=(Cp QcK Qev).getD QA
theorem Qoi:Cp QcK Qev=some QiP:=some_of (by decide+kernel)
abbrev QaV:=Dn QcK QiP
abbrev Qdq:=Gc "by_number" 2 QaV Qev
abbrev Qau:=top 23
theorem Qgn:Sc Qau ["table"]:=scM rfl rfl rfl (by decide+kernel)
theorem Qhk:Qw "ring_tables" Qau ["table"]:=λ | _,_,_,_,_,_,[_],_=>rfl
noncomputable def Qgr:=(CpX Qau Qdq QeT).getD xNo
theorem Qk1:CpX Qau Qdq QeT=some Qgr:=some_of (by decide+kernel)
noncomputable abbrev QaA:=QbS (namesOf (Qj Qau)).length Qgr
noncomputable abbrev Qbp:List (Str×(Nat×(List D->Option Str))):=("ring_tables",(1,QaA))::QeT
def Qhg:=(Cp Qau Qdq).getD QA
theorem Ql4:Cp Qau Qdq=some Qhg:=some_of (by decide+kernel)
abbrev QS:=Dn Qau Qhg
abbrev QeP:=Gc "ring_tables" 1 QS Qdq
abbrev QcH:=top 35
theorem QnR:Sc QcH ["_law_script","_law_k"]:=scM rfl rfl rfl (by decide+kernel)
theorem Qn6:Qw "_law_cell" QcH ["_law_script","_law_k"]:=λ | _,_,_,_,_,_,[_,_],_=>rfl
def QiS:=(Cp QcH QeP).getD QA
theorem Qog:Cp QcH QeP=some QiS:=some_of (by decide+kernel)
abbrev Qaj:=Dn QcH QiS
abbrev Qf8:=Gc "_law_cell" 2 Qaj QeP
abbrev Qcb:=top 36
theorem QlX:Sc Qcb ["_law_found"]:=scM rfl rfl rfl (by decide+kernel)
theorem QmL:Qw "_law_whole" Qcb ["_law_found"]:=λ | _,_,_,_,_,_,[_],_=>rfl
def QhK:=(Cp Qcb Qf8).getD QA
theorem QnG:Cp Qcb Qf8=some QhK:=some_of (by decide+kernel)
abbrev Qb3:=Dn Qcb QhK
abbrev Qfq:=Gc "_law_whole" 1 Qb3 Qf8
abbrev Qbl:=top 37
theorem QjJ:Sc Qbl ["_law_found","_law_size"]:=scM rfl rfl rfl (by decide+kernel)
theorem QkD:Qw "_law_numbers" Qbl ["_law_found","_law_size"]:=λ | _,_,_,_,_,_,[_,_],_=>rfl
def QgE:=(Cp Qbl Qfq).getD QA
theorem Qk9:Cp Qbl Qfq=some QgE:=some_of (by decide+kernel)
abbrev Qbn:=Dn Qbl QgE
abbrev Qeb:=Gc "_law_numbers" 2 Qbn Qfq
abbrev QbA:=top 38
theorem Qlp:Sc QbA ["_law_cell_here","_law_far"]:=scM rfl rfl rfl (by decide+kernel)
theorem Ql1:Qw "_law_number" QbA ["_law_cell_here","_law_far"]:=λ | _,_,_,_,_,_,[_,_],_=>rfl
def Qhb:=(Cp QbA Qeb).getD QA
theorem Ql7:Cp QbA Qeb=some Qhb:=some_of (by decide+kernel)
abbrev QbH:=Dn QbA Qhb
abbrev QeQ:=Gc "_law_number" 2 QbH Qeb
abbrev Qcg:=top 39
theorem Ql6:Sc Qcg ["_law_script","_law_start","_law_size","_law_far"]:=scM rfl rfl rfl (by decide+kernel)
theorem QmX:Qw "_law_table" Qcg ["_law_script","_law_start","_law_size","_law_far"]:=λ | _,_,_,_,_,_,[_,_,_,_],_=>rfl
def Qhq:=(Cp Qcg QeQ).getD QA
theorem Qmz:Cp Qcg QeQ=some Qhq:=some_of (by decide+kernel)
abbrev Qbt:=Dn Qcg Qhq
abbrev Qfh:=Gc "_law_table" 4 Qbt QeQ
abbrev Qa5:=top 40
theorem Qi5:Sc Qa5 ["_law_found","_law_size"]:=scM rfl rfl rfl (by decide+kernel)
theorem Qkl:Qw "_law_is_table" Qa5 ["_law_found","_law_size"]:=λ | _,_,_,_,_,_,[_,_],_=>rfl
def QfS:=(Cp Qa5 Qfh).getD QA
theorem Qke:Cp Qa5 Qfh=some QfS:=some_of (by decide+kernel)
abbrev Qa4:=Dn Qa5 QfS
abbrev Qkp:=Gc "_law_is_table" 2 Qa4 Qfh
abbrev QQ:=top 41
theorem QcP:Sc QQ ["_law_table_here"]:=scM rfl rfl rfl (by decide+kernel)
theorem Qb8:Qw "_law_measure" QQ ["_law_table_here"]:=λ | _,_,_,_,_,_,[_],_=>rfl
abbrev Qfv:Den:=λ_=>none
abbrev QdD:=Gc "_law_measure" 1 Qfv Qkp
def QfA:=(Cp QQ QdD).getD QA
theorem Qi7:Cp QQ QdD=some QfA:=some_of (by decide+kernel)
abbrev Qcv:=Dn QQ QfA
abbrev QdK:=Gc "_law_measure" 1 Qcv QdD
def Qfx:=(Cp QQ QdK).getD QA
theorem Qjo:Cp QQ QdK=some Qfx:=some_of (by decide+kernel)
abbrev Qcq:=Dn QQ Qfx
abbrev QdM:=Gc "_law_measure" 1 Qcq QdK
def Qfl:=(Cp QQ QdM).getD QA
theorem Qi8:Cp QQ QdM=some Qfl:=some_of (by decide+kernel)
abbrev Qcu:=Dn QQ Qfl
abbrev QdL:=Gc "_law_measure" 1 Qcu QdM
def QfD:=(Cp QQ QdL).getD QA
theorem Qjm:Cp QQ QdL=some QfD:=some_of (by decide+kernel)
abbrev Qcj:=Dn QQ QfD
abbrev QdG:=Gc "_law_measure" 1 Qcj QdL
abbrev QaB:=Qcj
abbrev QcI:=top 42
theorem QnO:Sc QcI ["_law_table_here"]:=scM rfl rfl rfl (by decide+kernel)
theorem Qn0:Qw "_law_copy" QcI ["_law_table_here"]:=λ | _,_,_,_,_,_,[_],_=>rfl
def QiT:=(Cp QcI QdG).getD QA
theorem Qod:Cp QcI QdG=some QiT:=some_of (by decide+kernel)
abbrev QaW:=Dn QcI QiT
abbrev Qf0:=Gc "_law_copy" 1 QaW QdG
abbrev Qbo:=top 43
theorem Qj4:Sc Qbo ["_law_table_here"]:=scM rfl rfl rfl (by decide+kernel)
theorem Qlu:Qw "_law_by_name" Qbo ["_law_table_here"]:=λ | _,_,_,_,_,_,[_],_=>rfl
def Qgm:=(CpT Qbo Qf0 Qbp []).getD QA
theorem Qlf:CpT Qbo Qf0 Qbp []=some Qgm:=some_of (by decide+kernel)
abbrev Qbh:=Dn Qbo Qgm
abbrev Qew:=Gc "_law_by_name" 1 Qbh Qf0
abbrev Qbf:=top 44
theorem Qj3:Sc Qbf ["_law_table_here"]:=scM rfl rfl rfl (by decide+kernel)
theorem Qlk:Qw "_law_refused" Qbf ["_law_table_here"]:=λ | _,_,_,_,_,_,[_],_=>rfl
def Qgz:=(CpT Qbf Qew Qbp []).getD QA
theorem QkZ:CpT Qbf Qew Qbp []=some Qgz:=some_of (by decide+kernel)
abbrev Qbm:=Dn Qbf Qgz
abbrev Qeg:=Gc "_law_refused" 1 Qbm Qew
abbrev QcJ:=top 45
theorem QmW:Sc QcJ ["_law_table_here","_law_row"]:=scM rfl rfl rfl (by decide+kernel)
theorem Qoj:Qw "_law_word" QcJ ["_law_table_here","_law_row"]:=λ | _,_,_,_,_,_,[_,_],_=>rfl
def QiJ:=(CpT QcJ Qeg Qbp []).getD QA
theorem Qoa:CpT QcJ Qeg Qbp []=some QiJ:=some_of (by decide+kernel)
abbrev QaD:=Dn QcJ QiJ
abbrev Qf9:=Gc "_law_word" 2 QaD Qeg
abbrev Qbi:=top 46
theorem QjX:Sc Qbi ["_law_table_here","_law_cell_here"]:=scM rfl rfl rfl (by decide+kernel)
theorem Qk4:Qw "_law_emptied" Qbi ["_law_table_here","_law_cell_here"]:=λ | _,_,_,_,_,_,[_,_],_=>rfl
def Qgl:=(Cp Qbi Qf9).getD QA
theorem Qkr:Cp Qbi Qf9=some Qgl:=some_of (by decide+kernel)
abbrev Qbc:=Dn Qbi Qgl
abbrev Qef:=Gc "_law_emptied" 2 Qbc Qf9
abbrev QbG:=top 47
theorem Qku:Sc QbG ["_law_table_here"]:=scM rfl rfl rfl (by decide+kernel)
theorem Qmc:Qw "_law_filled" QbG ["_law_table_here"]:=λ | _,_,_,_,_,_,[_],_=>rfl
def Qhi:=(Cp QbG Qef).getD QA
theorem QlW:Cp QbG Qef=some Qhi:=some_of (by decide+kernel)
abbrev QbC:=Dn QbG Qhi
abbrev Qhm:=Gc "_law_filled" 1 QbC Qef
abbrev Qit:=top 48
theorem QvJ:Sc Qit ["_law_script"]:=scM rfl rfl rfl (by decide+kernel)
theorem QxC:Qw "law" Qit ["_law_script"]:=λ | _,_,_,_,_,_,[_],_=>rfl
def QtY:=(Cp Qit Qhm).getD QA
theorem Qxm:Cp Qit Qhm=some QtY:=some_of (by decide+kernel)
abbrev QpP:=Dn Qit QtY
theorem QsU:Qaq=Ql 2 (HS.Qm1):=by kernel_rfl
theorem QsQ:QW=Ql 1 (HS.Qnf Qaq):=by kernel_rfl
theorem Qpa:Qam=Ql 2 (HS.QjK):=by kernel_rfl
theorem QnC:QR=Ql 1 (HS.Qht Qam):=by kernel_rfl
theorem Qo5:Qdf=Ql 1 (HS.Qkf):=by kernel_rfl
theorem Qss:QeB=Ql 2 (HS.Qmw):=by kernel_rfl
theorem QqF:QdP=Ql 2 (HS.Qlz QeB):=by kernel_rfl
theorem Qq3:Q3=Ql 3 (HS.QlI QW QdP):=by kernel_rfl
theorem QrU:QaS=Ql 5 (HS.QgO):=by kernel_rfl
theorem Qnn:Qch=Ql 4 (HS.QgA Qdf):=by kernel_rfl
theorem Qn1:QcG=Ql 4 (HS.QiE):=by kernel_rfl
theorem QqA:QbJ=Ql 5 (HS.QfM Qch QcG):=by kernel_rfl
theorem QfV:QJ=Ql 2 (HS.QcQ QbJ):=by kernel_rfl
theorem Qha:Qak=Ql 3 (HS.Qdu Qam QJ):=by kernel_rfl
theorem Qia:QaH=Ql 6 (HS.Qd4 QW QJ Qaq QaS):=by kernel_rfl
theorem Qoh:QaE=Ql 2 (HS.QiG QaS):=by kernel_rfl
theorem Quw:QbF=Ql 4 (HS.Qor):=by kernel_rfl
theorem Qqt:QdN=Ql 5 (HS.QfT QbF):=by kernel_rfl
theorem Qkw:Qbd=Ql 10 (HS.Qdb QR QdN QbF QW):=by kernel_rfl
theorem QrZ:Qcl=Ql 2 (HS.Qnr):=by kernel_rfl
theorem Qvw:Qe4=Ql 5 (HS.Qir QaE Qcl):=by kernel_rfl
theorem Ql8:QbI=Ql 4 (HS.QdA Qaq Qe4):=by kernel_rfl
theorem Qtq:QaI=Ql 2 (HS.Qmy):=by kernel_rfl
theorem QkK:Qan=Ql 11 (HS.Qdj QR QaE QaI Qcl QbI Qbd Q3):=by kernel_rfl
theorem QnX:QaV=Ql 2 (HS.QiR):=by kernel_rfl
theorem Qhe:QS=Ql 9 (HS.Qdy Qak Qan QaV QR QaI Q3 QW):=by kernel_rfl
theorem Qn8:Qaj=Ql 3 (HS.QeE):=by kernel_rfl
theorem Qmv:Qb3=Ql 1 (HS.Qhn):=by kernel_rfl
theorem QkV:Qbn=Ql 2 (HS.Qff Qb3):=by kernel_rfl
theorem Qma:QbH=Ql 2 (HS.Qhl):=by kernel_rfl
theorem QnD:Qbt=Ql 6 (HS.Qfo Qaj QbH):=by kernel_rfl
theorem QjG:Qa4=Ql 3 (HS.QfR Qbn):=by kernel_rfl
theorem QiX:Qcv=Ql 4 (HS.Qca Qfv):=by kernel_rfl
theorem QiU:Qcq=Ql 4 (HS.Qca Qcv):=by kernel_rfl
theorem Qjw:Qcu=Ql 4 (HS.Qca Qcq):=by kernel_rfl
theorem Qja:Qcj=Ql 4 (HS.Qca Qcu):=by kernel_rfl
theorem Qoc:QaW=Ql 1 (HS.QiL):=by kernel_rfl
theorem QkT:Qbh=Ql 2 (HS.QeG QS QaA sub):=by kernel_rfl
theorem QkU:Qbm=Ql 3 (HS.QeK QS QaA sub):=by kernel_rfl
theorem QiF:QaD=Ql 3 (HS.Qej QaH QbE sub):=by kernel_rfl
theorem Qld:Qbc=Ql 7 (HS.QbN):=by kernel_rfl
theorem Ql9:QbC=Ql 4 (HS.QbV QaW QaB):=by kernel_rfl
theorem QxG:QpP=Ql 10 (HS.QlJ Qaj Qbt Qbc QaW Qbh Qbm QaD QbC QS Qa4 QaB):=by kernel_rfl
theorem Qfz:QaQ=QbS 2 (HS.QcS QbJ):=by kernel_rfl
theorem Qgp:Qcd=QbS 3 (HS.Qdz Qam QJ QaQ):=by kernel_rfl
theorem Qg9:QbE=QbS 6 (HS.QdZ QaS Qaq QW QJ QaQ):=by kernel_rfl
theorem Qgs:QaA=QbS 9 (HS.Qdv QaI Q3 QW QaV QR Qan Qak Qcd):=by kernel_rfl
end
end Law
namespace HS
open PySem PySem.Spec L2
noncomputable def QrO(mg:Str->Option Value):List Str->Prop
 | []=>True
 | x::r=>mg x=none/\QrO mg r
theorem QmA{mg:Str->Option Value}:∀{l:List Str},QrO mg l->∀x∈l,mg x=none
 | [],_,x,h=>by simp at h
 | y::r,h,x,hx=>by
  rcases Zl.mp hx with rfl | hx
  ·exact h.1
  ·exact QmA h.2 x hx
noncomputable def Qtc(mg:Str->Option Value):List (Str×Int)->Prop
 | []=>True
 | (x,i)::r=>(∃t,mg x=some (.int i t))/\Qtc mg r
theorem QmI{mg:Str->Option Value}:∀{l:List (Str×Int)},Qtc mg l->∀x i,look x l=some i->∃t,mg x=some (.int i t)
 | [],_,x,i,h=>by cases h
 | (y,j)::r,h,x,i,hx=>by
  unfold look at hx
  split at hx
  ·rename_i e;cases hx;subst e;exact h.1
  ·exact QmI h.2 x i hx
theorem QwV{mg:Str->Option Value}{cs:List (Str×Int)}(b:QrO mg QmP)(c:Qtc mg cs):Qe0 mg cs:=⟨QmA b,QmI c⟩
end HS
namespace Law
open HS
theorem QtV:Qif Qaj:=by rw[Qn8];exact QsV
theorem QvV:Qlv Qb3:=by rw[Qmv];exact Qsf
theorem QxZ:Qna Qbn:=by rw[QkV];exact Qt1 QvV
theorem QyD:Qln Qa4:=by rw[QjG];exact Qso QxZ
theorem Qu1:QgK QbH:=by rw[Qma];exact Qp8
theorem Qw1:QhF Qbt:=by rw[QnD];exact QpN QtV Qu1
theorem QtH:QjT QaW:=by rw[Qoc];exact Qvr
theorem QyG:Qpn Qdf:=by rw[Qo5];exact Qw5
theorem Qks:QfH Qaq:=by rw[QsU];exact Qqz
theorem Qgx:QdF QW:=by rw[QsQ];exact Qqy Qks
theorem Qux:Qjc QeB:=by rw[Qss];exact Qqe
theorem Qvn:Qjq QdP:=by rw[QqF];exact Qrb Qux
theorem QnA:QfO Q3:=by rw[Qq3];exact QpL Qgx Qvn
theorem QoU:Qg2 QaS:=by rw[QrU];exact Qq5
theorem Qpq:Qh7 Qam:=by rw[Qpa];exact QuY
theorem Qmx:Qgj QR:=by rw[QnC];exact Qr6 Qpq
theorem Qym:Qjh Qch:=by rw[Qnn];exact Qqp QyG
theorem QyJ:Qk2 QcG:=by rw[Qn1];exact Qtp
theorem Qwe:Qe3 QbJ:=by rw[QqA];exact Qn3 Qym QyJ
theorem Qwk:QeC QJ:=by rw[QfV];exact QnS Qwe
theorem hTB:QkQ Qak:=by rw[Qha];exact Qsk Qpq Qwk
theorem QrA:Qiz QaE:=by rw[Qoh];exact QsW QoU
theorem Qrw:Qii QbF:=by rw[Quw];exact QrS
theorem Qxf:Qlo QdN:=by rw[Qqt];exact Qsx Qrw
theorem Qv0:Qlt Qbd:=by rw[Qkw];exact Qtj Qmx Qxf Qrw Qgx
theorem Qox:QgZ Qcl:=by rw[QrZ];exact QqJ
theorem QwE:Qk3 Qe4:=by rw[Qvw];exact QsS QrA Qox
theorem Qxq:Qnw QbI:=by rw[Ql8];exact Qt7 Qks QwE
theorem QoF:QgT QaI:=by rw[Qtq];exact QqM
theorem Qwo:Qk6 Qan:=by rw[QkK];exact Qs7 Qmx QrA QoF Qox Qxq Qv0 QnA
theorem Qxj:Qky QaV:=by rw[QnX];exact QrT
theorem QwA:Qlm QS:=by rw[Qhe];exact QrD hTB Qwo Qxj Qmx QoF QnA Qgx
theorem Qyl:QhG QaH:=by rw[Qia];exact QpD Qgx Qwk Qks QoU
theorem Qo3:ApF QJ QaQ:=by rw[QfV,Qfz];exact QxD
theorem xCw:Qg4 QaQ:=by rw[Qfz];exact Qoe Qwe
theorem Qyo:ApF QaH QbE:=by rw[Qia,Qg9];exact QxF Qo3
theorem xSh:Qle QbE:=by rw[Qg9];exact QoZ Qo3 Qgx xCw
theorem Qwc:ApF Qak Qcd:=by rw[Qha,Qgp];exact QxU Qo3
theorem xTb:Qgo Qcd:=by rw[Qgp];exact Qwn Qo3 Qpq xCw
theorem QvM:ApF QS QaA:=by rw[Qhe,Qgs];exact QxB Qwc
theorem xRt:Qgo QaA:=by rw[Qgs];exact QwR Qwc xTb
theorem w34:QtZ sub:=⟨by decide+kernel,by decide+kernel,by decide+kernel,by decide+kernel,by decide+kernel,by decide+kernel,by decide+kernel,by decide+kernel⟩
theorem w36:QtT sub:=⟨by decide+kernel,by decide+kernel,by decide+kernel,by decide+kernel,by decide+kernel,by decide+kernel⟩
theorem QxJ:Qkz QbE QaD:=by rw[QiF];exact Qsj Qyo w34
theorem Qw6:∀a b d,QaH [.lst a,.lst b]=some (d,true)->QaD [.lst a,.lst b]=some (.str "taken",true):=λa b d h=>by rw[QiF];exact Qpx h
theorem hName:Qei QaA Qbh:=by rw[QkT];exact QqO QvM w36.gg
theorem Qxp:Qei QaA Qbm:=by rw[QkU];exact Qrl QvM w36
theorem hM1:Qdh 1 Qcv:=by rw[QiX];exact QeW QuD
theorem hM2:Qdh 2 Qcq:=by rw[QiU];exact QeW hM1
theorem hM3:Qdh 3 Qcu:=by rw[Qjw];exact QeW hM2
theorem hM4:Qdh 4 Qcj:=by rw[Qja];exact QeW hM3
theorem QyQ:Qlj Qbc:=by rw[Qld];exact Qtz
theorem Qxv:Qjy QbC:=by rw[Ql9];exact Qro QtH hM4
theorem QwD(ns:List Int)(h:ns.length<=63)(hb:∀k:Nat,PySem.Builtin.Int.intBits (ns.getD k 0)<=2^20):∃fr,QpP [.lst (ns.map .int)]=some (.bl true,fr):=by
 rw[QxG]
 exact⟨true,Qws QtV Qw1 QyQ QtH hName Qxp QxJ Qw6 Qxv QwA QyD hM4 Qyl xSh xRt ns h hb⟩
end Law
namespace PySem.W.Fast
def tw18028172060122217166:=0
def tw5376906143680194425:=0
def tw17468626860172882099:=0
def tw4175651649715329897:=0
def tw2571451208863336197:=0
def tw3001396843111293794:=0
def tw16032765973271305493:=0
def tw9764658847842044359:=0
def tw14168921164487130873:=0
def tw17660602523240941609:=0
def tw7715778935724347184:=0
def tw1225381690126211113:=0
def tw4963258232185141090:=0
def tw9174198393774433950:=0
def tw2066651495242890763:=0
def tw14011230277426761925:=0
def tw4055394578108508135:=0
def tw14407654834928287658:=0
def tw6134638273712313200:=0
def tw4949474955466855675:=0
def tw9529860852762745996:=0
def tw13127233115389747459:=0
def tw5112931648281239312:=0
def tw13858749222146172385:=0
def tw1518736953603460719:=0
def tw1795444357245219494:=0
def tw2770125545671746624:=0
def tw3669517244796112242:=0
def tw17459901572116353764:=0
def tw7817315783285235870:=0
def tw5353519201454280797:=0
def tw8638246190104664675:=0
def tw1453705148605442805:=0
def tw6058099399174788451:=0
def tw9018718041952983733:=0
def tw9104960796810184271:=0
def tw10087440177180835388:=0
def tw10892361065966296395:=0
def tw1730621739342673809:=0
def tw6404214254848709762:=0
def tw2218680451916769878:=0
def tw6821042920619909980:=0
def tw7021121153890094120:=0
def tw3141758204520037798:=0
def tw15671909511286027178:=0
def tw18334493461790718543:=0
def tw17197445675058040545:=0
def tw8772078007773535346:=0
def tw5761947446901964944:=0
def tw14944628190175719786:=0
def tw1882461975753591761:=0
def tw3950842670244968206:=0
def tw16540009009867283809:=0
def tw8356142817976171633:=0
def tw425272002561459392:=0
def tw6309171443041412707:=0
def tw2761434601369046865:=0
def tw13969221767649134927:=0
def tw6159473843068656587:=0
def tw13817992507823373451:=0
def tw3899811514625667649:=0
def tw9335125995856559346:=0
def tw7371454496452556515:=0
def tw3135535210136294038:=0
def tw1019731400500986703:=0
def tw17502072914057230549:=0
def tw5281202749512216312:=0
def tw15136245576637525171:=0
def tw15965093526491130340:=0
def tw9517646323476744440:=0
def tw4785159750445904256:=0
def tw3567510158767750741:=0
def tw6096021318852600656:=0
def tw200702270065762076:=0
def tw11166308197428887210:=0
def tw11788973716946617244:=0
def tw4261735243016152820:=0
def tw13443213953867862601:=0
def tw8788066089189178561:=0
def tw5222861709382632558:=0
def tw2234783633266055384:=0
def tw5288080676849198613:=0
def tw6761161075376841539:=0
def tw6329437283744918158:=0
def tw1179149011277229157:=0
def tw5915756314799458522:=0
def tw5265569093875117760:=0
def tw15980784106798742718:=0
def tw13208599166422555369:=0
def tw17899600926767633708:=0
def tw4355744817130479614:=0
def tw15556814671776192272:=0
def tw15493758508740028813:=0
def tw5279377896089397461:=0
def tw13127313630056534635:=0
def tw8741218480662965929:=0
def tw2784397523599207689:=0
def tw771203011850236629:=0
def tw15525001659490467175:=0
def tw7644275075358134738:=0
def tw11368154658381469474:=0
def tw9294389597499556089:=0
def tw11649113990291969141:=0
def tw11305924411063304434:=0
def tw672532581444339222:=0
def tw9743906938280045515:=0
def tw9602620557299202554:=0
def tw8109135044162274910:=0
def tw10889350788974629834:=0
def tw15422672839060767798:=0
def tw13483802366166594280:=0
def tw6990459384545264935:=0
def tw8066195836701936034:=0
def tw3613701083505268501:=0
def tw3047205693403055330:=0
def tw15516738646917279701:=0
end PySem.W.Fast
open PySem PySem.W PyProof.Rows HS
set_option maxRecDepth 100000 in
set_option maxHeartbeats 0 in
theorem PySem.Challenge.cw_heapstill_k36_tables_refused_holds : PySem.Challenge.rw_heapstill_k36_tables_refused.Holds := by
 w_on;o_law;k_head;(case hw=>w_witness2)
 k_fill
 refine HS.Qq8 (l:=PySem.Challenge.rw_heapstill_k36_tables_refused) (k:=44) (x:= "_law_script") (den:=Law.QpP) rfl rfl ⟨rfl,by decide,by decide⟩ (λw h Y=>PySem.W.kIn_of Y) Law.QwD ?F
 case F=>
  intro w mg fa h KX G hmg
  obtain⟨f_column,f_turned,f_unit_row,f_unit_table,f_opposite,f_scalar,f_line_by,f_product,f_common,f_with_pivot,f_taken_off,f_cleared,f_cleared_whole,f_turned_back,f_shared_out,f_in_common,f_added,f_weighed,f_column_steps,f_within,f_mixed,f_free_column,f_shared,f_right_tables,f_by_number,f_ring_tables,f__law_cell,f__law_whole,f__law_numbers,f__law_number,f__law_table,f__law_is_table,f__law_measure,f__law_copy,f__law_by_name,f__law_refused,f__law_word,f__law_emptied,f__law_filled,f_law⟩:HS.Fact (L2.KOf KX) "column" Law.Qeq/\HS.Fact (L2.KOf KX) "turned" Law.Qea/\HS.Fact (L2.KOf KX) "unit_row" Law.Qdd/\HS.Fact (L2.KOf KX) "unit_table" Law.Qcc/\HS.Fact (L2.KOf KX) "opposite" Law.Qde/\HS.Fact (L2.KOf KX) "scalar" Law.Qed/\HS.Fact (L2.KOf KX) "line_by" Law.QdU/\HS.Fact (L2.KOf KX) "product" Law.QdO/\HS.Fact (L2.KOf KX) "common" Law.QeA/\HS.Fact (L2.KOf KX) "with_pivot" Law.Qb5/\HS.Fact (L2.KOf KX) "taken_off" Law.QcC/\HS.Fact (L2.KOf KX) "cleared" Law.QdV/\HS.Fact (L2.KOf KX) "cleared_whole" Law.Qae/\HS.Fact (L2.KOf KX) "turned_back" Law.Qav/\HS.Fact (L2.KOf KX) "shared_out" Law.QaG/\HS.Fact (L2.KOf KX) "in_common" Law.QcB/\HS.Fact (L2.KOf KX) "added" Law.Qe5/\HS.Fact (L2.KOf KX) "weighed" Law.QdR/\HS.Fact (L2.KOf KX) "column_steps" Law.Qbg/\HS.Fact (L2.KOf KX) "within" Law.Qd9/\HS.Fact (L2.KOf KX) "mixed" Law.Qe8/\HS.Fact (L2.KOf KX) "free_column" Law.QbD/\HS.Fact (L2.KOf KX) "shared" Law.Qel/\HS.Fact (L2.KOf KX) "right_tables" Law.Qbe/\HS.Fact (L2.KOf KX) "by_number" Law.QcK/\HS.Fact (L2.KOf KX) "ring_tables" Law.Qau/\HS.Fact (L2.KOf KX) "_law_cell" Law.QcH/\HS.Fact (L2.KOf KX) "_law_whole" Law.Qcb/\HS.Fact (L2.KOf KX) "_law_numbers" Law.Qbl/\HS.Fact (L2.KOf KX) "_law_number" Law.QbA/\HS.Fact (L2.KOf KX) "_law_table" Law.Qcg/\HS.Fact (L2.KOf KX) "_law_is_table" Law.Qa5/\HS.Fact (L2.KOf KX) "_law_measure" Law.QQ/\HS.Fact (L2.KOf KX) "_law_copy" Law.QcI/\HS.Fact (L2.KOf KX) "_law_by_name" Law.Qbo/\HS.Fact (L2.KOf KX) "_law_refused" Law.Qbf/\HS.Fact (L2.KOf KX) "_law_word" Law.QcJ/\HS.Fact (L2.KOf KX) "_law_emptied" Law.Qbi/\HS.Fact (L2.KOf KX) "_law_filled" Law.QbG/\HS.Fact (L2.KOf KX) "law" Law.Qit:=by
   refine⟨?_,?_,?_,?_,?_,?_,?_,?_,?_,?_,?_,?_,?_,?_,?_,?_,?_,?_,?_,?_,?_,?_,?_,?_,?_,?_,?_,?_,?_,?_,?_,?_,?_,?_,?_,?_,?_,?_,?_,?_⟩<;>(dsimp only[L2.KOf];refine' HS.fact_mk ?a ?l ?c ?k;(case a=>k_is);(case l=>k_is);(case c=>k_is);(case k=>k_is))
  have M:HS.Qe0 mg Law.cst:=by
   obtain⟨n_range,n_enumerate,n_zip,n_len,n_list,n_min,n_max,n_sum,n_abs,n_isinstance,n_int,n_bool,n_tuple,n_str,n_divmod,n_sorted,n_any,n_all⟩:PySem.W.nsIn (L2.KOf KX) mainGlobals "range" =some none/\PySem.W.nsIn (L2.KOf KX) mainGlobals "enumerate" =some none/\PySem.W.nsIn (L2.KOf KX) mainGlobals "zip" =some none/\PySem.W.nsIn (L2.KOf KX) mainGlobals "len" =some none/\PySem.W.nsIn (L2.KOf KX) mainGlobals "list" =some none/\PySem.W.nsIn (L2.KOf KX) mainGlobals "min" =some none/\PySem.W.nsIn (L2.KOf KX) mainGlobals "max" =some none/\PySem.W.nsIn (L2.KOf KX) mainGlobals "sum" =some none/\PySem.W.nsIn (L2.KOf KX) mainGlobals "abs" =some none/\PySem.W.nsIn (L2.KOf KX) mainGlobals "isinstance" =some none/\PySem.W.nsIn (L2.KOf KX) mainGlobals "int" =some none/\PySem.W.nsIn (L2.KOf KX) mainGlobals "bool" =some none/\PySem.W.nsIn (L2.KOf KX) mainGlobals "tuple" =some none/\PySem.W.nsIn (L2.KOf KX) mainGlobals "str" =some none/\PySem.W.nsIn (L2.KOf KX) mainGlobals "divmod" =some none/\PySem.W.nsIn (L2.KOf KX) mainGlobals "sorted" =some none/\PySem.W.nsIn (L2.KOf KX) mainGlobals "any" =some none/\PySem.W.nsIn (L2.KOf KX) mainGlobals "all" =some none:=by refine⟨?_,?_,?_,?_,?_,?_,?_,?_,?_,?_,?_,?_,?_,?_,?_,?_,?_,?_⟩<;>(dsimp only[L2.KOf];k_is)
   exact HS.QwV ⟨PySem.W.mg_none_of KX G n_range,PySem.W.mg_none_of KX G n_enumerate,PySem.W.mg_none_of KX G n_zip,PySem.W.mg_none_of KX G n_len,PySem.W.mg_none_of KX G n_list,PySem.W.mg_none_of KX G n_min,PySem.W.mg_none_of KX G n_max,PySem.W.mg_none_of KX G n_sum,PySem.W.mg_none_of KX G n_abs,PySem.W.mg_none_of KX G n_isinstance,PySem.W.mg_none_of KX G n_int,PySem.W.mg_none_of KX G n_bool,PySem.W.mg_none_of KX G n_tuple,PySem.W.mg_none_of KX G n_str,PySem.W.mg_none_of KX G n_divmod,PySem.W.mg_none_of KX G n_sorted,PySem.W.mg_none_of KX G n_any,PySem.W.mg_none_of KX G n_all,True.intro⟩ True.intro
  have t0:∀base:Heap,HS.QcT (PySem.Challenge.rw_heapstill_k36_tables_refused).prog w (L2.KOf KX) mg base 0 []:=λ_=>HS.QcT.nil
  have hcl:∀x∈Law.cls,HS.Qh9 (L2.KOf KX) x:=HS.QoD (by refine⟨?_,?_,trivial⟩<;>(dsimp only[L2.KOf];refine' HS.Qt8 ?a ?b;(case a=>k_is);(case b=>k_exc)))
  have hsub:HS.QbZ (L2.KOf KX) Law.sub:=by
   refine HS.QuF ⟨⟨?x0,?y0_0,?y0_1,?y0_2,?y0_3,?y0_4,?y0_5,trivial⟩,⟨?x1,?y1_0,?y1_1,?y1_2,?y1_3,?y1_4,?y1_5,trivial⟩,trivial⟩
   case x0=>(dsimp only[L2.KOf];refine' HS.QtM ?a ?b ?c ?d ?e ?f ?g;(case a=>k_is);(case b=>k_is);(case c=>k_is);(case d=>k_is);(case e=>k_is);(case f=>k_is);(case g=>k_is))
   case y0_0=>(dsimp only[L2.KOf];refine' HS.QbR ?a ?b ?c ?d;(case a=>k_is);(case b=>k_is);(case c=>kts_exm);(case d=>kit_is))
   case y0_1=>(dsimp only[L2.KOf];refine' HS.QbR ?a ?b ?c ?d;(case a=>k_is);(case b=>k_is);(case c=>kts_exm);(case d=>kit_is))
   case y0_2=>(dsimp only[L2.KOf];refine' HS.QoR ?a ?b ?c ?d;(case a=>k_is);(case b=>k_is);(case c=>kts_exm);(case d=>kit_is))
   case y0_3=>(dsimp only[L2.KOf];refine' HS.QbR ?a ?b ?c ?d;(case a=>k_is);(case b=>k_is);(case c=>kts_exm);(case d=>kit_is))
   case y0_4=>(dsimp only[L2.KOf];refine' HS.QbR ?a ?b ?c ?d;(case a=>k_is);(case b=>k_is);(case c=>kts_exm);(case d=>kit_is))
   case y0_5=>(dsimp only[L2.KOf];refine' HS.QbR ?a ?b ?c ?d;(case a=>k_is);(case b=>k_is);(case c=>kts_exm);(case d=>kit_is))
   case x1=>(dsimp only[L2.KOf];refine' HS.QtM ?a ?b ?c ?d ?e ?f ?g;(case a=>k_is);(case b=>k_is);(case c=>k_is);(case d=>k_is);(case e=>k_is);(case f=>k_is);(case g=>k_is))
   case y1_0=>(dsimp only[L2.KOf];refine' HS.QbR ?a ?b ?c ?d;(case a=>k_is);(case b=>k_is);(case c=>kts_exm);(case d=>kit_is))
   case y1_1=>(dsimp only[L2.KOf];refine' HS.QbR ?a ?b ?c ?d;(case a=>k_is);(case b=>k_is);(case c=>kts_exm);(case d=>kit_is))
   case y1_2=>(dsimp only[L2.KOf];refine' HS.QoR ?a ?b ?c ?d;(case a=>k_is);(case b=>k_is);(case c=>kts_exm);(case d=>kit_is))
   case y1_3=>(dsimp only[L2.KOf];refine' HS.QbR ?a ?b ?c ?d;(case a=>k_is);(case b=>k_is);(case c=>kts_exm);(case d=>kit_is))
   case y1_4=>(dsimp only[L2.KOf];refine' HS.QbR ?a ?b ?c ?d;(case a=>k_is);(case b=>k_is);(case c=>kts_exm);(case d=>kit_is))
   case y1_5=>(dsimp only[L2.KOf];refine' HS.QbR ?a ?b ?c ?d;(case a=>k_is);(case b=>k_is);(case c=>kts_exm);(case d=>kit_is))
  have x0:∀base:Heap,HS.QeR (PySem.Challenge.rw_heapstill_k36_tables_refused).prog w (L2.KOf KX) mg base 0 []:=λ_=>HS.QeR.nil
  have x_column:=λb=>(x0 b).mono (Zw _)
  have t_column:=λb=>(t0 b).cons (HS.QB KX G f_column Law.QqU Law.Qtt M (t0 b) Law.Qty)
  have x_turned:=λb=>(x_column b).mono (Zw _)
  have t_turned:=λb=>(t_column b).cons (HS.QB KX G f_turned Law.QqW Law.Qr3 M (t_column b) Law.Qs1)
  have x_unit_row:=λb=>(x_turned b).mono (Zw _)
  have t_unit_row:=λb=>(t_turned b).cons (HS.QB KX G f_unit_row Law.Qol Law.QpQ M (t_turned b) Law.QpO)
  have x_unit_table:=λb=>(x_unit_row b).mono (Zw _)
  have t_unit_table:=λb=>(t_unit_row b).cons (HS.QB KX G f_unit_table Law.Ql0 Law.Qnt M (t_unit_row b) Law.QmF)
  have x_opposite:=λb=>(x_unit_table b).mono (Zw _)
  have t_opposite:=λb=>(t_unit_table b).cons (HS.QB KX G f_opposite Law.Qok Law.Qpm M (t_unit_table b) Law.QpY)
  have x_scalar:=λb=>(x_opposite b).mono (Zw _)
  have t_scalar:=λb=>(t_opposite b).cons (HS.QB KX G f_scalar Law.Qqv Law.QsY M (t_opposite b) Law.Qsl)
  have x_line_by:=λb=>(x_scalar b).mono (Zw _)
  have t_line_by:=λb=>(t_scalar b).cons (HS.QB KX G f_line_by Law.QoX Law.Qqh M (t_scalar b) Law.Qqa)
  have x_product:=λb=>(x_line_by b).mono (Zw _)
  have t_product:=λb=>(t_line_by b).cons (HS.QB KX G f_product Law.QpJ Law.Qp3 M (t_line_by b) Law.Qqf)
  have x_common:=λb=>(x_product b).mono (Zw _)
  have t_common:=λb=>(t_product b).cons (HS.QB KX G f_common Law.Qq4 Law.Qsg M (t_product b) Law.Qr0)
  have x_with_pivot:=λb=>(x_common b).mono (Zw _)
  have t_with_pivot:=λb=>(t_common b).cons (HS.QB KX G f_with_pivot Law.Ql3 Law.Qnq M (t_common b) Law.QnN)
  have x_taken_off:=λb=>(x_with_pivot b).mono (Zw _)
  have t_taken_off:=λb=>(t_with_pivot b).cons (HS.QB KX G f_taken_off Law.QnF Law.Qn5 M (t_with_pivot b) Law.Qom)
  have x_cleared:=λb=>(x_taken_off b).mono (Zw _)
  have t_cleared:=λb=>(t_taken_off b).cons (HS.QB KX G f_cleared Law.Qpi Law.QqS M (t_taken_off b) Law.Qqr)
  have x_cleared_whole:=λb=>(x_cleared b).cons (HS.Qil KX G f_cleared_whole Law.Qft Law.QfZ M (t_cleared b) (x_cleared b) hcl Law.Qjp)
  have t_cleared_whole:=λb=>(t_cleared b).cons (HS.QB KX G f_cleared_whole Law.Qft Law.QfZ M (t_cleared b) Law.QjC)
  have x_turned_back:=λb=>(x_cleared_whole b).cons (HS.Qil KX G f_turned_back Law.Qgw Law.Qhf M (t_cleared_whole b) (x_cleared_whole b) hcl Law.QkG)
  have t_turned_back:=λb=>(t_cleared_whole b).cons (HS.QB KX G f_turned_back Law.Qgw Law.Qhf M (t_cleared_whole b) Law.QlZ)
  have x_shared_out:=λb=>(x_turned_back b).cons (HS.Qil KX G f_shared_out Law.Qhh Law.QhI M (t_turned_back b) (x_turned_back b) hcl Law.QlY)
  have t_shared_out:=λb=>(t_turned_back b).cons (HS.QB KX G f_shared_out Law.Qhh Law.QhI M (t_turned_back b) Law.Qmq)
  have x_in_common:=λb=>(x_shared_out b).mono (Zw _)
  have t_in_common:=λb=>(t_shared_out b).cons (HS.QB KX G f_in_common Law.Qm6 Law.Qn4 M (t_shared_out b) Law.Qob)
  have x_added:=λb=>(x_in_common b).mono (Zw _)
  have t_added:=λb=>(t_in_common b).cons (HS.QB KX G f_added Law.Qsw Law.QuL M (t_in_common b) Law.Qt4)
  have x_weighed:=λb=>(x_added b).mono (Zw _)
  have t_weighed:=λb=>(t_added b).cons (HS.QB KX G f_weighed Law.QpR Law.QqK M (t_added b) Law.QqI)
  have x_column_steps:=λb=>(x_weighed b).mono (Zw _)
  have t_column_steps:=λb=>(t_weighed b).cons (HS.QB KX G f_column_steps Law.Qj2 Law.QkB M (t_weighed b) Law.QkS)
  have x_within:=λb=>(x_column_steps b).mono (Zw _)
  have t_within:=λb=>(t_column_steps b).cons (HS.QB KX G f_within Law.QqZ Law.Qtg M (t_column_steps b) Law.Qs2)
  have x_mixed:=λb=>(x_within b).mono (Zw _)
  have t_mixed:=λb=>(t_within b).cons (HS.QB KX G f_mixed Law.QsE Law.Qvd M (t_within b) Law.Qut)
  have x_free_column:=λb=>(x_mixed b).mono (Zw _)
  have t_free_column:=λb=>(t_mixed b).cons (HS.QB KX G f_free_column Law.QkX Law.Qmb M (t_mixed b) Law.QlV)
  have x_shared:=λb=>(x_free_column b).mono (Zw _)
  have t_shared:=λb=>(t_free_column b).cons (HS.QB KX G f_shared Law.Qqi Law.Qsq M (t_free_column b) Law.Qte)
  have x_right_tables:=λb=>(x_shared b).mono (Zw _)
  have t_right_tables:=λb=>(t_shared b).cons (HS.QB KX G f_right_tables Law.Qj1 Law.Qkq M (t_shared b) Law.Qlq)
  have x_by_number:=λb=>(x_right_tables b).mono (Zw _)
  have t_by_number:=λb=>(t_right_tables b).cons (HS.QB KX G f_by_number Law.QnM Law.QnZ M (t_right_tables b) Law.Qoi)
  have x_ring_tables:=λb=>(x_by_number b).cons (HS.Qil KX G f_ring_tables Law.Qgn Law.Qhk M (t_by_number b) (x_by_number b) hcl Law.Qk1)
  have t_ring_tables:=λb=>(t_by_number b).cons (HS.QB KX G f_ring_tables Law.Qgn Law.Qhk M (t_by_number b) Law.Ql4)
  have x__law_cell:=λb=>(x_ring_tables b).mono (Zw _)
  have t__law_cell:=λb=>(t_ring_tables b).cons (HS.QB KX G f__law_cell Law.QnR Law.Qn6 M (t_ring_tables b) Law.Qog)
  have x__law_whole:=λb=>(x__law_cell b).mono (Zw _)
  have t__law_whole:=λb=>(t__law_cell b).cons (HS.QB KX G f__law_whole Law.QlX Law.QmL M (t__law_cell b) Law.QnG)
  have x__law_numbers:=λb=>(x__law_whole b).mono (Zw _)
  have t__law_numbers:=λb=>(t__law_whole b).cons (HS.QB KX G f__law_numbers Law.QjJ Law.QkD M (t__law_whole b) Law.Qk9)
  have x__law_number:=λb=>(x__law_numbers b).mono (Zw _)
  have t__law_number:=λb=>(t__law_numbers b).cons (HS.QB KX G f__law_number Law.Qlp Law.Ql1 M (t__law_numbers b) Law.Ql7)
  have x__law_table:=λb=>(x__law_number b).mono (Zw _)
  have t__law_table:=λb=>(t__law_number b).cons (HS.QB KX G f__law_table Law.Ql6 Law.QmX M (t__law_number b) Law.Qmz)
  have x__law_is_table:=λb=>(x__law_table b).mono (Zw _)
  have t__law_is_table:=λb=>(t__law_table b).cons (HS.QB KX G f__law_is_table Law.Qi5 Law.Qkl M (t__law_table b) Law.Qke)
  have t__law_measure_0:=λb=>(t__law_is_table b).cons (HS.QpM KX G f__law_measure Law.Qb8)
  have t__law_measure_1:=λb=>(t__law_measure_0 b).cons (HS.QB KX G f__law_measure Law.QcP Law.Qb8 M (t__law_measure_0 b) Law.Qi7)
  have t__law_measure_2:=λb=>(t__law_measure_1 b).cons (HS.QB KX G f__law_measure Law.QcP Law.Qb8 M (t__law_measure_1 b) Law.Qjo)
  have t__law_measure_3:=λb=>(t__law_measure_2 b).cons (HS.QB KX G f__law_measure Law.QcP Law.Qb8 M (t__law_measure_2 b) Law.Qi8)
  have t__law_measure_4:=λb=>(t__law_measure_3 b).cons (HS.QB KX G f__law_measure Law.QcP Law.Qb8 M (t__law_measure_3 b) Law.Qjm)
  have x__law_measure:=λb=>(x__law_is_table b).mono (Nat.le_add_right _ 5)
  have x__law_copy:=λb=>(x__law_measure b).mono (Zw _)
  have t__law_copy:=λb=>(t__law_measure_4 b).cons (HS.QB KX G f__law_copy Law.QnO Law.Qn0 M (t__law_measure_4 b) Law.Qod)
  have x__law_by_name:=λb=>(x__law_copy b).mono (Zw _)
  have t__law_by_name:=λb=>(t__law_copy b).cons (HS.QkN KX G f__law_by_name Law.Qj4 Law.Qlu M (t__law_copy b) (x__law_copy b) hcl hsub HS.QkR.nil Law.Qlf)
  have x__law_refused:=λb=>(x__law_by_name b).mono (Zw _)
  have t__law_refused:=λb=>(t__law_by_name b).cons (HS.QkN KX G f__law_refused Law.Qj3 Law.Qlk M (t__law_by_name b) (x__law_by_name b) hcl hsub HS.QkR.nil Law.QkZ)
  have x__law_word:=λb=>(x__law_refused b).mono (Zw _)
  have t__law_word:=λb=>(t__law_refused b).cons (HS.QkN KX G f__law_word Law.QmW Law.Qoj M (t__law_refused b) (x__law_refused b) hcl hsub HS.QkR.nil Law.Qoa)
  have x__law_emptied:=λb=>(x__law_word b).mono (Zw _)
  have t__law_emptied:=λb=>(t__law_word b).cons (HS.QB KX G f__law_emptied Law.QjX Law.Qk4 M (t__law_word b) Law.Qkr)
  have x__law_filled:=λb=>(x__law_emptied b).mono (Zw _)
  have t__law_filled:=λb=>(t__law_emptied b).cons (HS.QB KX G f__law_filled Law.Qku Law.Qmc M (t__law_emptied b) Law.QlW)
  exact HS.QxO KX G hmg f_law Law.QvJ Law.QxC M (λbase=>t__law_filled base) Law.Qxm
